import PyProof.Rows.All
import Wide.All
import OpenK.AllK
import Wide.FinOn
import Lean
import PyProof.EqAt
import PyProof.EqKinds
import PyProof.TupleCall
import PySem.Challenge.RW_rotaward_k35_whole_no_paper_for_what_can
def ya:=@List.length_map
def yb:=@List.getElem?_eq_getElem
def yc:=@List.mem_of_getElem?
def yd:=@Nat.le_refl
def ye:=@Int.toNat_natCast
def yf:=@List.length_append
def yg:=@List.map_append
def yh:=@List.size_toArray
def yi:=@List.map_cons
def yj:=@List.getElem?_map
def yk:=@List.mem_map
def yl:=@Bool.false_ne_true
def ym:=@List.mem_cons_of_mem
def yo:=@List.take_length
def yp:=@List.mem_range
def yq:=@Nat.zero_le
def yr:=@List.length_take
def yt:=@Option.some.inj
def yu:=@Nat.le_trans
def yv:=@List.mem_cons_self
def yw:=@Int.emod_lt_of_pos
def yx:=@List.length_range
def yy:=@List.append_nil
def yz:=@Option.getD_some
def yA:=@Int.emod_nonneg
def yB:=@Nat.lt_of_lt_of_le
def yC:=@List.sum_cons
def yD:=@List.length_cons
def yE:=@Nat.lt_of_le_of_lt
def yF:=@Nat.ne_of_lt
def yG:=@List.all_eq_true
def yH:=@List.mem_append_right
def yI:=@Bool.and_eq_true
def yJ:=@List.length_singleton
def yK:=@List.length_filter_le
def yL:=@List.sum_append
def yM:=@List.filter_append
def yN:=@Int.toNat_of_nonneg
def yO:=@List.range_succ
def yP:=@List.nodup_cons
def yQ:=@List.getElem_mem
def yR:=@List.map_congr_left
def yS:=@List.filter_cons_of_neg
def yT:=@List.filter_cons_of_pos
def yU:=@List.mem_append_left
def yV:=@Bool.eq_iff_iff
def yW:=@List.map_map
def yX:=@List.foldl_cons
def yY:=@Int.natCast_nonneg
def yZ:=@Nat.lt_irrefl
def yaa:=@List.getElem?_append_right
def yba:=@Nat.mul_le_mul
def yca:=@List.flatMap_cons
def yda:=@List.length_reverse
def yea:=@Nat.not_lt_zero
def yfa:=@Array.length_toList
def yga:=@List.flatMap_append
def yha:=@Nat.succ_le_succ
def yia:=@List.nodup_nil
def yja:=@Bool.true_and
def yka:=@Bool.false_and
def yla:=@List.take_zero
def yma:=@List.filter_cons
def yna:=@Nat.zero_add
def yoa:=@Option.map_some
def ypa:=@List.filter_congr
def yqa:=@List.foldl_append
def yra:=@List.getElem?_append_left
def ysa:=@Array.getElem?_eq_getElem
def yta:=@Ne.symm
def yua:=@List.map_nil
def yva:=@List.find?_cons
def ywa:=@List.take_of_length_le
def yxa:=@List.getElem?_eq_none
def yya:=@Nat.succ_mul
def yza:=@List.mem_flatMap
def yAa:=@List.any_cons
def yBa:=@List.filterMap_cons
def yCa:=@Nat.testBit_and
def yDa:=@Bool.false_eq_true
def yEa:=@Bool.and_false
def yFa:=@List.nodup_append
def yGa:=@Bool.not_eq_true'
def yHa:=@List.append_assoc
def yIa:=@List.flatMap_singleton
def yJa:=@List.filter_eq_nil_iff
def yKa:=@List.nodup_range
def yLa:=@List.length_replicate
def yMa:=@List.take_append_drop
def yNa:=@Nat.le_of_lt
def yOa:=@List.all_map
def yPa:=@List.filter_map
def yQa:=@List.length_nil
def yRa:=@Nat.pow_le_pow_right
def ySa:=@List.filter_nil
def yTa:=@Array.eq_empty_of_size_eq_zero
def yUa:=@List.dropLast_concat
def yVa:=@List.getElem?_range
def yWa:=@Int.le_refl
def yXa:=@Nat.testBit_two_pow_sub_one
def yYa:=@Int.fdiv_eq_ediv_of_nonneg
def yZa:=@List.all_cons
def yab:=@Nat.lt_succ_of_lt
def ybb:=@List.Pairwise.map
def ycb:=@Option.isSome_map
def ydb:=@Nat.le_succ_of_le
def yeb:=@Nat.lt_succ_self
def yfb:=@Nat.le_of_not_lt
def ygb:=@Nat.succ_pos
def yhb:=@Nat.pow_succ
def yib:=@Bool.not_eq_true
def yjb:=@List.getElem?_replicate
def ykb:=@List.getElem?_cons_zero
def ylb:=@List.getElem?_cons_succ
def ymb:=@List.flatMap_eq_nil_iff
def ynb:=@List.of_mem_zip
def yob:=@Int.natCast_pow
def ypb:=@List.cons.injEq
def yqb:=@List.getElem?_set_self
def yrb:=@Array.getElem?_eq_none
def ysb:=@Nat.testBit_lt_two_pow
def ytb:=@Array.getElem?_toList
def yub:=@List.getElem?_set_ne
def yvb:=@List.range_eq_range'
def ywb:=@List.perm_cons_erase
def yxb:=@List.getElem_of_mem
def yyb:=@Nat.testBit_two_pow
def yzb:=@Array.append_assoc
def yAb:=@Nat.ne_of_gt
def yBb:=@Int.add_zero
def yCb:=@List.filter_filter
def yDb:=@Nat.lt_or_ge
def yEb:=@Int.mul_one
def yFb:=@Nat.le_succ
def yGb:=@Nat.mul_one
set_option compiler.extract_closed false
theorem k!{p:Prop}(h:p:=by decide +kernel):p:=h
namespace PySem.W.Fast
def tw9376181936388637980:=0
def tw1355804953237824270:=0
def tw12091229230636370704:=0
def tw5450860372893473426:=0
def tw14471200637702730489:=0
def tw8988659873699480635:=0
def tw4406892178427419348:=0
def tw2471643611385753430:=0
def tw12910048003756050468:=0
def tw5520705688128084602:=0
def tw5716353568730715262:=0
def tw14511976553840225525:=0
def tw6977632995705073364:=0
def tw4989750829553891202:=0
def tw5229742585018000661:=0
def tw13119107080801594653:=0
def tw6247639302271066488:=0
def tw14646021165969467567:=0
def tw16890261382808713573:=0
def tw12821304644347759983:=0
def tw18108360403155100357:=0
def tw3236012155960713604:=0
def tw16517683895847225843:=0
def tw13693783585293354457:=0
def tw13583083245553286644:=0
def tw10657192341825185831:=0
def tw3451597207927969072:=0
def tw13530628581082891978:=0
def tw17449025109779192825:=0
def tw9711650052147719051:=0
def tw12590721472610215733:=0
def tw4841534971386037922:=0
def tw5820435516233739217:=0
def tw17507464992449526839:=0
def tw15594672919798798965:=0
def tw16735993463663302819:=0
def tw14773736787206232755:=0
def tw6952737774517940386:=0
def tw12551712199811411280:=0
def tw12051652590682483377:=0
def tw11765856614031734098:=0
def tw2607017282786192972:=0
def tw12260272104947313505:=0
def tw9568190508798782247:=0
def tw7245990584537400769:=0
def tw16315395202394196864:=0
def tw15129110822235293840:=0
def tw12137099033113740857:=0
def tw12353184084665977157:=0
def tw16656981740024697626:=0
def tw1513316032146008060:=0
def tw14633280358275328740:=0
def tw6021047684033626316:=0
def tw10536391128073039029:=0
def tw5757672498874502099:=0
def tw15702681650493295466:=0
def tw9196680522666821249:=0
def tw5132013757750335715:=0
def tw7044089484035549314:=0
def tw13793643154642932892:=0
def tw7758534620723084386:=0
def tw16314770095036474147:=0
def tw8968709800729678865:=0
def tw14140526005024970166:=0
def tw823406368444575798:=0
def tw3402266916362247571:=0
def tw7127926606712414814:=0
def tw12076238584150979870:=0
def tw9420003603570223899:=0
def tw5196718585688182699:=0
def tw16092197859335340262:=0
def tw6394724530187436658:=0
def tw7473061879584278672:=0
def tw5779431154273898061:=0
def tw5863125982735477074:=0
def tw12199163473325459930:=0
def tw390991881811847294:=0
def tw8177218379425846799:=0
def tw14456134816586364750:=0
def tw17238645911247091175:=0
def tw10118291354362344839:=0
def tw161483148754193478:=0
def tw8685329279385733846:=0
def tw237991707599860317:=0
def tw5508032189415763921:=0
def tw3807124314670638114:=0
def tw13905347051279275014:=0
def tw1916749521945411759:=0
def tw15769613207378497497:=0
def tw13326188597215959521:=0
def tw10423301764126745374:=0
def tw8649113360246622954:=0
def tw3930651647242253156:=0
def tw11753701409247402962:=0
def tw4602878610147627177:=0
def tw13460838032071436039:=0
def tw4719250046982235796:=0
def tw17462806694200247472:=0
def tw5496427389609690830:=0
def tw1923408550617492865:=0
def tw13448364989047796389:=0
def tw11121735087142387082:=0
def tw9778027458123711069:=0
def tw13512897022576400533:=0
def tw16544455566740939866:=0
def tw3515585446719130197:=0
def tw8164823540104985280:=0
def tw17265660935923642319:=0
def tw1193061071106086668:=0
def tw16177509680032469117:=0
def tw12997361441705134325:=0
def tw3721398847090871216:=0
def tw18001671499191274772:=0
def tw3789410705601540344:=0
def tw17943221901358401344:=0
def tw8361660681182383633:=0
def tw4393548316943595586:=0
def tw3057716541221817571:=0
def tw842508227550518669:=0
def tw14462091326541467140:=0
def tw10623949083700258095:=0
def tw1679380972621844111:=0
def tw6259682271943883996:=0
def tw12850993209172501736:=0
def tw1466515166686070755:=0
def tw8905656328323440333:=0
def tw6494822400711464741:=0
def tw3908236687170113443:=0
def tw17679113664338080793:=0
def tw10353959103884728609:=0
def tw8408741284091023207:=0
def tw11122018021283912395:=0
def tw15398322766291740785:=0
def tw1976401523316436738:=0
def tw8881157752954283771:=0
def tw15164611245285631619:=0
def tw5423201984091438175:=0
def tw7280077166840579843:=0
def tw16167063673938461694:=0
def tw7213101083051440126:=0
def tw15587893186470391307:=0
def tw12740827237654900575:=0
def tw623301534144929860:=0
def tw1962017565348343483:=0
def tw14341108611631669554:=0
def tw15602177079857264825:=0
def tw2494456678350031454:=0
def tw8990163432979322359:=0
def tw15672478547914481269:=0
def tw5333888040328570931:=0
def tw6905476193326362711:=0
def tw5737402713927469990:=0
def tw12728171142762499708:=0
def tw7447653678160818111:=0
def tw7874377825493052612:=0
def tw15445276110328296605:=0
def tw17068053127987986566:=0
def tw1561152320719887033:=0
def tw1521308652977847883:=0
def tw13376427871426001483:=0
def tw14599961641413731676:=0
def tw1518398430621630798:=0
def tw9480633262707141221:=0
def tw17223446375239701625:=0
def tw15837466262648327772:=0
def tw8726778492442965556:=0
def tw4377551022738102707:=0
def tw3954349935488634835:=0
def tw18339540361554290005:=0
def tw14333313582444051532:=0
def tw17294892304301889860:=0
def tw12824260189547588724:=0
def tw16911033268919742884:=0
def tw15074522417955432400:=0
def tw934947072898048064:=0
def tw10265383201335276356:=0
def tw14843984507083571093:=0
def tw6182691822208269322:=0
def tw18161181182127207891:=0
def tw16608229894636384971:=0
def tw15324813182967301028:=0
def tw10513166400279694270:=0
def tw16059633324553588820:=0
def tw13372054699001331830:=0
def tw12503256924865815154:=0
def tw12139834982164279384:=0
def tw12206155398689770919:=0
def tw10582357713542851800:=0
def tw17226146163848983046:=0
def tw16954693108431514345:=0
def tw14619086820084450758:=0
def tw11370427807398665416:=0
def tw5131793947976703508:=0
def tw15335112088188741585:=0
def tw4831144427397482098:=0
def tw5352855924324511460:=0
def tw8688487771658258991:=0
def tw14763433597087747815:=0
def tw290310147467070218:=0
def tw5552084512588544488:=0
def tw16090963728413878436:=0
def tw15640115821547908368:=0
def tw6265912157499450555:=0
def tw15925665535746786130:=0
def tw5455771107113739229:=0
def tw11587292179057500279:=0
def tw3203907016142421596:=0
def tw9464607131943474901:=0
def tw2647622501100819609:=0
def tw5217366315511803762:=0
def tw8634308442827802388:=0
def tw4016852994632255768:=0
def tw9110264994008487589:=0
def tw15714450418216565415:=0
def tw13767144782569470155:=0
def tw17930009871244430765:=0
def tw3393363895595794710:=0
def tw3107963335198807609:=0
def tw12225228486743378895:=0
def tw15982319466661193273:=0
def tw11447885147192048759:=0
def tw17188640684962709730:=0
def tw16006709190616578116:=0
def tw16547005124979732101:=0
def tw16608323208146266208:=0
def tw4410550650852115518:=0
def tw13549081569670076398:=0
def tw13795108998993473596:=0
def tw18137272352629026579:=0
def tw1585744238871400692:=0
def tw1642374406815959284:=0
def tw15487304333276670123:=0
def tw1267994940978979493:=0
def tw6858846703918253647:=0
def tw7249744956072502205:=0
def tw9313889518734567559:=0
def tw3362743088144533975:=0
def tw2251984059291197244:=0
def tw16480939431261633202:=0
def tw9334295273345678821:=0
def tw10163330103084557770:=0
def tw12595929749321634882:=0
def tw10890232069907710159:=0
def tw5186555571987051826:=0
def tw9261791918373569032:=0
def tw8815477452745190299:=0
def tw10977099194948896860:=0
def tw2253016895228082844:=0
def tw12474136369623215289:=0
def tw14297751248153709271:=0
def tw10740877627901074567:=0
def tw6461632059641020175:=0
def tw11988678022896311879:=0
def tw16827802706796640030:=0
def tw13512385207987599523:=0
def tw5577701398042626015:=0
def tw10642171615449492276:=0
def tw15735534817647137219:=0
def tw4791344283287654353:=0
def tw13130135926003313203:=0
def tw5227263090904177443:=0
def tw12152901186993969414:=0
def tw6365192187621120275:=0
def tw9364743676948241432:=0
def tw17952534192584266664:=0
def tw5643026836252899274:=0
def tw18282161911549936312:=0
def tw5399089029909532653:=0
def tw4926203273074847856:=0
def tw11508062849479083060:=0
def tw4646522650391780464:=0
def tw14677382083396635569:=0
def tw17397336150922203872:=0
def tw18324782255951376861:=0
def tw7214693475256639040:=0
def tw6594220324707470881:=0
def tw15677101360505666790:=0
def tw13463083891575933384:=0
def tw5889663854816670402:=0
def tw12595381434301372722:=0
def tw7004171498120596697:=0
def tw16708922448585838909:=0
def tw2338637217233123500:=0
def tw16476790506079474598:=0
def tw8448530399567368535:=0
def tw4280573496202415444:=0
def tw1799720667683080544:=0
def tw9508365688362139970:=0
def tw11219162664585132324:=0
def tw6732050078822488154:=0
def tw2590726691909042730:=0
def tw12978618393896912271:=0
def tw9578272888978972691:=0
def tw6788281530912339863:=0
def tw13968349321779644899:=0
def tw6840221271931642193:=0
def tw16377501552392936562:=0
def tw6417595531084568808:=0
def tw525546212573186851:=0
def tw12988849032952990856:=0
def tw18119321059298570797:=0
def tw4784500554791651813:=0
def tw14317556609589891621:=0
def tw12489247934061918334:=0
def tw1273138977028430747:=0
def tw4848948269982620702:=0
def tw1558505903373128412:=0
def tw10469894227714069149:=0
def tw15398902849739097874:=0
def tw5664886792003034634:=0
def tw451071972850240219:=0
def tw11781816150206934760:=0
def tw13394646962671760640:=0
def tw11688097918547311504:=0
def tw4125029546603853575:=0
def tw5575904987665214916:=0
def tw818227625398186608:=0
def tw3615604300522636231:=0
def tw8977670551396177974:=0
def tw15996502199528000403:=0
def tw8244555576061677522:=0
def tw1145017564970339120:=0
def tw5007754369193146814:=0
def tw3067955891915964477:=0
def tw16004931486559722294:=0
def tw14316989924155253457:=0
def tw2680056688412560344:=0
def tw8782717460216997221:=0
def tw6320338847777003678:=0
def tw17159476816289221664:=0
def tw5218932823198804696:=0
def tw16940511209636267878:=0
def tw17666319467348638040:=0
def tw9527225550305262597:=0
def tw5588448423547730626:=0
def tw3959723508567764133:=0
def tw11214401675521453865:=0
def tw18258064284402006148:=0
def tw5384260543505132043:=0
def tw2070788369263749701:=0
def tw15143205256029787298:=0
def tw12837519713765893876:=0
def tw10479119095065417308:=0
def tw7933330859124965043:=0
def tw17432291072853571849:=0
def tw12742398793208273038:=0
def tw11170814319263211284:=0
def tw9500235187249091007:=0
def tw50096186618754291:=0
def tw17493632803246656667:=0
def tw970871736971737731:=0
def tw13816944273282851815:=0
def tw13634017329627024122:=0
def tw12113151816254719196:=0
def tw11144712424454747954:=0
def tw5374007029294489241:=0
def tw10523166814578778769:=0
def tw7667544745288385957:=0
def tw5792118897700442015:=0
def tw3329568373847812217:=0
def tw2777678439562816937:=0
def tw1841194867206201419:=0
def tw15798581752504673236:=0
def tw13886888347524070349:=0
def tw7643931470320557381:=0
def tw6539979243299773931:=0
def tw5756548881877642509:=0
def tw5069622940854655751:=0
def tw1599082820027359470:=0
def tw13645093535452904854:=0
def tw1086047815645799290:=0
def tw13614514930737667483:=0
def tw15448012827485149966:=0
def tw3117232593982928654:=0
def tw18401459752924994943:=0
def tw2764474391233355131:=0
def tw16945080766410250940:=0
def tw6475829617044464573:=0
def tw10626395430776584322:=0
def tw5007087294073245755:=0
def tw3156873581975726569:=0
def tw16764435357639866104:=0
def tw334300008504824147:=0
def tw14604870872416072105:=0
def tw11190066358411964494:=0
def tw14859009418071543897:=0
def tw6959342343373264389:=0
def tw2917182993626019674:=0
def tw2266868870373657572:=0
def tw13263646538599459120:=0
def tw12600979908715258661:=0
def tw103419466769192386:=0
def tw9819431545708506133:=0
def tw1559046646786090273:=0
def tw15139452060930142272:=0
def tw460700106967008892:=0
def tw18141120121664958498:=0
def tw9816981298706181346:=0
def tw802182746963468325:=0
def tw6265572031058133181:=0
end PySem.W.Fast
set_option Elab.async false
set_option linter.all false
set_option maxRecDepth 100000
namespace L2
open PySem PySem.Spec PyProof.Rows
noncomputable abbrev Key:=Sum Int Str
noncomputable def jT:Key→Value→Bool
 | .inl k,v=>Value.isInt k v
 | .inr x,v=>Value.isStrOf x v
noncomputable def Gj(w:World):Key→Int
 | .inl k=>hashInt k
 | .inr x=>hashStr w x
theorem bU:∀{k:Key} {v:Value},jT k v=true→(∃i t,k=Sum.inl i∧v=Value.int i t)∨(∃x t,k=Sum.inr x∧v=Value.str x t)
 | .inl i,v,h=>by
  obtain⟨t,e⟩:=Value.isInt_shape (k:=i) (v:=v) h
  exact .inl ⟨i,t,rfl,e⟩
 | .inr x,v,h=>by
  obtain⟨t,e⟩:=Value.isStrOf_shape (x:=x) (v:=v) h
  exact .inr ⟨x,t,rfl,e⟩
theorem py(i:Int)(t:Tok):jT (.inl i) (.int i t)=true:=by simp[jT,Value.isInt]
theorem qb(x:Str)(t:Tok):jT (.inr x) (.str x t)=true:=by simp[jT,Value.isStrOf]
theorem xF(a b:Int):decide ((Sum.inl a:Key)=Sum.inl b)=(a == b):=by
 by_cases e:a=b
 ·subst e;simp
 ·have h:¬(Sum.inl a:Key)=Sum.inl b:=fun q=>e (Sum.inl.inj q)
  rw[decide_eq_false h]
  exact(beq_eq_false_iff_ne.mpr e).symm
theorem A0(a b:Str):decide ((Sum.inr a:Key)=Sum.inr b)=decide (a=b):=by
 by_cases e:a=b
 ·subst e;simp
 ·have h:¬(Sum.inr a:Key)=Sum.inr b:=fun q=>e (Sum.inr.inj q)
  rw[decide_eq_false h,decide_eq_false e]
theorem A2(a:Int)(b:Str):decide ((Sum.inl a:Key)=Sum.inr b)=false:=decide_eq_false (fun q=>nomatch q)
theorem A4(a:Str)(b:Int):decide ((Sum.inr a:Key)=Sum.inl b)=false:=decide_eq_false (fun q=>nomatch q)
noncomputable def bE(prog:Program)(w:World):PySem.KeyKind prog w Key where
 is:=jT
 hash:=Gj w
 inj:=fun v a b ha hb=>by
  rcases bU ha with ⟨i,t,rfl,rfl⟩ | ⟨x,t,rfl,rfl⟩
  ·rcases bU hb with ⟨j,u,rfl,e⟩ | ⟨y,u,rfl,e⟩
   ·injection e with e1 _;rw[e1]
   ·exact nomatch e
  ·rcases bU hb with ⟨j,u,rfl,e⟩ | ⟨y,u,rfl,e⟩
   ·exact nomatch e
   ·injection e with e1 _;rw[e1]
 byValue:=fun k v h=>by
  rcases bU h with ⟨i,t,rfl,rfl⟩ | ⟨x,t,rfl,rfl⟩ <;> rfl
 pyHash:=fun hv h=>by
  rcases bU hv with ⟨i,t,rfl,rfl⟩ | ⟨x,t,rfl,rfl⟩
  ·exact wpAny_pyHash_int h
  ·exact wpAny_pyHash_str h
 eqBool:=fun hu hv h=>by
  rcases bU hu with ⟨i,t,rfl,rfl⟩ | ⟨x,t,rfl,rfl⟩
  ·rcases bU hv with ⟨j,u,rfl,rfl⟩ | ⟨y,u,rfl,rfl⟩
   ·rw[xF] at h;exact wpAny_eqBool_int h
   ·rw[A2] at h;exact SeqAt.EqAt.int_str i t y u _ _ _ _ h
  ·rcases bU hv with ⟨j,u,rfl,rfl⟩ | ⟨y,u,rfl,rfl⟩
   ·rw[A4] at h;exact SeqAt.EqAt.str_int x t j u _ _ _ _ h
   ·rw[A0] at h;exact wpAny_eqBool_str h
 «strs»:=fun k x t v h=>by
  rcases bU h with ⟨i,u,rfl,e⟩ | ⟨y,u,rfl,e⟩
  ·exact nomatch e
  ·injection e with e1 _
   subst e1
   cases v <;> rfl
theorem lg(prog:Program)(w:World)(i:Int)(t:Tok):(bE prog w).is (.inl i) (.int i t)=true:=py i t
theorem l9(prog:Program)(w:World)(x:Str)(t:Tok):(bE prog w).is (.inr x) (.str x t)=true:=qb x t
end L2
namespace L2
open PySem PySem.Spec PyProof.Rows
inductive V where
 | non | bl (b:Bool) | int (i:Int) | str (x:Str) | byt (b:Array UInt8) | flt (b:UInt64) | ref (a:Addr) | ty (n:String)
 deriving DecidableEq
noncomputable def bu:V→Value→Prop
 | .non,u=>u=Value.none
 | .bl b,u=>u=Value.bool b
 | .int i,u=>∃t,u=Value.int i t
 | .str x,u=>∃t,u=Value.str x t
 | .byt b,u=>∃t,u=Value.bytes b t
 | .flt b,u=>∃t,u=Value.float b t
 | .ref a,u=>u=Value.ref a
 | .ty n,u=>u=Value.type n
noncomputable abbrev bp:List V→List Value→Prop:=Paired bu
theorem bp.length{xs:List V}{us:List Value}(r:bp xs us):xs.length=us.length:=Paired.length r
theorem bp.get:∀{xs:List V} {us:List Value} {i:Nat} {x:V},bp xs us→xs[i]? = some x→∃u,us[i]? = some u∧bu x u
 | _,_,_,_,.nil,e=>by simp at e
 | _,_,0,_,.cons r _,e=>by simp at e;subst e;exact⟨_,rfl,r⟩
 | _,_,i+1,x,.cons _ t,e=>by
  obtain⟨u,h1,h2⟩:=bp.get (i:=i) (x:=x) t (by simpa using e)
  exact⟨u,by simpa using h1,h2⟩
theorem bp.append:∀{xs ys:List V} {us ws:List Value},bp xs us→bp ys ws→bp (xs++ys) (us++ws)
 | _,_,_,_,.nil,s=>s
 | _,_,_,_,.cons r t,s=>.cons r (bp.append t s)
theorem bp.take:∀{xs:List V} {us:List Value} (n:Nat),bp xs us→bp (xs.take n) (us.take n)
 | _,_,0,_=>.nil
 | _,_,_+1,.nil=>.nil
 | _,_,n+1,.cons r t=>.cons r (bp.take n t)
theorem bp.drop:∀{xs:List V} {us:List Value} (n:Nat),bp xs us→bp (xs.drop n) (us.drop n)
 | _,_,0,r=>r
 | _,_,_+1,.nil=>.nil
 | _,_,n+1,.cons _ t=>bp.drop n t
noncomputable def dR:Option V→Option Value→Prop
 | some v,some u=>bu v u
 | none,none=>True
 | _,_=>False
noncomputable def KV{κ:Type}:List (κ×V)→List (κ×Value)→Prop:=Paired fun(p:κ×V) (q:κ×Value)=>p.1=q.1∧bu p.2 q.2
noncomputable def kV:Key→V
 | .inl i=>.int i
 | .inr x=>.str x
inductive HO where
 /-- a list -/
 | lst (xs:List V)
 /-- a tuple (never changes) -/
 | tup (xs:List V)
 /-- a dict whose keys are ints and texts;one whose keys are tuples of ints and texts (the empty one is both) -/
 | dK (kvs:List (Key×V)) | dT (kvs:List (List Key×V))
 /-- a set of ints: its members,its size -/
 | set (S:Int→Bool) (n:Nat)
 /-- an instance of the class at C,its dict at dx,its attributes -/
 | ins (C dx:Addr) (fs:List (Str×V))
 /-- the dict of the instance at x -/
 | own (x:Addr)
 /-- the dict of an exception -/
 | xd (fs:List (Str×V))
 /-- a bound method,f of x -/
 | met (f x:Addr)
 /-- a range object lo,lo+1,.. below hi -/
 | rng (lo hi:Int)
 /-- a thing that is known to the object (the script;a dict while a loop walks it): read,never written while it is so -/
 | frz (o:Obj) (u:HO)
 /-- a code object's table -/
 | tbl (ps:Array Value)
 /-- any other thing,by what is true of its one object (a def of one's own: SetO a S n:=HO.ext fun h=>..) -/
 | ext (φ:Heap→Prop)
noncomputable abbrev Hp:=Addr→Option HO
noncomputable def upd(H:Hp)(a:Addr)(o:HO):Hp:=fun b=>if b=a then some o else H b
theorem ae{H:Hp}{a:Addr}{o:HO}:upd H a o a=some o:=by unfold upd;rw[if_pos rfl]
theorem au{H:Hp}{a b:Addr}{o:HO}(h:b≠a):upd H a o b=H b:=by unfold upd;rw[if_neg h]
theorem bK{H:Hp}{a:Addr}{o u:HO}:upd (upd H a o) a u=upd H a u:=by
 funext b;unfold upd;split <;> rfl
theorem CI{H:Hp}{a b:Addr}{o u:HO}(h:H a=some o)(h':H b=some u)(d:o≠u):a≠b:=by
 intro e;subst e;rw[h] at h'; exact d (yt h')
theorem ay{H:Hp}{a b:Addr}{o:HO}(h:H a=some o)(h':H b=none):a≠b:=by
 intro e;subst e;rw[h] at h'; cases h'
section
variable(P:Program)(w:World)
noncomputable def bF(H:Hp)(h:Heap)(a:Addr):HO→Prop
 | .lst xs=>xs.length≤sizeLine∧∃(its:List Value) (n:Nat),bp xs its∧h.get? a=some { cls:=.type "list",data:=.seq its.toArray n }
 | .tup xs=>xs.length≤sizeLine∧∃its:List Value,bp xs its∧IsTup h a its.toArray
 | .dK kvs=>kvs.length≤sizeLine∧(a == sysModules)=false∧∃vs,KV kvs vs∧h.DictOf (bE P w) a vs
 | .dT kvs=>kvs.length≤sizeLine∧(a == sysModules)=false∧∃xs:List (List Key×Addr×Value),
   Paired (fun(p:List Key×V) (q:List Key×Addr×Value)=>p.1=q.1∧H q.2.1=some (.tup (p.1.map kV))∧bu p.2 q.2.2) kvs xs ∧
   ∃o es ep,h.get? a=some o∧o.ExactDict∧o.data=.dict es ep∧es.toList=xs.map (entryOfKey (tupleKind (bE P w)))∧(xs.map (·.1)).Nodup
 | .set S n=>h.SetOf (intKind P w) a S n
 | .ins C dx fs=>H dx=some (.own a)∧fs.length≤1000∧dx≠a∧h.get? a=some (PySem.W.instObj C dx) ∧
   ∃mA,h.Ns1 dx mA∧(∀f,dR (fs.lookup f) (mA f))∧PySem.Within mA (fs.map (·.1))
 | .own _=>∃o,h.get? a=some o
 | .xd fs=>∃mA,h.Ns1 a mA∧∀f,dR (fs.lookup f) (mA f)
 | .rng lo hi=>∃t u v,h.get? a=some { cls:=.type "range",data:=.fields #[.int lo t,.int hi u,.int 1 v] }
 | .frz o u=>h.get? a=some o∧bF H h a u
 | .tbl ps=>h.get? a=some { cls:=.none,data:=.fields ps }
 | .met f x=>h.get? a=some (PySem.W.methodObj (.ref f) (.ref x))
 | .ext φ=>φ h∧(∃o,h.get? a=some o)∧∀h1 h2:Heap,φ h1→(∀o,h1.get? a=some o→h2.get? a=some o)→φ h2
noncomputable def HOk(H:Hp)(h:Heap):Prop:=∀a o,H a=some o→bF P w H h a o
end
section
variable{P:Program}{w:World}{H H':Hp}{h h':Heap}{a:Addr}{o:HO}
theorem bF.lt(x:bF P w H h a o):a<h.objs.size:=by
 cases o with
 | lst xs=>obtain⟨_,_,_,_,e⟩:=x;exact Heap.lt_size e
 | tup xs=>obtain⟨_,_,_,p⟩:=x;exact p.lt
 | dK kvs=>obtain⟨_,_,_,_,o,_,_,e,_⟩:=x;exact Heap.lt_size e
 | dT kvs=>obtain⟨_,_,_,_,o,_,_,e,_⟩:=x;exact Heap.lt_size e
 | set S n=>obtain⟨o,_,_,_,e,_⟩:=x;exact Heap.lt_size e
 | ins C dx fs=>obtain⟨_,_,_,e,_⟩:=x;exact Heap.lt_size e
 | own y=>obtain⟨_,e⟩:=x;exact Heap.lt_size e
 | xd fs=>obtain⟨_,⟨_,_,_,e,_⟩,_⟩:=x;exact Heap.lt_size e
 | rng lo hi=>obtain⟨_,_,_,e⟩:=x;exact Heap.lt_size e
 | frz ob u=>obtain⟨e,_⟩:=x;exact Heap.lt_size e
 | tbl ps=>exact Heap.lt_size (show h.get? a=some _ from x)
 | met f y=>exact Heap.lt_size (show h.get? a=some _ from x)
 | ext φ=>obtain⟨_,⟨_,e⟩,_⟩:=x;exact Heap.lt_size e
theorem Paired.mapP{α β:Type}{F G:α→β→Prop}:∀{l₁:List α} {l₂:List β},Paired F l₁ l₂→(∀a b,F a b→G a b)→Paired G l₁ l₂
 | _,_,.nil,_=>.nil
 | _,_,.cons r t,f=>.cons (f _ _ r) (Paired.mapP t f)
theorem bF.stay(x:bF P w H h a o)(k:∀b u,(b=a∨H b=some (.own a))→h.get? b=some u→h'.get? b=some u)
  (ho:∀b,H b=some (.own a)→H' b=some (.own a)) (ht:∀b xs,H b=some (.tup xs)→H' b=some (.tup xs)):bF P w H' h' a o:=by
 induction o with
 | lst xs=>obtain⟨z,its,n,r,e⟩:=x;exact⟨z,its,n,r,k _ _ (.inl rfl) e⟩
 | tup xs=>obtain⟨z,its,r,ob,e,c⟩:=x;exact⟨z,its,r,ob,k _ _ (.inl rfl) e,c⟩
 | dK kvs=>obtain⟨z,y,vs,r,ob,es,ep,e,c⟩:=x;exact⟨z,y,vs,r,ob,es,ep,k _ _ (.inl rfl) e,c⟩
 | dT kvs =>
  obtain⟨z,y,xs,r,ob,es,ep,e,c⟩:=x
  exact⟨z,y,xs,Paired.mapP r fun p q z=>⟨z.1,ht _ _ z.2.1,z.2.2⟩,ob,es,ep,k _ _ (.inl rfl) e,c⟩
 | set S n=>obtain⟨ob,es,ep,t,e,c⟩:=x;exact⟨ob,es,ep,t,k _ _ (.inl rfl) e,c⟩
 | ins C dx fs =>
  obtain⟨d,z,ne,e,mA,⟨od,es,ep,e2,c⟩,r⟩:=x
  exact⟨ho _ d,z,ne,k _ _ (.inl rfl) e,mA,⟨od,es,ep,k _ _ (.inr d) e2,c⟩,r⟩
 | own y=>obtain⟨ob,e⟩:=x;exact⟨ob,k _ _ (.inl rfl) e⟩
 | xd fs=>obtain⟨mA,⟨od,es,ep,e,c⟩,r⟩:=x;exact⟨mA,⟨od,es,ep,k _ _ (.inl rfl) e,c⟩,r⟩
 | rng lo hi=>obtain⟨t,u,v,e⟩:=x;exact⟨t,u,v,k _ _ (.inl rfl) e⟩
 | frz ob u ih=>obtain⟨e,q⟩:=x;exact⟨k _ _ (.inl rfl) e,ih q⟩
 | tbl ps =>
  have e:h.get? a=some { cls:=.none,data:=.fields ps }:=x
  show h'.get? a=some { cls:=.none,data:=.fields ps }
  exact k a _ (.inl rfl) e
 | met f y =>
  have e:h.get? a=some (PySem.W.methodObj (.ref f) (.ref y)):=x
  show h'.get? a=some (PySem.W.methodObj (.ref f) (.ref y))
  exact k a _ (.inl rfl) e
 | ext φ=>obtain⟨p,⟨o,e⟩,st⟩:=x;exact⟨st _ _ p fun o q=>k _ _ (.inl rfl) q,⟨o,k _ _ (.inl rfl) e⟩,st⟩
theorem HOk.lt(x:HOk P w H h)(e:H a=some o):a<h.objs.size:=(x a o e).lt
theorem HOk.fresh(x:HOk P w H h)(e:h.objs.size≤a):H a=none:=by
 cases q:H a with
 | none=>rfl
 | some u=>exact absurd (yB (x.lt q) e) (yZ _)
theorem HOk.kept(x:HOk P w H h)(k:∀b u,h.get? b=some u→h'.get? b=some u):HOk P w H h':=fun a o e =>
 (x a o e).stay (fun b u _ q=>k b u q) (fun _ q=>q) fun _ _ q=>q
theorem HOk.laid(x:HOk P w H h)(k:∀b u,h.get? b=some u→h'.get? b=some u)(hp:h.objs.size≤a)(new:bF P w (upd H a o) h' a o):HOk P w (upd H a o) h':=fun b u e=>by
 have hn:=x.fresh hp
 by_cases hb:b=a
 ·subst hb;rw[ae] at e;cases e;exact new
 ·rw[au hb] at e
  exact(x b u e).stay (fun c v _ q=>k c v q) (fun c q=>by rw[au (ay q hn)];exact q) fun c xs q=>by rw[au (ay q hn)];exact q
end
noncomputable def Rd(H:Hp)(a:Addr)(u:HO):Prop:=H a=some u∨∃o,H a=some (.frz o u)
theorem Rd.ok{P:Program}{w:World}{H:Hp}{h:Heap}{a:Addr}{u:HO}(r:Rd H a u)(x:HOk P w H h):bF P w H h a u:=by
 rcases r with r | ⟨o,r⟩
 ·exact x a u r
 ·obtain⟨_,q⟩:=x a _ r
  exact q
noncomputable def Mut:Option HO→Prop
 | some (.lst _)=>True
 | some (.dK _)=>True
 | some (.dT _)=>True
 | some (.set _ _)=>True
 | some (.ins _ _ _)=>True
 | some (.ext _)=>True
 | _=>False
section
variable{P:Program}{w:World}{H:Hp}{h h':Heap}{x e:Addr}{o':HO}
theorem HOk.write(ok:HOk P w H h)(mu:Mut (H x))(he:e=x∨H e=some (.own x))(k:∀b u,b≠e→h.get? b=some u→h'.get? b=some u)(heo:∃u,h'.get? e=some u)
  (new:bF P w (upd H x o') h' x o'):HOk P w (upd H x o') h':=fun b u q=>by
 have nown:∀c y,H c=some (.own y)→c≠x:=fun c y r z=>by subst z;rw[r] at mu;exact mu
 have ntup:∀c xs,H c=some (.tup xs)→c≠x:=fun c xs r z=>by subst z;rw[r] at mu;exact mu
 by_cases hb:b=x
 ·subst hb;rw[ae] at q;cases q;exact new
 ·rw[au hb] at q
  by_cases hbe:b=e
  ·have q':H b=some (.own x):=by
    rcases he with z | z
    ·exact absurd (hbe.trans z) hb
    ·rw[hbe];exact z
   rw[q] at q'; cases q'
   obtain⟨v,hv⟩:=heo
   exact⟨v,by rw[hbe];exact hv⟩
  ·refine(ok b u q).stay (fun c v hc r=>k c v ?_ r) (fun c r=>by rw[au (nown c b r)];exact r) fun c xs r=>by rw[au (ntup c xs r)];exact r
   rcases hc with rfl | hc
   ·exact hbe
   ·rintro rfl
    rcases he with z | z
    ·exact nown c b hc z
    ·rw[hc] at z;cases z;exact hb rfl
end
structure Un(fs ex:List Addr)(H H':Hp)(h h':Heap):Prop where
 keep:∀b o,h.get? b=some o→H b=none→b∉fs→b∉ex→h'.get? b=some o
 slot:∀b o,h.get? b=some o→H b=none→b∈fs→b∉ex→∃sl,h'.get? b=some { o with slots:=sl }
 free:∀b o,h.get? b=some o→H b=none→b∉ex→H' b=none
 there:∀b o,h.get? b=some o→b∉ex→∃o',h'.get? b=some o'
 tups:∀b xs,H b=some (.tup xs)→H' b=some (.tup xs)
 frzs:∀b o u,H b=some (.frz o u)→H' b=some (.frz o u)
 tbls:∀b ps,H b=some (.tbl ps)→∃more,H' b=some (.tbl (ps++more))
section
variable{fs fs' ex ex':List Addr}{H H1 H2:Hp}{h h1 h2 h':Heap}{a x e:Addr}{o:HO}
theorem Un.any(u:Un fs ex H H1 h h1){b:Addr}{ob:Obj}(q:h.get? b=some ob)(n:H b=none)(hx:b∉ex):∃sl,h1.get? b=some { ob with slots:=sl }:=by
 by_cases hb:b∈fs
 ·exact u.slot b ob q n hb hx
 ·exact⟨ob.slots,u.keep b ob q n hb hx⟩
theorem Un.kept(k:∀b u,h.get? b=some u→h'.get? b=some u):Un fs ex H H h h' :=
 ⟨fun b ob q _ _ _=>k b ob q,fun b ob q _ _ _=>⟨ob.slots,k b ob q⟩,fun _ _ _ n _=>n,fun b ob q _=>⟨ob,k b ob q⟩,fun _ _ q=>q,fun _ _ _ q=>q,fun _ ps q=>⟨#[],by rw[q];simp⟩⟩
theorem Un.refl:Un fs ex H H h h:=Un.kept fun _ _ q=>q
theorem Un.laid(k:∀b u,h.get? b=some u→h'.get? b=some u)(hp:h.objs.size≤a)(hn:H a=none):Un fs ex H (upd H a o) h h' where
 keep:=fun b u q _ _ _=>k b u q
 slot:=fun b u q _ _ _=>⟨u.slots,k b u q⟩
 free:=fun b u q n _=>by rw[au (yF (yB (Heap.lt_size q) hp))];exact n
 there:=fun b u q _=>⟨u,k b u q⟩
 tups:=fun b xs q=>by rw[au (ay q hn)];exact q
 frzs:=fun b u xs q=>by rw[au (ay q hn)];exact q
 tbls:=fun b ps q=>⟨#[],by rw[au (ay q hn),q];simp⟩
theorem Un.write(mu:Mut (H x))(he:e=x∨H e=some (.own x))(k:∀b u,b≠e→h.get? b=some u→h'.get? b=some u)(heo:∃u,h'.get? e=some u):Un fs ex H (upd H x o) h h':=by
 have hx:∀b,H b=none→b≠x:=fun b n z=>by subst z;rw[n] at mu;exact mu
 have hb:∀b,H b=none→b≠e:=fun b n z=>by
  subst z
  rcases he with r | r
  ·exact hx b n r
  ·rw[n] at r;cases r
 have hm:∀b u,H b=some u→¬ Mut (some u)→b≠x:=fun b u q nm z=>by subst z;rw[q] at mu;exact nm mu
 refine⟨fun b u q n _ _=>k b u (hb b n) q,fun b u q n _ _=>⟨u.slots,k b u (hb b n) q⟩,fun b u q n _=>by rw[au (hx b n)];exact n,fun b u q _=>?_,
  fun b xs q=>by rw[au (hm b _ q fun z=>z)];exact q,fun b u xs q=>by rw[au (hm b _ q fun z=>z)];exact q,fun b ps q=>⟨#[],by rw[au (hm b _ q fun z=>z),q];simp⟩⟩
 by_cases hbe:b=e
 ·subst hbe;exact heo
 ·exact⟨u,k b u hbe q⟩
end
noncomputable def trk(h:Heap)(H:Hp):List Addr:=(List.range h.objs.size).filter fun a=>(H a).isSome
noncomputable def la(h:Heap)(H:Hp):Heap:=PySem.W.hideAll h (trk h H)
theorem pU(h:Heap)(H:Hp):(la h H).objs.size=h.objs.size:=PySem.W.hideAll_size _ _
theorem rN{h:Heap}{H:Hp}{b:Addr}{o:Obj}(e:h.get? b=some o)(n:H b=none):(la h H).get? b=some o :=
 PySem.W.hideAll_get _ e fun hm=>by
  have q:(H b).isSome=true:=(List.mem_filter.mp hm).2
  rw[n] at q;simp at q
theorem tz{h:Heap}{H:Hp}{b:Addr}{o:Obj}(e:(la h H).get? b=some o):h.get? b=some o∧H b=none:=by
 have e':h.get? b=some o:=PySem.W.of_hideAll (trk h H) e
 refine⟨e',?_⟩
 cases q:H b with
 | none=>rfl
 | some x =>
  have hm:b∈trk h H:=List.mem_filter.mpr ⟨yp.mpr (Heap.lt_size e'),by simp[q]⟩
  have z:(la h H).get? b=none:=PySem.W.hideAll_none (trk h H) hm
  rw[z] at e;cases e
end L2
namespace L2
open PySem PySem.Spec PyProof.Rows
structure Mod(K:PySem.W.Frag)(mg:Str→Option Value)(base:Heap):Prop where
 kin:K.In base
 glob:base.Ns mainGlobals mg
 blt:∃mb,base.Ns builtinsNs mb∧∀x:Str,x ≠ "__name__" → mb x=bootBuiltins x
 nolimit:base.NoLimit
structure Cx where
 prog:Program
 w:World
 K:PySem.W.Frag
 mg:Str→Option Value
 base:Heap
 A:Around
 N:List Str
 s₀:Shared
 H₀:Hp
 env:Env
 outer:List Env
 stack:List Env
 ex:List Addr
 fn:Str→Bool
 calm:Bool
 pn:List (Addr×Obj)
 xe:Value→Shared→Prop
noncomputable def frs(l:List Env):List Addr:=l.filterMap (·.frame)
noncomputable abbrev Cx.fs(X:Cx):List Addr:=frs X.outer
noncomputable def Vis(sc:Scope)(x:Str):Prop:=sc.names.lookup x=some .local∨sc.names.lookup x=some .cell∨sc.names.lookup x=some .free
noncomputable def Loc(sc:Scope)(x:Str):Prop:=sc.names.lookup x=some .local∨sc.names.lookup x=some .cell
noncomputable def FU(env:Env)(h:Heap)(m:Str→Option Value)(x:Str)(u:Value):Prop :=
 (env.kindOf x=some .local∧m x=some u)∨((env.kindOf x=some .cell∨env.kindOf x=some .free)∧∃c,env.cells.lookup x=some c∧h.IsCell c (some u))
structure Cx.Ok(X:Cx):Prop where
 mod:Mod X.K X.mg X.base
 kind:X.env.scope.kind=.function
 glob:X.env.globals=mainGlobals
 blt:X.env.builtins=builtinsNs
 above:X.s₀.heap.objs.size≤X.env.locals
 inj:∀x y c,X.env.cells.lookup x=some c→X.env.cells.lookup y=some c→x=y
 has:∀x,(X.env.kindOf x=some .cell∨X.env.kindOf x=some .free)→∃c,X.env.cells.lookup x=some c
 cab:∀x c,X.fn x=true→X.env.cells.lookup x=some c→X.s₀.heap.objs.size≤c
 hd:X.calm=true→X.A.handled=none
 frames:X.A.frames=some X.stack
 stk:X.stack=X.outer∨(X.stack=X.env::X.outer∧X.env.frame=some X.env.locals)
 exf:∀b∈X.ex,b≠X.env.locals∧∀x c,X.env.cells.lookup x=some c→c≠b
 bs:∀b o,X.base.get? b=some o→X.s₀.heap.get? b=some o∧X.H₀ b=none
 bsz:X.base.objs.size≤X.s₀.heap.objs.size
 noex:∀b o,X.base.get? b=some o→b∉X.ex
 exfs:∀b∈X.ex,b∉X.fs
 funs:X.s₀.heap.FunFrames X.base X.outer
 frf:∀b∈X.fs,X.H₀ b=none
structure Inv(X:Cx)(pins:List (Addr×Obj))(σ:List (Option V))(H:Hp)(s:Shared):Prop where
 ok:X.Ok
 os:s.os=X.s₀.os
 bare:AllBare s.gens
 base:Un X.fs X.ex X.H₀ H X.s₀.heap s.heap
 loc:∃m,s.heap.Ns X.env.locals m∧∀(i:Nat) (x:Str) (v:V),X.N[i]? = some x→σ[i]? = some (some v)→Vis X.env.scope x→∃u,bu v u∧FU X.env s.heap m x u
 cell:∀x c,X.env.cells.lookup x=some c→∃v,s.heap.IsCell c v
 free:H X.env.locals=none
 freeC:∀x c,X.env.cells.lookup x=some c→H c=none
 pin:∀p∈X.pn++pins,s.heap.get? p.1=some p.2∧H p.1=none∧p.1≠X.env.locals∧p.1∉X.fs∧∀v,p.2.data≠.cell v
 hok:HOk X.prog X.w H s.heap
 len:σ.length=X.N.length
section
variable{X:Cx}{pins:List (Addr×Obj)}{σ:List (Option V)}{H H':Hp}{s:Shared}{h':Heap}
theorem Cx.Ok.nofr(ok:X.Ok){b:Addr}{o:Obj}(e:X.base.get? b=some o):b∉X.fs:=fun hb=>by
 have:=(ok.funs.mem hb).1
 rw[e] at this;cases this
theorem Inv.bs(I:Inv X pins σ H s):∀b o,X.base.get? b=some o→s.heap.get? b=some o∧H b=none:=fun b o e =>
 ⟨I.base.keep b o (I.ok.bs b o e).1 (I.ok.bs b o e).2 (I.ok.nofr e) (I.ok.noex b o e),I.base.free b o (I.ok.bs b o e).1 (I.ok.bs b o e).2 (I.ok.noex b o e)⟩
theorem Inv.bk(I:Inv X pins σ H s):∀b o,X.base.get? b=some o→s.heap.get? b=some o:=fun b o e=>(I.bs b o e).1
theorem Inv.mod(I:Inv X pins σ H s):Mod X.K X.mg X.base:=I.ok.mod
theorem Inv.kIn(I:Inv X pins σ H s):X.K.In s.heap:=I.ok.mod.kin.keeps I.bk
theorem Inv.lt(I:Inv X pins σ H s):X.env.locals<s.heap.objs.size:=let ⟨_,hn,_⟩:=I.loc;hn.lt
theorem Inv.sz(I:Inv X pins σ H s):X.s₀.heap.objs.size≤s.heap.objs.size:=yu I.ok.above (yNa I.lt)
theorem Inv.nofs(I:Inv X pins σ H s){a:Addr}(h:s.heap.objs.size≤a):a∉X.fs:=fun hb=>by
 obtain⟨_,o,ho,_⟩:=I.ok.funs.mem hb
 exact absurd (yB (Heap.lt_size ho) (yu I.sz h)) (yZ _)
theorem Inv.cne(I:Inv X pins σ H s):∀x c,X.env.cells.lookup x=some c→c≠X.env.locals:=fun x c e z=>by
 obtain⟨v,o,ho,hd⟩:=I.cell x c e
 obtain⟨m,⟨o',es,ep,ho',hd',_⟩,_⟩:=I.loc
 rw[z,ho'] at ho;cases ho;rw[hd'] at hd;cases hd
theorem Inv.funs(I:Inv X pins σ H s):s.heap.FunFrames X.base X.outer:=by
 have all:∀(l:List Env),(∀b∈frs l,b∈X.fs)→X.s₀.heap.FunFrames X.base l→s.heap.FunFrames X.base l:=by
  intro l
  induction l with
  | nil=>intro _ _;trivial
  | cons env r ih =>
   intro hs hl
   obtain⟨hk,⟨L,o,hf,hn,ho,hd⟩,hr⟩:=hl
   have hL:L∈X.fs:=hs L (by unfold frs;rw[yBa,hf];exact yv)
   obtain⟨sl,e⟩:=I.base.slot L o ho (I.ok.frf L hL) hL fun z=>I.ok.exfs L z hL
   exact⟨hk,⟨L,_,hf,hn,e,hd⟩,ih (fun b hb=>hs b (by unfold frs;rw[yBa,hf];exact ym _ hb)) hr⟩
 exact all X.outer (fun _ hb=>hb) I.ok.funs
theorem Inv.stack(I:Inv X pins σ H s):s.heap.FunFrames X.base X.stack:=by
 rcases I.ok.stk with e | ⟨e,hf⟩
 ·rw[e];exact I.funs
 ·rw[e]
  obtain⟨m,hn,_⟩:=I.loc
  refine .cons (by rw[I.ok.kind];decide) hf hn ?_ I.funs
  exact Heap.get?_none_of_le (yu I.ok.bsz I.ok.above)
theorem Inv.stkSub(I:Inv X pins σ H s):∀b∈frs X.stack,b∈X.env.locals::X.fs:=fun b hb=>by
 rcases I.ok.stk with e | ⟨e,hf⟩
 ·rw[e] at hb;exact ym _ hb
 ·rw[e] at hb
  unfold frs at hb
  rw[yBa,hf] at hb
  exact hb
theorem Inv.stkFree(I:Inv X pins σ H s):∀b∈frs X.stack,H b=none:=fun b hb=>by
 rcases List.mem_cons.mp (I.stkSub b hb) with e | hb
 ·rw[e];exact I.free
 ·obtain⟨_,o,ho,_⟩:=I.ok.funs.mem hb
  exact I.base.free b o ho (I.ok.frf b hb) fun z=>I.ok.exfs b z hb
theorem Inv.step{g':Array GenState}{t':Nat}{d':Drawn}{ch:List Addr}(I:Inv X pins σ H s)
  (hch:∀b∈ch,(b∈X.ex∨X.s₀.heap.objs.size≤b)∧b≠X.env.locals∧(∀x c,X.env.cells.lookup x=some c→c≠b)∧∀p∈X.pn++pins,p.1≠b)
  (keep:∀b o,b≠X.env.locals→b∉X.fs→b∉ch→s.heap.get? b=some o→H b=none→h'.get? b=some o)
  (slot:∀b o,b≠X.env.locals→b∈X.fs→b∉ch→s.heap.get? b=some o→H b=none→∃sl,h'.get? b=some { o with slots:=sl }) (free:∀b o,b∉ch→s.heap.get? b=some o→H b=none→H' b=none)
  (there:∀b o,b∉ch→s.heap.get? b=some o→∃o',h'.get? b=some o')
  (tups:∀b xs,H b=some (.tup xs)→H' b=some (.tup xs)) (frzs:∀b o u,H b=some (.frz o u)→H' b=some (.frz o u)) (tbls:∀b ps,H b=some (.tbl ps)→∃more,H' b=some (.tbl (ps++more)))
  (ns:∀m,s.heap.Ns X.env.locals m→h'.Ns X.env.locals m) (hok:HOk X.prog X.w H' h') (hg:AllBare g') :
  Inv X pins σ H' { s with heap:=h',gens:=g',drawn:=d',toks:=t' }:=by
 have neL:∀b o,X.s₀.heap.get? b=some o→b≠X.env.locals:=fun b o e=>yF (yB (Heap.lt_size e) I.ok.above)
 have neC:∀b o,X.s₀.heap.get? b=some o→b∉X.ex→b∉ch:=fun b o e hx hb=>by
  rcases (hch b hb).1 with z | z
  ·exact hx z
  ·exact absurd (yB (Heap.lt_size e) z) (yZ _)
 have cellK:∀x c,X.env.cells.lookup x=some c→∀v,s.heap.IsCell c v→h'.IsCell c v:=fun x c e v ⟨o,ho,hd⟩=>by
  have nch:c∉ch:=fun z=>(hch c z).2.2.1 x c e rfl
  by_cases hc:c∈X.fs
  ·obtain⟨sl,q⟩:=slot c o (I.cne x c e) hc nch ho (I.freeC x c e)
   exact⟨_,q,hd⟩
  ·exact⟨o,keep c o (I.cne x c e) hc nch ho (I.freeC x c e),hd⟩
 refine⟨I.ok,I.os,hg,⟨fun b o e n hb hx=>?_,fun b o e n hb hx=>?_,fun b o e n hx=>?_,fun b o e hx=>?_,fun b xs e=>tups b xs (I.base.tups b xs e),fun b o xs e=>frzs b o xs (I.base.frzs b o xs e),fun b ps e=>?_⟩,?_,fun x c e=>?_,?_,fun x c e=>?_,fun p hp=>?_,hok,I.len⟩
 ·exact keep b o (neL b o e) hb (neC b o e hx) (I.base.keep b o e n hb hx) (I.base.free b o e n hx)
 ·obtain⟨sl,e1⟩:=I.base.slot b o e n hb hx
  obtain⟨sl',e2⟩:=slot b _ (neL b o e) hb (neC b o e hx) e1 (I.base.free b o e n hx)
  exact⟨sl',e2⟩
 ·obtain⟨o',e1⟩:=I.base.there b o e hx
  exact free b o' (neC b o e hx) e1 (I.base.free b o e n hx)
 ·obtain⟨o',e1⟩:=I.base.there b o e hx
  exact there b o' (neC b o e hx) e1
 ·obtain⟨m1,e1⟩:=I.base.tbls b ps e
  obtain⟨m2,e2⟩:=tbls b _ e1
  exact⟨m1++m2,by rw[e2,yzb]⟩
 ·obtain⟨m,hn,hl⟩:=I.loc
  refine⟨m,ns m hn,fun i x v e1 e2 e3=>?_⟩
  obtain⟨u,r,l⟩:=hl i x v e1 e2 e3
  refine⟨u,r,?_⟩
  rcases l with l | ⟨k,c,e,z⟩
  ·exact .inl l
  ·exact .inr ⟨k,c,e,cellK x c e _ z⟩
 ·obtain⟨v,z⟩:=I.cell x c e
  exact⟨v,cellK x c e v z⟩
 ·obtain⟨m,⟨o,_,_,ho,_⟩,_⟩:=I.loc
  exact free _ o (fun z=>(hch _ z).2.1 rfl) ho I.free
 ·obtain⟨v,o,ho,hd⟩:=I.cell x c e
  exact free c o (fun z=>(hch c z).2.2.1 x c e rfl) ho (I.freeC x c e)
 ·obtain⟨e,n,ne,nf,d⟩:=I.pin p hp
  have nch:p.1∉ch:=fun z=>(hch p.1 z).2.2.2 p hp rfl
  exact⟨keep p.1 p.2 ne nf nch e n,free p.1 p.2 nch e n,ne,nf,d⟩
theorem Inv.un{t':Nat}(I:Inv X pins σ H s)(u:Un X.fs [] H H' s.heap h')(hok:HOk X.prog X.w H' h'):Inv X pins σ H' { s with heap:=h',toks:=t' }:=by
 obtain⟨m,⟨o,es,ep,ho,r⟩,_⟩:=id I.loc
 obtain⟨sl,hL⟩:=u.any ho I.free (by simp)
 exact I.step (g':=s.gens) (d':=s.drawn) (ch:=[]) (fun _ z=>nomatch z) (fun b o _ hb _ e n=>u.keep b o e n hb (by simp)) (fun b o _ hb _ e n=>u.slot b o e n hb (by simp)) (fun b o _ e n=>u.free b o e n (by simp)) (fun b o _ e=>u.there b o e (by simp)) u.tups u.frzs u.tbls (fun m' hm=>by
  obtain⟨o',es',ep',ho',r'⟩:=hm
  rw[ho] at ho'; cases ho'
  exact⟨_,es',ep',hL,r'⟩) hok I.bare
theorem Inv.call{g':Array GenState}{t':Nat}{d':Drawn}{ch:List Addr}(I:Inv X pins σ H s)(u:Un (frs X.stack) ch H H' s.heap h')(hok:HOk X.prog X.w H' h')(hg:AllBare g')
  (hch:∀b∈ch,(b∈X.ex∨X.s₀.heap.objs.size≤b)∧b≠X.env.locals∧(∀x c,X.env.cells.lookup x=some c→c≠b)∧∀p∈X.pn++pins,p.1≠b) :
  Inv X pins σ H' { s with heap:=h',gens:=g',drawn:=d',toks:=t' }:=by
 obtain⟨m,⟨o,es,ep,ho,r⟩,_⟩:=id I.loc
 obtain⟨sl,hL⟩:=u.any ho I.free fun z=>(hch _ z).2.1 rfl
 exact I.step (ch:=ch) hch (fun b o hL hb hc e n=>u.keep b o e n (fun z=>(List.mem_cons.mp (I.stkSub b z)).elim hL hb) hc) (fun b o _ _ hc e n=>u.any e n hc) (fun b o hc e n=>u.free b o e n hc) (fun b o hc e=>u.there b o e hc) u.tups u.frzs u.tbls (fun m' hm=>by
  obtain⟨o',es',ep',ho',r'⟩:=hm
  rw[ho] at ho'; cases ho'
  exact⟨_,es',ep',hL,r'⟩) hok hg
theorem Inv.turned{t':Nat}{it:Addr}(I:Inv X pins σ H s)(k:∀b o,b≠it→s.heap.get? b=some o→h'.get? b=some o)(hn:H it=none)(hL:it≠X.env.locals)
  (h1:it∈X.ex∨X.s₀.heap.objs.size≤it) (h2:∀x c,X.env.cells.lookup x=some c→c≠it) (h3:∀p∈X.pn++pins,p.1≠it):Inv X pins σ H { s with heap:=h',toks:=t' }:=by
 have nit:∀b u,H b=some u→b≠it:=fun b u e z=>by rw[z,hn] at e;cases e
 refine I.step (g':=s.gens) (d':=s.drawn) (ch:=[it]) (fun b hb=>?_) (fun b o _ _ hc e _=>k b o (fun z=>hc (by simp[z])) e) (fun b o _ _ hc e _=>⟨o.slots,k b o (fun z=>hc (by simp[z])) e⟩) (fun _ _ _ _ n=>n)
  (fun b o hc e=>⟨o,k b o (fun z=>hc (by simp[z])) e⟩) (fun _ _ e=>e) (fun _ _ _ e=>e) (fun b ps e=>⟨#[],by rw[e];simp⟩) (fun m hm=>?_) (fun b u e=>?_) I.bare
 ·have e:b=it:=by simpa using hb
  subst e
  exact⟨h1,hL,h2,h3⟩
 ·obtain⟨o,es,ep,ho,r⟩:=hm
  exact⟨o,es,ep,k _ o (yta hL) ho,r⟩
 ·refine(I.hok b u e).stay (fun c v hc q=>k c v ?_ q) (fun _ q=>q) fun _ _ q=>q
  rcases hc with z | z
  ·rw[z];exact nit b u e
  ·exact nit c _ z
theorem Inv.tok(I:Inv X pins σ H s)(t:Nat):Inv X pins σ H { s with toks:=t }:=I.un (h':=s.heap) (t':=t) Un.refl I.hok
theorem Inv.kept{t':Nat}(I:Inv X pins σ H s)(k:∀b u,s.heap.get? b=some u→h'.get? b=some u):Inv X pins σ H { s with heap:=h',toks:=t' }:=I.un (Un.kept k) (I.hok.kept k)
theorem Inv.laid{a:Addr}{o:HO}{t':Nat}(I:Inv X pins σ H s)(k:∀b u,s.heap.get? b=some u→h'.get? b=some u)(hp:s.heap.objs.size≤a)(new:bF X.prog X.w (upd H a o) h' a o) :
  Inv X pins σ (upd H a o) { s with heap:=h',toks:=t' }:=I.un (Un.laid k hp (I.hok.fresh hp)) (I.hok.laid k hp new)
theorem Inv.write{x e:Addr}{o:HO}{t':Nat}(I:Inv X pins σ H s)(mu:Mut (H x))(he:e=x∨H e=some (.own x))(k:∀b u,b≠e→s.heap.get? b=some u→h'.get? b=some u)(heo:∃u,h'.get? e=some u)
  (new:bF X.prog X.w (upd H x o) h' x o):Inv X pins σ (upd H x o) { s with heap:=h',toks:=t' }:=I.un (Un.write mu he k heo) (I.hok.write mu he k heo new)
theorem Inv.pins_of{pins':List (Addr×Obj)}(I:Inv X pins σ H s)(h:∀p∈pins',s.heap.get? p.1=some p.2∧H p.1=none∧p.1≠X.env.locals∧p.1∉X.fs∧∀v,p.2.data≠.cell v):Inv X pins' σ H s :=
 ⟨I.ok,I.os,I.bare,I.base,I.loc,I.cell,I.free,I.freeC,fun p hp=>(List.mem_append.mp hp).elim (fun z=>I.pin p (yU _ z)) (h p),I.hok,I.len⟩
theorem mF{N:List Str}(hN:N.Nodup){i j:Nat}{x:Str}(a:N[i]? = some x)(b:N[j]? = some x):i=j:=by
 obtain⟨h1,e1⟩:=List.getElem?_eq_some_iff.mp a
 obtain⟨h2,e2⟩:=List.getElem?_eq_some_iff.mp b
 exact(List.getElem_inj hN).mp (e1.trans e2.symm)
theorem jL{M:Model}{A:Around}{E:Value→Shared→Prop}{i:Nat}{x:Str}{v:V}{u:Value}{Q:Unit→Shared→Prop}(I:Inv X pins σ H s)(hN:X.N.Nodup)(hi:X.N[i]? = some x)(hx:Loc X.env.scope x)(r:bu v u)
  (h:∀s',Inv X pins (σ.set i (some v)) H s'→(∃a,Heap.SameBut a s.heap s'.heap∧(a=X.env.locals∨X.env.cells.lookup x=some a))→Q () s') (hf:X.fn x=true∨X.env.scope.names.lookup x=some .local:=by first | exact .inl rfl | exact .inr rfl | assumption):wpAny M A (storeName X.env x u) Q E s:=by
 obtain⟨m,hn,hl⟩:=id I.loc
 have hcls:(X.env.scope.kind == .class||(X.env.scope.kind == .module&&X.env.locals != X.env.globals))=false:=by rw[I.ok.kind];rfl
 have hiσ:i<σ.length:=by rw[I.len];exact(List.getElem?_eq_some_iff.mp hi).1
 have cne:=I.cne
 have tracked:∀{a:Addr} {h':Heap},(∃o,s.heap.get? a=some o∧H a=none)→Heap.SameBut a s.heap h'→HOk X.prog X.w H h':=fun {a h'} ha hs b ob e=>by
  obtain⟨_,_,hfree⟩:=ha
  refine(I.hok b ob e).stay (fun c w' hc q=>(hs.2 c ?_).trans q) (fun _ q=>q) fun _ _ q=>q
  rintro rfl
  rcases hc with rfl | hc
  ·rw[hfree] at e;cases e
  ·rw[hfree] at hc;cases hc
 rcases hx with hk | hk
 ·refine wpAny_storeName_local hk hn (fun h' hn' hs=>?_) hcls
  obtain⟨oL,_,_,hoL,_⟩:=id hn
  refine h _ ⟨I.ok,I.os,I.bare,⟨fun b o e n hb hx=>?_,fun b o e n hb hx=>?_,I.base.free,fun b o e hx=>?_,I.base.tups,I.base.frzs,I.base.tbls⟩,⟨_,hn',fun j y v' e1 e2 e3=>?_⟩,fun y c e=>?_,I.free,I.freeC,fun p hp=>?_,tracked ⟨oL,hoL,I.free⟩ hs,by simpa using I.len⟩ ⟨_,hs,.inl rfl⟩
  ·exact(hs.2 b (yF (yB (Heap.lt_size e) I.ok.above))).trans (I.base.keep b o e n hb hx)
  ·obtain⟨sl,e1⟩:=I.base.slot b o e n hb hx
   exact⟨sl,(hs.2 b (yF (yB (Heap.lt_size e) I.ok.above))).trans e1⟩
  ·obtain⟨o',e1⟩:=I.base.there b o e hx
   exact⟨o',(hs.2 b (yF (yB (Heap.lt_size e) I.ok.above))).trans e1⟩
  ·by_cases hj:j=i
   ·subst hj
    rw[hi] at e1;cases e1
    rw[yqb hiσ] at e2
    cases e2
    exact⟨u,r,.inl ⟨hk,by simp⟩⟩
   ·rw[yub (yta hj)] at e2
    obtain⟨u',r',q⟩:=hl j y v' e1 e2 e3
    refine⟨u',r',?_⟩
    rcases q with ⟨k,e⟩ | ⟨k,c,e,z⟩
    ·refine .inl ⟨k,?_⟩
     have:y≠x:=fun e=>hj (mF hN e1 (e ▸ hi))
     simp[this,e]
    ·exact .inr ⟨k,c,e,z.sameBut hs (cne y c e)⟩
  ·obtain⟨w',z⟩:=I.cell y c e
   exact⟨w',z.sameBut hs (cne y c e)⟩
  ·obtain⟨e,n,ne,nf,d⟩:=I.pin p hp
   exact⟨(hs.2 p.1 ne).trans e,n,ne,nf,d⟩
 ·have hfn:X.fn x=true:=by
   rcases hf with z | z
   ·exact z
   ·rw[z] at hk;cases hk
  obtain⟨c,hc⟩:=I.ok.has x (.inl hk)
  obtain⟨w',z⟩:=I.cell x c hc
  refine wpAny_storeName_cell I.ok.kind hk hc z (fun h' hc' hs=>?_)
  obtain⟨oc,hoc,hocd⟩:=id z
  refine h { s with heap:=h' } ⟨I.ok,I.os,I.bare,⟨fun b o e n hb hx=>?_,fun b o e n hb hx=>?_,I.base.free,fun b o e hx=>?_,I.base.tups,I.base.frzs,I.base.tbls⟩,⟨m,hn.sameBut hs (yta (cne x c hc)),fun j y v' e1 e2 e3=>?_⟩,fun y c' e=>?_,I.free,I.freeC,fun p hp=>?_,tracked ⟨oc,hoc,I.freeC x c hc⟩ hs,by simpa using I.len⟩ ⟨c,hs,.inr hc⟩
  ·exact(hs.2 b (yF (yB (Heap.lt_size e) (I.ok.cab x c hfn hc)))).trans (I.base.keep b o e n hb hx)
  ·obtain⟨sl,e1⟩:=I.base.slot b o e n hb hx
   exact⟨sl,(hs.2 b (yF (yB (Heap.lt_size e) (I.ok.cab x c hfn hc)))).trans e1⟩
  ·obtain⟨o',e1⟩:=I.base.there b o e hx
   exact⟨o',(hs.2 b (yF (yB (Heap.lt_size e) (I.ok.cab x c hfn hc)))).trans e1⟩
  ·by_cases hj:j=i
   ·subst hj
    rw[hi] at e1;cases e1
    rw[yqb hiσ] at e2
    cases e2
    exact⟨u,r,.inr ⟨.inl hk,c,hc,hc'⟩⟩
   ·rw[yub (yta hj)] at e2
    obtain⟨u',r',q⟩:=hl j y v' e1 e2 e3
    refine⟨u',r',?_⟩
    rcases q with q | ⟨k,c',e,z'⟩
    ·exact .inl q
    ·refine .inr ⟨k,c',e,z'.sameBut hs ?_⟩
     rintro rfl
     exact hj (mF hN e1 (I.ok.inj _ _ _ e hc ▸ hi))
  ·by_cases hcc:c'=c
   ·subst hcc;exact⟨_,hc'⟩
   ·obtain⟨w2,z2⟩:=I.cell y c' e
    exact⟨w2,z2.sameBut hs hcc⟩
  ·obtain⟨e,n,ne,nf,d⟩:=I.pin p hp
   refine⟨(hs.2 p.1 ?_).trans e,n,ne,nf,d⟩
   intro q
   rw[q,hoc] at e
   have q':oc=p.2:=yt e
   exact d w' (by rw[← q'];exact hocd)
theorem lx{M:Model}{A:Around}{E:Value→Shared→Prop}{i:Nat}{x:Str}{v:V}{u:Value}{Q:Unit→Shared→Prop}(I:Inv X pins σ H s)(hN:X.N.Nodup)(hi:X.N[i]? = some x)(hx:Loc X.env.scope x)(r:bu v u)
  (h:∀s',Inv X pins (σ.set i (some v)) H s'→Q () s') (hf:X.fn x=true∨X.env.scope.names.lookup x=some .local:=by first | exact .inl rfl | exact .inr rfl | assumption):wpAny M A (storeName X.env x u) Q E s :=
 jL I hN hi hx r (fun s' I' _=>h s' I') hf
theorem Inv.call'{s':Shared}{ch:List Addr}(I:Inv X pins σ H s)(ho:s'.os=s.os)(u:Un (frs X.stack) ch H H' s.heap s'.heap)(hok:HOk X.prog X.w H' s'.heap)(hg:AllBare s'.gens)
  (hch:∀b∈ch,(b∈X.ex∨X.s₀.heap.objs.size≤b)∧b≠X.env.locals∧(∀x c,X.env.cells.lookup x=some c→c≠b)∧∀p∈X.pn++pins,p.1≠b):Inv X pins σ H' s':=by
 obtain⟨h',g',d',t',o'⟩:=s'
 have e:o'=s.os:=ho
 subst e
 exact I.call (g':=g') (t':=t') (d':=d') u hok hg hch
end
noncomputable abbrev XK:=Value→Option Addr→Hp→Prop
noncomputable abbrev St:=List (Option V)
noncomputable abbrev VK:=V→Hp→Prop
noncomputable abbrev TE:=St→Hp→VK→Prop
noncomputable abbrev TT:=St→Hp→(Bool→Hp→Prop)→Prop
noncomputable abbrev TA:=St→Hp→(List V→Hp→Prop)→Prop
structure dk where
 nx:St→Hp→Prop
 rt:VK
 bk:St→Hp→Prop:=fun _ _=>False
 ct:St→Hp→Prop:=fun _ _=>False
noncomputable abbrev TS:=dk→St→Hp→Prop
noncomputable def EP(X:Cx)(pins:List (Addr×Obj))(σ:St)(Q:VK)(u:Value)(s':Shared):Prop:=∃v H',Inv X pins σ H' s'∧bu v u∧Q v H'
noncomputable def TP(X:Cx)(pins:List (Addr×Obj))(σ:St)(Q:Bool→Hp→Prop)(b:Bool)(s':Shared):Prop:=∃H',Inv X pins σ H' s'∧Q b H'
noncomputable def AP(X:Cx)(pins:List (Addr×Obj))(σ:St)(Q:List V→Hp→Prop)(us:List Value)(s':Shared):Prop:=∃vs H',Inv X pins σ H' s'∧bp vs us∧Q vs H'
noncomputable def SP(X:Cx)(pins:List (Addr×Obj))(D:dk)(f:Flow)(s':Shared):Prop :=
 match f with
 | .next=>∃σ' H',Inv X pins σ' H' s'∧D.nx σ' H'
 | .brk=>∃σ' H',Inv X pins σ' H' s'∧D.bk σ' H'
 | .cont=>∃σ' H',Inv X pins σ' H' s'∧D.ct σ' H'
 | .ret u=>∃v σ' H',Inv X pins σ' H' s'∧bu v u∧D.rt v H'
noncomputable def PE(X:Cx)(e:Expr)(t:TE):Prop :=
 ∀(pins:List (Addr×Obj)) (s:Shared) (σ:St) (H:Hp) (Q:VK),Inv X pins σ H s→t σ H Q→wpAny (model X.prog X.w) X.A (eval e X.env) (EP X pins σ Q) X.xe s
noncomputable def PT(X:Cx)(e:Expr)(t:TT):Prop :=
 ∀(pins:List (Addr×Obj)) (s:Shared) (σ:St) (H:Hp) (Q:Bool→Hp→Prop),Inv X pins σ H s→t σ H Q→wpAny (model X.prog X.w) X.A (isTrue e X.env (eval e X.env)) (TP X pins σ Q) X.xe s
noncomputable def PW(X:Cx)(e:Expr)(t:TT):Prop :=
 ∀(whole:Sem Value) (pins:List (Addr×Obj)) (s:Shared) (σ:St) (H:Hp) (Q:Bool→Hp→Prop),Inv X pins σ H s→t σ H Q→wpAny (model X.prog X.w) X.A (isTrue e X.env whole) (TP X pins σ Q) X.xe s
theorem PW.pt{X:Cx}{e:Expr}{t:TT}(h:PW X e t):PT X e t:=h _
noncomputable def PA(X:Cx)(es:List Expr)(t:TA):Prop :=
 ∀(pos:Pos) (pins:List (Addr×Obj)) (s:Shared) (σ:St) (H:Hp) (Q:List V→Hp→Prop),Inv X pins σ H s→t σ H Q→wpAny (model X.prog X.w) X.A (spliced (backTo pos (starEach es X.env))) (AP X pins σ Q) X.xe s
noncomputable def PS(X:Cx)(st:Stmt)(t:TS):Prop :=
 ∀(pins:List (Addr×Obj)) (s:Shared) (σ:St) (H:Hp) (D:dk),Inv X pins σ H s→t D σ H→wpAny (model X.prog X.w) X.A (exec st X.env) (SP X pins D) X.xe s
noncomputable def PSs(X:Cx)(st:List Stmt)(t:TS):Prop :=
 ∀(pins:List (Addr×Obj)) (s:Shared) (σ:St) (H:Hp) (D:dk),Inv X pins σ H s→t D σ H→wpAny (model X.prog X.w) X.A (execs st X.env) (SP X pins D) X.xe s
theorem thn{α:Type}{t:Sem α}{Q Q':α→Shared→Prop}{M:Model}{A:Around}{E:Value→Shared→Prop}{s:Shared}(h:wpAny M A t Q E s)(hQ:∀a s,Q a s→Q' a s):wpAny M A t Q' E s:=wpAny_mono h hQ fun _ _ x=>x
end L2
namespace L2
open PySem PySem.Spec PyProof.Rows
section
variable{X:Cx}
noncomputable def pB(i:Nat):TE:=fun σ H Q=>∃v,σ[i]? = some (some v)∧Q v H
noncomputable def tC(v:V):TE:=fun _ H Q=>Q v H
theorem xL{i:Nat}{x:Str}{pos:Pos}(hN:X.N[i]? = some x)(hv:Vis X.env.scope x)(hd:(x == ("__debug__":Str))=false:=by decide)(hcd:(x == ("__classdict__":Str))=false:=by decide):PE X (.Name x pos) (pB i):=by
 intro pins s σ H Q I h
 obtain⟨v,e,h⟩:=h
 obtain⟨m,hn,hl⟩:=I.loc
 obtain⟨u,r,l⟩:=hl i x v hN e hv
 have fin:EP X pins σ Q u s:=⟨v,H,I,r,h⟩
 rcases l with ⟨hk,hm⟩ | ⟨hk,c,hc,hcell⟩
 ·exact wpAny_Name (wpAny_loadName_local I.ok.kind hk hn hm fin) hd
 ·rcases hk with hk | hk
  ·exact wpAny_Name (wpAny_loadName_cell I.ok.kind hk hc hcell fin) hd
  ·exact wpAny_Name (wpAny_loadName_free I.ok.kind hk hc hcell fin hcd) hd
theorem ag{i j pos}:PE X (.Constant (.int i) j pos) (tC (.int i)):=fun _ _ _ H _ I h=>wpAny_Constant_int ⟨.int i,H,I.tok _,⟨_,rfl⟩,h⟩
theorem dO{b j pos}:PE X (.Constant (.bool b) j pos) (tC (.bl b)):=fun _ _ _ H _ I h=>Constant_bool ⟨.bl b,H,I,rfl,h⟩
theorem fR{j pos}:PE X (.Constant .none j pos) (tC .non):=fun _ _ _ H _ I h=>Constant_none ⟨.non,H,I,rfl,h⟩
theorem e7{x j pos}:PE X (.Constant (.str x) j pos) (tC (.str x)):=fun _ _ _ H _ I h=>Calls.Constant_str ⟨.str x,H,I.tok _,⟨_,rfl⟩,h⟩
noncomputable def Gl(X:Cx)(x:Str):Prop:=X.env.kindOf x=some .globalImplicit
theorem iA{E:Value→Shared→Prop}{pins:List (Addr×Obj)}{s:Shared}{σ:St}{H:Hp}{x:Str}{u:Value}{pos:Pos}{Q:Value→Shared→Prop}(I:Inv X pins σ H s)(hg:Gl X x)(hm:X.mg x=some u)(h:Q u s)
  (hd:(x == ("__debug__":Str))=false:=by decide):wpAny (model X.prog X.w) X.A (eval (.Name x pos) X.env) Q E s :=
 Calls.Name_function_global I.ok.kind hg (Calls.loadGlobal_global (by rw[I.ok.glob];exact I.mod.glob.keeps I.bk) hm h) hd
theorem eF{E:Value→Shared→Prop}{pins:List (Addr×Obj)}{s:Shared}{σ:St}{H:Hp}{x:Str}{u:Value}{pos:Pos}{Q:Value→Shared→Prop}(I:Inv X pins σ H s)(hg:Gl X x)(hm:X.mg x=none)(hv:bootBuiltins x=some u)(h:Q u s)
  (hn:x ≠ "__name__" := by decide) (hd:(x == ("__debug__":Str))=false:=by decide):wpAny (model X.prog X.w) X.A (eval (.Name x pos) X.env) Q E s:=by
 obtain⟨mb,h1,h2⟩:=I.mod.blt
 exact Calls.Name_function_global I.ok.kind hg (Calls.loadGlobal_builtin (by rw[I.ok.glob];exact I.mod.glob.keeps I.bk) hm (by rw[I.ok.blt];exact h1.keeps I.bk) ((h2 x hn).trans hv) h) hd
theorem uJ{x:Str}{v:V}{u:Value}{pos:Pos}(hg:Gl X x)(hm:X.mg x=some u)(r:bu v u)(hd:(x == ("__debug__":Str))=false:=by decide):PE X (.Name x pos) (tC v) :=
 fun _ _ _ H _ I h=>iA I hg hm ⟨v,H,I,r,h⟩ hd
theorem tW{x:Str}{v:V}{u:Value}{pos:Pos}(hg:Gl X x)(hm:X.mg x=none)(hv:bootBuiltins x=some u)(r:bu v u)(hn:x ≠ "__name__" := by decide)(hd:(x == ("__debug__":Str))=false:=by decide):PE X (.Name x pos) (tC v) :=
 fun _ _ _ H _ I h=>eF I hg hm hv ⟨v,H,I,r,h⟩ hn hd
variable{a b:Expr}{ta tb:TE}{pos:Pos}
noncomputable def PC(X:Cx)(op:CmpOp)(a b:Expr)(t:TE):Prop :=
 ∀(pins:List (Addr×Obj)) (s:Shared) (σ:St) (H:Hp) (Q:VK),Inv X pins σ H s→t σ H Q →
  wpAny (model X.prog X.w) X.A (eval a X.env) (fun v s₁=>wpAny (model X.prog X.w) X.A (eval b X.env) (fun u s₂=>wpAny (model X.prog X.w) X.A (compareOp op v u) (EP X pins σ Q) X.xe s₂) X.xe s₁) X.xe s
noncomputable def Fc(ta:TE):TE:=fun σ H Q=>ta σ H fun x H1=>Q (.bl (decide (x=.non))) H1
noncomputable def B8(ta:TE):TE:=fun σ H Q=>ta σ H fun x H1=>Q (.bl (!decide (x=.non))) H1
noncomputable def tB(t:TE):TT:=fun σ H Q=>t σ H fun x H1=>∃c,x=.bl c∧Q c H1
theorem Be{op:CmpOp}{t:TE}(h:PC X op a b t)(h1:behindInMarks op b=false:=by first | exact nobehind _ (by decide) (by decide) | rfl):PE X (.Compare a [op] [b] pos) t:=fun pins s σ H Q I hw=>wpAny_Compare1 (h pins s σ H Q I hw) h1
theorem nB{op:CmpOp}{t:TE}(h:PC X op a b t)(h1:behindInMarks op b=false:=by first | exact nobehind _ (by decide) (by decide) | rfl):PT X (.Compare a [op] [b] pos) (tB t):=by
 intro pins s σ H Q I hw
 refine wpAny_isTrue_Compare1 (thn (h pins s σ H _ I hw) fun v s1 h1=>thn h1 fun u s2 h2=>thn h2 fun c s3 zz_=>?_) h1
 obtain⟨x,H1,I1,r1,q1⟩:=zz_
 obtain⟨d,rfl,q⟩:=q1
 cases r1
 exact wpAny_truthy_bool ⟨H1,I1,q⟩
theorem cw{e:Expr}{t:TE}(h:PE X e t)(he:∀whole,isTrue e X.env whole=(do let v←whole;standAt e.pos;holding [v] (truthy v)):=by intro _;rfl):PT X e (tB t):=by
 intro pins s σ H Q I hw
 refine isTrue_plain (thn (h pins s σ H _ I hw) fun v s1 zz_=>?_) (he _)
 obtain⟨x,H1,I1,r1,q1⟩:=zz_
 obtain⟨d,rfl,q⟩:=q1
 cases r1
 exact wpAny_truthy_bool ⟨H1,I1,q⟩
variable{tA tB':TT}{rest:List Expr}
noncomputable def Ca(t u:TT):TT:=fun σ H Q=>t σ H fun c H1=>if c=true then u σ H1 Q else Q false H1
noncomputable def tOr(t u:TT):TT:=fun σ H Q=>t σ H fun c H1=>if c=true then Q true H1 else u σ H1 Q
noncomputable def BZ(t:TT):TT:=fun σ H Q=>t σ H fun c H1=>Q (!c) H1
theorem fb(ha:PT X a tA):PW X (.BoolOp .And [a] pos) tA:=by
 intro wh pins s σ H Q I h
 refine isTrue_and (thn (ha pins s σ H Q I h) fun c s1 e=>?_)
 cases c with
 | true=>exact isTrue_and_nil e
 | false=>exact e
theorem eC(ha:PT X a tA):PW X (.BoolOp .Or [a] pos) tA:=by
 intro wh pins s σ H Q I h
 refine isTrue_or (thn (ha pins s σ H Q I h) fun c s1 e=>?_)
 cases c with
 | false=>exact isTrue_or_nil e
 | true=>exact e
theorem gQ(ha:PT X a tA)(hb:PW X (.BoolOp .And (b::rest) pos) tB'):PW X (.BoolOp .And (a::b::rest) pos) (Ca tA tB'):=by
 intro wh pins s σ H Q I h
 refine isTrue_and (thn (ha pins s σ H _ I h) fun c s1 zz_=>?_)
 obtain⟨H1,I1,q1⟩:=zz_
 cases c with
 | true=>exact hb wh pins s1 σ H1 Q I1 q1
 | false=>exact⟨H1,I1,q1⟩
theorem ie(ha:PT X a tA)(hb:PW X (.BoolOp .Or (b::rest) pos) tB'):PW X (.BoolOp .Or (a::b::rest) pos) (tOr tA tB'):=by
 intro wh pins s σ H Q I h
 refine isTrue_or (thn (ha pins s σ H _ I h) fun c s1 zz_=>?_)
 obtain⟨H1,I1,q1⟩:=zz_
 cases c with
 | true=>exact⟨H1,I1,q1⟩
 | false=>exact hb wh pins s1 σ H1 Q I1 q1
theorem eJ(ha:PT X a tA):PT X (.UnaryOp .Not a pos) (BZ tA):=by
 intro pins s σ H Q I h
 exact isTrue_not (ha pins s σ H (fun c H1=>Q (!c) H1) I h)
noncomputable def wv(ta tb:TE):TE:=fun σ H Q=>ta σ H fun x H1=>∃c,x=.bl c∧if c=true then tb σ H1 Q else Q (.bl false) H1
noncomputable def Ch(ta tb:TE):TE:=fun σ H Q=>ta σ H fun x H1=>∃c,x=.bl c∧if c=true then Q (.bl true) H1 else tb σ H1 Q
noncomputable def Cz(ta:TE):TE:=fun σ H Q=>ta σ H fun x H1=>∃c,x=.bl c∧Q (.bl (!c)) H1
theorem ck{op}{t:TE}(h:PE X a t):PE X (.BoolOp op [a] pos) t:=fun pins s σ H Q I hw=>BoolOp_one (h pins s σ H Q I hw)
theorem bP(ha:PE X a ta)(hb:PE X (.BoolOp .And (b::rest) pos) tb):PE X (.BoolOp .And (a::b::rest) pos) (wv ta tb):=by
 intro pins s σ H Q I h
 refine BoolOp_and (thn (ha pins s σ H _ I h) fun v s1 zz_=>?_)
 obtain⟨x,H1,I1,r1,q1⟩:=zz_
 obtain⟨c,rfl,q1⟩:=q1
 cases r1
 refine wpAny_truthy_bool ?_
 cases c with
 | true=>exact hb pins s1 σ H1 Q I1 q1
 | false=>exact⟨.bl false,H1,I1,rfl,q1⟩
theorem Cr(ha:PE X a ta)(hb:PE X (.BoolOp .Or (b::rest) pos) tb):PE X (.BoolOp .Or (a::b::rest) pos) (Ch ta tb):=by
 intro pins s σ H Q I h
 refine BoolOp_or (thn (ha pins s σ H _ I h) fun v s1 zz_=>?_)
 obtain⟨x,H1,I1,r1,q1⟩:=zz_
 obtain⟨c,rfl,q1⟩:=q1
 cases r1
 refine wpAny_truthy_bool ?_
 cases c with
 | false=>exact hb pins s1 σ H1 Q I1 q1
 | true=>exact⟨.bl true,H1,I1,rfl,q1⟩
noncomputable def tIf(t:TT)(ta tb:TE):TE:=fun σ H Q=>t σ H fun c H1=>if c=true then ta σ H1 Q else tb σ H1 Q
theorem qR{c:Expr}(hc:PT X c tA)(ha:PE X a ta)(hb:PE X b tb):PE X (.IfExp c a b pos) (tIf tA ta tb):=by
 intro pins s σ H Q I h
 refine wpAny_IfExp (thn (hc pins s σ H _ I h) fun d s1 zz_=>?_)
 obtain⟨H1,I1,q1⟩:=zz_
 cases d with
 | true=>exact ha pins s1 σ H1 Q I1 q1
 | false=>exact hb pins s1 σ H1 Q I1 q1
end
end L2
namespace L2
open PySem PySem.Spec PyProof.Rows
noncomputable def SqL(K:PySem.W.Frag)(H:Hp)(a:Addr)(xs:List V):Prop :=
 Rd H a (.lst xs) ∨
  ∃(o:Obj) (its:Array Value) (n:Nat),K.lookup a=some o∧o.cls=.type "list" ∧ o.dict=none∧o.data=.seq its n∧its.size≤sizeLine∧bp xs its.toList
noncomputable def SqT(K:PySem.W.Frag)(H:Hp)(a:Addr)(xs:List V):Prop :=
 Rd H a (.tup xs) ∨
  ∃(o:Obj) (its:Array Value) (n:Nat),K.lookup a=some o∧o.cls=.type "tuple" ∧ o.data=.seq its n∧its.size≤sizeLine∧bp xs its.toList
noncomputable def E3:Value→Option V
 | .none=>some .non
 | .bool b=>some (.bl b)
 | .int i _=>some (.int i)
 | .str x _=>some (.str x)
 | .bytes b _=>some (.byt b)
 | .float b _=>some (.flt b)
 | .ref a=>some (.ref a)
 | .type n=>some (.ty n)
 | _=>none
theorem bu.abs{x:V}{u:Value}(r:bu x u):E3 u=some x:=by
 cases x with
 | non=>cases r;rfl
 | bl _=>cases r;rfl
 | int _=>obtain⟨t,rfl⟩:=r;rfl
 | str _=>obtain⟨t,rfl⟩:=r;rfl
 | byt _=>obtain⟨t,rfl⟩:=r;rfl
 | flt _=>obtain⟨t,rfl⟩:=r;rfl
 | ref _=>cases r;rfl
 | ty _=>cases r;rfl
theorem bu.inj{x y:V}{u:Value}(r:bu x u)(q:bu y u):x=y:=yt (r.abs.symm.trans q.abs)
theorem bp.inj:∀{xs ys:List V} {us:List Value},bp xs us→bp ys us→xs=ys
 | _,_,_,.nil,.nil=>rfl
 | _,_,_,.cons r t,.cons r' t'=>by rw[r.inj r',bp.inj t t']
section
variable{X:Cx}{pins:List (Addr×Obj)}{σ:St}{H:Hp}{s:Shared}{a:Addr}{xs ys:List V}
theorem SqL.of{K:PySem.W.Frag}(h:H a=some (.lst xs)):SqL K H a xs:=.inl (.inl h)
theorem SqT.of{K:PySem.W.Frag}(h:H a=some (.tup xs)):SqT K H a xs:=.inl (.inl h)
theorem Inv.list(I:Inv X pins σ H s)(h:SqL X.K H a xs):∃its:List Value,bp xs its∧PlainL s.heap a its.toArray∧xs.length≤sizeLine:=by
 rcases h with h | ⟨o,its,n,hk,hc,hd,hs,hz,r⟩
 ·obtain⟨z,its,n,r,e⟩:=h.ok I.hok
  exact⟨its,r,⟨_,n,e,rfl,rfl,rfl⟩,z⟩
 ·refine⟨its.toList,r,⟨o,n,I.kIn a o hk,hc,hd,by simpa using hs⟩,?_⟩
  have e:=r.length
  simp only[yfa] at e
  lia
theorem Inv.tuple(I:Inv X pins σ H s)(h:SqT X.K H a xs):∃its:List Value,bp xs its∧IsTup s.heap a its.toArray∧xs.length≤sizeLine:=by
 rcases h with h | ⟨o,its,n,hk,hc,hs,hz,r⟩
 ·obtain⟨z,its,r,p⟩:=h.ok I.hok
  exact⟨its,r,p,z⟩
 ·refine⟨its.toList,r,⟨o,I.kIn a o hk,hc,n,by simpa using hs⟩,?_⟩
  have e:=r.length
  simp only[yfa] at e
  lia
theorem Inv.list_inj(I:Inv X pins σ H s)(h:SqL X.K H a xs)(h':SqL X.K H a ys):xs=ys:=by
 obtain⟨its,r,⟨o,n,e,_,_,d⟩,_⟩:=I.list h
 obtain⟨its',r',⟨o',n',e',_,_,d'⟩,_⟩:=I.list h'
 rw[e] at e'; cases e'
 rw[d] at d'
 injection d' with d1 _
 have:its=its':=by simpa using congrArg Array.toList d1
 subst this
 exact r.inj r'
theorem Inv.tuple_inj(I:Inv X pins σ H s)(h:SqT X.K H a xs)(h':SqT X.K H a ys):xs=ys:=by
 obtain⟨its,r,⟨o,e,_,n,d⟩,_⟩:=I.tuple h
 obtain⟨its',r',⟨o',e',_,n',d'⟩,_⟩:=I.tuple h'
 rw[e] at e'; cases e'
 rw[d] at d'
 injection d' with d1 _
 have:its=its':=by simpa using congrArg Array.toList d1
 subst this
 exact r.inj r'
end
noncomputable abbrev Cx.wish(X:Cx)(E:Value→Shared→Prop):Cx:={ X with xe:=E }
noncomputable abbrev Cx.nox(X:Cx):Cx:=X.wish fun _ _=>False
theorem Cx.Ok.wish{X:Cx}(ok:X.Ok)(E:Value→Shared→Prop):(X.wish E).Ok :=
 ⟨ok.mod,ok.kind,ok.glob,ok.blt,ok.above,ok.inj,ok.has,ok.cab,ok.hd,ok.frames,ok.stk,ok.exf,ok.bs,ok.bsz,ok.noex,ok.exfs,ok.funs,ok.frf⟩
theorem Cx.Ok.unwish{X:Cx}{E:Value→Shared→Prop}(ok:(X.wish E).Ok):X.Ok :=
 ⟨ok.mod,ok.kind,ok.glob,ok.blt,ok.above,ok.inj,ok.has,ok.cab,ok.hd,ok.frames,ok.stk,ok.exf,ok.bs,ok.bsz,ok.noex,ok.exfs,ok.funs,ok.frf⟩
section
variable{X:Cx}{pins:List (Addr×Obj)}{σ:St}{H:Hp}{s:Shared}{E:Value→Shared→Prop}
theorem Inv.wish(I:Inv X pins σ H s)(E:Value→Shared→Prop):Inv (X.wish E) pins σ H s:=⟨I.ok.wish E,I.os,I.bare,I.base,I.loc,I.cell,I.free,I.freeC,I.pin,I.hok,I.len⟩
theorem Inv.unwish(I:Inv (X.wish E) pins σ H s):Inv X pins σ H s:=⟨I.ok.unwish,I.os,I.bare,I.base,I.loc,I.cell,I.free,I.freeC,I.pin,I.hok,I.len⟩
theorem SP.unwish{D:dk}{f:Flow}{s':Shared}(h:SP (X.wish E) pins D f s'):SP X pins D f s':=by
 cases f with
 | next=>obtain⟨σ',H',I,q⟩:=h;exact⟨σ',H',I.unwish,q⟩
 | brk=>obtain⟨σ',H',I,q⟩:=h;exact⟨σ',H',I.unwish,q⟩
 | cont=>obtain⟨σ',H',I,q⟩:=h;exact⟨σ',H',I.unwish,q⟩
 | ret u=>obtain⟨v,σ',H',I,r,q⟩:=h;exact⟨v,σ',H',I.unwish,r,q⟩
theorem PSs.nox{st:List Stmt}{t:TS}(h:PSs X.nox st t):PSs X st t:=fun pins s σ H D I hw =>
 wpAny_mono (h pins s σ H D (I.wish _) hw) (fun _ _ q=>q.unwish) fun _ _ z=>False.elim z
end
section
variable{X:Cx}{st:Stmt}{rest:List Stmt}{t u:TS}{e:Expr}{te:TE}{pos:Pos}
noncomputable def ww:TS:=fun D σ H=>D.nx σ H
noncomputable def zk(t u:TS):TS:=fun D σ H=>t { D with nx:=u D } σ H
theorem aN:PSs X [] ww:=fun _ _ σ H _ I h=>wpAny_execs_nil ⟨σ,H,I,h⟩
theorem aj(h1:PS X st t)(h2:PSs X rest u):PSs X (st::rest) (zk t u):=by
 intro pins s σ H D I h
 refine wpAny_execs_cons (thn (h1 pins s σ H { D with nx:=u D } I h) fun f s1 q=>?_)
 cases f with
 | next =>
  obtain⟨σ',H',I',q⟩:=q
  exact h2 pins s1 σ' H' D I' q
 | ret v=>exact q
 | brk=>exact q
 | cont=>exact q
theorem ak(h1:PS X st t):PSs X [st] t:=by
 intro pins s σ H D I h
 refine wpAny_execs_cons (thn (h1 pins s σ H D I h) fun f s1 q=>?_)
 cases f with
 | next=>exact wpAny_execs_nil q
 | ret v=>exact q
 | brk=>exact q
 | cont=>exact q
theorem Inv.quiet{pins:List (Addr×Obj)}{σ:St}{H:Hp}{s:Shared}(I:Inv X pins σ H s):interactive X.env=false:=by simp[interactive,I.ok.kind]
noncomputable def wF(te:TE):TS:=fun D σ H=>te σ H fun _ H1=>D.nx σ H1
theorem bJ(he:PE X e te)(hs:swapsWith e none pos.line X.env=pure false:=by rfl):PS X (.Expr e pos) (wF te):=by
 intro pins s σ H D I h
 refine wpAny_Expr_any (thn (he pins s σ H _ I h) fun v s1 z1_=>?_) I.quiet hs
 obtain⟨x,H1,I1,r1,q1⟩:=z1_
 exact⟨σ,H1,I1,q1⟩
noncomputable def Cd(te:TE):TS:=fun D σ H=>te σ H D.rt
theorem aB(he:PE X e te):PS X (.Return (some e) pos) (Cd te):=by
 intro pins s σ H D I h
 refine wpAny_Return_some (thn (he pins s σ H _ I h) fun v s1 z2_=>?_)
 obtain⟨x,H1,I1,r1,q1⟩:=z2_
 exact⟨x,σ,H1,I1,r1,q1⟩
noncomputable def BY:TS:=fun D _ H=>D.rt .non H
noncomputable def uY(c:TT)(t u:TS):TS:=fun D σ H=>c σ H fun b H1=>if b=true then t D σ H1 else u D σ H1
theorem bb{c:Expr}{a b:List Stmt}{tc:TT}(hc:PT X c tc)(ha:PSs X a t)(hb:PSs X b u):PS X (.If c a b pos) (uY tc t u):=by
 intro pins s σ H D I h
 refine wpAny_If (thn (hc pins s σ H _ I h) fun d s1 zz_=>?_)
 obtain⟨H1,I1,q1⟩:=zz_
 cases d with
 | true=>exact ha pins s1 σ H1 D I1 q1
 | false=>exact hb pins s1 σ H1 D I1 q1
noncomputable def Aq:TS:=fun _ _ _=>False
theorem fT:PS X st Aq:=fun _ _ _ _ _ _ h=>h.elim
end
noncomputable abbrev TG:=V→St→Hp→(St→Hp→Prop)→Prop
noncomputable abbrev TGs:=List V→St→Hp→(St→Hp→Prop)→Prop
noncomputable def PG(X:Cx)(target:Expr)(t:TG):Prop :=
 ∀(pins:List (Addr×Obj)) (s:Shared) (σ:St) (H:Hp) (v:V) (u:Value) (Q:St→Hp→Prop),Inv X pins σ H s→bu v u→t v σ H Q →
  wpAny (model X.prog X.w) X.A (assign target X.env u) (fun _ s'=>∃σ' H',Inv X pins σ' H' s'∧Q σ' H') X.xe s
noncomputable def PGs(X:Cx)(ts:List Expr)(t:TGs):Prop :=
 ∀(pins:List (Addr×Obj)) (s:Shared) (σ:St) (H:Hp) (vs:List V) (us:List Value) (Q:St→Hp→Prop),Inv X pins σ H s→bp vs us→t vs σ H Q →
  wpAny (model X.prog X.w) X.A (assignInOrder ((assignEach ts X.env).map (·.2)) us) (fun _ s'=>∃σ' H',Inv X pins σ' H' s'∧Q σ' H') X.xe s
noncomputable abbrev FJ:=V→V→V→Hp→(Hp→Prop)→Prop
section
variable{X:Cx}{pos:Pos}
noncomputable def oJ(i:Nat):TG:=fun v σ H Q=>Q (σ.set i (some v)) H
theorem am{i:Nat}{x:Str}(hN:X.N.Nodup)(hi:X.N[i]? = some x)(hx:Loc X.env.scope x)(hf:X.fn x=true∨X.env.scope.names.lookup x=some .local:=by first | exact .inl rfl | exact .inr rfl | assumption):PG X (.Name x pos) (oJ i):=by
 intro pins s σ H v u Q I r h
 exact wpAny_assign_Name (lx I hN hi hx r (fun s' I'=>⟨_,H,I',h⟩) hf)
noncomputable def Cq:TGs:=fun vs σ H Q=>vs=[]∧Q σ H
noncomputable def wk(t:TG)(u:TGs):TGs:=fun vs σ H Q=>∃v r,vs=v::r∧t v σ H fun σ' H'=>u r σ' H' Q
theorem bt:PGs X [] Cq:=by
 intro pins s σ H vs us Q I r h
 obtain⟨e,h⟩:=h
 subst e
 cases r
 exact assignInOrder_nil ⟨σ,H,I,h⟩
theorem aA{e:Expr}{es:List Expr}{t:TG}{u:TGs}(h1:PG X e t)(h2:PGs X es u)
  (hs:(assignEach (e::es) X.env).map (·.2)=assign e X.env::(assignEach es X.env).map (·.2):=by rfl):PGs X (e::es) (wk t u):=by
 intro pins s σ H vs us Q I r h
 obtain⟨v,vr,e1,h⟩:=h
 subst e1
 cases r with
 | cons r rr =>
  rw[hs]
  refine assignInOrder_cons (thn (h1 pins s σ H _ _ _ I r h) fun _ s1 zz_=>?_)
  obtain⟨σ1,H1,I1,q1⟩:=zz_
  exact h2 pins s1 σ1 H1 _ _ Q I1 rr q1
noncomputable def uy(K:PySem.W.Frag)(n:Nat)(t:TGs):TG:=fun v σ H Q=>∃a xs,v=.ref a∧SqT K H a xs∧xs.length=n∧t xs σ H Q
theorem bR{es:List Expr}{k:Nat}{t:TGs}{n:Nat}(hc:X.calm=true)(h:PGs X es t)
  (hn:(assignEach es X.env).length=n:=by rfl) (hst:(assignEach es X.env).findIdx? (·.1)=none:=by rfl):PG X (.Tuple es k pos) (uy X.K n t):=by
 intro pins s σ H v u Q I r hw
 obtain⟨a,xs,e1,hq,hl,hw⟩:=hw
 subst e1
 cases r
 obtain⟨its,rv,ht,hz⟩:=I.tuple hq
 refine assign_Tuple_tuple (I.ok.hd hc) ht (by simp[hn,← hl,rv.length]) hst fun h' hx=>?_
 have I1:Inv X pins σ H { s with heap:=h' }:=I.kept (t':=s.toks) fun b o e=>hx b o (yF (Heap.lt_size e)) e
 exact h pins _ σ H xs _ Q I1 (by simpa using rv) hw
noncomputable def EM(to ti:TE)(t:FJ):TG:=fun v σ H Q=>to σ H fun o H1=>ti σ H1 fun i H2=>t o i v H2 fun H3=>Q σ H3
noncomputable def uQ(te:TE)(g:TG):TS:=fun D σ H=>te σ H fun x H1=>g x σ H1 D.nx
theorem i8{tg e:Expr}{te:TE}{g:TG}(he:PE X e te)(hg:PG X tg g)(hs:swapsWithSole [tg] e pos.line X.env=pure false:=by rfl)(hw:swappedStores [tg] e X.env=pure none:=by rfl)
  (h1:(assignEach [tg] X.env).map (·.2)=[assign tg X.env]:=by rfl):PS X (.Assign [tg] e pos) (uQ te g):=by
 intro pins s σ H D I h
 refine wpAny_Assign_stores (thn (he pins s σ H _ I h) fun v s1 zz_=>?_) hs hw
 obtain⟨x,H1,I1,r1,q1⟩:=zz_
 rw[h1]
 exact thn (hg pins s1 σ H1 x v _ I1 r1 q1) fun _ s2 q=>q
theorem aD{i:Nat}{x:Str}{e:Expr}{te:TE}{pos':Pos}(hN:X.N.Nodup)(hi:X.N[i]? = some x)(hx:Loc X.env.scope x)(he:PE X e te)(hs:swapsWith e (some (.Name x pos')) pos.line X.env=pure false:=by rfl)(hf:X.fn x=true∨X.env.scope.names.lookup x=some .local:=by first | exact .inl rfl | exact .inr rfl | assumption) :
  PS X (.Assign [.Name x pos'] e pos) (uQ te (oJ i)):=by
 intro pins s σ H D I h
 refine wpAny_Assign_Name (thn (he pins s σ H _ I h) fun v s1 zz_=>?_) hs
 obtain⟨y,H1,I1,r1,q1⟩:=zz_
 exact lx I1 hN hi hx r1 (fun s2 I2=>⟨_,H1,I2,q1⟩) hf
end
section
variable{X:Cx}{pos:Pos}
noncomputable def kz(c:TT)(tb:TS):TS:=fun D σ H=>∃W:Nat→St→Hp→Prop,(∃m,W m σ H)∧∀m σ H,W m σ H →
 c σ H fun b H1=>if b=true then ∃N:St→Hp→Prop,(∀σ' H',N σ' H'→∃m',m'<m∧W m' σ' H')∧tb { D with nx:=N,ct:=N,bk:=D.nx } σ H1 else D.nx σ H1
theorem lM{c:Expr}{body:List Stmt}{tc:TT}{tb:TS}(hp:PassesOwn (model X.prog X.w) X.A X.env X.xe)(hc:PT X c tc)(hb:PSs X body tb):PS X (.While c body [] pos) (kz tc tb):=by
 intro pins s σ H D I h
 obtain⟨W,⟨m0,w0⟩,turn⟩:=h
 refine wpAny_While (codeAny_whileLoop (fun n s'=>∃σ' H',Inv X pins σ' H' s'∧W n σ' H') ?_ m0 ⟨σ,H,I,w0⟩)
 rintro n s1 ⟨σ1,H1,I1,w1⟩
 refine wpAny_passesOwn hp (thn (hc pins s1 σ1 H1 _ I1 (turn n σ1 H1 w1)) fun b s2 zz_=>?_)
 obtain⟨H2,I2,q2⟩:=zz_
 cases b with
 | true =>
  obtain⟨N,hN,q2⟩:=q2
  rw[if_pos rfl]
  refine wpAny_passesOwn hp (thn (hb pins s2 σ1 H2 _ I2 q2) fun f s3 q3=>?_)
  cases f with
  | next =>
   obtain⟨σ3,H3,I3,n3⟩:=q3
   obtain⟨m',hm,w3⟩:=hN σ3 H3 n3
   exact⟨m',hm,σ3,H3,I3,w3⟩
  | cont =>
   obtain⟨σ3,H3,I3,n3⟩:=q3
   obtain⟨m',hm,w3⟩:=hN σ3 H3 n3
   exact⟨m',hm,σ3,H3,I3,w3⟩
  | brk=>exact q3
  | ret v=>exact q3
 | false =>
  rw[if_neg yl]
  exact wpAny_execs_nil ⟨σ1,H2,I2,q2⟩
end
structure It where
 go:Nat→Hp→Prop
 yld:Nat→Hp→V→Hp→Prop
 stop:Nat→Hp→Prop
noncomputable def gw(X:Cx)(pins:List (Addr×Obj))(H:Hp)(b:Addr):Prop :=
 H b=none∧b≠X.env.locals∧b∉X.fs∧(b∈X.ex∨X.s₀.heap.objs.size≤b)∧(∀x c,X.env.cells.lookup x=some c→c≠b)∧∀p∈X.pn++pins,p.1≠b
theorem Inv.fpOk{X:Cx}{pins:List (Addr×Obj)}{σ:St}{H H':Hp}{s:Shared}{b:Addr}(I:Inv X pins σ H s)(hb:s.heap.objs.size≤b)(hn:H' b=none):gw X pins H' b:=by
 refine⟨hn,yAb (yB I.lt hb),I.nofs hb,.inr (yu I.sz hb),fun x c e z=>?_,fun p hp z=>?_⟩
 ·obtain⟨v,q⟩:=I.cell x c e
  exact absurd (yB q.lt (by rw[z];exact hb)) (yZ _)
 ·exact absurd (yB (Heap.lt_size (I.pin p hp).1) (by rw[z];exact hb)) (yZ _)
structure ly(P:Program)(w:World)(K:PySem.W.Frag)(tg:Expr)(J:It)(fp:List Addr)(it:Addr)(tn:Nat→Heap→Prop):Prop where
 mem:it∈fp
 obj:∀i h,tn i h→∀b∈fp,∃o,h.get? b=some o∧∀v,o.data≠.cell v
 keep:∀i h h',tn i h→(∀b∈fp,∀o,h.get? b=some o→h'.get? b=some o)→tn i h'
 item:∀(X:Cx),X.prog=P→X.w=w→X.K=K→X.calm=true→∀(i:Nat) (pins:List (Addr×Obj)) (s:Shared) (σ:St) (H:Hp) (E:Value→Shared→Prop),Inv X pins σ H s→(∀b∈fp,gw X pins H b)→tn i s.heap→J.go i H →
  wpAny (model P w) X.A (pyNext (.ref it)) (fun r s1=>∃u,r=some u ∧
   wpAny (model P w) X.A (letOwnedTupleGo tg (.ref it) u) (fun _ s2=>∃x H',Inv X pins σ H' s2∧bu x u∧J.yld i H x H'∧tn (i+1) s2.heap∧∀b∈fp,H' b=none) E s1) E s
 done:∀(X:Cx),X.prog=P→X.w=w→X.K=K→X.calm=true→∀(i:Nat) (pins:List (Addr×Obj)) (s:Shared) (σ:St) (H:Hp) (E:Value→Shared→Prop),Inv X pins σ H s→(∀b∈fp,gw X pins H b)→tn i s.heap→J.stop i H →
  wpAny (model P w) X.A (pyNext (.ref it)) (fun r s1=>r=none∧Inv X pins σ H s1) E s
 self:∀(A:Around) (i:Nat) (s:Shared) (Q:Value→Shared→Prop) (E:Value→Shared→Prop),tn i s.heap→Q (.ref it) s→wpAny (model P w) A (pyIter (.ref it)) Q E s
noncomputable abbrev TI:=St→Hp→(It→Hp→Prop)→Prop
noncomputable def PIE(X:Cx)(pins:List (Addr×Obj))(σ:St)(tg:Expr)(R:It→Hp→Prop)(itv:Value)(s2:Shared):Prop :=
 ∃(it:Addr) (fp:List Addr) (tn:Nat→Heap→Prop) (J:It) (H':Hp),itv=.ref it∧Inv X pins σ H' s2∧ly X.prog X.w X.K tg J fp it tn∧tn 0 s2.heap∧(∀b∈fp,gw X pins H' b)∧R J H'
noncomputable def PI(X:Cx)(tg iter:Expr)(wi:TI):Prop :=
 ∀(pins:List (Addr×Obj)) (s:Shared) (σ:St) (H:Hp) (R:It→Hp→Prop),Inv X pins σ H s→wi σ H R →
  wpAny (model X.prog X.w) X.A (eval iter X.env) (fun v s1=>wpAny (model X.prog X.w) X.A (pyIter v) (PIE X pins σ tg R) X.xe s1) X.xe s
theorem lD{M:Model}{A:Around}{E:Value→Shared→Prop}{s:Shared}{tg:Expr}{it:Addr}{u:Value}{o:Obj}{n:String}{vs:Array Value}{Q:Unit→Shared→Prop}(ho:s.heap.get? it=some o)(hc:o.cls=.type n)(hd:o.data=.fields vs)
    (hn:["enumerate","zip","dict_itemiterator","dict_reverseitemiterator","odict_iterator","itertools.zip_longest","itertools.pairwise"].contains n=false) (hQ:Q () s):wpAny M A (letOwnedTupleGo tg (.ref it) u) Q E s:=by
  unfold letOwnedTupleGo
  cases tg <;> first
    | exact wpAny_pure hQ
    | (cases u <;> first
        | exact wpAny_pure hQ
        | (refine wpAny_bind (wpAny_load ho ?_)
           rw[hc,hd]
           show wpAny M A (if (["enumerate","zip","dict_itemiterator","dict_reverseitemiterator","odict_iterator","itertools.zip_longest","itertools.pairwise"].contains n&&vs[0]? == some (rawInt _))=true then _ else _) Q E s
           rw[if_neg (by intro h;rw[hn,yka] at h;cases h)]
           exact wpAny_pure hQ))
noncomputable def Itl(K:PySem.W.Frag)(a:Addr):It :=
 ⟨fun i H=>∃xs x,SqL K H a xs∧xs[i]? = some x,fun i H x H'=>H'=H∧∀xs,SqL K H a xs→xs[i]? = some x,fun i H=>∃xs,SqL K H a xs∧xs.length≤i⟩
noncomputable def Itt(K:PySem.W.Frag)(a:Addr):It :=
 ⟨fun i H=>∃xs x,SqT K H a xs∧xs[i]? = some x,fun i H x H'=>H'=H∧∀xs,SqT K H a xs→xs[i]? = some x,fun i H=>∃xs,SqT K H a xs∧xs.length≤i⟩
noncomputable def Itr(lo:Int)(n:Nat):It:=⟨fun i _=>i<n,fun i H x H'=>H'=H∧x=.int (lo+i),fun i _=>n≤i⟩
theorem pz{P:Program}{w:World}{K:PySem.W.Frag}{tg:Expr}(a it:Addr):ly P w K tg (Itl K a) [it] it (fun i h=>h.IsListIter it a i) where
 mem:=by simp
 obj:=fun i h st b hb=>by
  have e:b=it:=by simpa using hb
  subst e
  obtain⟨o,e,c,d⟩:=st
  exact⟨o,e,fun v z=>by rw[d] at z;cases z⟩
 keep:=fun i h h' st k=>st.at fun o e=>k it (by simp) o e
 item:=by
  intro X hP hw hK hc i pins s σ H E I hf st hg
  subst hP hw hK
  obtain⟨xs,x,hq,hx⟩:=hg
  obtain⟨its,rv,p,hz⟩:=I.list hq
  obtain⟨u,hu,ru⟩:=rv.get hx
  obtain⟨f0,f1,f2,f3,f4,f5⟩:=hf it (by simp)
  refine wpAny_pyNext_list_item st p.isList (x:=u) (by simpa using hu) fun h' st' sb=>?_
  have I1:Inv X pins σ H { s with heap:=h' }:=I.turned (t':=s.toks) (fun b o hb e=>(sb.2 b hb).trans e) f0 f1 f3 f4 f5
  obtain⟨o,e,c,d⟩:=id st'
  exact⟨u,rfl,lD (s:={ s with heap:=h' }) e c d (by decide) ⟨x,H,I1,ru,⟨rfl,fun ys hy=>by rw[I.list_inj hy hq];exact hx⟩,st',fun b hb=>(hf b hb).1⟩⟩
 done:=by
  intro X hP hw hK hc i pins s σ H E I hf st hg
  subst hP hw hK
  obtain⟨xs,hq,hx⟩:=hg
  obtain⟨its,rv,p,hz⟩:=I.list hq
  obtain⟨f0,f1,f2,f3,f4,f5⟩:=hf it (by simp)
  have hl:=rv.length
  exact wpAny_pyNext_list_end (I.ok.hd hc) st p.isList (by simp;lia) fun h' eb=>⟨rfl,I.turned (t':=s.toks) (fun b o hb e=>eb b o hb e) f0 f1 f3 f4 f5⟩
 self:=fun _ _ _ _ _ st h=>wpAny_pyIter_listiter st h
theorem nE{P:Program}{w:World}{K:PySem.W.Frag}{tg:Expr}(a it:Addr):ly P w K tg (Itt K a) [it] it (fun i h=>h.IsTupleIter it a i) where
 mem:=by simp
 obj:=fun i h st b hb=>by
  have e:b=it:=by simpa using hb
  subst e
  obtain⟨o,e,c,d⟩:=st
  exact⟨o,e,fun v z=>by rw[d] at z;cases z⟩
 keep:=fun i h h' st k=>st.at fun o e=>k it (by simp) o e
 item:=by
  intro X hP hw hK hc i pins s σ H E I hf st hg
  subst hP hw hK
  obtain⟨xs,x,hq,hx⟩:=hg
  obtain⟨its,rv,p,hz⟩:=I.tuple hq
  obtain⟨u,hu,ru⟩:=rv.get hx
  obtain⟨f0,f1,f2,f3,f4,f5⟩:=hf it (by simp)
  refine wpAny_pyNext_tuple_item st (show s.heap.IsTuple a its.toArray from p) (x:=u) (by simpa using hu) fun h' st' sb=>?_
  have I1:Inv X pins σ H { s with heap:=h' }:=I.turned (t':=s.toks) (fun b o hb e=>(sb.2 b hb).trans e) f0 f1 f3 f4 f5
  obtain⟨o,e,c,d⟩:=id st'
  exact⟨u,rfl,lD (s:={ s with heap:=h' }) e c d (by decide) ⟨x,H,I1,ru,⟨rfl,fun ys hy=>by rw[I.tuple_inj hy hq];exact hx⟩,st',fun b hb=>(hf b hb).1⟩⟩
 done:=by
  intro X hP hw hK hc i pins s σ H E I hf st hg
  subst hP hw hK
  obtain⟨xs,hq,hx⟩:=hg
  obtain⟨its,rv,p,hz⟩:=I.tuple hq
  obtain⟨f0,f1,f2,f3,f4,f5⟩:=hf it (by simp)
  have hl:=rv.length
  exact wpAny_pyNext_tuple_end (I.ok.hd hc) st (show s.heap.IsTuple a its.toArray from p) (by simp;lia) fun h' eb=>⟨rfl,I.turned (t':=s.toks) (fun b o hb e=>eb b o hb e) f0 f1 f3 f4 f5⟩
 self:=fun _ _ _ _ _ st h=>wpAny_pyIter_tupleiter st h
theorem nn{P:Program}{w:World}{K:PySem.W.Frag}{tg:Expr}(it:Addr)(lo:Int)(n:Nat):ly P w K tg (Itr lo n) [it] it (fun i h=>IsRangeIter h it (lo+(i:Nat)*1) ((n:Int)-(i:Nat)) 1) where
 mem:=by simp
 obj:=fun i h st b hb=>by
  have e:b=it:=by simpa using hb
  subst e
  exact⟨_,st,fun v z=>by
   have z':Data.fields _=Data.cell v:=z
   cases z'⟩
 keep:=fun i h h' st k=>k it (by simp) _ st
 item:=by
  intro X hP hw hK hc i pins s σ H E I hf st hg
  subst hP hw hK
  obtain⟨f0,f1,f2,f3,f4,f5⟩:=hf it (by simp)
  have W:=Walks.range (prog:=X.prog) (w:=X.w) (I.ok.hd hc) it lo 1 n
  refine W.item i s _ _ hg st fun v h' tk hv st' kk=>?_
  obtain⟨t,rfl⟩:=hv
  have I1:Inv X pins σ H { s with heap:=h',toks:=tk }:=I.turned (fun b o hb e=>kk b o (by simpa using hb) e) f0 f1 f3 f4 f5
  refine⟨_,rfl,lD (s:={ s with heap:=h',toks:=tk }) (n := "range_iterator") st' rfl rfl (by decide) ⟨.int (lo+i),H,I1,⟨t,?_⟩,⟨rfl,rfl⟩,st',fun b hb=>(hf b hb).1⟩⟩
  rw[yEb]
 done:=by
  intro X hP hw hK hc i pins s σ H E I hf st hg
  subst hP hw hK
  obtain⟨f0,f1,f2,f3,f4,f5⟩:=hf it (by simp)
  exact wpAny_pyNext_range_end (I.ok.hd hc) st (by have:n≤i:=hg;lia) fun h' eb=>⟨rfl,I.turned (t':=s.toks) (fun b o hb e=>eb b o hb e) f0 f1 f3 f4 f5⟩
 self:=fun _ _ _ _ _ st h=>wpAny_pyIter_rangeiter st h
end L2
namespace L2
open PySem PySem.Spec PyProof.Rows
section
variable{X:Cx}{tg:Expr}
noncomputable def wu(K:PySem.W.Frag)(tl:TE):TI:=fun σ H R=>tl σ H fun x H1=>∃a,x=.ref a∧(∃xs,SqL K H1 a xs)∧R (Itl K a) H1
noncomputable def CC(K:PySem.W.Frag)(tl:TE):TI:=fun σ H R=>tl σ H fun x H1=>∃a,x=.ref a∧(∃xs,SqT K H1 a xs)∧R (Itt K a) H1
theorem bf{l:Expr}{tl:TE}(hl:PE X l tl):PI X tg l (wu X.K tl):=by
 intro pins s σ H R I h
 refine thn (hl pins s σ H _ I h) fun v s1 zz_=>?_
 obtain⟨x,H1,I1,r1,q1⟩:=zz_
 obtain⟨a,e,⟨xs,hq⟩,q⟩:=q1
 subst e
 cases r1
 obtain⟨its,rv,p,hz⟩:=I1.list hq
 refine wpAny_pyIter_list p.isList ?_
 refine⟨s1.heap.objs.size,[s1.heap.objs.size],_,_,H1,rfl,I1.kept (t':=s1.toks) fun b o e=>Heap.get?_push_of_some _ e,pz a _,⟨_,Heap.get?_push_size _ rfl,rfl,rfl⟩,fun b hb=>?_,q⟩
 have e:b=s1.heap.objs.size:=by simpa using hb
 subst e
 exact I1.fpOk (yd _) (I1.hok.fresh (yd _))
theorem k8{l:Expr}{tl:TE}(hl:PE X l tl):PI X tg l (CC X.K tl):=by
 intro pins s σ H R I h
 refine thn (hl pins s σ H _ I h) fun v s1 zz_=>?_
 obtain⟨x,H1,I1,r1,q1⟩:=zz_
 obtain⟨a,e,⟨xs,hq⟩,q⟩:=q1
 subst e
 cases r1
 obtain⟨its,rv,p,hz⟩:=I1.tuple hq
 refine wpAny_pyIter_tuple (show s1.heap.IsTuple a its.toArray from p) ?_
 refine⟨s1.heap.objs.size,[s1.heap.objs.size],_,_,H1,rfl,I1.kept (t':=s1.toks) fun b o e=>Heap.get?_push_of_some _ e,nE a _,⟨_,Heap.get?_push_size _ rfl,rfl,rfl⟩,fun b hb=>?_,q⟩
 have e:b=s1.heap.objs.size:=by simpa using hb
 subst e
 exact I1.fpOk (yd _) (I1.hok.fresh (yd _))
theorem rZ{pins:List (Addr×Obj)}{σ:St}{H:Hp}{s:Shared}{R:It→Hp→Prop}{E:Value→Shared→Prop}{lo hi:Int}{t u v:Tok}{tk:Nat}(I:Inv X pins σ H s)(h1:-(2 ^ 62)≤lo)(h2:lo<2 ^ 62)(h3:-(2 ^ 62)≤hi)(h4:hi<2 ^ 62)
  (q:R (Itr lo (hi-lo).toNat) H):wpAny (model X.prog X.w) X.A (pyIter (.ref s.heap.objs.size)) (PIE X pins σ tg R) E { s with heap:=s.heap.push { cls:=.type "range",data:=.fields #[.int lo t,.int hi u,.int 1 v] },toks:=tk }:=by
 refine wpAny_pyIter_range (IsRange.new ..) (small_one h1 h2 h3 h4) ?_
 have I1:Inv X pins σ H { s with heap:=s.heap.push { cls:=.type "range",data:=.fields #[.int lo t,.int hi u,.int 1 v] },toks:=tk }:=I.kept fun b o e=>Heap.get?_push_of_some _ e
 refine⟨(s.heap.push { cls:=.type "range",data:=.fields #[.int lo t,.int hi u,.int 1 v] }).objs.size,[(s.heap.push { cls:=.type "range",data:=.fields #[.int lo t,.int hi u,.int 1 v] }).objs.size],_,_,H,rfl,
  I1.kept (t':=tk) fun b o e=>Heap.get?_push_of_some _ e,nn _ lo (hi-lo).toNat,?_,fun b hb=>?_,q⟩
 ·have e1:lo+((0:Nat):Int)*1=lo:=by simp
  have e2:(((hi-lo).toNat:Nat):Int)-((0:Nat):Int)=Builtin.Range.rangeSize lo hi 1:=by rw[rangeSize_one];split <;> lia
  show IsRangeIter _ _ (lo+((0:Nat):Int)*1) ((((hi-lo).toNat:Nat):Int)-((0:Nat):Int)) 1
  rw[e1,e2]
  exact Heap.get?_push_size _ rfl
 ·have e:b=(s.heap.push { cls:=.type "range",data:=.fields #[.int lo t,.int hi u,.int 1 v] }).objs.size:=by simpa using hb
  subst e
  exact I1.fpOk (yd _) (I1.hok.fresh (yd _))
noncomputable def wb(ta:TA):TI:=fun σ H R=>ta σ H fun vs H1=>∃j:Int,vs=[.int j]∧-(2 ^ 62)≤j∧j<2 ^ 62∧R (Itr 0 j.toNat) H1
noncomputable def BF(ta:TA):TI:=fun σ H R=>ta σ H fun vs H1=>∃i j:Int,vs=[.int i,.int j]∧(-(2 ^ 62)≤i∧i<2 ^ 62∧-(2 ^ 62)≤j∧j<2 ^ 62)∧R (Itr i (j-i).toNat) H1
theorem aZ{a:Expr}{ta:TA}{p pos:Pos}(hg:Gl X "range")(hm:X.mg "range" = none)(ha:PA X [a] ta)(hs:starEach [a] X.env=[(false,eval a X.env)]:=by rfl):PI X tg (.Call (.Name "range" p) [a] [] pos) (wb ta):=by
 intro pins s σ H R I h
 refine Call_ (eF I hg hm boot_range (PyProof.Rows.callWith_type1 (thn (ha pos pins s σ H _ I h) fun us s1 zz_=>?_) hs rfl))
 obtain⟨vs,H1,I1,r1,q1⟩:=zz_
 obtain⟨j,e,q1,q2,q⟩:=q1
 subst e
 cases r1 with
 | cons r rr =>
  cases rr
  obtain⟨t,rfl⟩:=r
  exact call_range_1 (rZ I1 (by lia) (by lia) q1 q2 (by simpa using q))
noncomputable def tX(wi:TI)(g:TG)(tb:TS):TS:=fun D σ H=>wi σ H fun J H1=>∃W:Nat→Nat→St→Hp→Prop,(∃m,W 0 m σ H1)∧∀i m σ H,W i m σ H →
 (J.stop i H∧D.nx σ H)∨(J.go i H∧∃N:St→Hp→Prop,(∀σ' H',N σ' H'→∃m',m'<m∧W (i+1) m' σ' H')∧∀x H',J.yld i H x H'→g x σ H' fun σ2 H2=>tb { D with nx:=N,ct:=N,bk:=D.nx } σ2 H2)
noncomputable def iL(fp:List Addr)(h:Heap):List (Addr×Obj):=fp.filterMap fun b=>(h.get? b).map fun o=>(b,o)
theorem dF{fp:List Addr}{h:Heap}{b:Addr}{o:Obj}(hb:b∈fp)(e:h.get? b=some o):(b,o)∈iL fp h:=List.mem_filterMap.mpr ⟨b,hb,by rw[e];rfl⟩
theorem pN{fp:List Addr}{h:Heap}{p:Addr×Obj}(hp:p∈iL fp h):p.1∈fp∧h.get? p.1=some p.2:=by
 obtain⟨b,hb,e⟩:=List.mem_filterMap.mp hp
 cases q:h.get? b with
 | none=>rw[q] at e;cases e
 | some o =>
  rw[q] at e
  have e':(b,o)=p:=yt e
  subst e'
  exact⟨hb,q⟩
theorem Inv.pinned{pins:List (Addr×Obj)}{σ:St}{H:Hp}{s:Shared}{fp:List Addr}(I:Inv X pins σ H s)(hf:∀b∈fp,gw X pins H b)(ho:∀b∈fp,∃o,s.heap.get? b=some o∧∀v,o.data≠.cell v):Inv X (pins++iL fp s.heap) σ H s :=
 I.pins_of fun p hp=>(List.mem_append.mp hp).elim (fun z=>I.pin p (yH _ z)) fun z=>by
  obtain⟨hb,e⟩:=pN z
  obtain⟨f0,f1,f2,_⟩:=hf p.1 hb
  obtain⟨o,e',d⟩:=ho p.1 hb
  rw[e] at e'; cases e'
  exact⟨e,f0,f1,f2,d⟩
theorem Inv.unpinned{pins pl:List (Addr×Obj)}{σ:St}{H:Hp}{s:Shared}(I:Inv X (pins++pl) σ H s):Inv X pins σ H s:=I.pins_of fun p hp=>I.pin p (yH _ (yU _ hp))
theorem bi{iter:Expr}{body:List Stmt}{wi:TI}{g:TG}{tb:TS}{pos:Pos}(hp:PassesOwn (model X.prog X.w) X.A X.env X.xe)(hc:X.calm=true)(hi:PI X tg iter wi)(hg:PG X tg g)(hb:PSs X body tb)
  (hs:∀x,foldedSetIterable iter X.env x=pure x:=by intro _;rfl):PS X (.For tg iter body [] pos) (tX wi g tb):=by
 intro pins s σ H D I h
 refine wpAny_For (thn (hi pins s σ H _ I h) fun v s1 h1=>thn h1 fun itv s2 h2=>?_) hs
 obtain⟨it,fp,tn,J,H2,e,I2,T,st2,f2,W,⟨m0,w0⟩,turn⟩:=h2
 subst e
 have stat:∀{H':Hp},(∀b∈fp,H' b=none)→∀b∈fp,gw X pins H' b:=fun hn b hb=>⟨hn b hb,(f2 b hb).2⟩
 refine codeAny_forLoop_any (fun n s'=>∃i σ' H',Inv X pins σ' H' s'∧tn i s'.heap∧(∀b∈fp,H' b=none)∧W i n σ' H') ?_ m0 ⟨0,σ,H2,I2,st2,fun b hb=>(f2 b hb).1,w0⟩
 rintro n s3 ⟨i,σ3,H3,I3,st3,fr3,w3⟩
 rcases turn i n σ3 H3 w3 with ⟨stop,qn⟩ | ⟨go,N,hN,step⟩
 ·refine wpAny_passesOwn hp (thn (T.done X rfl rfl rfl hc i pins s3 σ3 H3 X.xe I3 (stat fr3) st3 stop) fun r s4 zz_=>?_)
  obtain⟨hr,I4⟩:=zz_
  subst hr
  exact wpAny_execs_nil ⟨σ3,H3,I4,qn⟩
 ·refine wpAny_passesOwn hp (thn (T.item X rfl rfl rfl hc i pins s3 σ3 H3 X.xe I3 (stat fr3) st3 go) fun r s4 zz_=>?_)
  obtain⟨u,hr,h4⟩:=zz_
  subst hr
  refine wpAny_passesOwn hp (thn h4 fun _ s5 zz_=>?_)
  obtain⟨x,H5,I5,r5,y5,st5,fr5⟩:=zz_
  have I5':=I5.pinned (stat fr5) (T.obj _ _ st5)
  refine wpAny_passesOwn hp (thn (hg _ s5 σ3 H5 x u _ I5' r5 (step x H5 y5)) fun _ s6 zz_=>?_)
  obtain⟨σ6,H6,I6,q6⟩:=zz_
  refine wpAny_passesOwn hp (thn (hb _ s6 σ6 H6 _ I6 q6) fun f s7 q7=>?_)
  have again:∀{σ7:St} {H7:Hp},Inv X (pins++iL fp s5.heap) σ7 H7 s7→N σ7 H7→∃m,m<n∧∃i σ' H',Inv X pins σ' H' s7∧tn i s7.heap∧(∀b∈fp,H' b=none)∧W i m σ' H':=fun {σ7 H7} I7 n7=>by
   obtain⟨m',hm,w7⟩:=hN σ7 H7 n7
   refine⟨m',hm,i+1,σ7,H7,I7.unpinned,T.keep _ _ _ st5 fun b hb o e=>(I7.pin (b,o) (yH _ (yH _ (dF hb e)))).1,fun b hb=>?_,w7⟩
   obtain⟨o,e,d⟩:=T.obj _ _ st5 b hb
   exact(I7.pin (b,o) (yH _ (yH _ (dF hb e)))).2.1
  cases f with
  | next=>obtain⟨σ7,H7,I7,n7⟩:=q7;exact again I7 n7
  | cont=>obtain⟨σ7,H7,I7,n7⟩:=q7;exact again I7 n7
  | brk=>obtain⟨σ7,H7,I7,q7⟩:=q7;exact⟨σ7,H7,I7.unpinned,q7⟩
  | ret v=>obtain⟨x7,σ7,H7,I7,r7,q7⟩:=q7;exact⟨x7,σ7,H7,I7.unpinned,r7,q7⟩
end
end L2
namespace L2
open PySem PySem.Spec PyProof.Rows
noncomputable abbrev R2:=V→V→Hp→VK→Prop
noncomputable def OpR(X:Cx)(f:Value→Value→Sem Value)(r:R2):Prop :=
 ∀(pins:List (Addr×Obj)) (s:Shared) (σ:St) (H:Hp) (x y:V) (v u:Value) (Q:VK),Inv X pins σ H s→bu x v→bu y u→r x y H Q →
  wpAny (model X.prog X.w) X.A (f v u) (EP X pins σ Q) X.xe s
noncomputable def UnR(X:Cx)(f:Value→Sem Value)(r:V→Hp→VK→Prop):Prop :=
 ∀(pins:List (Addr×Obj)) (s:Shared) (σ:St) (H:Hp) (x:V) (v:Value) (Q:VK),Inv X pins σ H s→bu x v→r x H Q →
  wpAny (model X.prog X.w) X.A (f v) (EP X pins σ Q) X.xe s
noncomputable def cu(X:Cx)(f:Value)(r:List V→Hp→VK→Prop):Prop :=
 ∀(pins:List (Addr×Obj)) (s:Shared) (σ:St) (H:Hp) (xs:List V) (us:List Value) (Q:VK),Inv X pins σ H s→bp xs us→r xs H Q →
  wpAny (model X.prog X.w) X.A (call f us) (EP X pins σ Q) X.xe s
noncomputable def tOp(r:R2)(ta tb:TE):TE:=fun σ H Q=>ta σ H fun x H1=>tb σ H1 fun y H2=>r x y H2 Q
noncomputable def tUn(r:V→Hp→VK→Prop)(ta:TE):TE:=fun σ H Q=>ta σ H fun x H1=>r x H1 Q
noncomputable def rI(C:Int→Int→Prop)(g:Int→Int→V):R2:=fun x y H Q=>∃i j,x=.int i∧y=.int j∧C i j∧Q (g i j) H
noncomputable def rI0(g:Int→Int→V):R2:=fun x y H Q=>∃i j,x=.int i∧y=.int j∧Q (g i j) H
noncomputable def rU(g:Int→V):V→Hp→VK→Prop:=fun x H Q=>∃i,x=.int i∧Q (g i) H
section
variable{X:Cx}{a b c:Expr}{ta tb tc:TE}{pos:Pos}
theorem Bb(ha:PE X a ta)(hb:PE X b tb){pins:List (Addr×Obj)}{s:Shared}{σ:St}{H:Hp}{R:V→V→Hp→Prop}(I:Inv X pins σ H s)
  (h:ta σ H fun x H1=>tb σ H1 fun y H2=>R x y H2) {Q:Value→Shared→Prop} {f:Value→Value→Sem Value}
  (hf:∀v u s2 x y H2,Inv X pins σ H2 s2→bu x v→bu y u→R x y H2→wpAny (model X.prog X.w) X.A (f v u) Q X.xe s2) :
  wpAny (model X.prog X.w) X.A (eval a X.env) (fun v s₁=>wpAny (model X.prog X.w) X.A (eval b X.env) (fun u s₂=>wpAny (model X.prog X.w) X.A (f v u) Q X.xe s₂) X.xe s₁) X.xe s:=by
 refine thn (ha pins s σ H _ I h) fun v s1 zz_=>?_
 obtain⟨x,H1,I1,r1,q1⟩:=zz_
 refine thn (hb pins s1 σ H1 _ I1 q1) fun u s2 zz_=>?_
 obtain⟨y,H2,I2,r2,q2⟩:=zz_
 exact hf v u s2 x y H2 I2 r1 r2 q2
theorem av{op:Operator}{r:R2}(ho:OpR X (binaryOp op) r)(ha:PE X a ta)(hb:PE X b tb):PE X (.BinOp a op b pos) (tOp r ta tb):=by
 intro pins s σ H Q I h
 exact wpAny_BinOp (Bb ha hb I h fun v u s2 x y H2 I2 rx ry q=>ho pins s2 σ H2 x y v u Q I2 rx ry q)
theorem cG{op:UnaryOp}{r:V→Hp→VK→Prop}(ho:UnR X (unaryOp op) r)(ha:PE X a ta):PE X (.UnaryOp op a pos) (tUn r ta):=by
 intro pins s σ H Q I h
 refine UnaryOp_ (thn (ha pins s σ H _ I h) fun v s1 z4_=>?_)
 obtain⟨x,H1,I1,r1,q1⟩:=z4_
 exact ho pins s1 σ H1 x v Q I1 r1 q1
theorem opI{f:Value→Value→Sem Value}{C:Int→Int→Prop}{g:Int→Int→Int}
  (rule:∀(i j:Int) (t u:Tok) (s:Shared) (Q:Value→Shared→Prop) (E:Value→Shared→Prop),C i j→Q (.int (g i j) s.toks) { s with toks:=s.toks+1 }→wpAny (model X.prog X.w) X.A (f (.int i t) (.int j u)) Q E s) :
  OpR X f (rI C fun i j=>.int (g i j)):=by
 intro pins s σ H x y v u Q I rx ry h
 obtain⟨i,j,rfl,rfl,hc,q⟩:=h
 obtain⟨t,rfl⟩:=rx
 obtain⟨t',rfl⟩:=ry
 exact rule i j t t' s _ _ hc ⟨.int (g i j),H,I.tok _,⟨_,rfl⟩,q⟩
theorem xo{f:Value→Value→Sem Value}{g:Int→Int→Int}
  (rule:∀(i j:Int) (t u:Tok) (s:Shared) (Q:Value→Shared→Prop) (E:Value→Shared→Prop),Q (.int (g i j) s.toks) { s with toks:=s.toks+1 }→wpAny (model X.prog X.w) X.A (f (.int i t) (.int j u)) Q E s) :
  OpR X f (rI0 fun i j=>.int (g i j)):=by
 intro pins s σ H x y v u Q I rx ry h
 obtain⟨i,j,rfl,rfl,q⟩:=h
 obtain⟨t,rfl⟩:=rx
 obtain⟨t',rfl⟩:=ry
 exact rule i j t t' s _ _ ⟨.int (g i j),H,I.tok _,⟨_,rfl⟩,q⟩
theorem ve{f:Value→Value→Sem Value}{g:Int→Int→Bool}
  (rule:∀(i j:Int) (t u:Tok) (s:Shared) (Q:Value→Shared→Prop) (E:Value→Shared→Prop),Q (.bool (g i j)) s→wpAny (model X.prog X.w) X.A (f (.int i t) (.int j u)) Q E s) :
  OpR X f (rI0 fun i j=>.bl (g i j)):=by
 intro pins s σ H x y v u Q I rx ry h
 obtain⟨i,j,rfl,rfl,q⟩:=h
 obtain⟨t,rfl⟩:=rx
 obtain⟨t',rfl⟩:=ry
 exact rule i j t t' s _ _ ⟨.bl (g i j),H,I,rfl,q⟩
noncomputable def ET(i j:Int):Prop:=0<j∧j<1073741824
noncomputable def zI(i j:Int):Prop:=0≤j∧j≤1000000∧i.natAbs<2 ^ 64
noncomputable def vz(i j:Int):Prop:=(-(2 ^ 64)<i∧i<2 ^ 64)∨(-(2 ^ 64)<j∧j<2 ^ 64)
theorem vz.ok{i j:Int}(h:vz i j):IntMulOk i j:=by
 rcases h with ⟨h1,h2⟩ | ⟨h1,h2⟩
 ·exact .of_left (intBits_le_64 h1 h2)
 ·exact .of_right (intBits_le_64 h1 h2)
theorem nj(k:Nat):(0:Int)≤2 ^ k:=by
 rw[two_pow_cast]
 exact yY _
theorem aR:OpR X (binaryOp .Add) (rI0 fun i j=>.int (i+j)):=xo fun _ _ _ _ _ _ _ q=>add_int q
theorem b4:OpR X (binaryOp .Sub) (rI0 fun i j=>.int (i-j)):=xo fun _ _ _ _ _ _ _ q=>sub_int q
theorem cj:OpR X (binaryOp .Mult) (rI vz fun i j=>.int (i*j)):=opI fun _ _ _ _ _ _ _ hc q=>mul_int q hc.ok
theorem fW:OpR X (binaryOp .FloorDiv) (rI ET fun i j=>.int (i / j)):=opI fun i j _ _ _ _ _ hc q=>by
 have h1:(0:Int)<j:=hc.1
 have h2:j<1073741824:=hc.2
 exact floordiv_int (by lia) (by rw[yYa i (by lia)];exact q) (.inl (PyProof.noPylong_small (by omega)))
theorem bo:OpR X (binaryOp .Mod) (rI (fun _ j=>0<j) fun i j=>.int (i % j)):=opI fun i j _ _ _ _ _ hc q=>by
 have h1:(0:Int)<j:=hc
 exact mod_int' (by omega) (by rw[Int.fmod_eq_emod_of_nonneg i (by lia)];exact q)
theorem dj:OpR X (binaryOp .Pow) (rI zI fun i j=>.int (i ^ j.toNat)):=opI fun _ _ _ _ _ _ _ hc q=>pow_int_small hc.1 hc.2.1 hc.2.2 q
theorem je:OpR X (binaryOp .LShift) (rI zI fun i j=>.int (i*2 ^ j.toNat)):=opI fun _ _ _ _ _ _ _ hc q=>lshift_int_small hc.1 hc.2.1 hc.2.2 q
theorem rS:OpR X (binaryOp .RShift) (rI (fun _ j=>0≤j) fun i j=>.int (i / 2 ^ j.toNat)):=opI fun i j _ _ _ _ _ hc q =>
 rshift_int hc (by rw[yYa i (nj _)];exact q)
theorem gP:OpR X (binaryOp .BitAnd) (rI0 fun i j=>.int (Builtin.bitAnd i j)):=xo fun _ _ _ _ _ _ _ q=>and_int q
theorem unI{f:Value→Sem Value}{g:Int→Int}
  (rule:∀(i:Int) (t:Tok) (s:Shared) (Q:Value→Shared→Prop) (E:Value→Shared→Prop),Q (.int (g i) s.toks) { s with toks:=s.toks+1 }→wpAny (model X.prog X.w) X.A (f (.int i t)) Q E s) :
  UnR X f (rU fun i=>.int (g i)):=by
 intro pins s σ H x v Q I rx h
 obtain⟨i,rfl,q⟩:=h
 obtain⟨t,rfl⟩:=rx
 exact rule i t s _ _ ⟨.int (g i),H,I.tok _,⟨_,rfl⟩,q⟩
theorem b7:UnR X (unaryOp .USub) (rU fun i=>.int (-i)):=unI fun _ _ _ _ _ q=>neg_int q
end
noncomputable def sh:V→V→Bool
 | .non,.non=>true | .non,.int _=>true | .int _,.non=>true | .non,.bl _=>true | .bl _,.non=>true | .non,.str _=>true | .str _,.non=>true
 | .int _,.int _=>true | .bl _,.bl _=>true | .str _,.str _=>true | .byt _,.byt _=>true
 | .int _,.str _=>true | .str _,.int _=>true | .bl _,.str _=>true | .str _,.bl _=>true
 | _,_=>false
noncomputable def rEq:R2:=fun x y H Q=>sh x y=true∧Q (.bl (decide (x=y))) H
noncomputable def rNe:R2:=fun x y H Q=>sh x y=true∧Q (.bl (!decide (x=y))) H
theorem oz{i j:Int}:decide (V.int i=V.int j)=(i == j):=by
 rw[yV]
 simp
theorem rj{i j:Bool}:decide (V.bl i=V.bl j)=(i == j):=by
 rw[yV]
 simp
theorem o3{i j:Str}:decide (V.str i=V.str j)=(i == j):=by
 rw[yV]
 simp
theorem oM{i j:Array UInt8}:decide (V.byt i=V.byt j)=(i.toList == j.toList):=by
 rw[yV]
 cases i
 cases j
 simp
section
variable{X:Cx}{a b c:Expr}{ta tb tc:TE}{pos:Pos}
theorem bz{pins:List (Addr×Obj)}{σ:St}{H:Hp}{s:Shared}{Q:VK}{k k':Bool}(I:Inv X pins σ H s)(q:Q (.bl k) H)(e:k=k'):EP X pins σ Q (.bool k') s:=by
 subst e
 exact⟨.bl k,H,I,rfl,q⟩
theorem bH:OpR X (compareOp .Eq) rEq:=by
 intro pins s σ H x y v u Q I rx ry h
 obtain⟨hs,q⟩:=h
 cases x with
 | non =>
  cases rx
  cases y with
  | non=>cases ry;exact PySem.EqNone.eq_none_none (bz I q (by simp))
  | bl j=>cases ry;exact PySem.EqNone.eq_none_bool (bz I q (by simp))
  | int j=>obtain⟨t',rfl⟩:=ry;exact PySem.EqNone.eq_none_int (bz I q (by simp))
  | str j=>obtain⟨t',rfl⟩:=ry;exact PySem.EqNone.eq_none_str (bz I q (by simp))
  | _=>exact absurd (show false=true from hs) yl
 | bl i =>
  cases rx
  cases y with
  | non=>cases ry;exact PySem.EqNone.eq_bool_none (bz I q (by simp))
  | bl j=>cases ry;exact eq_bool (bz I q rj)
  | str j=>obtain⟨t',rfl⟩:=ry;exact PySem.EqMixed.eq_bool_str (bz I q (by simp))
  | _=>exact absurd (show false=true from hs) yl
 | int i =>
  obtain⟨t,rfl⟩:=rx
  cases y with
  | non=>cases ry;exact PySem.EqNone.eq_int_none (bz I q (by simp))
  | int j=>obtain⟨t',rfl⟩:=ry;exact eq_int (bz I q oz)
  | str j=>obtain⟨t',rfl⟩:=ry;exact PySem.EqMixed.eq_int_str (bz I q (by simp))
  | _=>exact absurd (show false=true from hs) yl
 | str i =>
  obtain⟨t,rfl⟩:=rx
  cases y with
  | non=>cases ry;exact PySem.EqNone.eq_str_none (bz I q (by simp))
  | bl j=>cases ry;exact PySem.EqMixed.eq_str_bool (bz I q (by simp))
  | int j=>obtain⟨t',rfl⟩:=ry;exact PySem.EqMixed.eq_str_int (bz I q (by simp))
  | str j=>obtain⟨t',rfl⟩:=ry;exact eq_str (bz I q o3)
  | _=>exact absurd (show false=true from hs) yl
 | byt i =>
  obtain⟨t,rfl⟩:=rx
  cases y with
  | byt j=>obtain⟨t',rfl⟩:=ry;exact PySem.W.eq_bytes (bz I q oM)
  | _=>exact absurd (show false=true from hs) yl
 | _=>cases y <;> exact absurd (show false=true from hs) yl
theorem mJ:OpR X (compareOp .NotEq) rNe:=by
 intro pins s σ H x y v u Q I rx ry h
 obtain⟨hs,q⟩:=h
 cases x with
 | non =>
  cases rx
  cases y with
  | non=>cases ry;exact PySem.EqNone.ne_none_none (bz I q (by simp))
  | bl j=>cases ry;exact PySem.EqNone.ne_none_bool (bz I q (by simp))
  | int j=>obtain⟨t',rfl⟩:=ry;exact PySem.EqNone.ne_none_int (bz I q (by simp))
  | str j=>obtain⟨t',rfl⟩:=ry;exact PySem.EqNone.ne_none_str (bz I q (by simp))
  | _=>exact absurd (show false=true from hs) yl
 | bl i =>
  cases rx
  cases y with
  | non=>cases ry;exact PySem.EqNone.ne_bool_none (bz I q (by simp))
  | bl j=>cases ry;exact ne_bool (bz I q (congrArg not rj))
  | str j=>obtain⟨t',rfl⟩:=ry;exact PySem.EqMixed.ne_bool_str (bz I q (by simp))
  | _=>exact absurd (show false=true from hs) yl
 | int i =>
  obtain⟨t,rfl⟩:=rx
  cases y with
  | non=>cases ry;exact PySem.EqNone.ne_int_none (bz I q (by simp))
  | int j=>obtain⟨t',rfl⟩:=ry;exact ne_int (bz I q (congrArg not oz))
  | str j=>obtain⟨t',rfl⟩:=ry;exact PySem.EqMixed.ne_int_str (bz I q (by simp))
  | _=>exact absurd (show false=true from hs) yl
 | str i =>
  obtain⟨t,rfl⟩:=rx
  cases y with
  | non=>cases ry;exact PySem.EqNone.ne_str_none (bz I q (by simp))
  | bl j=>cases ry;exact PySem.EqMixed.ne_str_bool (bz I q (by simp))
  | int j=>obtain⟨t',rfl⟩:=ry;exact PySem.EqMixed.ne_str_int (bz I q (by simp))
  | str j=>obtain⟨t',rfl⟩:=ry;exact ne_str (bz I q (congrArg not o3))
  | _=>exact absurd (show false=true from hs) yl
 | byt i =>
  obtain⟨t,rfl⟩:=rx
  cases y with
  | byt j=>obtain⟨t',rfl⟩:=ry;exact PySem.W.ne_bytes (bz I q (congrArg not oM))
  | _=>exact absurd (show false=true from hs) yl
 | _=>cases y <;> exact absurd (show false=true from hs) yl
theorem cV:OpR X (compareOp .Lt) (rI0 fun i j=>.bl (decide (i<j))):=ve fun _ _ _ _ _ _ _ q=>lt_int q
theorem b9:OpR X (compareOp .LtE) (rI0 fun i j=>.bl (decide (i≤j))):=ve fun _ _ _ _ _ _ _ q=>le_int q
theorem eQ:OpR X (compareOp .Gt) (rI0 fun i j=>.bl (decide (j<i))):=ve fun _ _ _ _ _ _ _ q=>gt_int q
theorem o5:OpR X (compareOp .GtE) (rI0 fun i j=>.bl (decide (j≤i))):=ve fun _ _ _ _ _ _ _ q=>ge_int q
theorem nZ:OpR X (compareOp .Is) (fun x y H Q=>y=.non∧Q (.bl (decide (x=.non))) H):=by
 intro pins s σ H x y v u Q I rx ry h
 obtain⟨rfl,q⟩:=h
 cases ry
 refine is_none_gen (bz I q ?_)
 cases x <;> first
  | (cases rx;rfl)
  | (obtain⟨t,rfl⟩:=rx;rfl)
theorem aH(b:Expr){op:CmpOp}(h:op≠.In:=by decide)(h2:op≠.NotIn:=by decide):behindInMarks op b=false:=by
 have e1:(op == CmpOp.In)=false:=by cases op <;> first | rfl | exact absurd rfl h
 have e2:(op == CmpOp.NotIn)=false:=by cases op <;> first | rfl | exact absurd rfl h2
 cases b <;> simp[behindInMarks,e1,e2]
theorem b8{op:CmpOp}{r:R2}(ho:OpR X (compareOp op) r)(ha:PE X a ta)(hb:PE X b tb)(hm:behindInMarks op b=false):PE X (.Compare a [op] [b] pos) (tOp r ta tb):=by
 intro pins s σ H Q I h
 exact wpAny_Compare1 (Bb ha hb I h fun v u s2 x y H2 I2 rx ry q=>ho pins s2 σ H2 x y v u Q I2 rx ry q) hm
noncomputable def rV(t:TE):TT:=fun σ H Q=>t σ H fun x H'=>∃k,x=.bl k∧Q k H'
theorem aG{op:CmpOp}{r:R2}(ho:OpR X (compareOp op) r)(ha:PE X a ta)(hb:PE X b tb)(hm:behindInMarks op b=false):PT X (.Compare a [op] [b] pos) (rV (tOp r ta tb)):=by
 intro pins s σ H Q I h
 refine wpAny_isTrue_Compare1 (thn (ha pins s σ H _ I h) fun v s1 ⟨x,H1,I1,r1,q1⟩=>thn (hb pins s1 σ H1 _ I1 q1) fun u s2 ⟨y,H2,I2,r2,q2⟩ =>
  thn (ho pins s2 σ H2 x y v u _ I2 r1 r2 q2) fun c s3 ⟨z,H3,I3,r3,k,e,q3⟩=>?_) hm
 subst e
 cases r3
 exact wpAny_truthy_bool ⟨H3,I3,q3⟩
noncomputable def nP(r r':R2)(ta tb tc:TE):TE:=fun σ H Q=>ta σ H fun x H1=>tb σ H1 fun y H2=>r x y H2 fun z H3=>∃k,z=.bl k ∧
 (if k=true then tc σ H3 fun w' H4=>r' y w' H4 Q else Q (.bl false) H3)
theorem bV{op op':CmpOp}{r r':R2}(ho:OpR X (compareOp op) r)(ho':OpR X (compareOp op') r')(ha:PE X a ta)(hb:PE X b tb)(hc:PE X c tc)
  (hm:lastMarks [op,op'] [b,c]=false:=by with_unfolding_all rfl):PE X (.Compare a [op,op'] [b,c] pos) (nP r r' ta tb tc):=by
 intro pins s σ H Q I h
 refine Compare_chain (thn (ha pins s σ H _ I h) fun v s1 ⟨x,H1,I1,r1,q1⟩=>chain_link (thn (hb pins s1 σ H1 _ I1 q1) fun u s2 ⟨y,H2,I2,r2,q2⟩ =>
  thn (ho pins s2 σ H2 x y v u _ I2 r1 r2 q2) fun d s3 ⟨z,H3,I3,r3,k,e,q3⟩=>?_)) hm
 subst e
 cases r3
 refine wpAny_truthy_bool ?_
 cases k with
 | false=>exact ite_ff ⟨.bl false,H3,I3,rfl,q3⟩
 | true=>exact ite_tt (chain_last (thn (hc pins s3 σ H3 _ I3 q3) fun w' s4 ⟨z',H4,I4,r4,q4⟩=>ho' pins s4 σ H4 y z' u w' Q I4 r2 r4 q4))
theorem iX{op op':CmpOp}{r r':R2}(ho:OpR X (compareOp op) r)(ho':OpR X (compareOp op') r')(ha:PE X a ta)(hb:PE X b tb)(hc:PE X c tc)
  (hm:lastMarks [op,op'] [b,c]=false:=by with_unfolding_all rfl):PT X (.Compare a [op,op'] [b,c] pos) (rV (nP r r' ta tb tc)):=by
 intro pins s σ H Q I h
 refine isTrue_chain (thn (ha pins s σ H _ I h) fun v s1 ⟨x,H1,I1,r1,q1⟩=>test_link (thn (hb pins s1 σ H1 _ I1 q1) fun u s2 ⟨y,H2,I2,r2,q2⟩ =>
  thn (ho pins s2 σ H2 x y v u _ I2 r1 r2 q2) fun d s3 ⟨z,H3,I3,r3,k,e,q3⟩=>?_)) hm
 subst e
 cases r3
 refine wpAny_truthy_bool ?_
 cases k with
 | false =>
  obtain⟨k',e',q'⟩:=q3
  cases e'
  exact ite_ff ⟨H3,I3,q'⟩
 | true =>
  refine ite_tt (test_last (thn (hc pins s3 σ H3 _ I3 q3) fun w' s4 z5_=>?_))
  obtain⟨z',H4,I4,r4,q4⟩:=z5_
  refine thn (ho' pins s4 σ H4 y z' u w' _ I4 r2 r4 q4) fun d' s5 zz_=>?_
  obtain⟨z2,H5,I5,r5,k2,e2,q5⟩:=zz_
  subst e2
  cases r5
  exact wpAny_truthy_bool ⟨H5,I5,q5⟩
theorem mU:(sizeLine:Nat)<2 ^ 63:=by rw[sizeLine_eq];decide
theorem gK{x:V}{us:List Value}(r:bp [x] us):∃u,us=[u]∧bu x u:=by
 cases r with
 | cons r1 r2=>cases r2;exact⟨_,rfl,r1⟩
theorem ox{x y:V}{us:List Value}(r:bp [x,y] us):∃u w',us=[u,w']∧bu x u∧bu y w':=by
 cases r with
 | cons r1 r2 =>
  cases r2 with
  | cons r3 r4=>cases r4;exact⟨_,_,rfl,r1,r3⟩
theorem cQ(hc:X.calm=true):cu X (.builtin "max") (fun xs H Q=>∃i j,xs=[.int i,.int j]∧Q (.int (if j>i then j else i)) H):=by
 intro pins s σ H xs us Q I r h
 obtain⟨i,j,rfl,q⟩:=h
 obtain⟨u,w',rfl,⟨t,rfl⟩,⟨t',rfl⟩⟩:=ox r
 refine max_two_ints (I.ok.hd hc) fun h' tk k=>⟨_,H,I.kept k,?_,q⟩
 by_cases hj:j>i
 ·rw[if_pos hj,if_pos hj];exact⟨_,rfl⟩
 ·rw[if_neg hj,if_neg hj];exact⟨_,rfl⟩
theorem ph(hc:X.calm=true):cu X (.builtin "min") (fun xs H Q=>∃i j,xs=[.int i,.int j]∧Q (.int (if j<i then j else i)) H):=by
 intro pins s σ H xs us Q I r h
 obtain⟨i,j,rfl,q⟩:=h
 obtain⟨u,w',rfl,⟨t,rfl⟩,⟨t',rfl⟩⟩:=ox r
 refine min_two_ints (I.ok.hd hc) fun h' tk k=>⟨_,H,I.kept k,?_,q⟩
 by_cases hj:j<i
 ·rw[if_pos hj,if_pos hj];exact⟨_,rfl⟩
 ·rw[if_neg hj,if_neg hj];exact⟨_,rfl⟩
end
end L2
namespace L2
open PySem PySem.Spec PyProof.Rows
structure nN(h:Heap)(x dx C:Addr)(mA:Str→Option Value):Prop where
 obj:h.get? x=some (PySem.W.instObj C dx)
 ns:h.Ns1 dx mA
 ne:dx≠x
theorem qe{h:Heap}{dx:Addr}{mA:Str→Option Value}(n:h.Ns1 dx mA):∃od,h.get? dx=some od∧∀name,PySem.W.lookIn name od=some (mA name):=by
 obtain⟨o,es,ep,ho,hd,hk,_,hm⟩:=n
 refine⟨o,ho,fun name=>?_⟩
 have e:=hm name
 unfold nsFind findBy at e
 rw[← Array.find?_toList] at e
 unfold PySem.W.lookIn
 rw[hd]
 dsimp only
 split
 ·rename_i y q
  rw[q] at e
  exact congrArg some e
 ·rename_i q
  rw[q] at e
  have a:es.toList.any (·.refKey)=false:=by
   rw[List.any_eq_false]
   intro y hy
   obtain⟨z,t,hkey⟩:=hk y (Array.mem_toList_iff.mp hy)
   simp[DictEntry.refKey,hkey]
  have a':¬ es.toList.any (·.refKey)=true:=by rw[a];exact yl
  rw[if_neg a']
  exact congrArg some e
theorem nN.look{h:Heap}{x dx C:Addr}{mA:Str→Option Value}(I:nN h x dx C mA):∃od,PySem.W.InstAt h x (PySem.W.instObj C dx) C (some od)∧∀name,PySem.W.lookIn name od=some (mA name) :=
 let ⟨od,ho,hl⟩:=qe I.ns
 ⟨od,⟨I.obj,rfl,rfl,ho⟩,hl⟩
section
variable{prog:Program}{w:World}{A:Around}{E:Value→Shared→Prop}{s:Shared}{K:PySem.W.Frag}{x dx C f:Addr}{mA:Str→Option Value}{name:Str}{v:Value}
theorem tO{expr:Bool}{Q:Value→Shared→Prop}(X:K.In s.heap)(I:nN s.heap x dx C mA)(hg:PySem.W.plainGet K C name=true)(hh:PySem.W.hasDictIn K C=true)
  (ha:PySem.W.findIn K (.ref C) name=some none) (hv:mA name=some v) (hv':PySem.W.handedIn v=true) (h:Q v { s with toks:=s.toks+1 }) :
  wpAny (model prog w) A (getAttr (.ref x) name expr) Q E s:=by
 obtain⟨od,J,hl⟩:=I.look
 exact PySem.W.get_value X J (PySem.W.plainGet_of hg).1 (PySem.W.findObj_own hh ha rfl (by rw[hl,hv])) hv' h
theorem qA{pl:Sem Bool}{Q:Value×List Value→Shared→Prop}(X:K.In s.heap)(I:nN s.heap x dx C mA)(hg:PySem.W.plainGet K C name=true)
  (hf:PySem.W.findIn K (.ref C) name=some (some (.ref f))) (ht:PySem.W.isFn K (.ref f)=true) (hv:mA name=none) (h:Q (.ref f,[.ref x]) s) :
  wpAny (model prog w) A (getMethod (.ref x) name pl) Q E s:=by
 obtain⟨od,J,hl⟩:=I.look
 exact PySem.W.method_fn X J (PySem.W.plainGet_of hg).1 (PySem.W.plainGet_of hg).2 hf (beq_iff_eq.mp ht) (by show(PySem.W.lookIn name od).map (·.isSome)=some false;rw[hl,hv];rfl) h
theorem uX{ns:List Str}{Q:Unit→Shared→Prop}(X:K.In s.heap)(I:nN s.heap x dx C mA)
  (hs:PySem.W.findIn K (.ref C) "__setattr__" = some (some (.builtin "object.__setattr__"))) (hp:PySem.W.plainOver K C=true) (ht:PySem.W.takerIn K C name=some none) (hh:PySem.W.hasDictIn K C=true)
  (hw:PySem.Within mA ns) (hsz:ns.length≤sizeLine)
  (h:∀h',nN h' x dx C (fun y=>if y=name then some v else mA y)→Heap.SameBut dx s.heap h'→Q () { s with heap:=h',toks:=s.toks+2 }) :
  wpAny (model prog w) A (setAttr (.ref x) name v) Q E s:=by
 obtain⟨od,J,hl⟩:=I.look
 refine PySem.W.set_plain X J hs (PySem.W.osa_open (s:={ s with toks:=s.toks+1 }) (r:=none) X J hp ht fun b=>?_)
 obtain⟨cd,hc,hd'⟩:=PySem.W.any_some hh
 have hx:s.heap.get? x=some ⟨.ref C,some dx,.plain,#[]⟩:=I.obj
 refine wpAny_bind (wpAny_pure (wpAny_bind (wpAny_bind (wpAny_loadPart hx (wpAny_bind (PySem.W.Looks.here (s:={ s with toks:=s.toks+1 }) (PySem.W.looks_clsIn X hc) ?_))))))
 rw[hd']
 refine wpAny_pure (a:=some dx) (wpAny_bind (wpAny_pure (wpAny_bind ?_)))
 refine wpAny_nsSet1 (s:={ s with toks:=s.toks+1 }) I.ns fun h' hn2 hs2=>?_
 obtain⟨oD,esD,epD,hoD,hdD,hcD⟩:=hn2.count (PySem.Within.cons name v hw)
 refine wpAny_bind (wpAny_lookBehind hoD (by rw[hdD];exact pastItsLine_dict (yu hcD (by rw[yD];lia))) ?_)
 exact wpAny_pure (h _ ⟨(hs2.2 _ (yta I.ne)).trans I.obj,hn2,I.ne⟩ hs2)
theorem sX{R:Result→Shared→Prop}{vs:List Value}{kw:List (Str×Value)}(X:K.In s.heap)(hm:PySem.W.makesIn K C=true)
  (hi:PySem.W.findIn K (.ref C) "__init__" = some (some (.ref f))) (hf:PySem.W.typeIn K (.ref f)=some (.type "function"))
  (h:codeAny (model prog w) (A.under (.builtin "type.__call__" ⟨.ref C::vs,kw⟩)) (.call (.ref f) ⟨.ref (s.heap.objs.size+1)::vs,kw⟩) (PySem.W.InitBack (s.heap.objs.size+1) R)
   { s with heap:=(s.heap.push PySem.W.emptyDict).push (PySem.W.instObj C s.heap.objs.size) }) :
  codeAny (model prog w) A (.call (.ref C) ⟨vs,kw⟩) R s:=by
 obtain⟨hh,g,d,t,os⟩:=s
 exact PySem.W.make_core (PySem.W.makes_of X hm) (PySem.W.looks_findIn X hi) (fun self=>PySem.W.bind_fn X self hf) (.inl rfl) h
end
noncomputable def bA(f:Str)(v:V):List (Str×V)→List (Str×V)
 | []=>[(f,v)]
 | (g,x)::r=>if g=f then (g,v)::r else (g,x)::bA f v r
theorem ar(f g:Str)(v:V):∀fs:List (Str×V),(bA f v fs).lookup g=if g=f then some v else fs.lookup g
 | []=>by
  show List.lookup g [(f,v)]=_
  by_cases h:g=f
  ·have hb:(g == f)=true:=beq_iff_eq.mpr h
   simp only[List.lookup,hb,if_pos h]
  ·have hb:(g == f)=false:=beq_eq_false_iff_ne.mpr h
   simp only[List.lookup,hb,if_neg h]
 | (k,x)::r=>by
  have ih:=ar f g v r
  rw[show bA f v ((k,x)::r)=(if k=f then (k,v)::r else (k,x)::bA f v r) from rfl]
  by_cases hk:k=f
  ·rw[if_pos hk]
   by_cases h:g=k
   ·have hb:(g == k)=true:=beq_iff_eq.mpr h
    simp only[List.lookup,hb,if_pos (h.trans hk)]
   ·have hb:(g == k)=false:=beq_eq_false_iff_ne.mpr h
    simp only[List.lookup,hb,if_neg (fun e:g=f=>h (e.trans hk.symm))]
  ·rw[if_neg hk]
   by_cases h:g=k
   ·have hb:(g == k)=true:=beq_iff_eq.mpr h
    simp only[List.lookup,hb,if_neg (fun e:g=f=>hk (h.symm.trans e))]
   ·have hb:(g == k)=false:=beq_eq_false_iff_ne.mpr h
    simp only[List.lookup,hb]
    exact ih
theorem gO(f:Str)(v:V):∀fs:List (Str×V),f∈(bA f v fs).map (·.1)∧∀g,g∈fs.map (·.1)→g∈(bA f v fs).map (·.1)
 | []=>⟨by simp[bA],fun g h=>by simp at h⟩
 | (k,x)::r=>by
  obtain⟨i1,i2⟩:=gO f v r
  rw[show bA f v ((k,x)::r)=(if k=f then (k,v)::r else (k,x)::bA f v r) from rfl]
  by_cases hk:k=f
  ·rw[if_pos hk]
   subst hk
   exact⟨by simp,fun g h=>by simpa using h⟩
  ·rw[if_neg hk]
   refine⟨?_,fun g h=>?_⟩
   ·rw[yi]
    exact ym _ i1
   ·rw[yi] at h ⊢
    rcases List.mem_cons.mp h with e | e
    ·exact List.mem_cons.mpr (.inl e)
    ·exact ym _ (i2 g e)
theorem aS(f:Str)(v:V):∀fs:List (Str×V),(bA f v fs).length≤fs.length+1
 | []=>by simp[bA]
 | (k,x)::r=>by
  have ih:=aS f v r
  rw[show bA f v ((k,x)::r)=(if k=f then (k,v)::r else (k,x)::bA f v r) from rfl]
  by_cases hk:k=f
  ·rw[if_pos hk,yD,yD];lia
  ·rw[if_neg hk,yD,yD];lia
theorem dR.some_of{v:V}{o:Option Value}(r:dR (some v) o):∃u,o=some u∧bu v u:=by
 cases o with
 | none=>exact(show False from r).elim
 | some u=>exact⟨u,rfl,r⟩
theorem dR.none_of{o:Option Value}(r:dR none o):o=none:=by
 cases o with
 | none=>rfl
 | some u=>exact(show False from r).elim
theorem pA{v:V}{u:Value}(r:bu v u):PySem.W.handedIn u=true:=by
 cases v with
 | non=>cases (show u=Value.none from r);rfl
 | bl b=>cases (show u=Value.bool b from r);rfl
 | int i=>obtain⟨t,e⟩:=(show ∃t,u=Value.int i t from r);cases e;rfl
 | str x=>obtain⟨t,e⟩:=(show ∃t,u=Value.str x t from r);cases e;rfl
 | byt b=>obtain⟨t,e⟩:=(show ∃t,u=Value.bytes b t from r);cases e;rfl
 | flt b=>obtain⟨t,e⟩:=(show ∃t,u=Value.float b t from r);cases e;rfl
 | ref a=>cases (show u=Value.ref a from r);rfl
 | ty n=>cases (show u=Value.type n from r);rfl
section
variable{P:Program}{w:World}{H H':Hp}{h h':Heap}{a C dx:Addr}{fs fs':List (Str×V)}
theorem iG(hok:HOk P w H h)(e:H a=some (.ins C dx fs)):∃mA,nN h a dx C mA∧(∀f,dR (fs.lookup f) (mA f))∧PySem.Within mA (fs.map (·.1))∧fs.length≤1000∧H dx=some (.own a):=by
 obtain⟨d,z,ne,ob,mA,n,r,q⟩:=(show bF P w H h a (.ins C dx fs) from hok a _ e)
 exact⟨mA,⟨ob,n,ne⟩,r,q,z,d⟩
end
structure Cls(K:PySem.W.Frag)(C:Addr):Prop where
 pg:PySem.W.plainGet K C Str.empty=true
 hd:PySem.W.hasDictIn K C=true
 po:PySem.W.plainOver K C=true
 sa:PySem.W.findIn K (.ref C) "__setattr__" = some (some (.builtin "object.__setattr__"))
theorem Cls.get{K:PySem.W.Frag}{C:Addr}(c:Cls K C)(f:Str):PySem.W.plainGet K C f=true:=c.pg
noncomputable def bw(K:PySem.W.Frag)(C:Addr)(f:Str):Prop:=PySem.W.findIn K (.ref C) f=some none
theorem bw.taker{K:PySem.W.Frag}{C:Addr}{f:Str}(n:bw K C f):PySem.W.takerIn K C f=some none:=by
 unfold PySem.W.takerIn
 rw[show PySem.W.findIn K (.ref C) f=some none from n]
 rfl
structure cT(K:PySem.W.Frag)(C:Addr)(m:Str)(f:Addr):Prop where
 at_:PySem.W.findIn K (.ref C) m=some (some (.ref f))
 fn:PySem.W.isFn K (.ref f)=true
 kp:PySem.W.keepIn K (.ref f)=true
section
variable{X:Cx}{pins:List (Addr×Obj)}{σ:St}{H:Hp}{s:Shared}{a C dx:Addr}{fs:List (Str×V)}{f:Str}{v:V}{A:Around}{E:Value→Shared→Prop}
theorem nG{b:Bool}{Q:Value→Shared→Prop}(I:Inv X pins σ H s)(e:H a=some (.ins C dx fs))(c:Cls X.K C)(n:bw X.K C f)(l:fs.lookup f=some v)
  (h:∀u s',Inv X pins σ H s'→bu v u→Q u s'):wpAny (model X.prog X.w) A (getAttr (.ref a) f b) Q E s:=by
 obtain⟨mA,O,r,_,_,_⟩:=iG I.hok e
 obtain⟨u,hu,ru⟩:=dR.some_of (v:=v) (o:=mA f) (by rw[← l];exact r f)
 exact tO I.kIn O (c.get f) c.hd n hu (pA ru) (h u _ (I.tok _) ru)
theorem nL{m:Str}{g:Addr}{pl:Sem Bool}{Q:Value×List Value→Shared→Prop}(I:Inv X pins σ H s)(e:H a=some (.ins C dx fs))(c:Cls X.K C)(k:cT X.K C m g)(l:fs.lookup m=none)
  (h:Q (.ref g,[.ref a]) s):wpAny (model X.prog X.w) A (getMethod (.ref a) m pl) Q E s:=by
 obtain⟨mA,O,r,_,_,_⟩:=iG I.hok e
 have hn:mA m=none:=dR.none_of (by rw[← l];exact r m)
 exact qA I.kIn O (c.get m) k.at_ k.fn hn h
theorem nh{y:V}{u:Value}{Q:Unit→Shared→Prop}(I:Inv X pins σ H s)(e:H a=some (.ins C dx fs))(c:Cls X.K C)(n:bw X.K C f)(hl:fs.length<1000)(ry:bu y u)
  (h:∀s',Inv X pins σ (upd H a (.ins C dx (bA f y fs))) s'→Q () s'):wpAny (model X.prog X.w) A (setAttr (.ref a) f u) Q E s:=by
 obtain⟨mA,O,r,wi,_,ho⟩:=iG I.hok e
 have hz:(fs.map (·.1)).length≤sizeLine:=by rw[ya,sizeLine_eq];lia
 refine uX I.kIn O c.sa c.po n.taker c.hd wi hz fun h' O' sb=>h _ ?_
 have hd:∃o,h'.get? dx=some o:=let ⟨o,_,_,e',_⟩:=O'.ns;⟨o,e'⟩
 refine I.write (x:=a) (e:=dx) (by rw[e];exact True.intro) (.inr ho) (fun b q hb z=>(sb.2 b hb).trans z) hd ?_
 refine⟨by rw[au O.ne];exact ho,?_,O.ne,O'.obj,_,O'.ns,fun g=>?_,fun g hg=>?_⟩
 ·have:=aS f y fs;lia
 ·show dR ((bA f y fs).lookup g) (if g=f then some u else mA g)
  rw[ar]
  by_cases q:g=f
  ·rw[if_pos q,if_pos q];exact ry
  ·rw[if_neg q,if_neg q];exact r g
 ·by_cases q:g=f
  ·rw[q];exact(gO f y fs).1
  ·refine(gO f y fs).2 g (wi g fun z=>hg ?_)
   show(if g=f then some u else mA g)=none
   rw[if_neg q];exact z
theorem Inv.made(I:Inv X pins σ H s):Inv X pins σ (upd (upd H s.heap.objs.size (.own (s.heap.objs.size+1))) (s.heap.objs.size+1) (.ins C s.heap.objs.size []))
  { s with heap:=(s.heap.push PySem.W.emptyDict).push (PySem.W.instObj C s.heap.objs.size) }:=by
 have e1:(s.heap.push PySem.W.emptyDict).get? s.heap.objs.size=some PySem.W.emptyDict:=Heap.get?_push_size s.heap rfl
 have e2:((s.heap.push PySem.W.emptyDict).push (PySem.W.instObj C s.heap.objs.size)).get? (s.heap.objs.size+1)=some (PySem.W.instObj C s.heap.objs.size):=by
  have:=Heap.get?_push_size (s.heap.push PySem.W.emptyDict) (o:=PySem.W.instObj C s.heap.objs.size) rfl
  rwa [Heap.size_push] at this
 have e3:(s.heap.push PySem.W.emptyDict).Ns s.heap.objs.size (fun _=>none):=⟨PySem.W.emptyDict,#[],_,e1,rfl,(fun e he=>absurd he (by simp)),fun _=>rfl⟩
 have I1:=I.laid (a:=s.heap.objs.size) (o:=.own (s.heap.objs.size+1)) (h':=s.heap.push PySem.W.emptyDict) (t':=s.toks) (fun b u q=>Heap.get?_push_of_some _ q) (yd _) ⟨_,e1⟩
 refine I1.laid (a:=s.heap.objs.size+1) (o:=.ins C s.heap.objs.size []) (t':=s.toks) (fun b u q=>Heap.get?_push_of_some _ q) (Nat.le_of_eq (Heap.size_push _ _)) ?_
 have ne:s.heap.objs.size≠s.heap.objs.size+1:=yF (yeb _)
 refine⟨by rw[au ne,ae],yq _,ne,e2,fun _=>none,(Heap.Ns1.of_empty e3).at fun o q=>Heap.get?_push_of_some _ q,fun _=>True.intro,fun y hy=>absurd rfl hy⟩
theorem tL{prog:Program}{w:World}{env:Env}{e:Expr}{f:Str}{pos:Pos}{s:Shared}{Q:Value→Shared→Prop}(hb:attributeBase e f env (eval e env)=eval e env)
  (h:wpAny (model prog w) A (eval e env) (fun o s₁=>wpAny (model prog w) A (getAttr o f true) Q E s₁) E s):wpAny (model prog w) A (eval (.Attribute e f pos) env) Q E s :=
 Attribute_any_ h (by rw[arm_eval_Attribute,hb])
end
noncomputable def xk(K:PySem.W.Frag)(ta:TE)(f:Str):TE:=fun σ H Q=>ta σ H fun x H1=>∃a C dx fs v,x=.ref a∧H1 a=some (.ins C dx fs)∧Cls K C∧bw K C f∧fs.lookup f=some v∧Q v H1
noncomputable def Cv(K:PySem.W.Frag)(ta tv:TE)(f:Str):TS:=fun D σ H=>tv σ H fun y H1=>ta σ H1 fun x H2=>∃a C dx fs,x=.ref a∧H2 a=some (.ins C dx fs)∧Cls K C∧bw K C f∧fs.length<1000 ∧
 D.nx σ (upd H2 a (.ins C dx (bA f y fs)))
section
variable{X:Cx}{o e value:Expr}{f:Str}{pos pos' tpos:Pos}{ta tv:TE}
theorem aO(he:PE X e ta)(hb:attributeBase e f X.env (eval e X.env)=eval e X.env):PE X (.Attribute e f pos) (xk X.K ta f):=by
 intro pins s σ H Q I h
 refine tL hb (thn (he pins s σ H _ I h) fun u s1 zz_=>?_)
 obtain⟨x,H1,I1,rx,a,C,dx,fs,v,ex,ea,c,n,l,q⟩:=zz_
 subst ex
 obtain rfl:u=Value.ref a:=rx
 exact nG I1 ea c n l fun u' s2 I2 ru=>⟨v,H1,I2,ru,q⟩
theorem bN(ha:PE X o ta)(hv:PE X value tv)(hs:swapsWith value (some (.Attribute o f pos')) pos.line X.env=pure false):PS X (.Assign [.Attribute o f pos'] value pos) (Cv X.K ta tv f):=by
 intro pins s σ H D I h
 refine plainObj_wpAny_Assign_Attribute (thn (hv pins s σ H _ I h) fun u s1 z7_=>?_) hs
 obtain⟨y,H1,I1,ry,q⟩:=z7_
 refine thn (ha pins s1 σ H1 _ I1 q) fun ov s2 zz_=>?_
 obtain⟨x,H2,I2,rx,a,C,dx,fs,ex,ea,c,n,l,q2⟩:=zz_
 subst ex
 obtain rfl:ov=Value.ref a:=rx
 exact nh I2 ea c n l ry fun s3 I3=>⟨σ,_,I3,q2⟩
end
section
variable{X:Cx}{pins:List (Addr×Obj)}{σ:St}{H:Hp}{s:Shared}{A:Around}{E:Value→Shared→Prop}{Q:Value→Shared→Prop}{c:Value}{b:Bool}
inductive gW(K:PySem.W.Frag)(H:Hp):V→Value→Prop where
 | non:gW K H .non (.type "NoneType")
 | bl (x:Bool):gW K H (.bl x) (.type "bool")
 | int (i:Int):gW K H (.int i) (.type "int")
 | str (x:Str):gW K H (.str x) (.type "str")
 | flt (x:UInt64):gW K H (.flt x) (.type "float")
 | lst {a:Addr} {xs:List V} (e:H a=some (.lst xs)):gW K H (.ref a) (.type "list")
 | frz {a:Addr} {o:Obj} {xs:List V} (e:H a=some (.frz o (.lst xs))):gW K H (.ref a) (.type "list")
 | tup {a:Addr} {xs:List V} (e:H a=some (.tup xs)):gW K H (.ref a) (.type "tuple")
 | dK {a:Addr} {kvs:List (Key×V)} (e:H a=some (.dK kvs)):gW K H (.ref a) (.type "dict")
 | dT {a:Addr} {kvs:List (List Key×V)} (e:H a=some (.dT kvs)):gW K H (.ref a) (.type "dict")
 | ins {a C dx:Addr} {fs:List (Str×V)} (e:H a=some (.ins C dx fs)) (cl:Cls K C) (ha:PySem.W.findIn K (.ref C) "__class__" = some (some (.builtin "object.__class__")))
   (hn:PySem.W.specialIn K (.builtin "object.__class__") "__get__" = some (some (.builtin "getset_descriptor.__get__"))) (htk:PySem.W.takesIn K (.builtin "object.__class__")=some true)
   (hm:PySem.W.mroIn K C (.type "object")=some true):gW K H (.ref a) (.ref C)
theorem pW{x:V}{u t:Value}(I:Inv X pins σ H s)(rx:bu x u)(ty:gW X.K H x t)(e:PySem.W.kitOne X.K t c=some b)(h:∀tk,Q (.bool b) { s with toks:=tk }) :
  wpAny (model X.prog X.w) A (call (.builtin "isinstance") [u,c]) Q E s:=by
 cases ty with
 | non=>cases (show u=Value.none from rx);exact PySem.W.kia_one PySem.W.kitx_none I.kIn True.intro e (fun z=>nomatch z) h
 | bl y=>cases (show u=Value.bool y from rx);exact PySem.W.kia_one PySem.W.kitx_bool I.kIn True.intro e (fun z=>nomatch z) h
 | int i=>obtain⟨t,q⟩:=(show ∃t,u=Value.int i t from rx);cases q;exact PySem.W.kia_one PySem.W.kitx_int I.kIn True.intro e (fun z=>nomatch z) h
 | str y=>obtain⟨t,q⟩:=(show ∃t,u=Value.str y t from rx);cases q;exact PySem.W.kia_one PySem.W.kitx_str I.kIn True.intro e (fun z=>nomatch z) h
 | flt y=>obtain⟨t,q⟩:=(show ∃t,u=Value.float y t from rx);cases q;exact PySem.W.kia_one PySem.W.kitx_float I.kIn True.intro e (fun z=>nomatch z) h
 | @lst a xs ea =>
  cases (show u=Value.ref a from rx)
  obtain⟨_,_,n,_,h1⟩:=(show bF X.prog X.w H s.heap a (.lst xs) from I.hok a _ ea)
  exact PySem.W.kia_one PySem.W.kitx_list I.kIn ⟨_,h1,rfl⟩ e (fun z=>nomatch z) h
 | @frz a ob xs ea =>
  cases (show u=Value.ref a from rx)
  obtain⟨_,_,_,n,_,h1⟩:=(show bF X.prog X.w H s.heap a (.frz ob (.lst xs)) from I.hok a _ ea)
  exact PySem.W.kia_one PySem.W.kitx_list I.kIn ⟨_,h1,rfl⟩ e (fun z=>nomatch z) h
 | @tup a xs ea =>
  cases (show u=Value.ref a from rx)
  obtain⟨_,_,_,p⟩:=(show bF X.prog X.w H s.heap a (.tup xs) from I.hok a _ ea)
  obtain⟨o,h1,h2,_⟩:=p
  exact PySem.W.kia_one PySem.W.kitx_tuple I.kIn ⟨o,h1,h2⟩ e (fun z=>nomatch z) h
 | @dK a kvs ea =>
  cases (show u=Value.ref a from rx)
  obtain⟨_,_,vs,_,p⟩:=(show bF X.prog X.w H s.heap a (.dK kvs) from I.hok a _ ea)
  obtain⟨o,es,ep,h1,h2,_⟩:=p
  exact PySem.W.kia_one PySem.W.kitx_dict I.kIn ⟨o,h1,h2.1⟩ e (fun z=>nomatch z) h
 | @dT a kvs ea =>
  cases (show u=Value.ref a from rx)
  obtain⟨_,_,xs,_,o,es,ep,h1,h2,_⟩:=(show bF X.prog X.w H s.heap a (.dT kvs) from I.hok a _ ea)
  exact PySem.W.kia_one PySem.W.kitx_dict I.kIn ⟨o,h1,h2.1⟩ e (fun z=>nomatch z) h
 | @ins a C dx fs ea cl ha hn htk hm =>
  cases (show u=Value.ref a from rx)
  obtain⟨mA,O,_⟩:=iG I.hok ea
  obtain⟨od,J,_⟩:=O.look
  exact PySem.W.kia_one (PySem.W.kitx_own (cl.get _) cl.hd ha hn htk hm) I.kIn J e (fun z=>nomatch z) h
end
end L2
namespace L2
open PySem PySem.Spec PyProof.Rows
structure ce(k:Nat)(A:Around):Prop where
 hd:A.handled=none
 dp:A.depth+3*k+5<recursionLimit
 un:A.units+16*k+200<cLine
theorem ce.mono{j k:Nat}{A:Around}(r:ce k A)(h:j≤k):ce j A:=⟨r.hd,by have:=r.dp;lia,by have:=r.un;lia⟩
theorem ce.deeper{k:Nat}{A:Around}(r:ce (k+1) A)(env:Env):ce k (A.deeper env) :=
 ⟨r.hd,by have:=r.dp;show A.depth+1+3*k+5<_;lia,by have:=r.un;show A.units+3+16*k+200<_;lia⟩
theorem mM{A:Around}{C:Addr}{us:List Value}{kw:List (Str×Value)}:(A.under (.builtin "type.__call__" ⟨.ref C::us,kw⟩)).depth=A.depth+1:=by
 first | rfl | simp[Around.under,Code.weight,Code.isCreation,Code.isGuard,Code.isCaller,Code.frames,Code.isFrame,guardIds]
theorem nV{A:Around}{C:Addr}{us:List Value}{kw:List (Str×Value)}:(A.under (.builtin "type.__call__" ⟨.ref C::us,kw⟩)).units=A.units+1:=by
 first | rfl | simp[Around.under,Code.cUnits,Code.frames,Code.isFrame]
theorem ce.make{k:Nat}{A:Around}(r:ce (k+1) A)(C:Addr)(us:List Value)(kw:List (Str×Value)):ce k (A.under (.builtin "type.__call__" ⟨.ref C::us,kw⟩)) :=
 ⟨r.hd,by have:=r.dp;rw[mM];lia,by have:=r.un;rw[nV];lia⟩
theorem ce.depth{k:Nat}{A:Around}(r:ce k A):A.depth<recursionLimit:=by have:=r.dp;lia
theorem ce.units{k:Nat}{A:Around}(r:ce k A):A.units+64<cLine:=by have:=r.un;lia
noncomputable def BI:TA:=fun _ H Q=>Q [] H
noncomputable def wn(ta:TE)(tr:TA):TA:=fun σ H Q=>ta σ H fun x H1=>tr σ H1 fun xs H2=>Q (x::xs) H2
section
variable{X:Cx}{e:Expr}{es:List Expr}{te:TE}{t:TA}{pos:Pos}
theorem af:PA X [] BI:=fun _ _ _ _ H Q I h=>Calls.spliced_nil ⟨[],H,I,.nil,h⟩
theorem aa(ha:PE X e te)(hr:PA X es t)(hs:starEach (e::es) X.env=(false,eval e X.env)::starEach es X.env:=by rfl):PA X (e::es) (wn te t):=by
 intro pos pins s σ H Q I h
 rw[hs]
 show wpAny _ _ (spliced ((false,eval e X.env)::backTo pos (starEach es X.env))) _ _ s
 refine Calls.spliced_cons (thn (ha pins s σ H _ I h) fun u s1 zz_=>?_)
 obtain⟨x,H1,I1,r1,q1⟩:=zz_
 refine thn (hr pos pins s1 σ H1 _ I1 q1) fun us s2 z9_=>?_
 obtain⟨xs,H2,I2,r2,q2⟩:=z9_
 exact⟨x::xs,H2,I2,.cons r1 r2,q2⟩
noncomputable def Ck(t:TA):TE:=fun σ H Q=>t σ H fun xs H1=>xs.length≤sizeLine∧∀p,H1 p=none→Q (.ref p) (upd H1 p (.tup xs))
noncomputable def Cg(t:TA):TE:=fun σ H Q=>t σ H fun xs H1=>xs.length≤sizeLine∧∀p,H1 p=none→Q (.ref p) (upd H1 p (.lst xs))
theorem aK{x1}(h:PA X es t):PE X (.Tuple es x1 pos) (Ck t):=by
 intro pins s σ H Q I hq
 refine wpAny_Tuple_spliced (thn (h pos pins s σ H _ I hq) fun us s1 z10_=>?_)
 obtain⟨xs,H1,I1,r,z,q⟩:=z10_
 refine⟨by rw[← r.length];exact z,?_⟩
 have hf:H1 s1.heap.objs.size=none:=I1.hok.fresh (yd _)
 refine⟨.ref s1.heap.objs.size,upd H1 s1.heap.objs.size (.tup xs),I1.laid (t':=s1.toks) (fun b u e=>Heap.get?_push_of_some _ e) (yd _) ?_,rfl,q _ hf⟩
 exact⟨z,us,r,⟨_,Heap.get?_push_size _ rfl,rfl,_,rfl⟩⟩
theorem aW(h:PA X es t):PE X (.List es pos) (Cg t):=by
 intro pins s σ H Q I hq
 refine wpAny_List_spliced (thn (h pos pins s σ H _ I hq) fun us s1 z11_=>?_)
 obtain⟨xs,H1,I1,r,z,q⟩:=z11_
 refine⟨by rw[← r.length];exact z,?_⟩
 have hf:H1 s1.heap.objs.size=none:=I1.hok.fresh (yd _)
 refine⟨.ref s1.heap.objs.size,upd H1 s1.heap.objs.size (.lst xs),I1.laid (t':=s1.toks) (fun b u e=>Heap.get?_push_of_some _ e) (yd _) ?_,rfl,q _ hf⟩
 exact⟨z,us,0,r,Heap.get?_push_size _ rfl⟩
end
noncomputable abbrev Sp:=List V→Hp→VK→XK→Prop
noncomputable abbrev CXT:=List Env→Hp→Shared→XK→Value→Shared→Prop
structure m7(P:Program)(w:World)(K:PySem.W.Frag)(mg:Str→Option Value)(base:Heap)(A:Around)(outer:List Env)(s:Shared)(H:Hp):Prop where
 frames:A.frames=some outer
 mod:Mod K mg base
 bs:∀b o,base.get? b=some o→s.heap.get? b=some o∧H b=none
 bsz:base.objs.size≤s.heap.objs.size
 funs:s.heap.FunFrames base outer
 frf:∀b∈frs outer,H b=none
 hok:HOk P w H s.heap
 bare:AllBare s.gens
noncomputable def CE(outer:List Env)(P:Program)(w:World)(H:Hp)(s:Shared)(Q:VK)(u:Value)(s':Shared):Prop :=
 ∃v H',s'.os=s.os∧AllBare s'.gens∧Un (frs outer) [] H H' s.heap s'.heap∧HOk P w H' s'.heap∧bu v u∧Q v H'
noncomputable def CR(CX:CXT)(outer:List Env)(P:Program)(w:World)(H:Hp)(s:Shared)(Q:VK)(E:XK)(r:Result)(s':Shared):Prop :=
 match r with
 | .ok (.ret u)=>CE outer P w H s Q u s'
 | .ok _=>False
 | .error e=>CX outer H s E e s'
structure aT(P:Program)(w:World)(K:PySem.W.Frag)(mg:Str→Option Value)(base:Heap)(CX:CXT)(k:Nat)(f:Addr)(fd:FuncData)(ps:List Str)(sp:Sp):Prop where
 len:∀vs H Q E,sp vs H Q E→vs.length=ps.length
 run:∀(A:Around) (outer:List Env) (s:Shared) (H:Hp) (args:Args) (us:List Value) (vs:List V) (Q:VK) (E:XK),ce k A→m7 P w K mg base A outer s H→BindsTo s fd args (ps.zip us)→bp vs us→sp vs H Q E →
  codeAny (model P w) A (.call (.ref f) args) (CR CX outer P w H s Q E) s
theorem m7.make{P:Program}{w:World}{K:PySem.W.Frag}{mg:Str→Option Value}{base:Heap}{A:Around}{outer:List Env}{s:Shared}{H:Hp}(e:m7 P w K mg base A outer s H)(C:Addr)(us:List Value)(kw:List (Str×Value)) :
  m7 P w K mg base (A.under (.builtin "type.__call__" ⟨.ref C::us,kw⟩)) outer s H:=⟨by first | exact e.frames | (simpa [Around.under,Code.envs,Code.isFrame,pushEnvs] using e.frames),e.mod,e.bs,e.bsz,e.funs,e.frf,e.hok,e.bare⟩
section
variable{X:Cx}{pins:List (Addr×Obj)}{σ:St}{H:Hp}{s s':Shared}
theorem Inv.env0(I:Inv X pins σ H s):m7 X.prog X.w X.K X.mg X.base X.A X.stack s H :=
 ⟨I.ok.frames,I.ok.mod,I.bs,yu I.ok.bsz I.sz,I.stack,I.stkFree,I.hok,I.bare⟩
theorem Inv.after{Q:VK}{u:Value}(I:Inv X pins σ H s)(h:CE X.stack X.prog X.w H s Q u s'):EP X pins σ Q u s':=by
 obtain⟨v,H',os,bare,un,hok,r,q⟩:=h
 obtain⟨hh,g,d,t,os'⟩:=s'
 obtain rfl:os'=s.os:=os
 exact⟨v,H',I.call (h':=hh) (g':=g) (d':=d) (t':=t) (ch:=[]) un hok bare (fun b z=>absurd z (by simp)),r,q⟩
end
noncomputable def oB(sp:Sp)(dvs:List V)(E:XK)(t:TA):TE:=fun σ H Q=>t σ H fun vs H1=>sp (vs++dvs) H1 Q E
noncomputable def qw(C:Addr)(m:Str)(sp:Sp)(dvs:List V)(E:XK)(ta:TE)(t:TA):TE:=fun σ H Q=>ta σ H fun x H1=>∃a dx fs,x=.ref a∧H1 a=some (.ins C dx fs)∧fs.lookup m=none ∧
 t σ H1 fun vs H2=>sp (x::(vs++dvs)) H2 Q E
noncomputable def rK(C:Addr)(sp:Sp)(dvs:List V)(E:XK)(t:TA):TE:=fun σ H Q=>t σ H fun vs H1=>∀x dx,H1 x=none→H1 dx=none→dx≠x →
 sp (.ref x::(vs++dvs)) (upd (upd H1 dx (.own x)) x (.ins C dx [])) (fun v H2=>v=.non∧Q (.ref x) H2) E
noncomputable def cn(K:PySem.W.Frag)(fd:FuncData)(ps:List Str)(ds:List Value):Prop :=
 ∀(s:Shared) (us:List Value),K.In s.heap→(us++ds).length=ps.length→BindsTo s fd ⟨us,[]⟩ (ps.zip (us++ds))
theorem cn.all{K:PySem.W.Frag}{fd:FuncData}{ps:List Str}(h:∀us:List Value,us.length=ps.length→bindArgs fd ⟨us,[]⟩=pure (ps.zip us)):cn K fd ps []:=fun s us _ hl=>by
 rw[yy] at hl ⊢
 exact .of_eq (h us hl)
noncomputable def dL(CX:CXT)(X:Cx)(E:XK):Prop:=∀(pins:List (Addr×Obj)) (σ:St) (H:Hp) (s:Shared) (e:Value) (s':Shared),Inv X pins σ H s→CX X.stack H s E e s'→X.xe e s'
section
variable{X:Cx}{CX:CXT}{k:Nat}{f C:Addr}{fd:FuncData}{ps:List Str}{sp:Sp}{dvs:List V}{ds:List Value}{E:XK}{x m:Str}{p pos apos:Pos}{e o:Expr}{es:List Expr}{ta:TE}{t:TA}
theorem sK{pins:List (Addr×Obj)}{σ:St}{H:Hp}{s:Shared}{Q:VK}{us:List Value}{vs:List V}(F:aT X.prog X.w X.K X.mg X.base CX k f fd ps sp)(hr:ce k X.A)(hb:cn X.K fd ps ds)(hd:bp dvs ds)(hx:dL CX X E)
  (I:Inv X pins σ H s) (r:bp vs us) (h:sp (vs++dvs) H Q E):wpAny (model X.prog X.w) X.A (call (.ref f) us) (EP X pins σ Q) X.xe s:=by
 have r2:bp (vs++dvs) (us++ds):=r.append hd
 have hl:(us++ds).length=ps.length:=by rw[← r2.length];exact F.len _ _ _ _ h
 refine wpAny_call (codeAny_mono (F.run X.A X.stack s H ⟨us,[]⟩ (us++ds) (vs++dvs) Q E hr I.env0 (hb s us I.kIn hl) r2 h) fun r s' hq=>?_)
 cases r with
 | error e=>exact hx pins σ H s e s' I hq
 | ok fl =>
  cases fl with
  | ret u=>exact I.after hq
  | next=>exact False.elim hq
  | brk=>exact False.elim hq
  | cont=>exact False.elim hq
theorem o6(F:aT X.prog X.w X.K X.mg X.base CX k f fd ps sp)(hr:ce k X.A)(hg:Gl X x)(hm:X.mg x=some (.ref f))(hk:PySem.W.keepIn X.K (.ref f)=true)(hb:cn X.K fd ps ds)(hd:bp dvs ds)(hx:dL CX X E)
  (ha:PA X (e::es) t) (hdb:(x == ("__debug__":Str))=false:=by decide) (he:starEach (e::es) X.env=(false,eval e X.env)::starEach es X.env:=by rfl) (hpl:(backTo pos (starEach es X.env)).any (·.1)=false:=by rfl) :
  PE X (.Call (.Name x p) (e::es) [] pos) (oB sp dvs E t):=by
 intro pins s σ H Q I h
 refine wpAny_Call_Name_kw (iA I hg hm ?_ hdb)
 refine PySem.W.callWith_K (h₀:=X.base) I.ok.mod.kin hk (thn (ha pos pins s σ H _ I h) fun us s1 z12_=>?_) he hpl
 obtain⟨vs,H1,I1,r,q⟩:=z12_
 refine⟨I1.kIn,?_⟩
 exact sK F hr hb hd hx I1 r q
theorem um{pl:Sem Bool}(he:PE X o ta)(c:Cls X.K C)(hm:cT X.K C m f)(F:aT X.prog X.w X.K X.mg X.base CX k f fd ps sp)(hr:ce k X.A)(hb:cn X.K fd ps ds)(hd:bp dvs ds)(hx:dL CX X E)(ha:PA X (e::es) t)
  (hst:starEach (e::es) X.env=(false,eval e X.env)::starEach es X.env:=by rfl) (hpl:(backTo pos (starEach es X.env)).any (·.1)=false:=by rfl)
  (ht:eval (.Call (.Attribute o m apos) (e::es) [] pos) X.env=(do
   let ov←eval o X.env
   standAt apos.atName
   let (f,first)←holding [ov] (getMethod ov m pl)
   callWith pos f first (backTo pos (starEach (e::es) X.env)) (backToKw pos (keywordEach [] X.env))):=by rfl) :
  PE X (.Call (.Attribute o m apos) (e::es) [] pos) (qw C m sp dvs E ta t):=by
 intro pins s σ H Q I h
 refine PySem.W.methodCall_KW (pl:=pl) (thn (he pins s σ H _ I h) fun u s1 zz_=>?_) ht
 obtain⟨x,H1,I1,rx,a,dx,fs,ex,ea,l,q⟩:=zz_
 subst ex
 obtain rfl:u=Value.ref a:=rx
 refine nL I1 ea c hm l ?_
 refine PySem.W.callWith_K (first:=[.ref a]) (h₀:=X.base) I.ok.mod.kin hm.kp (thn (ha pos pins s1 σ H1 _ I1 q) fun us s2 z13_=>?_) hst hpl
 obtain⟨vs,H2,I2,r,q2⟩:=z13_
 refine⟨I2.kIn,?_⟩
 exact sK (us:=.ref a::us) (vs:=.ref a::vs) F hr hb hd hx I2 (.cons rfl r) q2
structure Mk(K:PySem.W.Frag)(C f:Addr):Prop where
 makes:PySem.W.makesIn K C=true
 init:PySem.W.findIn K (.ref C) "__init__" = some (some (.ref f))
 fn:PySem.W.isFn K (.ref f)=true
 kp:PySem.W.keepIn K (.ref C)=true
theorem rO{pins:List (Addr×Obj)}{σ:St}{H:Hp}{s:Shared}{Q:VK}{us:List Value}{vs:List V}(M:Mk X.K C f)(F:aT X.prog X.w X.K X.mg X.base CX k f fd ps sp)(hr:ce (k+1) X.A)(hb:cn X.K fd ps ds)(hd:bp dvs ds)
  (hx:dL CX X E) (I:Inv X pins σ H s) (r:bp vs us)
  (h:∀x dx,H x=none→H dx=none→dx≠x→sp (.ref x::(vs++dvs)) (upd (upd H dx (.own x)) x (.ins C dx [])) (fun v H2=>v=.non∧Q (.ref x) H2) E) :
  wpAny (model X.prog X.w) X.A (call (.ref C) us) (EP X pins σ Q) X.xe s:=by
 have hq:=h (s.heap.objs.size+1) s.heap.objs.size (I.hok.fresh (yFb _)) (I.hok.fresh (yd _)) (yF (yeb _))
 have I2:=Inv.made (C:=C) I
 have r2:bp (V.ref (s.heap.objs.size+1)::(vs++dvs)) (Value.ref (s.heap.objs.size+1)::(us++ds)):=.cons rfl (r.append hd)
 have hl:(Value.ref (s.heap.objs.size+1)::us++ds).length=ps.length:=by
  have e:=r2.length
  rw[F.len _ _ _ _ hq] at e
  exact e.symm
 refine wpAny_call (sX (f:=f) I.kIn M.makes M.init (beq_iff_eq.mp M.fn) (codeAny_mono (F.run _ X.stack _ _ ⟨Value.ref (s.heap.objs.size+1)::us,[]⟩ (Value.ref (s.heap.objs.size+1)::(us++ds)) _ _ E (hr.make C us [])
  (I2.env0.make C us []) (hb _ (Value.ref (s.heap.objs.size+1)::us) I2.kIn hl) r2 hq) fun r s' hq'=>?_))
 cases r with
 | error e=>exact hx pins σ _ _ e s' I2 hq'
 | ok fl =>
  cases fl with
  | ret u =>
   obtain⟨v,H',I3,rv,ev,q3⟩:=I2.after hq'
   subst ev
   exact⟨rv,⟨V.ref (s.heap.objs.size+1),H',I3,rfl,q3⟩⟩
  | next=>exact False.elim hq'
  | brk=>exact False.elim hq'
  | cont=>exact False.elim hq'
theorem uG(M:Mk X.K C f)(F:aT X.prog X.w X.K X.mg X.base CX k f fd ps sp)(hr:ce (k+1) X.A)(hg:Gl X x)(hm:X.mg x=some (.ref C))(hb:cn X.K fd ps ds)(hd:bp dvs ds)(hx:dL CX X E)
  (ha:PA X (e::es) t) (hdb:(x == ("__debug__":Str))=false:=by decide) (he:starEach (e::es) X.env=(false,eval e X.env)::starEach es X.env:=by rfl) (hpl:(backTo pos (starEach es X.env)).any (·.1)=false:=by rfl) :
  PE X (.Call (.Name x p) (e::es) [] pos) (rK C sp dvs E t):=by
 intro pins s σ H Q I h
 refine wpAny_Call_Name_kw (iA I hg hm ?_ hdb)
 refine PySem.W.callWith_K (h₀:=X.base) I.ok.mod.kin M.kp (thn (ha pos pins s σ H _ I h) fun us s1 z14_=>?_) he hpl
 obtain⟨vs,H1,I1,r,q⟩:=z14_
 refine⟨I1.kIn,?_⟩
 exact rO M F hr hb hd hx I1 r q
end
section
variable{X:Cx}{CX:CXT}{k:Nat}{f C:Addr}{fd:FuncData}{ps ks:List Str}{sp:Sp}{E:XK}{x m:Str}{p pos apos kpos:Pos}{e o:Expr}{es:List Expr}{kws:List Keyword}{te ta:TE}{t tk:TA}{nm:Option Str}
variable{g:List Value→List Value→List Value}{gV:List V→List V→List V}
end
structure ax(N P:List Str)(sc:Scope):Prop where
 kind:sc.kind=.function
 co:sc.isCoroutine=false
 gen:sc.isGenerator=false
 nd:N.Nodup
 pre:N.take P.length=P
 par:∀x∈P,sc.names.lookup x=some .local∨sc.names.lookup x=some .cell
 nofree:∀y∈sc.names,y.2≠.free
theorem jY{kindOf:Str→Option NameKind}{x:Str}:∀{binds:List (Str×Value)} {m:Str→Option Value},(∀v,(x,v)∉binds)→bindL kindOf binds m x=m x
 | [],_,_=>rfl
 | (n,v)::r,m,h=>by
  unfold bindL
  rw[jY fun w hw=>h w (ym _ hw)]
  split
  ·have:x≠n:=by rintro rfl;exact h v yv
   simp[this]
  ·rfl
theorem j3{kindOf:Str→Option NameKind}{x:Str}:∀{binds:List (Str×Value)} {m:Str→Option Value},(∀v,(x,v)∉binds)→bindC kindOf binds m x=m x
 | [],_,_=>rfl
 | (n,v)::r,m,h=>by
  unfold bindC
  rw[j3 fun w hw=>h w (ym _ hw)]
  split
  ·rfl
  ·have:x≠n:=by rintro rfl;exact h v yv
   simp[this]
theorem jM{kindOf:Str→Option NameKind}{x:Str}{v:Value}:∀{P:List Str} {vs:List Value} {i:Nat} {m:Str→Option Value},P.Nodup→P[i]? = some x→vs[i]? = some v→kindOf x=some .local →
  bindL kindOf (P.zip vs) m x=some v
 | [],_,_,_,_,h,_,_=>by simp at h
 | _::_,[],_,_,_,_,h,_=>by simp at h
 | p::P,w::vs,0,m,nd,h1,h2,hk=>by
  simp at h1 h2;subst h1;subst h2
  show bindL kindOf ((p,w)::P.zip vs) m p=_
  unfold bindL
  rw[jY fun v hv=>(yP.mp nd).1 (ynb hv).1,if_pos hk]
  simp
 | p::P,w::vs,i+1,m,nd,h1,h2,hk=>by
  show bindL kindOf ((p,w)::P.zip vs) m x=_
  unfold bindL
  exact jM (i:=i) (yP.mp nd).2 (by simpa using h1) (by simpa using h2) hk
theorem jH{kindOf:Str→Option NameKind}{x:Str}{v:Value}:∀{P:List Str} {vs:List Value} {i:Nat} {m:Str→Option Value},P.Nodup→P[i]? = some x→vs[i]? = some v→kindOf x≠some .local →
  bindC kindOf (P.zip vs) m x=some v
 | [],_,_,_,_,h,_,_=>by simp at h
 | _::_,[],_,_,_,_,h,_=>by simp at h
 | p::P,w::vs,0,m,nd,h1,h2,hk=>by
  simp at h1 h2;subst h1;subst h2
  show bindC kindOf ((p,w)::P.zip vs) m p=_
  unfold bindC
  rw[j3 fun v hv=>(yP.mp nd).1 (ynb hv).1,if_neg hk]
  simp
 | p::P,w::vs,i+1,m,nd,h1,h2,hk=>by
  show bindC kindOf ((p,w)::P.zip vs) m x=_
  unfold bindC
  exact jH (i:=i) (yP.mp nd).2 (by simpa using h1) (by simpa using h2) hk
noncomputable def start(N:List Str)(vs:List V):St:=vs.map some++List.replicate (N.length-vs.length) none
noncomputable def fA(CX:CXT)(P:Program)(w:World)(K:PySem.W.Frag)(mg:Str→Option Value)(base:Heap)(N:List Str)(qual:Str)(scope:Scope)(f:Addr)(cd:Value)(A:Around)(outer:List Env)(s:Shared)(H:Hp)(E:XK):Cx where
 prog:=P
 w:=w
 K:=K
 mg:=mg
 base:=base
 A:=A.deeper (envOfC qual scope s.heap.objs.size f cd)
 N:=N
 s₀:=s
 H₀:=H
 env:=envOfC qual scope s.heap.objs.size f cd
 outer:=outer
 stack:=envOfC qual scope s.heap.objs.size f cd::outer
 ex:=[]
 calm:=true
 fn:=fun _=>true
 pn:=[]
 xe:=fun e s'=>wpAny (model P w) (A.deeper (envOfC qual scope s.heap.objs.size f cd)) (leaving (envOfC qual scope s.heap.objs.size f cd) e) (fun _ s''=>CX outer H s E e s'') (fun e' s''=>CX outer H s E e' s'') s'
theorem ma{sc:Scope}{n:Nat}{x:Str}(h:sc.names.lookup x=some .cell):∃c,(cellsFrom n sc.names []).lookup x=some c:=by
 have q:=PySem.W.cellsFrom_some sc.names n [] (.inl h)
 exact Option.isSome_iff_exists.mp q
theorem pj{CX:CXT}{P:Program}{w:World}{K:PySem.W.Frag}{mg:Str→Option Value}{base:Heap}{N ps:List Str}{qual:Str}{scope:Scope}{f:Addr}{cd:Value}{A:Around}{outer:List Env}{s s1:Shared}{H:Hp}{E:XK}{us:List Value}{vs:List V}
  (S:ax N ps scope) (hd:A.handled=none) (e0:m7 P w K mg base A outer s H) (hl:vs.length=ps.length) (r:bp vs us)
  (x:InCallC s s.heap.objs.size (bindL (envOfC qual scope s.heap.objs.size f cd).kindOf (ps.zip us) fun _=>none) (cellsFrom (s.heap.objs.size+1) scope.names []) (bindC (envOfC qual scope s.heap.objs.size f cd).kindOf (ps.zip us) fun _=>none) s1) :
  Inv (fA CX P w K mg base N qual scope f cd A outer s H E) [] (start N vs) H s1:=by
 have hpl:ps.length≤N.length:=by have:=congrArg List.length S.pre;rw[yr] at this;lia
 obtain⟨h1,tk,rfl,hk⟩:=x.done
 have noA:∀b:Addr,b∉(fA CX P w K mg base N qual scope f cd A outer s H E).ex:=fun b z=>absurd (show b∈([]:List Addr) from z) (by simp)
 refine⟨⟨e0.mod,S.kind,rfl,rfl,yd _,fun y z c h1 h2=>?_,fun y hy=>?_,fun y c _ h=>?_,fun _=>hd,Around.frames_deeper e0.frames,.inr ⟨rfl,rfl⟩,fun b z=>absurd z (noA b),e0.bs,e0.bsz,fun b _ _=>noA b,fun b z=>absurd z (noA b),e0.funs,e0.frf⟩,
  rfl,e0.bare,Un.kept hk,⟨_,x.toInCall.ns,fun i y v h1 h2 h3=>?_⟩,fun y c h=>⟨_,x.cell y c h⟩,e0.hok.fresh (yd _),fun y c h=>?_,fun p hp=>absurd (show p∈([]:List (Addr×Obj)) from hp) (by simp),e0.hok.kept hk,?_⟩
 ·exact name_of_addr x.apart (PySem.mem_of_lookup h1) (PySem.mem_of_lookup h2)
 ·have hy:scope.names.lookup y=some .cell∨scope.names.lookup y=some .free:=hy
  rcases hy with hy | hy
  ·exact ma hy
  ·exact absurd rfl (S.nofree _ (PySem.mem_of_lookup hy))
 ·exact yNa (x.above y c (PySem.mem_of_lookup h))
 ·have hi:i<vs.length:=by
   unfold start at h2
   by_cases hi:i<vs.length
   ·exact hi
   ·rw[yaa (by simpa using hi)] at h2
    rw[yjb] at h2
    split at h2 <;> cases h2
  have ha:vs[i]? = some v:=by
   unfold start at h2
   rw[yra (by simpa using hi),yj] at h2
   cases e:vs[i]? with
   | none=>rw[e] at h2;cases h2
   | some a=>rw[e] at h2;cases h2;rfl
  obtain⟨u,hu,rv⟩:=r.get ha
  have hp:ps[i]? = some y:=by
   rw[← S.pre,List.getElem?_take_of_lt (by lia)];exact h1
  have ndP:ps.Nodup:=by rw[← S.pre];exact S.nd.sublist (List.take_sublist _ _)
  refine⟨u,rv,?_⟩
  rcases S.par y (yc hp) with k | k
  ·exact .inl ⟨k,jM ndP hp hu k⟩
  ·obtain⟨c,e⟩:=ma (n:=s.heap.objs.size+1) k
   refine .inr ⟨.inl k,c,e,?_⟩
   have q:=x.cell y c e
   rw[jH ndP hp hu (by show scope.names.lookup y≠_;rw[k];decide)] at q
   exact q
 ·exact e0.hok.fresh (yNa (x.above y c (PySem.mem_of_lookup h)))
 ·unfold start
  show _=N.length
  rw[yf,ya,yLa]
  lia
theorem wA{CX:CXT}{P:Program}{w:World}{K:PySem.W.Frag}{mg:Str→Option Value}{base:Heap}{k:Nat}{f:Addr}{name qual:Str}{params:Arguments}{body:List Stmt}{scope:Scope}{dV kV doc pm cdv ct oc:Value}{an od:Option Addr}
  {osl:Array (Option Value)} {N ps:List Str} {sp:Sp} (lk:K.lookup f=some ⟨oc,od,.func (PySem.W.fnOf name qual params body scope dV kV doc pm an cdv ct),osl⟩) (hcd:PySem.W.codeIn K cdv qual=true) (S:ax N ps scope)
  (len:∀vs H Q E,sp vs H Q E→vs.length=ps.length)
  (hbody:∀(A:Around) (outer:List Env) (s:Shared) (H:Hp) (vs:List V) (Q:VK) (E:XK),ce k (A.deeper (envOfC qual scope s.heap.objs.size f cdv))→sp vs H Q E →
   ∃t,PSs (fA CX P w K mg base N qual scope f cdv A outer s H E) body t∧t { nx:=fun _ H'=>Q .non H',rt:=Q } (start N vs) H) :
  aT P w K mg base CX (k+1) f (PySem.W.fnOf name qual params body scope dV kV doc pm an cdv ct) ps sp:=by
 refine⟨len,fun A outer s H args us vs Q E hr e0 hb r hsp=>?_⟩
 have hl:=len _ _ _ _ hsp
 have KX:K.In s.heap:=e0.mod.kin.keeps fun b o e=>(e0.bs b o e).1
 have lim:s.heap.NoLimit:=e0.mod.nolimit.keeps fun b o e=>(e0.bs b o e).1
 have hkind:∀y∈ps.zip us,scope.names.lookup y.1=some .local∨(scope.names.lookup y.1=some .cell∧((cellsFrom (s.heap.objs.size+1) scope.names []).lookup y.1).isSome=true):=fun⟨n,v⟩ hy=>by
  rcases S.par n (ynb hy).1 with q | q
  ·exact .inl q
  ·exact .inr ⟨q,PySem.W.cellsFrom_some _ _ _ (.inl q)⟩
 refine codeAny_call_function hr.depth (KX _ _ lk) rfl S.co S.gen rfl (PySem.W.codeRec_of KX hcd) (hb _ _ _ _ ?_)
 refine wpAny_newFunctionEnv_cells S.kind hkind fun env he s1 x=>?_
 subst he
 refine⟨lim.keeps x.toInCall.keep,codeAny_func ?_⟩
 obtain⟨t,ht,hq⟩:=hbody A outer s H vs Q E (hr.deeper _) hsp
 have I:Inv (fA CX P w K mg base N qual scope f cdv A outer s H E) [] (start N vs) H s1:=pj S hr.hd e0 hl r x
 refine wpAny_mono (ht [] s1 (start N vs) H _ I hq) (fun fl s' hs=>?_) fun e s' hs=>hs
 have fin:∀{σ':St} {H':Hp} {v:V} {u:Value},Inv (fA CX P w K mg base N qual scope f cdv A outer s H E) [] σ' H' s'→bu v u→Q v H'→CE outer P w H s Q u s' :=
  fun {σ' H' v u} J rv q=>⟨v,H',J.os,J.bare,J.base,J.hok,rv,q⟩
 cases fl with
 | ret u =>
  obtain⟨v,σ',H',J,rv,q⟩:=hs
  exact fin J rv q
 | next =>
  obtain⟨σ',H',J,q⟩:=hs
  exact fin (v:=V.non) (u:=Value.none) J rfl q
 | brk =>
  obtain⟨_,_,_,q⟩:=hs
  exact False.elim q
 | cont =>
  obtain⟨_,_,_,q⟩:=hs
  exact False.elim q
end L2
namespace L2
open PySem PySem.Spec PyProof.Rows
section
variable{X:Cx}{x:Str}{p pos:Pos}{e:Expr}{es:List Expr}{t:TA}{id T:String}{r:List V→Hp→VK→Prop}
noncomputable def tCB(r:List V→Hp→VK→Prop)(t:TA):TE:=fun σ H Q=>t σ H fun vs H1=>r vs H1 Q
theorem aF(hc:cu X (.builtin id) r)(hg:Gl X x)(hm:X.mg x=none)(hv:bootBuiltins x=some (.builtin id))(ha:PA X (e::es) t)(hn:x ≠ "__name__" := by decide)(hdb:(x == ("__debug__":Str))=false:=by decide)
  (he:starEach (e::es) X.env=(false,eval e X.env)::starEach es X.env:=by rfl) (hpl:(backTo pos (starEach es X.env)).any (·.1)=false:=by rfl):PE X (.Call (.Name x p) (e::es) [] pos) (tCB r t):=by
 intro pins s σ H Q I h
 refine wpAny_Call_Name_kw (eF I hg hm hv ?_ hn hdb)
 refine PyProof.Rows.callWith_builtin1 (thn (ha pos pins s σ H _ I h) fun us s1 z18_=>?_) he hpl
 obtain⟨vs,H1,I1,r1,q1⟩:=z18_
 exact hc pins s1 σ H1 vs us Q I1 r1 q1
theorem aY(hc:cu X (.type T) r)(hg:Gl X x)(hm:X.mg x=none)(hv:bootBuiltins x=some (.type T))(ha:PA X (e::es) t)(hn:x ≠ "__name__" := by decide)(hdb:(x == ("__debug__":Str))=false:=by decide)
  (he:starEach (e::es) X.env=(false,eval e X.env)::starEach es X.env:=by rfl) (hpl:(backTo pos (starEach es X.env)).any (·.1)=false:=by rfl):PE X (.Call (.Name x p) (e::es) [] pos) (tCB r t):=by
 intro pins s σ H Q I h
 refine wpAny_Call_Name_kw (eF I hg hm hv ?_ hn hdb)
 refine PyProof.Rows.callWith_type1 (thn (ha pos pins s σ H _ I h) fun us s1 z19_=>?_) he hpl
 obtain⟨vs,H1,I1,r1,q1⟩:=z19_
 exact hc pins s1 σ H1 vs us Q I1 r1 q1
end
end L2
namespace HT
open PySem PyProof.Rows
section
open PySem.SeqAt
open PySem.AutoSeq1 (wpAny_loadPart')
open PySem.MeetsSeq PySem.MeetsSeq2 PySem.MeetsSeq3
end
section
variable{prog:Program}{w:World}{A:Around}{E:Value→Shared→Prop}{s:Shared}
theorem cat_tup{t b:Addr}{vs ws:List Value}{Q:Value→Shared→Prop}(ht:IsTup s.heap t vs.toArray)(hb:IsTup s.heap b ws.toArray)(hv:vs≠[])
  (h1:ws=[]→Q (.ref t) s) (h2:ws≠[]→Q (.ref s.heap.objs.size) { s with heap:=s.heap.push { cls:=.type "tuple",data:=.seq (vs++ws).toArray } })
  (hsz:vs.length+ws.length≤sizeLine):wpAny (model prog w) A (binaryOp .Add (.ref t) (.ref b)) Q E s:=by
 obtain⟨⟨cls,dd,data,sl⟩,ho,hc,n,hd⟩:=id ht
 obtain⟨⟨cls2,dd2,data2,sl2⟩,ho2,hc2,n2,hd2⟩:=id hb
 simp only at hc hd hc2 hd2
 subst hc hd hc2 hd2
 have e:vs.toArray++ws.toArray=(vs++ws).toArray:=by simp
 by_cases hw:ws=[]
 ·exact concat_meets ⟨_,ho,rfl⟩ ⟨_,ho2,rfl⟩ noFill_tuple_add seq_tuple_add PySem.F.slot_tuple_add PySem.F.entry_tuple_add (PySem.F.args_tuple_add_2 _ _)
   (tuple_addW1 t b vs.toArray ws.toArray n n2 dd dd2 sl sl2 (by simpa using hv) (by simp[hw])) ⟨ho,ho2,h1 hw⟩
 ·refine concat_meets ⟨_,ho,rfl⟩ ⟨_,ho2,rfl⟩ noFill_tuple_add seq_tuple_add PySem.F.slot_tuple_add PySem.F.entry_tuple_add (PySem.F.args_tuple_add_2 _ _)
   (tuple_addW2 t b vs.toArray ws.toArray n n2 dd dd2 sl sl2 (by simpa using hv) (by simpa using hw) (by rw[yh,yh];exact hsz)) ⟨ho,ho2,?_⟩
  rw[e]
  exact h2 hw
noncomputable def sIx(n d:Nat):Option Int→Nat
 | none=>d
 | some v=>if v<0 then (v+(n:Int)).toNat else min v.toNat n
theorem sIx_nat(n d k:Nat):sIx n d (some (k:Int))=min k n:=by
 show(if (k:Int)<0 then ((k:Int)+(n:Int)).toNat else min (k:Int).toNat n)=min k n
 rw[if_neg (by lia),ye]
end
end HT
namespace L2
open PySem PySem.Spec PyProof.Rows
noncomputable abbrev TO:=St→Hp→(Option Int→Hp→Prop)→Prop
noncomputable def PO(X:Cx)(e:Option Expr)(t:TO):Prop :=
 ∀(pins:List (Addr×Obj)) (s:Shared) (σ:St) (H:Hp) (Q:Option Int→Hp→Prop),Inv X pins σ H s→t σ H Q →
  wpAny (model X.prog X.w) X.A (evalPart e X.env) (fun u s'=>∃o H',Inv X pins σ H' s'∧IsPart u o∧Q o H') X.xe s
noncomputable def oh:TO:=fun _ H Q=>Q none H
noncomputable def wz(t:TE):TO:=fun σ H Q=>t σ H fun x H1=>∃i,x=.int i∧Q (some i) H1
theorem nF{ns:List Int}:∀{us:List Value},bp (ns.map V.int) us→IntsAre us ns:=by
 induction ns with
 | nil=>intro us r;rw[yua] at r;cases r;exact .nil
 | cons n ns ih =>
  intro us r
  rw[yi] at r
  cases r with
  | cons r1 r2 =>
   obtain⟨t,e⟩:=r1
   subst e
   exact .cons n t (ih r2)
section
variable{X:Cx}{e:Expr}{te:TE}{lo hi:Option Expr}{tl th:TO}{pos p2:Pos}
theorem tF:PO X none oh:=by
 intro pins s σ H Q I h
 rw[evalPart_none]
 exact wpAny_pure ⟨none,H,I,.none,h⟩
theorem tM(h:PE X e te):PO X (some e) (wz te):=by
 intro pins s σ H Q I hw
 rw[evalPart_some]
 refine thn (h pins s σ H _ I hw) fun u s1 zz_=>?_
 obtain⟨x,H1,I1,r1,q1⟩:=zz_
 obtain⟨i,rfl,q⟩:=q1
 obtain⟨t,rfl⟩:=r1
 exact⟨some i,H1,I1,.int i t,q⟩
noncomputable def SlR(X:Cx)(r:V→Option Int→Option Int→Hp→VK→Prop):Prop :=
 ∀(pins:List (Addr×Obj)) (s:Shared) (σ:St) (H:Hp) (x:V) (v vl vu:Value) (lo hi:Option Int) (sl:Addr) (Q:VK),Inv X pins σ H s→bu x v→s.heap.IsSliceOf sl vl vu .none→IsPart vl lo→IsPart vu hi→r x lo hi H Q →
  ∃T id,typeLookup (.type T) "__getitem__" = pure (some (.builtin id))∧s.TypeIs v T∧wpAny (model X.prog X.w) X.A (getItem v (.ref sl)) (EP X pins σ Q) X.xe s
noncomputable def tSl(r:V→Option Int→Option Int→Hp→VK→Prop)(te:TE)(tl th:TO):TE:=fun σ H Q=>te σ H fun x H1=>tl σ H1 fun l H2=>th σ H2 fun u H3=>r x l u H3 Q
theorem rQ{r:V→Option Int→Option Int→Hp→VK→Prop}(hr:SlR X r)(he:PE X e te)(hl:PO X lo tl)(hu:PO X hi th):PE X (.Subscript e (.Slice lo hi none p2) pos) (tSl r te tl th):=by
 intro pins s σ H Q I h
 refine Subscript_ (thn (he pins s σ H _ I h) fun v s1 zz_=>?_)
 obtain⟨x,H1,I1,r1,q1⟩:=zz_
 refine wpAny_Slice (thn (hl pins s1 σ H1 _ I1 q1) fun vl s2 z20_=>?_)
 obtain⟨l,H2,I2,pl,q2⟩:=z20_
 refine thn (hu pins s2 σ H2 _ I2 q2) fun vu s3 zz_=>?_
 obtain⟨u,H3,I3,pu,q3⟩:=zz_
 rw[evalPart_none]
 refine wpAny_pure ?_
 have I4:Inv X pins σ H3 { s3 with heap:=s3.heap.push { cls:=.type "slice",data:=.fields #[vl,vu,.none] } }:=I3.kept (t':=s3.toks) fun b ob q=>Heap.get?_push_of_some _ q
 obtain⟨T,id,hT,ht,hg⟩:=hr pins { s3 with heap:=s3.heap.push { cls:=.type "slice",data:=.fields #[vl,vu,.none] } } σ H3 x v vl vu l u s3.heap.objs.size Q I4 r1 (Heap.IsSliceOf.new ..) pl pu q3
 show wpAny (model X.prog X.w) X.A (subscriptTail e (.Slice lo hi none p2) v (.ref s3.heap.objs.size)) (EP X pins σ Q) X.xe { s3 with heap:=s3.heap.push { cls:=.type "slice",data:=.fields #[vl,vu,.none] } }
 exact tail_any (ops:=[.ref s3.heap.objs.size,v]) ht hT hg (by with_unfolding_all rfl)
noncomputable def js(xs:List V)(lo hi:Option Int):List V:=(xs.drop (HT.sIx xs.length 0 lo)).take (HT.sIx xs.length xs.length hi-HT.sIx xs.length 0 lo)
theorem lu(xs:List V)(lo hi:Option Int):(js xs lo hi).length≤xs.length:=by
 unfold js
 rw[yr,List.length_drop]
 lia
noncomputable def Fx(K:PySem.W.Frag):V→Option Int→Option Int→Hp→VK→Prop:=fun x lo hi H Q=>∃a xs,x=.ref a∧SqT K H a xs ∧
 ¬(HT.sIx xs.length 0 lo=0∧HT.sIx xs.length xs.length hi=xs.length)∧∀p,H p=none→Q (.ref p) (upd H p (.tup (js xs lo hi)))
noncomputable def Co(K:PySem.W.Frag):R2:=fun x y H Q=>∃a b xs ys,x=.ref a∧y=.ref b∧SqT K H a xs∧SqT K H b ys∧xs≠[]∧xs.length+ys.length≤sizeLine ∧
 (ys=[]→Q (.ref a) H)∧(ys≠[]→∀p,H p=none→Q (.ref p) (upd H p (.tup (xs++ys))))
theorem bp.nil_iff{xs:List V}{us:List Value}(r:bp xs us):us=[]↔xs=[]:=by
 cases r with
 | nil=>simp
 | cons _ _=>simp
theorem uO:OpR X (binaryOp .Add) (Co X.K):=by
 intro pins s σ H x y v u Q I rx ry h
 obtain⟨a,b,xs,ys,rfl,rfl,ha,hb,hx,hz,q1,q2⟩:=h
 cases rx
 cases ry
 obtain⟨its,r1,p1,_⟩:=I.tuple ha
 obtain⟨its2,r2,p2,_⟩:=I.tuple hb
 refine HT.cat_tup p1 p2 (fun z=>hx (r1.nil_iff.mp z)) (fun z=>⟨.ref a,H,I,rfl,q1 (r2.nil_iff.mp z)⟩) (fun z=>?_) (by rw[← r1.length,← r2.length];exact hz)
 refine⟨.ref s.heap.objs.size,_,I.laid (t':=s.toks) (o:=.tup (xs++ys)) (fun b ob q=>Heap.get?_push_of_some _ q) (yd _) ?_,rfl,q2 (fun w=>z (r2.nil_iff.mpr w)) _ (I.hok.fresh (yd _))⟩
 exact⟨by rw[yf];exact hz,_,r1.append r2,IsTup.new _ _⟩
end
end L2
namespace L2
open PySem PySem.Spec PyProof.Rows
noncomputable def ixN(n:Nat)(i:Int):Option Nat:=if 0≤i then (if i<n then some i.toNat else none) else if -(n:Int)≤i then some (i+n).toNat else none
noncomputable def atI{α:Type}(xs:List α)(i:Int):Option α:=(ixN xs.length i).bind fun j=>xs[j]?
theorem vj{n:Nat}{i:Int}{j:Nat}(h:ixN n i=some j):seqIndex? i n=some j∧j<n∧-(n:Int)≤i∧i<n:=by
 unfold ixN at h
 by_cases h0:0≤i
 ·rw[if_pos h0] at h
  by_cases h1:i<n
  ·rw[if_pos h1] at h
   have e:i.toNat=j:=yt h
   exact⟨by rw[seqIndex_of h0 h1,e],by omega,by lia,h1⟩
  ·rw[if_neg h1] at h;cases h
 ·rw[if_neg h0] at h
  by_cases h1:-(n:Int)≤i
  ·rw[if_pos h1] at h
   have e:(i+n).toNat=j:=yt h
   exact⟨by rw[seqIndex_neg (by lia) h1,e],by lia,h1,by lia⟩
  ·rw[if_neg h1] at h;cases h
theorem oZ{α:Type}{xs:List α}{i:Int}{v:α}(h:atI xs i=some v):∃j,seqIndex? i xs.length=some j∧xs[j]? = some v∧j<xs.length∧-(xs.length:Int)≤i∧i<xs.length:=by
 unfold atI at h
 cases e:ixN xs.length i with
 | none=>rw[e] at h;cases h
 | some j =>
  rw[e] at h
  obtain⟨h1,h2,h3,h4⟩:=vj e
  exact⟨j,h1,h,h2,h3,h4⟩
theorem bg{α:Type}{xs:List α}{j:Nat}{v:α}(h:xs[j]? = some v):atI xs (j:Int)=some v:=by
 have hj:j<xs.length:=(List.getElem?_eq_some_iff.mp h).1
 have e:ixN xs.length (j:Int)=some j:=by
  unfold ixN
  rw[if_pos (by lia),if_pos (by omega)];simp
 unfold atI;rw[e];exact h
noncomputable def vx(b:Expr):Prop:=∀o i,subscripted b false o i=operate [o,i] (getItem o i)
noncomputable def IxR(X:Cx)(r:R2):Prop :=
 ∀(value slice:Expr) (pins:List (Addr×Obj)) (s:Shared) (σ:St) (H:Hp) (x y:V) (v u:Value) (Q:VK),Inv X pins σ H s→bu x v→bu y u→r x y H Q →
  subscripted slice false v u=operate [v,u] (getItem v u)→wpAny (model X.prog X.w) X.A (subscriptTail value slice v u) (EP X pins σ Q) X.xe s
noncomputable def MtR(X:Cx)(id:String)(r:V→List V→Hp→VK→Prop):Prop :=
 ∀(pins:List (Addr×Obj)) (s:Shared) (σ:St) (H:Hp) (x:V) (xs:List V) (v:Value) (us:List Value) (Q:VK),Inv X pins σ H s→bu x v→bp xs us→r x xs H Q →
  wpAny (model X.prog X.w) X.A (call (.builtin id) (v::us)) (EP X pins σ Q) X.xe s
section
variable{X:Cx}{a b:Expr}{ta tb:TE}{pos:Pos}
theorem aM{r:R2}(hr:IxR X r)(ha:PE X a ta)(hb:PE X b tb)(hs:vx b):PE X (.Subscript a b pos) (tOp r ta tb):=by
 intro pins s σ H Q I h
 exact Subscript_ (Bb ha hb I h fun v u s2 x y H2 I2 rx ry q=>hr a b pins s2 σ H2 x y v u Q I2 rx ry q (hs _ _))
noncomputable def tT(K:PySem.W.Frag):R2:=fun x y H Q=>∃p xs i v,x=.ref p∧y=.int i∧SqL K H p xs∧atI xs i=some v∧Q v H
noncomputable def tG(K:PySem.W.Frag):R2:=fun x y H Q=>∃p xs i v,x=.ref p∧y=.int i∧SqT K H p xs∧atI xs i=some v∧Q v H
theorem bM:IxR X (tT X.K):=by
 intro value slice pins s σ H x y v u Q I rx ry h hs
 obtain⟨p,xs,i,z,rfl,rfl,hq,he,q⟩:=h
 cases rx
 obtain⟨t,rfl⟩:=ry
 obtain⟨its,r,pl,hz⟩:=I.list hq
 obtain⟨j,h1,h2,h3,h4,h5⟩:=oZ he
 obtain⟨w,ew,rw'⟩:=r.get h2
 have hl:=r.length
 have hn:=mU
 have fin:EP X pins σ Q w s:=⟨z,H,I,rw',q⟩
 by_cases h0:0≤i
 ·have hj:i.toNat=j:=by
   rw[seqIndex_of h0 h5] at h1
   exact yt h1
  exact item_listR pl.isList h0 (by lia) (by rw[hj];simpa using ew) fin hs
 ·have hj:(i+(its.toArray.size:Int)).toNat=j:=by
   rw[seqIndex_neg (by lia) h4] at h1
   rw[yh,← hl]
   exact yt h1
  exact subscriptTail_builtinR (x:=w) pl.isList.typeIs slot_list_getitem.lookup
   (wpAny_getItem_list_neg (Q:=fun r s'=>r=w∧EP X pins σ Q r s') pl.isList (by lia) (by rw[yh] <;> lia) (by lia) (by rw[hj];simpa using ew) ⟨rfl,fin⟩) hs
theorem ba:IxR X (tG X.K):=by
 intro value slice pins s σ H x y v u Q I rx ry h hs
 obtain⟨p,xs,i,z,rfl,rfl,hq,he,q⟩:=h
 cases rx
 obtain⟨t,rfl⟩:=ry
 obtain⟨its,r,pl,hz⟩:=I.tuple hq
 obtain⟨j,h1,h2,h3,h4,h5⟩:=oZ he
 obtain⟨w,ew,rw'⟩:=r.get h2
 have hl:=r.length
 have hn:=mU
 have fin:EP X pins σ Q w s:=⟨z,H,I,rw',q⟩
 exact subscriptTail_builtinR (x:=w) pl.typeIs slot_tuple_getitem.lookup
  (getItem_tuple (j:=j) (Q:=fun r s'=>r=w∧EP X pins σ Q r s') pl (by lia) (by lia) (by rw[yh,← hl];exact h1) (by simpa using ew) ⟨rfl,fin⟩) hs
noncomputable def wr:V→V→V→Hp→(Hp→Prop)→Prop:=fun o i v H Q=>∃p xs k j,o=.ref p∧i=.int k∧H p=some (.lst xs)∧ixN xs.length k=some j∧Q (upd H p (.lst (xs.set j v)))
theorem kO(lo hi:Option Int)(n:Nat):(sliceBounds lo hi none n).1=((HT.sIx n 0 lo:Nat):Int)∧(sliceBounds lo hi none n).2.1=((HT.sIx n n hi:Nat):Int)∧(sliceBounds lo hi none n).2.2=1:=by
 refine⟨?_,?_,rfl⟩
 ·cases lo with
  | none=>simp[sliceBounds,HT.sIx]
  | some i =>
   simp only[sliceBounds,HT.sIx,Option.getD_none,show(1:Int)>0 by decide,if_true]
   by_cases h:i<0
   ·simp only[h,if_true] <;> lia
   ·simp only[h,if_false] <;> lia
 ·cases hi with
  | none=>simp[sliceBounds,HT.sIx]
  | some i =>
   simp only[sliceBounds,HT.sIx,Option.getD_none,show(1:Int)>0 by decide,if_true]
   by_cases h:i<0
   ·simp only[h,if_true] <;> lia
   ·simp only[h,if_false] <;> lia
theorem jw(its:List Value)(lo hi:Option Int):slicePick its.toArray lo hi none=((its.drop (HT.sIx its.length 0 lo)).take (HT.sIx its.length its.length hi-HT.sIx its.length 0 lo)).toArray:=by
 obtain⟨h1,h2,h3⟩:=kO lo hi its.toArray.size
 unfold slicePick
 rw[h1,h2,h3]
 simp only[sliceRange_one,pick_run,yh] <;> rfl
noncomputable def xa(K:PySem.W.Frag):V→Option Int→Option Int→Hp→VK→Prop:=fun x lo hi H Q=>∃a xs,x=.ref a∧SqL K H a xs∧∀p,H p=none→Q (.ref p) (upd H p (.lst (js xs lo hi)))
theorem tP:SlR X (xa X.K):=by
 intro pins s σ H x v vl vu lo hi sl Q I rx hs pl pu h
 obtain⟨a,xs,rfl,hx,q⟩:=h
 cases rx
 obtain⟨its,r,ht,hz⟩:=I.list hx
 have hlen:=r.length
 refine⟨"list",_,slot_list_getitem.lookup,ht.isList.typeIs,?_⟩
 refine wpAny_getItem_list_slice ht.isList hs pl pu .none (by simp) ?_ (by rw[yh] <;> lia)
 rw[jw,← hlen]
 refine⟨.ref s.heap.objs.size,_,I.laid (t':=s.toks) (o:=.lst (js xs lo hi)) (fun b ob q=>Heap.get?_push_of_some _ q) (yd _) ?_,rfl,q _ (I.hok.fresh (yd _))⟩
 exact⟨yu (lu xs lo hi) hz,_,0,(r.drop (HT.sIx xs.length 0 lo)).take (HT.sIx xs.length xs.length hi-HT.sIx xs.length 0 lo),Heap.get?_push_size _ rfl⟩
noncomputable def fF:V→Bool
 | .non=>true
 | .bl _=>true
 | .int _=>true
 | .str _=>true
 | _=>false
noncomputable def eqV:V→V→Bool
 | .non,.non=>true
 | .bl a,.bl b=>a == b
 | .bl a,.int b=>(if a then 1 else 0) == b
 | .int a,.bl b=>a == (if b then 1 else 0)
 | .int a,.int b=>a == b
 | .str a,.str b=>a == b
 | _,_=>false
theorem zz{A:Around}{s:Shared}{y x:V}{u v:Value}(ry:bu y u)(rx:bu x v)(fy:fF y=true)(fx:fF x=true):SeqAt.EqAt A s u v (eqV y x):=by
 cases y with
 | non =>
  cases ry
  cases x with
  | non=>cases rx;exact SeqAt.EqAt.same _
  | bl b=>cases rx;exact SeqAt.EqAt.none_bool b
  | int b=>obtain⟨t,rfl⟩:=rx;exact SeqAt.EqAt.none_int b t
  | str b=>obtain⟨t,rfl⟩:=rx;exact SeqAt.EqAt.none_str b t
  | _=>exact absurd (show false=true from fx) yl
 | bl a =>
  cases ry
  cases x with
  | non=>cases rx;exact SeqAt.EqAt.bool_none a
  | bl b=>cases rx;exact SeqAt.EqAt.bool_bool a b
  | int b=>obtain⟨t,rfl⟩:=rx;exact SeqAt.EqAt.bool_int a b t
  | str b=>obtain⟨t,rfl⟩:=rx;exact SeqAt.EqAt.bool_str a b t
  | _=>exact absurd (show false=true from fx) yl
 | int a =>
  obtain⟨t',rfl⟩:=ry
  cases x with
  | non=>cases rx;exact SeqAt.EqAt.int_none a t'
  | bl b=>cases rx;exact SeqAt.EqAt.int_bool a t' b
  | int b=>obtain⟨t,rfl⟩:=rx;exact SeqAt.EqAt.int_int a t' b t
  | str b=>obtain⟨t,rfl⟩:=rx;exact SeqAt.EqAt.int_str a t' b t
  | _=>exact absurd (show false=true from fx) yl
 | str a =>
  obtain⟨t',rfl⟩:=ry
  cases x with
  | non=>cases rx;exact SeqAt.EqAt.str_none a t'
  | bl b=>cases rx;exact SeqAt.EqAt.str_bool a t' b
  | int b=>obtain⟨t,rfl⟩:=rx;exact SeqAt.EqAt.str_int a t' b t
  | str b=>obtain⟨t,rfl⟩:=rx;exact SeqAt.EqAt.str_str a t' b t
  | _=>exact absurd (show false=true from fx) yl
 | _=>exact absurd (show false=true from fy) yl
noncomputable def eqU(x:V)(u:Value):Bool:=match u with
 | .none=>eqV .non x
 | .bool b=>eqV (.bl b) x
 | .int i _=>eqV (.int i) x
 | .str z _=>eqV (.str z) x
 | _=>false
theorem rW{x y:V}{u:Value}(r:bu y u)(f:fF y=true):eqU x u=eqV y x:=by
 cases y with
 | non=>cases r;rfl
 | bl b=>cases r;rfl
 | int i=>obtain⟨t,rfl⟩:=r;rfl
 | str z=>obtain⟨t,rfl⟩:=r;rfl
 | _=>exact absurd (show false=true from f) yl
theorem kR{x:V}:∀{xs:List V} {us:List Value},bp xs us→xs.all fF=true→us.any (eqU x)=xs.any fun y=>eqV y x
 | _,_,.nil,_=>rfl
 | y::xs,u::us,.cons r t,f=>by
  rw[yZa,yI] at f
  rw[yAa,yAa,rW r f.1,kR t f.2]
theorem iQ{A:Around}{s:Shared}{x:V}{v:Value}(rx:bu x v)(fx:fF x=true):∀{xs:List V} {us:List Value},bp xs us→xs.all fF=true→∀u∈us,SeqAt.EqAt A s u v (eqU x u)
 | _,_,.nil,_=>fun u hu=>by cases hu
 | y::xs,u::us,.cons r t,f=>fun u' hu=>by
  rw[yZa,yI] at f
  rcases List.mem_cons.mp hu with rfl | hu
  ·rw[rW r f.1];exact zz r rx f.1 fx
  ·exact iQ rx fx t f.2 u' hu
noncomputable def inV(x:V)(xs:List V):Bool:=xs.any fun y=>eqV y x
noncomputable def rIn(K:PySem.W.Frag)(neg:Bool):R2:=fun x y H Q=>∃p xs,y=.ref p∧(SqL K H p xs∨SqT K H p xs)∧fF x=true∧xs.all fF=true∧Q (.bl (if neg then !inV x xs else inV x xs)) H
theorem pf:OpR X (compareOp .In) (rIn X.K false):=by
 intro pins s σ H x y v u Q I rx ry h
 obtain⟨p,xs,rfl,hq,fx,fs,q⟩:=h
 cases ry
 rcases hq with hq | hq
 ·obtain⟨its,r,pl,hz⟩:=I.list hq
  refine SeqAt.in_listAt (eqU x) pl.isList (fun w hw=>iQ rx fx r fs w (by simpa using hw)) ⟨.bl _,H,I,rfl,?_⟩
  rw[show its.toArray.any (eqU x)=its.any (eqU x) by simp,kR r fs]
  exact q
 ·obtain⟨its,r,pl,hz⟩:=I.tuple hq
  refine SeqAt.in_tupleAt (eqU x) pl (fun w hw=>iQ rx fx r fs w (by simpa using hw)) ⟨.bl _,H,I,rfl,?_⟩
  rw[show its.toArray.any (eqU x)=its.any (eqU x) by simp,kR r fs]
  exact q
theorem kF:cu X (.builtin "len") (fun xs H Q=>∃p ys,xs=[.ref p]∧(SqL X.K H p ys∨SqT X.K H p ys)∧Q (.int ys.length) H):=by
 intro pins s σ H xs us Q I r h
 obtain⟨p,ys,rfl,hq,q⟩:=h
 obtain⟨u,rfl,rx⟩:=gK r
 cases rx
 have hn:=mU
 rcases hq with hq | hq
 ·obtain⟨its,r',pl,hz⟩:=I.list hq
  have hlen:=r'.length
  exact Calls.call_len_list pl.isList (by simp only[yh] <;> lia) ⟨.int ys.length,H,I.tok _,⟨s.toks+1,by rw[yh,hlen]⟩,q⟩
 ·obtain⟨its,r',pl,hz⟩:=I.tuple hq
  have hlen:=r'.length
  exact len_tuple pl (by simp only[yh] <;> lia) ⟨.int ys.length,H,I.tok _,⟨s.toks+1,by rw[yh,hlen]⟩,q⟩
theorem lc:cu X (.type "list") (fun xs H Q=>∃p ys,xs=[.ref p]∧(SqL X.K H p ys∨SqT X.K H p ys)∧∀l,H l=none→Q (.ref l) (upd H l (.lst ys))):=by
 intro pins s σ H xs us Q I r h
 obtain⟨p,ys,rfl,hq,q⟩:=h
 obtain⟨u,rfl,rx⟩:=gK r
 cases rx
 have fin:∀(its:List Value),bp ys its→ys.length≤sizeLine→∀(h':Heap) (c':Nat),(∀b o',s.heap.get? b=some o'→h'.get? b=some o') →
   h'.get? s.heap.objs.size=some { cls:=.type "list",dict:=none,data:=.seq its.toArray c',slots:=#[] }→EP X pins σ Q (.ref s.heap.objs.size) { s with heap:=h' }:=fun its r' hz h' c' kp e =>
  ⟨.ref s.heap.objs.size,_,I.laid (t':=s.toks) kp (yd _) (show bF X.prog X.w _ h' _ (.lst ys) from ⟨hz,its,c',r',e⟩),rfl,q _ (I.hok.fresh (yd _))⟩
 rcases hq with hq | hq
 ·obtain⟨its,r',pl,hz⟩:=I.list hq
  have hlen:=r'.length
  obtain⟨o,ho,hc,n,hd⟩:=pl.isList
  exact call_list_seq p (.inl rfl) ho hc hd (fun h' c' kp e=>fin its r' hz h' c' kp e) (by simp only[yh] <;> lia)
 ·obtain⟨its,r',pl,hz⟩:=I.tuple hq
  have hlen:=r'.length
  obtain⟨o,ho,hc,n,hd⟩:=pl
  exact call_list_seq p (.inr rfl) ho hc hd (fun h' c' kp e=>fin its r' hz h' c' kp e) (by simp only[yh] <;> lia)
theorem jy:cu X (.type "tuple") (fun xs H Q=>∃p ys,xs=[.ref p]∧((SqL X.K H p ys∧∀l,H l=none→Q (.ref l) (upd H l (.tup ys)))∨(SqT X.K H p ys∧Q (.ref p) H))):=by
 intro pins s σ H xs us Q I r h
 obtain⟨p,ys,rfl,h⟩:=h
 obtain⟨u,rfl,rx⟩:=gK r
 cases rx
 rcases h with ⟨hq,q⟩ | ⟨hq,q⟩
 ·obtain⟨its,r',pl,hz⟩:=I.list hq
  have hlen:=r'.length
  refine call_tuple_list pl.isList (fun h' kp=>?_) (by simp only[yh] <;> lia)
  have I1:Inv X pins σ H { s with heap:=h' }:=I.kept (t':=s.toks) kp
  have I2:Inv X pins σ (upd H h'.objs.size (.tup ys)) { s with heap:=h'.push { cls:=.type "tuple",data:=.seq its.toArray } } :=
   I1.laid (t':=s.toks) (fun b o e=>Heap.get?_push_of_some _ e) (yd _) (show bF X.prog X.w _ _ _ (.tup ys) from ⟨hz,its,r',IsTup.new _ _⟩)
  exact⟨.ref h'.objs.size,_,I2,rfl,q _ (I1.hok.fresh (yd _))⟩
 ·obtain⟨its,r',pl,hz⟩:=I.tuple hq
  exact call_tuple_same pl ⟨.ref p,H,I,rfl,q⟩
noncomputable def tyV(K:PySem.W.Frag)(T:String)(x:V)(H:Hp):Prop:=match x with
 | .str _=>T = "str"
 | .int _=>T = "int"
 | .ref p=>(T = "list" ∧ ∃xs,SqL K H p xs)∨(T = "tuple" ∧ ∃o,K.lookup p=some o∧o.cls=.type "tuple" ∧ o.dict=none) ∨
   (T = "dict" ∧ ((∃kvs,H p=some (.dK kvs))∨∃kvs,H p=some (.dT kvs)))∨(T = "set" ∧ ∃S n,H p=some (.set S n))
 | _=>False
theorem rF{pins:List (Addr×Obj)}{σ:St}{H:Hp}{s:Shared}{T:String}{x:V}{v:Value}(I:Inv X pins σ H s)(r:bu x v)(ty:tyV X.K T x H) :
  s.TypeIs v T∧∀a,v=.ref a→∃ob,s.heap.get? a=some ob∧ob.dict=none:=by
 cases x with
 | str z =>
  obtain⟨t,rfl⟩:=r
  cases (show T = "str" from ty)
  exact⟨typeIs_str s z t,fun _ e=>nomatch e⟩
 | int i =>
  obtain⟨t,rfl⟩:=r
  cases (show T = "int" from ty)
  exact⟨typeIs_int s i t,fun _ e=>nomatch e⟩
 | ref p =>
  cases r
  rcases ty with ⟨rfl,xs,hq⟩ | ⟨rfl,o,hk,hc,hd⟩ | ⟨rfl,hk⟩ | ⟨rfl,S,n,hk⟩
  ·obtain⟨its,_,pl,_⟩:=I.list hq
   refine⟨pl.isList.typeIs,fun a e=>?_⟩
   cases e
   obtain⟨o,n,e,c,hd,_⟩:=pl
   exact⟨o,e,hd⟩
  ·refine⟨⟨o,I.kIn p o hk,hc⟩,fun a e=>?_⟩
   cases e
   exact⟨o,I.kIn _ o hk,hd⟩
  ·have z:∃o,s.heap.get? p=some o∧o.ExactDict:=by
    rcases hk with ⟨kvs,hk⟩ | ⟨kvs,hk⟩
    ·obtain⟨_,_,_,_,o,_,_,e,ex,_⟩:=I.hok p _ hk
     exact⟨o,e,ex⟩
    ·obtain⟨_,_,_,_,o,_,_,e,ex,_⟩:=I.hok p _ hk
     exact⟨o,e,ex⟩
   obtain⟨o,e,ex⟩:=z
   refine⟨⟨o,e,ex.1⟩,fun a e2=>?_⟩
   cases e2
   exact⟨o,e,ex.2.1⟩
  ·obtain⟨o,_,_,_,e,ex,_⟩:=I.hok p _ hk
   refine⟨⟨o,e,ex.1⟩,fun a e2=>?_⟩
   cases e2
   exact⟨o,e,ex.2.1⟩
 | _=>exact False.elim ty
noncomputable def Cn(K:PySem.W.Frag)(T:String)(r:V→List V→Hp→VK→Prop)(to:TE):TE:=fun σ H Q=>to σ H fun x H1=>tyV K T x H1∧r x [] H1 Q
noncomputable def tBM(K:PySem.W.Frag)(T:String)(r:V→List V→Hp→VK→Prop)(to:TE)(t:TA):TE:=fun σ H Q=>to σ H fun x H1=>tyV K T x H1∧t σ H1 fun xs H2=>r x xs H2 Q
variable{o e:Expr}{es:List Expr}{to:TE}{t:TA}{name:Str}{apos cpos:Pos}{T id:String}{r:V→List V→Hp→VK→Prop}
theorem mY(pa:PlainAttrs T)(slot:Slot T name id)(hty:typeOf (.builtin id)=pure (.type "method_descriptor"))(hm:MtR X id r)(ho:PE X o to)
  (hbase:attributeBase o name X.env (eval o X.env)=eval o X.env:=by rfl) (hline:(apos.endLine == cpos.line)=true:=by rfl):PE X (.Call (.Attribute o name apos) [] [] cpos) (Cn X.K T r to):=by
 intro pins s σ H Q I h
 refine wpAny_Call_method0_late hbase hline (thn (ho pins s σ H _ I h) fun v s1 zz_=>?_)
 obtain⟨x,H1,I1,r1,ty,q1⟩:=zz_
 obtain⟨h1,h2⟩:=rF I1 r1 ty
 exact⟨T,id,pa,slot,hty,h1,h2,Calls.callWith_builtin rfl (PySem.evalArgs_none (hm pins s1 σ H1 x [] v [] Q I1 r1 .nil q1))⟩
theorem cH(pa:PlainAttrs T)(slot:Slot T name id)(hty:typeOf (.builtin id)=pure (.type "method_descriptor"))(hm:MtR X id r)(ho:PE X o to)(ha:PA X (e::es) t)
  (hbase:attributeBase o name X.env (eval o X.env)=eval o X.env:=by rfl)
  (hfew:((backTo cpos (starEach (e::es) X.env)).all (fun x=>!x.1)&&(backToKw cpos (keywordEach [] X.env)).all (fun x=>x.1.isSome)
   && decide ((e::es).length+([]:List Keyword).length+(if ([]:List Keyword).isEmpty then 0 else 1)<30))=true:=by rfl)
  (hline:(apos.endLine == cpos.line)=true:=by rfl) (hs:starEach (e::es) X.env=(false,eval e X.env)::starEach es X.env:=by rfl) (hplain:(backTo cpos (starEach es X.env)).any (·.1)=false:=by rfl) :
  PE X (.Call (.Attribute o name apos) (e::es) [] cpos) (tBM X.K T r to t):=by
 intro pins s σ H Q I h
 refine wpAny_Call_method_late hbase hfew hline rfl (thn (ho pins s σ H _ I h) fun v s1 zz_=>?_)
 obtain⟨x,H1,I1,r1,ty,q1⟩:=zz_
 obtain⟨h1,h2⟩:=rF I1 r1 ty
 refine⟨T,id,pa,slot,hty,h1,h2,?_⟩
 have hA:=ha cpos pins s1 σ H1 _ I1 q1
 rw[hs] at hA ⊢
 refine Calls.callWith_builtin (by show(false||(backTo cpos (starEach es X.env)).any (·.1))=false;rw[hplain] <;> rfl) (Calls.evalArgs_plain ?_)
 refine thn hA fun us s2 z21_=>?_
 obtain⟨vs,H2,I2,r2,q2⟩:=z21_
 exact hm pins s2 σ H2 x vs v us Q I2 r1 r2 q2
/- xs.append(e),list.index on a module's tuple .. are MtR facts of 06m -/
end
end L2
namespace L2
open PySem PySem.Spec PyProof.Rows
noncomputable def MtM(X:Cx)(id:String)(r:V→List V→Hp→VK→Prop):Prop :=
 ∀(pins:List (Addr×Obj)) (s:Shared) (σ:St) (H:Hp) (x:V) (xs:List V) (v:Value) (us:List Value) (Q:VK),Inv X pins σ H s→bu x v→bp xs us→r x xs H Q →
  wpAny (model X.prog X.w) X.A (call (.builtin id) (v::us)) (EP X pins σ Q) X.xe s
theorem bp.one{x:V}{us:List Value}(h:bp [x] us):∃u,us=[u]∧bu x u:=by
 cases h with
 | cons r h =>
  cases h
  exact⟨_,rfl,r⟩
theorem bp.zero:∀{us:List Value},bp [] us→us=[]
 | _,.nil=>rfl
theorem bp.dropLast{xs:List V}{us:List Value}(h:bp xs us):bp xs.dropLast us.dropLast:=by
 induction h with
 | nil=>exact .nil
 | cons r t ih =>
  cases t with
  | nil=>exact .nil
  | cons q t'=>exact .cons r ih
theorem nQ{α:Type}(l:List α):l.eraseIdx (l.length-1)=l.dropLast:=by
 induction l with
 | nil=>rfl
 | cons a r ih =>
  cases r with
  | nil=>rfl
  | cons b r =>
   have e:(a::b::r).length-1=((b::r).length-1)+1:=by
    have h1:(a::b::r).length=r.length+2:=rfl
    have h2:(b::r).length=r.length+1:=rfl
    lia
   rw[e,List.eraseIdx_cons_succ,ih]
   all_goals rfl
section
variable{X:Cx}{pins:List (Addr×Obj)}{σ:St}{H:Hp}{s:Shared}{l b:Addr}{xs ys zs:List V}
theorem Inv.lset{its its':List Value}{n:Nat}{f:Array Value→Array Value}{t':Nat}(I:Inv X pins σ H s)(hH:H l=some (.lst xs))
  (e:s.heap.get? l=some { cls:=.type "list",data:=.seq its.toArray n }) (hf:f its.toArray=its'.toArray) (hv:bp ys its') (hz:ys.length≤sizeLine) :
  Inv X pins σ (upd H l (.lst ys)) { s with heap:=s.heap.update l (Obj.mapSeq f),toks:=t' }:=by
 have q:=PySem.IsL.update e f
 rw[hf] at q
 refine I.write (x:=l) (e:=l) (by rw[hH];exact trivial) (.inl rfl) (fun b' u hb hu=>(Heap.get?_update_other s.heap (Obj.mapSeq f) (yta hb)).trans hu) ⟨_,q⟩ ?_
 exact⟨hz,its',_,hv,q⟩
theorem Inv.lnew{its:List Value}{t':Nat}(I:Inv X pins σ H s)(hv:bp ys its)(hz:ys.length≤sizeLine) :
  Inv X pins σ (upd H s.heap.objs.size (.lst ys)) { s with heap:=s.heap.push { cls:=.type "list",data:=.seq its.toArray },toks:=t' } :=
 I.laid (fun _ _ q=>Heap.get?_push_of_some _ q) (yd _) ⟨hz,its,0,hv,Heap.get?_push_size _ rfl⟩
theorem Inv.fresh(I:Inv X pins σ H s):H s.heap.objs.size=none:=I.hok.fresh (yd _)
theorem Inv.lstM(I:Inv X pins σ H s)(hH:H l=some (.lst xs)):xs.length≤sizeLine∧∃(its:List Value) (n:Nat),bp xs its∧xs.length=its.length∧s.heap.get? l=some { cls:=.type "list",data:=.seq its.toArray n }:=by
 obtain⟨z,its,n,r,e⟩:=I.hok l _ hH
 exact⟨z,its,n,r,r.length,e⟩
theorem ql{n:Nat}(h:n≤sizeLine):Builtin.List.listTooLong n=false:=by
 unfold Builtin.List.listTooLong
 exact decide_eq_false (by lia)
end
section
variable{X:Cx}
noncomputable def kr:V→List V→Hp→VK→Prop:=fun x vs H Q=>∃l xs y,x=.ref l∧vs=[y]∧H l=some (.lst xs)∧xs.length<sizeLine∧Q .non (upd H l (.lst (xs++[y])))
theorem bI:MtM X "list.append" kr:=by
 intro pins s σ H x vs v us Q I rx rv h
 obtain⟨l,xs,y,rfl,rfl,hH,hz,q⟩:=h
 cases rx
 obtain⟨u,rfl,ru⟩:=rv.one
 obtain⟨z,its,n,r,hl,e⟩:=I.lstM hH
 refine call_meets F.slot_list_append ⟨_,e,rfl⟩ F.entry_list_append (F.args_list_append_2 _ _) (PySem.list_append l its.toArray n u (by rw[yh];lia)) ⟨e,?_⟩
 refine⟨.non,_,I.lset (its':=its++[u]) hH e (by simp) (r.append (.cons ru .nil)) ?_,rfl,q⟩
 rw[yf,yJ]
 lia
noncomputable def oO:V→List V→Hp→VK→Prop:=fun x vs H Q=>∃l b xs zs,x=.ref l∧vs=[.ref b]∧H l=some (.lst xs)∧H b=some (.lst zs)∧xs.length+zs.length≤sizeLine∧Q .non (upd H l (.lst (xs++zs)))
theorem gX:MtM X "list.extend" oO:=by
 intro pins s σ H x vs v us Q I rx rv h
 obtain⟨l,b,xs,zs,rfl,rfl,hH,hB,hz,q⟩:=h
 cases rx
 obtain⟨u,rfl,ru⟩:=rv.one
 cases ru
 obtain⟨z,its,n,r,hl,e⟩:=I.lstM hH
 obtain⟨z2,its2,n2,r2,hl2,e2⟩:=I.lstM hB
 have hsz:its.toArray.size+its2.toArray.size≤sizeLine:=by rw[yh,yh];lia
 have hlong:¬(!its.toArray.isEmpty&&Builtin.List.listTooLong (its.toArray.size+its2.toArray.size))=true:=by
  rw[ql hsz,yEa]
  exact yl
 refine call_meets F.slot_list_extend ⟨_,e,rfl⟩ F.entry_list_extend (F.args_list_extend_2 _ _)
  (AutoSeq1.list_extend_list_list_0 l its.toArray n b its2.toArray n2 hlong (by rw[yh];lia) (by lia)) ⟨e,e2,?_⟩
 refine⟨.non,_,I.lset (its':=its++its2) hH e (by simp) (r.append r2) ?_,rfl,q⟩
 rw[yf]
 omega
noncomputable def Er:V→List V→Hp→VK→Prop:=fun x vs H Q=>∃l xs y,x=.ref l∧vs=[]∧H l=some (.lst xs)∧xs[xs.length-1]? = some y∧Q y (upd H l (.lst xs.dropLast))
theorem qT:MtM X "list.pop" Er:=by
 intro pins s σ H x vs v us Q I rx rv h
 obtain⟨l,xs,y,rfl,rfl,hH,hy,q⟩:=h
 cases rx
 have hus:=rv.zero
 subst hus
 obtain⟨z,its,n,r,hl,e⟩:=I.lstM hH
 obtain⟨u,hu,ru⟩:=r.get hy
 have hy':its.toArray[its.toArray.size-1]? = some u:=by
  show its.toArray[its.length-1]? = some u
  rw[← ytb,← hl]
  exact hu
 refine call_meets F.slot_list_pop ⟨_,e,rfl⟩ F.entry_list_pop (F.args_list_pop_1 _) (MeetsSeq.list_pop_last l its.toArray n u hy' (by rw[yh];lia)) ⟨e,?_⟩
 refine⟨y,_,I.lset (its':=its.dropLast) hH e ?_ r.dropLast ?_,ru,q⟩
 ·show its.toArray.eraseIdxIfInBounds (its.toArray.size-1)=its.dropLast.toArray
  rw[yh,List.eraseIdxIfInBounds_toArray,nQ]
 ·rw[List.length_dropLast]
  omega
noncomputable def xy:V→List V→Hp→VK→Prop:=fun x vs H Q=>∃l xs,x=.ref l∧vs=[]∧H l=some (.lst xs)∧Q .non (upd H l (.lst []))
noncomputable def AD:R2:=fun x y H Q=>∃l b xs zs,x=.ref l∧y=.ref b∧H l=some (.lst xs)∧H b=some (.lst zs)∧xs.length+zs.length≤sizeLine∧∀p,H p=none→Q (.ref p) (upd H p (.lst (xs++zs)))
theorem wG:OpR X (binaryOp .Add) AD:=by
 intro pins s σ H x y v u Q I rx ry h
 obtain⟨l,b,xs,zs,rfl,rfl,hH,hB,hz,q⟩:=h
 cases rx
 cases ry
 obtain⟨z,its,n,r,hl,e⟩:=I.lstM hH
 obtain⟨z2,its2,n2,r2,hl2,e2⟩:=I.lstM hB
 refine PySem.P.add_list e e2 ?_ (by rw[yh,yh];lia)
 have ea:its.toArray++its2.toArray=(its++its2).toArray:=by simp
 rw[ea]
 exact⟨.ref _,_,I.lnew (t':=s.toks) (r.append r2) (by rw[yf];omega),rfl,q _ I.fresh⟩
noncomputable def Gc:R2:=fun x y H Q=>∃l k xs,x=.ref l∧y=.int k∧H l=some (.lst xs)∧-(2 ^ 63)≤k∧k<2 ^ 63∧xs.length*k.toNat≤sizeLine ∧
 ∀p,H p=none→Q (.ref p) (upd H p (.lst (List.replicate k.toNat xs).flatten))
end
section
variable{prog:Program}{w:World}{A:Around}{E:Value→Shared→Prop}{s:Shared}
end
section
variable{X:Cx}
end
end L2
namespace Att
open PySem PySem.W PySem.Calls PyProof.Rows
theorem ir{P:Params}{h:Heap}:∀(ns:List Int) (vs:List Value),WellAll P h vs (ns.map WData.int)→IntsAre vs ns:=by
 intro ns
 induction ns with
 | nil =>
  intro vs w
  rw[yua] at w
  cases w
  exact .nil
 | cons n ns ih =>
  intro vs w
  rw[yi] at w
  cases w with
  | cons a b =>
   cases a
   exact .cons _ _ (ih _ b)
theorem pP{l:OpenLaw}{n:Nat}(hn:l.most=some n){P:Params}{h:Heap}{args:List WData}{vals:List Value}
  (hpre:l.row.toRowW.claim.pre args=true) (hwl:WellAll P h vals args) :
  ∃a vs ns,vals=[Value.ref a]∧args=[WData.list (ns.map WData.int)]∧h.get? a=some { cls:=.type "list",data:=.seq vs.toArray }∧IntsAre vs ns∧ns.length≤n:=by
 have hsh:WShape.hasAll [] args [.list .int]=true:=(pre_splitW hpre).1
 have hc:l.pre.holds [] { args:=args } = true:=(pre_splitW hpre).2
 obtain⟨d,r,rfl,h1,h2⟩:=hasAllW_cons hsh
 obtain rfl:=hasAllW_nil h2
 obtain⟨xs,rfl,h3⟩:=hasW_list h1
 obtain⟨ns,rfl⟩:=items_int h3
 have hlen:ns.length≤n:=by
  unfold OpenLaw.pre at hc
  have h4:(WTm.not (.lt (.lit (.int (n:Int))) (.len (.arg 0)))).holds [] { args:=[.list (ns.map .int)] } = true:=by
   have h4:=(holds_andW hc).1
   rw[hn] at h4
   exact h4
  have h5:=condW_of h4 (w_not (w_lt w_lit (w_len_list (w_arg rfl))))
  rw[ya] at h5
  refine yfb fun q=>?_
  have q':(n:Int)<((ns.length:Nat):Int):=by omega
  first
   | (rw[decide_eq_true q'] at h5;exact absurd h5 (by decide))
   | (simp at h5;omega)
 cases hwl with
 | cons w1 w2 =>
  cases w2
  cases w1 with
  | list ho hall=>exact⟨_,_,ns,rfl,rfl,ho,ir ns _ hall,hlen⟩
theorem pO(l:OpenLaw)(args:List WData):l.row.toRowW.claim.post args (.bool true) args=true :=
 postW_of (r:=l.row.toRowW) (X:=(true == true))
  (show WShape.has [] (.bool true) .bool=true by first | rfl | decide | simp[WShape.has,WShape.arms,WShape.armsAll])
  (show(WTm.eq .res (.lit (.bool true))).value [] { args:=args,res:=some (.bool true),after:=args } = some (.bool (true == true)) from w_eq_bool (w_res rfl) w_lit) rfl
theorem attach_call{l:OpenLaw}{n:Nat}{q:Program}{loose:List Str}{XP:(Str→Option Value)→Heap→Prop}{YP:World→Heap→Prop}{d:DefRec}
  (hn:l.most=some n) (hdf:d.params.defaults=[])
  (call:∀(w:World) (s₀ s₁:Shared) (mg mb:Str→Option Value) (fa:Addr) (o:Obj) (pm cd doc:Value) (a:Addr) (vs:List Value) (ns:List Int),
   Ground q loose [] XP w s₀ mg mb s₁.heap→YP w s₁.heap →
   s₁.heap.get? fa=some o→o.data=.func (docDef d.name d.params d.body d.scope pm cd doc)→s₁.heap.CodeRec cd d.name→mg d.name=some (.ref fa) →
   s₁.heap.get? a=some { cls:=.type "list",data:=.seq vs.toArray }→IntsAre vs ns→ns.length≤n→s₁.gens = #[] →
   codeAny (model l.prog w) callerA (.call (.ref fa) ⟨[.ref a],[]⟩) (fun r s'=>r=.ok (.ret (.bool true))∧OldK s₁.heap s'.heap∧s'.os=s₁.os∧AllBare s'.gens) s₁) :
  WalkO q loose XP YP l.row.toRowW d [] (fun f vs=>PySem.call f vs):=by
 intro w s₀ s₁ mg mb G Y fa o pm cd doc dV kV ho hd hcd hD hmg hg args vals as hpre hlay hrd hwl hlo
 obtain rfl:dV=.none:=Dflts.none hD hdf
 obtain rfl:kV=.none:=Dflts.noKw hD
 obtain⟨a,vs,ns,rfl,rfl,hobj,hints,hlen⟩:=pP hn hpre hwl
 refine enter_call (codeAny_mono (call w s₀ s₁ mg mb fa o pm cd doc a vs ns G Y ho (fd_plain hd) hcd hmg hobj hints hlen hg) fun r s' hq=>?_)
 obtain⟨rfl,h2,h3,h4⟩:=hq
 exact⟨.inl ⟨.bool true,.bool true,[],rfl,fun _=>rfl,.bool true,pO l _,fun _=>⟨List.Pairwise.nil,fun _ hm=>(nomatch hm)⟩⟩,h2,h3,h4⟩
section
variable{prog:Program}{w:World}{A:Around}{E:Value→Shared→Prop}{s:Shared}{K:Frag}
end
end Att
namespace L2
open PySem PySem.Spec PyProof.Rows
theorem jN:∀{vs:List Value} {ns:List Int},IntsAre vs ns→bp (ns.map V.int) vs
 | _,_,.nil=>.nil
 | _,_,.cons n t h=>.cons ⟨t,rfl⟩ (jN h)
noncomputable def Bz(H:Hp):Prop:=∀b,H b=none∨∃o xs,H b=some (.frz o (.lst xs))
theorem sU{P:Program}{w:World}{K:PySem.W.Frag}{mg mb:Str→Option Value}{CX:CXT}{k:Nat}{fa a:Addr}{fd:FuncData}{x:Str}{sp:Sp}{s₁:Shared}{vs:List Value}{ns:List Int}
  (KX:K.In s₁.heap) (hns:s₁.heap.Ns mainGlobals mg) (hb:s₁.heap.Ns builtinsNs mb) (hbb:∀x:Str,x ≠ "__name__" → mb x=bootBuiltins x) (hlim:s₁.heap.NoLimit) (hg:s₁.gens = #[])
  (ha:s₁.heap.get? a=some { cls:=.type "list",data:=.seq vs.toArray }) (hi:IntsAre vs ns) (hl:ns.length≤sizeLine) (hr:ce k callerA)
  (F:∀base:Heap,K.In base→base.Ns mainGlobals mg→aT P w K mg base CX k fa fd [x] sp) (hbind:∀(s:Shared) (u:Value),BindsTo s fd ⟨[u],[]⟩ [(x,u)])
  (hsp:∀H:Hp,Bz H→SqL K H a (ns.map V.int)→sp [.ref a] H (fun v _=>v=.bl true) fun _ _ _=>False)
  (hCX:∀H e s',CX [] H s₁ (fun _ _ _=>False) e s'→False) :
  codeAny (model P w) callerA (.call (.ref fa) ⟨[.ref a],[]⟩) (fun r s'=>r=.ok (.ret (.bool true))∧OldK s₁.heap s'.heap∧s'.os=s₁.os∧AllBare s'.gens) s₁:=by
 have rv:=jN hi
 have lenV:=hi.length
 have core:∀H:Hp,Bz H→SqL K H a (ns.map V.int)→HOk P w H s₁.heap→(∀b,H b≠none→b=a)→(H a≠none→K.lookup a=none) →
   codeAny (model P w) callerA (.call (.ref fa) ⟨[.ref a],[]⟩) (fun r s'=>r=.ok (.ret (.bool true))∧OldK s₁.heap s'.heap∧s'.os=s₁.os∧AllBare s'.gens) s₁:=by
  intro H hO hS hok hA hK
  have base_of:∀{b:Addr} {o:Obj},s₁.heap.get? b=some o→H b=none→(la s₁.heap H).get? b=some o:=fun e n=>rN e n
  have noA:∀{b:Addr} {o:Obj} {es:Array DictEntry} {ep:Nat},s₁.heap.get? b=some o→o.data=.dict es ep→H b=none:=fun {b o es ep} e d=>by
   cases q:H b with
   | none=>rfl
   | some u =>
    have e':b=a:=hA b (by rw[q];simp)
    subst e'
    rw[ha] at e;cases e
    have d':Data.seq vs.toArray _=Data.dict es ep:=d
    cases d'
  have nsK:∀{b:Addr} {m:Str→Option Value},s₁.heap.Ns b m→(la s₁.heap H).Ns b m:=fun {b m} ⟨o,es,ep,e,d,r⟩=>⟨o,es,ep,base_of e (noA e d),d,r⟩
  have hKb:K.In (la s₁.heap H):=fun b o e=>base_of (KX b o e) (by
   cases q:H b with
   | none=>rfl
   | some u =>
    have e':b=a:=hA b (by rw[q];simp)
    subst e'
    rw[hK (by rw[q];simp)] at e;cases e)
  have hM:Mod K mg (la s₁.heap H):=⟨hKb,nsK hns,⟨mb,nsK hb,hbb⟩,let ⟨mc,h1,h2⟩:=hlim;⟨mc,nsK h1,h2⟩⟩
  have e0:m7 P w K mg (la s₁.heap H) callerA [] s₁ H:=⟨rfl,hM,fun b o e=>tz e,Nat.le_of_eq (pU _ _),trivial,fun b hb=>absurd (show b∈([]:List Addr) from hb) (by simp),hok,.of_eq hg⟩
  refine codeAny_mono ((F _ hKb (nsK hns)).run callerA [] s₁ H ⟨[.ref a],[]⟩ [.ref a] [.ref a] _ _ hr e0 (hbind s₁ (.ref a)) (.cons rfl .nil) (hsp H hO hS)) fun r s' h=>?_
  cases r with
  | error e=>exact(hCX H e s' h).elim
  | ok fl =>
   cases fl with
   | next=>exact False.elim h
   | brk=>exact False.elim h
   | cont=>exact False.elim h
   | ret u =>
    obtain⟨v,H',os,bare,un,hok',r',q⟩:=h
    have q':v=.bl true:=q
    subst q'
    obtain rfl:u=Value.bool true:=r'
    refine⟨rfl,OldK.of_keep fun b o e=>?_,os,bare⟩
    cases q:H b with
    | none=>exact un.keep b o e q (by intro z;exact absurd (show b∈([]:List Addr) from z) (by simp)) (by simp)
    | some u =>
     rcases hO b with z | ⟨ob,xs,z⟩
     ·rw[q] at z;cases z
     ·have z2:=un.frzs b ob _ z
      obtain⟨e1,_⟩:=hok b _ z
      obtain⟨e2,_⟩:=hok' b _ z2
      rw[e] at e1;cases e1
      exact e2
 cases hk:K.lookup a with
 | some o =>
  have e:=KX a o hk
  rw[ha] at e
  cases e
  refine core (fun _=>none) (fun _=>.inl rfl) (.inr ⟨_,vs.toArray,_,hk,rfl,rfl,rfl,by rw[yh,lenV];exact hl,by simpa using rv⟩) (fun b u z=>by have z':(none:Option HO)=some u:=z;cases z') (fun b z=>absurd rfl z) fun z=>absurd rfl z
 | none =>
  refine core (fun b=>if b=a then some (.frz { cls:=.type "list",data:=.seq vs.toArray } (.lst (ns.map V.int))) else none) (fun b=>?_) (.inl (.inr ⟨{ cls:=.type "list",data:=.seq vs.toArray },if_pos rfl⟩)) (fun b u z=>?_) (fun b z=>?_) fun _=>hk
  ·by_cases hb:b=a
   ·exact .inr ⟨_,_,if_pos hb⟩
   ·exact .inl (if_neg hb)
  ·by_cases hb:b=a
   ·have z':=(if_pos hb).symm.trans z
    cases z'
    subst hb
    exact⟨ha,by rw[ya];exact hl,vs,_,rv,ha⟩
   ·have z':=(if_neg hb).symm.trans z
    cases z'
  ·by_cases hb:b=a
   ·exact hb
   ·exact absurd (if_neg hb) z
end L2
namespace L2
open PySem PySem.Spec PyProof.Rows
theorem vh{l:PySem.W.OpenLaw}{n k:Nat}{q:Program}{loose:List Str}{XP:(Str→Option Value)→Heap→Prop}{YP:World→Heap→Prop}{d:DefRec}{K:Params→PySem.W.Frag}{CX:World→CXT}{sp:World→Sp}{x:Str}
  (hn:l.most=some n) (hn2:n≤sizeLine) (hdf:d.params.defaults=[]) (hr:ce k callerA)
  (hY:∀(w:World) (h:Heap),YP w h→(K w.params).In h)
  (F:∀(w:World) (mg:Str→Option Value) (fa:Addr) (h:Heap),(K w.params).In h→h.Ns mainGlobals mg→mg d.name=some (.ref fa) →
   ∃fd:FuncData,(∀(s:Shared) (u:Value),BindsTo s fd ⟨[u],[]⟩ [(x,u)]) ∧
    ∀base:Heap,(K w.params).In base→base.Ns mainGlobals mg→aT l.prog w (K w.params) mg base (CX w) k fa fd [x] (sp w))
  (hsp:∀(w:World) (H:Hp) (a:Addr) (ns:List Int),ns.length≤n→Bz H→SqL (K w.params) H a (ns.map V.int)→sp w [.ref a] H (fun v _=>v=.bl true) fun _ _ _=>False)
  (hCX:∀(w:World) (H:Hp) (s:Shared) (e:Value) (s':Shared),CX w [] H s (fun _ _ _=>False) e s'→False) :
  PySem.W.WalkO q loose XP YP l.row.toRowW d [] (fun f vs=>PySem.call f vs):=by
 refine Att.attach_call hn hdf fun w s₀ s₁ mg mb fa o pm cd doc a vs ns G Y ho hd hcd hmg hobj hints hlen hg=>?_
 have KX:=hY w _ Y
 obtain⟨fd,hb,hF⟩:=F w mg fa _ KX G.T.g hmg
 exact sU KX G.T.g G.T.b G.T.builtins G.T.nolimit hg hobj hints (yu hlen hn2) hr hF hb (fun H hO hS=>hsp w H a ns hlen hO hS) fun H e s'=>hCX w H s₁ e s'
end L2
/- THE LAST THEOREM (shape;LID,My.* are yours):
  My.Adr: a structure of the addresses that your layer names (classes,functions);My.Txt K t: a structure (Prop) of the equations over K;
  My.txt_mk:{K} {implicit addresses ..} (e1:nsIn K mainGlobals "law" = some (some (.ref f))) (e2:K.lookup f=some ⟨oc,od,.func (fnOf "law" "law" params body scope dV kV doc pm an cdv ct),sl⟩) (e3:codeIn K cdv "law" = true) ..:∃t,My.Txt K t
(the tactic k_is has no namespace: write k_is) -/
namespace L2
open PySem PySem.Spec PyProof.Rows
noncomputable def br(s:Stmt)(j:Nat):Stmt:=match s with
 | .ClassDef _ _ _ body _ _ _ _ _ _ _=>body.getD j (.Pass ⟨0,0,0,0⟩)
 | _=>.Pass ⟨0,0,0,0⟩
noncomputable def cO(s:Stmt):Arguments:=match s with
 | .FunctionDef _ a _ _ _ _ _ _ _ _=>a
 | _=>{ posonlyargs:=[],args:=[],vararg:=none,kwonlyargs:=[],kw_defaults:=[],kwarg:=none,defaults:=[] }
noncomputable def cA(s:Stmt):List Stmt:=match s with
 | .FunctionDef _ _ b _ _ _ _ _ _ _=>b
 | _=>[]
noncomputable def ao(s:Stmt):Scope:=match s with
 | .FunctionDef _ _ _ _ _ _ sc _ _ _=>sc
 | _=>{ kind:=.function,names:=[],isGenerator:=false,isCoroutine:=false }
noncomputable abbrev CX0:CXT:=fun _ _ _ _ _ _=>False
noncomputable abbrev E0:XK:=fun _ _ _=>False
theorem sE{X:Cx}:dL CX0 X E0:=fun _ _ _ _ _ _ _ h=>h.elim
structure Fun(K:PySem.W.Frag)(x qual:Str)(st:Stmt)(f:Addr)(fd:FuncData):Prop where
 ex:∃(oc:Value) (od:Option Addr) (kV doc pm:Value) (an:Option Addr) (cdv ct:Value) (osl:Array (Option Value)),
  fd=PySem.W.fnOf x qual (cO st) (cA st) (ao st) .none kV doc pm an cdv ct∧K.lookup f=some ⟨oc,od,.func fd,osl⟩∧PySem.W.codeIn K cdv qual=true
 kp:PySem.W.keepIn K (.ref f)=true
section
variable{P:Program}{w:World}{K:PySem.W.Frag}{mg:Str→Option Value}{base:Heap}
theorem Fun.ok{x qual:Str}{st:Stmt}{f:Addr}{fd:FuncData}{N ps:List Str}{k:Nat}{sp:Sp}(F:Fun K x qual st f fd)(S:ax N ps (ao st))(len:∀vs H Q E,sp vs H Q E→vs.length=ps.length)
  (hbody:∀(cdv:Value) (A:Around) (outer:List Env) (s:Shared) (H:Hp) (vs:List V) (Q:VK) (E:XK),ce k (A.deeper (envOfC qual (ao st) s.heap.objs.size f cdv))→sp vs H Q E →
   ∃t,PSs (fA CX0 P w K mg base N qual (ao st) f cdv A outer s H E).nox (cA st) t∧t { nx:=fun _ H'=>Q .non H',rt:=Q } (start N vs) H):aT P w K mg base CX0 (k+1) f fd ps sp:=by
 obtain⟨oc,od,kV,doc,pm,an,cdv,ct,osl,rfl,lk,hcd⟩:=F.ex
 refine wA lk hcd S len fun A outer s H vs Q E hr hsp=>?_
 obtain⟨t,h,q⟩:=hbody cdv A outer s H vs Q E hr hsp
 exact⟨t,h.nox,q⟩
theorem Fun.binds{x qual:Str}{st:Stmt}{f:Addr}{fd:FuncData}{ps:List Str}(F:Fun K x qual st f fd)
  (h:∀(kV doc pm:Value) (an:Option Addr) (cdv ct:Value) (us:List Value),us.length=ps.length→bindArgs (PySem.W.fnOf x qual (cO st) (cA st) (ao st) .none kV doc pm an cdv ct) ⟨us,[]⟩=pure (ps.zip us)):cn K fd ps []:=by
 obtain⟨oc,od,kV,doc,pm,an,cdv,ct,osl,rfl,lk,hcd⟩:=F.ex
 exact .all (h kV doc pm an cdv ct)
theorem xB{x qual:Str}{st:Stmt}{f:Addr}{oc:Value}{od an:Option Addr}{osl:Array (Option Value)}{kV doc pm cdv ct:Value}(l:K.lookup f=some ⟨oc,od,.func (PySem.W.fnOf x qual (cO st) (cA st) (ao st) .none kV doc pm an cdv ct),osl⟩)
  (c:PySem.W.codeIn K cdv qual=true) (k:PySem.W.keepIn K (.ref f)=true):Fun K x qual st f (PySem.W.fnOf x qual (cO st) (cA st) (ao st) .none kV doc pm an cdv ct):=⟨⟨oc,od,kV,doc,pm,an,cdv,ct,osl,rfl,l,c⟩,k⟩
end
theorem cM{A:Around}{k:Nat}(hr:ce k A):A.units+1<cLine:=yE (Nat.add_le_add_left (by decide:1≤64) _) hr.units
theorem aE{n:Nat}(h:n≤1000):n<sizeLine:=yE h (by decide)
section
variable{X:Cx}
end
noncomputable def az(H H':Hp):Prop:=∀b o,H b=some o→H' b=some o
theorem az.refl(H:Hp):az H H:=fun _ _ h=>h
theorem az.trans{H H1 H2:Hp}(a:az H H1)(b:az H1 H2):az H H2:=fun c o h=>b c o (a c o h)
theorem az.free{H H':Hp}(e:az H H'){l:Addr}(h:H' l=Option.none):H l=Option.none:=by
 cases q:H l with
 | none=>rfl
 | some o =>
  rw[e l o q] at h
  cases h
theorem az.seq{K:PySem.W.Frag}{H H':Hp}{a:Addr}{xs:List V}(e:az H H')(h:SqL K H a xs):SqL K H' a xs:=by
 rcases h with (h | ⟨o,h⟩) | h
 ·exact .inl (.inl (e _ _ h))
 ·exact .inl (.inr ⟨o,e _ _ h⟩)
 ·exact .inr h
end L2
set_option maxHeartbeats 4000000
namespace L2
open PySem PySem.Spec PyProof.Rows
structure Cal(P:Program)(w:World)(K:PySem.W.Frag)(mg:Str→Option Value)(base:Heap)(x:Str)(ps:List Str)(k:Nat)(sp:Sp):Prop where
 ex:∃(f:Addr) (fd:FuncData),aT P w K mg base CX0 k f fd ps sp∧cn K fd ps []∧PySem.W.keepIn K (.ref f)=true∧mg x=some (.ref f)
theorem aw{X:Cx}{x:Str}{ps:List Str}{k:Nat}{sp:Sp}{e:Expr}{es:List Expr}{t:TA}{p pos:Pos}(C:Cal X.prog X.w X.K X.mg X.base x ps k sp)(hr:ce k X.A)(hg:Gl X x)(ha:PA X (e::es) t)
  (hdb:(x == ("__debug__":Str))=false:=by decide) (he:starEach (e::es) X.env=(false,eval e X.env)::starEach es X.env:=by rfl) (hpl:(backTo pos (starEach es X.env)).any (·.1)=false:=by rfl) :
  PE X (.Call (.Name x p) (e::es) [] pos) (oB sp [] E0 t):=by
 obtain⟨f,fd,F,b,hk,hm⟩:=C.ex
 exact o6 F hr hg hm hk b .nil sE ha hdb he hpl
noncomputable def k7(n T:String):Bool:=n == T||(n == "bool" && T == "int")
noncomputable def tyN(H:Hp)(x:V)(n:String):Prop:=match x with
 | .bl _=>n = "bool"
 | .int _=>n = "int"
 | .str _=>n = "str"
 | .ref a=>(n = "list" ∧ ∃xs,H a=some (.lst xs))∨(n = "tuple" ∧ ∃xs,H a=some (.tup xs))
 | _=>False
theorem vg{H:Hp}{i:Int}{n:String}:tyN H (.int i) n=(n = "int"):=rfl
theorem AX{H:Hp}{i:Bool}{n:String}:tyN H (.bl i) n=(n = "bool"):=rfl
theorem tH{H:Hp}{i:Str}{n:String}:tyN H (.str i) n=(n = "str"):=rfl
theorem vf{H:Hp}{a:Addr}{n:String}:tyN H (.ref a) n=((n = "list" ∧ ∃xs,H a=some (.lst xs))∨(n = "tuple" ∧ ∃xs,H a=some (.tup xs))):=rfl
noncomputable def okT(T:String):Prop:=T = "int" ∨ T = "bool" ∨ T = "str" ∨ T = "list" ∨ T = "tuple"
theorem vK{K:PySem.W.Frag}{n T:String}(hn:okT n)(hT:okT T):PySem.W.kitOne K (.type n) (.type T)=some (k7 n T):=by
 rcases hn with rfl | rfl | rfl | rfl | rfl <;> rcases hT with rfl | rfl | rfl | rfl | rfl <;> rfl
theorem zy{K:PySem.W.Frag}{H:Hp}{x:V}{n:String}(h:tyN H x n):gW K H x (.type n)∧okT n:=by
 cases x with
 | bl b=>cases (show n = "bool" from h);exact⟨.bl b,by simp[okT]⟩
 | int i=>cases (show n = "int" from h);exact⟨.int i,by simp[okT]⟩
 | str i=>cases (show n = "str" from h);exact⟨.str i,by simp[okT]⟩
 | ref a =>
  rcases (show(n = "list" ∧ ∃xs,H a=some (.lst xs))∨(n = "tuple" ∧ ∃xs,H a=some (.tup xs)) from h) with ⟨rfl,xs,e⟩ | ⟨rfl,xs,e⟩
  ·exact⟨.lst e,by simp[okT]⟩
  ·exact⟨.tup e,by simp[okT]⟩
 | _=>exact False.elim h
theorem uc:okT "int" := by simp[okT]
theorem qJ:okT "bool" := by simp[okT]
theorem vC:okT "str" := by simp[okT]
theorem rE:okT "list" := by simp[okT]
theorem p8:okT "tuple" := by simp[okT]
theorem t9:k7 "int" "int" = true:=rfl
theorem ue:k7 "int" "bool" = false:=rfl
theorem tK:k7 "bool" "bool" = true:=rfl
theorem tS:k7 "bool" "int" = true:=rfl
theorem tY:k7 "str" "str" = true:=rfl
theorem vA:k7 "list" "list" = true:=rfl
theorem vc:k7 "tuple" "tuple" = true:=rfl
noncomputable def Cy:List V→Hp→VK→Prop:=fun xs H Q=>∃x T n,xs=[x,.ty T]∧okT T∧tyN H x n∧Q (.bl (k7 n T)) H
theorem rL{X:Cx}:cu X (.builtin "isinstance") Cy:=by
 intro pins s σ H xs us Q I r h
 obtain⟨x,T,n,rfl,hT,ty,q⟩:=h
 obtain⟨u,u',rfl,rx,rT⟩:=ox r
 obtain rfl:u'=Value.type T:=rT
 obtain⟨ty',hn⟩:=zy (K:=X.K) ty
 exact pW I rx ty' (vK hn hT) fun tk=>⟨.bl _,H,I.tok _,rfl,q⟩
theorem u9{i j:Int}:sh (.int i) (.int j)=true:=rfl
theorem uw{i j:Bool}:sh (.bl i) (.bl j)=true:=rfl
theorem uN{i j:Str}:sh (.str i) (.str j)=true:=rfl
theorem r6{i j:Int}:decide (V.int i=V.int j)=decide (i=j):=by
 by_cases h:i=j
 ·subst h;simp
 ·have:¬ V.int i=V.int j:=fun e=>h (V.int.inj e)
  simp[h,this]
noncomputable def BL(t u:TS):TS:=fun D σ H=>∃R:St→Hp→Prop,t { D with nx:=R } σ H∧∀σ' H',R σ' H'→u D σ' H'
theorem dE{X:Cx}{st:Stmt}{rest:List Stmt}{t u:TS}(h1:PS X st t)(h2:PSs X rest u):PSs X (st::rest) (BL t u):=by
 intro pins s σ H D I h
 obtain⟨R,ha,hb⟩:=h
 refine wpAny_execs_cons (thn (h1 pins s σ H { D with nx:=R } I ha) fun f s1 q=>?_)
 cases f with
 | next =>
  obtain⟨σ',H',I',q⟩:=q
  exact h2 pins s1 σ' H' D I' (hb σ' H' q)
 | ret v=>exact q
 | brk=>exact q
 | cont=>exact q
theorem fO{t u:TS}{D:dk}{σ:St}{H:Hp}(R:St→Hp→Prop)(h1:t { D with nx:=R } σ H)(h2:∀σ' H',R σ' H'→u D σ' H'):BL t u D σ H:=⟨R,h1,h2⟩
theorem aV{lo:Int}{n:Nat}{σ:St}{H:Hp}{DN:St→Hp→Prop}{B:(St→Hp→Prop)→V→St→Hp→Prop}(Pv:Nat→St→Hp→Prop)(h0:Pv 0 σ H)
  (hs:∀i σ H,i<n→Pv i σ H→B (Pv (i+1)) (.int (lo+i)) σ H) (hd:∀σ H,Pv n σ H→DN σ H) :
  ∃W:Nat→Nat→St→Hp→Prop,(∃m,W 0 m σ H)∧∀i m σ H,W i m σ H →
   ((Itr lo n).stop i H∧DN σ H)∨((Itr lo n).go i H∧∃N:St→Hp→Prop,(∀σ' H',N σ' H'→∃m',m'<m∧W (i+1) m' σ' H')∧∀x H',(Itr lo n).yld i H x H'→B N x σ H'):=by
 refine⟨fun i m σ H=>m=n-i∧i≤n∧Pv i σ H,⟨n,by simp,yq _,h0⟩,?_⟩
 rintro i m σ H ⟨rfl,hi,p⟩
 by_cases hlt:i<n
 ·refine .inr ⟨hlt,Pv (i+1),fun σ' H' p'=>⟨n-(i+1),by omega,rfl,hlt,p'⟩,fun x H' y=>?_⟩
  obtain⟨e,y⟩:=y
  subst e y
  exact hs i σ _ hlt p
 ·have e:i=n:=by lia
  subst e
  exact .inl ⟨yd _,hd σ H p⟩
theorem aQ{K:PySem.W.Frag}{a:Addr}{xs:List V}{σ:St}{H:Hp}{DN:St→Hp→Prop}{B:(St→Hp→Prop)→V→St→Hp→Prop}(Pv:Nat→St→Hp→Prop)(h0:Pv 0 σ H)
  (hl:∀i σ H,i≤xs.length→Pv i σ H→SqL K H a xs)
  (hs:∀i x σ H,xs[i]? = some x→Pv i σ H→B (Pv (i+1)) x σ H) (hd:∀σ H,Pv xs.length σ H→DN σ H) :
  ∃W:Nat→Nat→St→Hp→Prop,(∃m,W 0 m σ H)∧∀i m σ H,W i m σ H →
   ((Itl K a).stop i H∧DN σ H)∨((Itl K a).go i H∧∃N:St→Hp→Prop,(∀σ' H',N σ' H'→∃m',m'<m∧W (i+1) m' σ' H')∧∀x H',(Itl K a).yld i H x H'→B N x σ H'):=by
 refine⟨fun i m σ H=>m=xs.length-i∧i≤xs.length∧Pv i σ H,⟨xs.length,by simp,yq _,h0⟩,?_⟩
 rintro i m σ H ⟨rfl,hi,p⟩
 have q:=hl i σ H hi p
 by_cases hlt:i<xs.length
 ·refine .inr ⟨⟨xs,xs[i],q,by simp[hlt]⟩,Pv (i+1),fun σ' H' p'=>⟨xs.length-(i+1),by omega,rfl,hlt,p'⟩,fun x H' y=>?_⟩
  obtain⟨e,y⟩:=y
  subst e
  exact hs i x σ _ (y xs q) p
 ·have e:i=xs.length:=by lia
  subst e
  exact .inl ⟨⟨xs,q,yd _⟩,hd σ H p⟩
theorem gv{K:PySem.W.Frag}{a:Addr}{xs:List V}{σ:St}{H:Hp}{DN:St→Hp→Prop}{B:(St→Hp→Prop)→V→St→Hp→Prop}(Pv:Nat→St→Hp→Prop)(h0:Pv 0 σ H)
  (hl:∀i σ H,i≤xs.length→Pv i σ H→SqT K H a xs)
  (hs:∀i x σ H,xs[i]? = some x→Pv i σ H→B (Pv (i+1)) x σ H) (hd:∀σ H,Pv xs.length σ H→DN σ H) :
  ∃W:Nat→Nat→St→Hp→Prop,(∃m,W 0 m σ H)∧∀i m σ H,W i m σ H →
   ((Itt K a).stop i H∧DN σ H)∨((Itt K a).go i H∧∃N:St→Hp→Prop,(∀σ' H',N σ' H'→∃m',m'<m∧W (i+1) m' σ' H')∧∀x H',(Itt K a).yld i H x H'→B N x σ H'):=by
 refine⟨fun i m σ H=>m=xs.length-i∧i≤xs.length∧Pv i σ H,⟨xs.length,by simp,yq _,h0⟩,?_⟩
 rintro i m σ H ⟨rfl,hi,p⟩
 have q:=hl i σ H hi p
 by_cases hlt:i<xs.length
 ·refine .inr ⟨⟨xs,xs[i],q,by simp[hlt]⟩,Pv (i+1),fun σ' H' p'=>⟨xs.length-(i+1),by omega,rfl,hlt,p'⟩,fun x H' y=>?_⟩
  obtain⟨e,y⟩:=y
  subst e
  exact hs i x σ _ (y xs q) p
 ·have e:i=xs.length:=by lia
  subst e
  exact .inl ⟨⟨xs,q,yd _⟩,hd σ H p⟩
end L2
namespace L2
open PySem PySem.Spec PyProof.Rows
noncomputable def dD(env:Env)(cs:List (Str×Addr))(y:Str×NameKind):List (Str×Addr):=if y.2 == .free then (y.1,(env.cells.lookup y.1).getD 0)::cs else cs
noncomputable def kB(names:List (Str×NameKind))(env:Env):List (Str×Addr):=names.foldl (dD env) []
theorem jd{env:Env}:∀(names:List (Str×NameKind)) (acc:List (Str×Addr)),(∀y∈names,y.2=.free→∃c,env.cells.lookup y.1=some c) →
  (forIn names acc fun(x:Str×NameKind) (cs:List (Str×Addr))=>if (x.2 == NameKind.free)=true then (do let a←cellOf env x.1;pure (ForInStep.yield ((x.1,a)::cs))) else (pure (ForInStep.yield cs):Sem (ForInStep (List (Str×Addr)))))=pure (names.foldl (dD env) acc)
 | [],_,_=>rfl
 | y::r,acc,h=>by
  have ih:=jd (env:=env) r
  rw[List.forIn_cons]
  by_cases hk:y.2=.free
  ·obtain⟨c,hc⟩:=h y yv hk
   have hb:(y.2 == NameKind.free)=true:=by rw[hk];rfl
   have e:cellOf env y.1=pure c:=by unfold cellOf;rw[hc]
   rw[if_pos hb,e]
   show(forIn r ((y.1,c)::acc) _:Sem _)=_
   rw[ih _ fun z hz=>h z (ym _ hz),yX]
   show _=pure (r.foldl (dD env) (if (y.2 == NameKind.free)=true then (y.1,(env.cells.lookup y.1).getD 0)::acc else acc))
   rw[if_pos hb,hc];rfl
  ·have hb:¬(y.2 == NameKind.free)=true:=by simpa using hk
   rw[if_neg hb]
   show(forIn r acc _:Sem _)=_
   rw[ih _ fun z hz=>h z (ym _ hz),yX]
   show _=pure (r.foldl (dD env) (if (y.2 == NameKind.free)=true then (y.1,(env.cells.lookup y.1).getD 0)::acc else acc))
   rw[if_neg hb]
theorem i9{scope:Scope}{env:Env}(h:∀y∈scope.names,y.2=.free→∃c,env.cells.lookup y.1=some c):closureFor scope env=pure (kB scope.names env):=by
 have e:=jd scope.names [] h
 unfold closureFor kB
 refine Eq.trans ?_ (congrArg (fun t=>t >>= fun(r:List (Str×Addr))=>(pure r:Sem (List (Str×Addr)))) e)
 rfl
theorem qg{env:Env}:∀{names:List (Str×NameKind)} {acc:List (Str×Addr)} {p:Str×Addr},p∈names.foldl (dD env) acc→p∈acc∨((p.1,NameKind.free)∈names∧p.2=(env.cells.lookup p.1).getD 0)
 | [],_,_,h=>.inl h
 | y::r,acc,p,h=>by
  rw[yX] at h
  rcases qg h with h | ⟨h,e⟩
  ·unfold dD at h
   split at h
   ·rename_i hk
    rcases List.mem_cons.mp h with rfl | h
    ·have:y.2=.free:=by simpa using hk
     exact .inr ⟨by rw[← this];exact yv,rfl⟩
    ·exact .inl h
   ·exact .inl h
  ·exact .inr ⟨ym _ h,e⟩
theorem mT{env:Env}{x:Str}:∀{names:List (Str×NameKind)} {acc:List (Str×Addr)},((∃c,(x,c)∈acc)∨(x,NameKind.free)∈names)→∃c,(x,c)∈names.foldl (dD env) acc
 | [],_,h=>by
  rcases h with h | h
  ·exact h
  ·cases h
 | y::r,acc,h=>by
  rw[yX]
  refine mT ?_
  rcases h with ⟨c,h⟩ | h
  ·refine .inl ⟨c,?_⟩
   unfold dD
   split
   ·exact ym _ h
   ·exact h
  ·rcases List.mem_cons.mp h with rfl | h
   ·refine .inl ⟨(env.cells.lookup x).getD 0,?_⟩
    unfold dD
    exact yv
   ·exact .inr h
theorem cr{x:Str}{c:Addr}:∀{l:List (Str×Addr)},(x,c)∈l→∃c',l.lookup x=some c'
 | [],h=>by cases h
 | (y,d)::r,h=>by
  rw[List.lookup_cons]
  by_cases e:x == y
  ·rw[e];exact⟨d,rfl⟩
  ·have e':(x == y)=false:=by simpa using e
   rw[e']
   rcases List.mem_cons.mp h with z | z
   ·cases z;simp at e
   ·exact cr z
noncomputable def Cx.comp(X:Cx)(scope:Scope)(N':List Str)(s₀:Shared)(H₀:Hp)(fp:List Addr)(C:Addr):Cx where
 prog:=X.prog
 w:=X.w
 K:=X.K
 mg:=X.mg
 base:=X.base
 A:=X.A
 N:=N'
 s₀:=s₀
 H₀:=H₀
 env:=compEnvC scope (kB scope.names X.env) C X.env
 outer:=X.stack
 stack:=X.stack
 ex:=fp
 fn:=fun _=>false
 calm:=X.calm
 pn:=[]
 xe:=fun _ _=>False
structure cZ(X:Cx)(scope:Scope)(N' own fnames:List Str)(fr:List Nat):Prop where
 kind:scope.kind=.function
 nocell:(scope.names.all fun y=>y.2 != .cell)=true
 free:(scope.names.all fun y=>y.2 != .free||X.env.kindOf y.1 == some .cell)=true
 loc:(scope.names.all fun y=>y.2 != .local||scope.names.lookup y.1 == some .local)=true
 fn:(fnames.all fun x=>X.env.kindOf x == some .cell&&(relabel scope X.env).names.lookup x == some .cell)=true
 N:N'=own++fnames
 fr:fr.map (fun j=>X.N[j]?)=fnames.map some
noncomputable def ez(k:Nat)(fr:List Nat)(σ:St):St:=List.replicate k none++fr.map fun j=>(σ[j]?).getD none
noncomputable def PTs(X:Cx)(ifs:List Expr)(t:TT):Prop :=
 ∀(pins:List (Addr×Obj)) (s:Shared) (σ:St) (H:Hp) (Q:Bool→Hp→Prop),Inv X pins σ H s→t σ H Q →
  wpAny (model X.prog X.w) X.A (forIn ifs true fun c r=>if r=true then do let ok←isTrue c X.env (eval c X.env);pure (ForInStep.yield ok) else pure (ForInStep.yield r)) (TP X pins σ Q) X.xe s
noncomputable def vP:TT:=fun _ H Q=>Q true H
theorem bB{X:Cx}:PTs X [] vP:=fun pins s σ H Q I h=>wpAny_pure ⟨H,I,h⟩
theorem cf{X:Cx}{c:Expr}{t:TT}(hc:PT X c t):PTs X [c] t:=by
 intro pins s σ H Q I h
 rw[List.forIn_cons]
 refine wpAny_bind ?_
 rw[if_pos rfl]
 refine wpAny_bind (thn (hc pins s σ H Q I h) fun b s1 q=>wpAny_pure ?_)
 exact wpAny_pure q
section
variable{X:Cx}{scope:Scope}{N' own fnames:List Str}{fr:List Nat}{pins:List (Addr×Obj)}{σ:St}{H:Hp}{s₃:Shared}{fp:List Addr}
theorem cZ.has(S:cZ X scope N' own fnames fr)(ok:X.Ok):∀y∈scope.names,y.2=.free→∃c,X.env.cells.lookup y.1=some c:=fun y hy hf=>by
 have h:=yG.mp S.free y hy
 rw[hf] at h
 exact ok.has _ (.inl (by simpa using h))
theorem cZ.cell(S:cZ X scope N' own fnames fr)(ok:X.Ok){y:Str}{c:Addr}(h:(kB scope.names X.env).lookup y=some c):X.env.cells.lookup y=some c:=by
 rcases qg (PySem.mem_of_lookup h) with z | ⟨z,e⟩
 ·cases z
 ·obtain⟨d,hd⟩:=S.has ok _ z rfl
  have hd':X.env.cells.lookup y=some d:=hd
  have e':c=(X.env.cells.lookup y).getD 0:=e
  rw[hd'] at e'
  rw[hd',e'];rfl
theorem eI{x:Str}{k:NameKind}:∀{l:List (Str×NameKind)},l.lookup x=some k→(x,k)∈l
 | [],h=>by simp at h
 | (y,d)::r,h=>by
  rw[List.lookup_cons] at h
  by_cases e:x == y
  ·rw[e] at h
   have e1:x=y:=by simpa using e
   cases h;subst e1
   exact yv
  ·have e':(x == y)=false:=by simpa using e
   rw[e'] at h
   exact ym _ (eI h)
theorem cZ.names(S:cZ X scope N' own fnames fr){y:Str}{k:NameKind}(h:(relabel scope X.env).names.lookup y=some k)(hk:k=.cell∨k=.free):(y,NameKind.free)∈scope.names:=by
 have hm:=eI h
 unfold relabel at hm
 obtain⟨⟨n,k0⟩,hn,e⟩:=yk.mp hm
 dsimp only at e
 split at e
 ·rename_i hc
  have:k0=.free:=by
   simp only[yI,beq_iff_eq] at hc
   exact hc.1.1
  cases e;subst this;exact hn
 ·cases e
  rcases hk with rfl | rfl
  ·have:=yG.mp S.nocell _ hn
   simp at this
  ·exact hn
theorem vD{C:Addr}(S:cZ X scope N' own fnames fr)(I:Inv X pins σ H s₃)(hC:s₃.heap.objs.size≤C)(hf:∀b∈fp,gw X pins H b)(hlt:∀b∈fp,b<s₃.heap.objs.size):(X.comp scope N' s₃ H fp C).Ok:=by
 have cellI:∀y c,(kB scope.names X.env).lookup y=some c→X.env.cells.lookup y=some c:=fun y c h=>S.cell I.ok h
 refine⟨I.ok.mod,S.kind,I.ok.glob,I.ok.blt,hC,fun x y c h1 h2=>I.ok.inj x y c (cellI x c h1) (cellI y c h2),fun x hx=>?_,fun x c h=>(by cases h),I.ok.hd,I.ok.frames,.inl rfl,fun b hb=>⟨?_,fun x c h=>(hf b hb).2.2.2.2.1 x c (cellI x c h)⟩,fun b o e=>I.bs b o e,yu I.ok.bsz I.sz,fun b o e hb=>?_,fun b hb hb'=>?_,I.stack,I.stkFree⟩
 ·have hm:(x,NameKind.free)∈scope.names:=by
   rcases hx with h | h
   ·exact S.names (show(relabel scope X.env).names.lookup x=some .cell from h) (.inl rfl)
   ·exact S.names (show(relabel scope X.env).names.lookup x=some .free from h) (.inr rfl)
  obtain⟨c,hc⟩:=mT (env:=X.env) (acc:=[]) (.inr hm)
  exact cr hc
 ·intro z
  have h1:=hlt b hb
  have z':b=C:=z
  rw[z'] at h1
  exact absurd (yB h1 hC) (yZ _)
 ·obtain⟨_,_,_,h3,_⟩:=hf b hb
  rcases h3 with h3 | h3
  ·exact I.ok.noex b o e h3
  ·exact absurd (yB (Heap.lt_size e) (yu I.ok.bsz h3)) (yZ _)
 ·obtain⟨_,h1,h2,_⟩:=hf b hb
  rcases List.mem_cons.mp (I.stkSub b hb') with z | z
  ·exact h1 z
  ·exact h2 z
theorem na{h₄:Heap}{t₄:Nat}{m:Str→Option Value}(S:cZ X scope N' own fnames fr)(I:Inv X pins σ H s₃)(hf:∀b∈fp,gw X pins H b)(hlt:∀b∈fp,b<s₃.heap.objs.size)
  (k:∀b o,s₃.heap.get? b=some o→h₄.get? b=some o) (hn:h₄.Ns s₃.heap.objs.size m) :
  Inv (X.comp scope N' s₃ H fp s₃.heap.objs.size) [] (ez own.length fr σ) H { s₃ with heap:=h₄,toks:=t₄ }:=by
 have hlen:fr.length=fnames.length:=by simpa using congrArg List.length S.fr
 refine⟨vD S I (yd _) hf hlt,rfl,I.bare,Un.kept k,⟨m,hn,fun i x v e1 e2 e3=>?_⟩,fun y c h=>?_,I.hok.fresh (yd _),fun y c h=>I.freeC y c (S.cell I.ok h),fun p hp=>absurd (show p∈([]:List (Addr×Obj)) from hp) (by simp),I.hok.kept k,?_⟩
 ·have e1':(own++fnames)[i]? = some x:=by rw[← S.N];exact e1
  have hi:own.length≤i:=by
   refine yfb fun z=>?_
   unfold ez at e2
   rw[yra (by simpa using z),yjb,if_pos z] at e2
   cases e2
  unfold ez at e2
  rw[yaa (by simpa using hi),yLa,yj] at e2
  rw[yaa hi] at e1'
  cases q:fr[i-own.length]? with
  | none=>rw[q] at e2;cases e2
  | some t =>
   rw[q] at e2
   have e2':(σ[t]?).getD none=some v:=yt e2
   have hσ:σ[t]? = some (some v):=by
    cases z:σ[t]? with
    | none=>rw[z] at e2'; cases e2'
    | some o=>rw[z] at e2'; exact congrArg some e2'
   have hN:X.N[t]? = some x:=by
    have z:=congrArg (fun l=>l[i-own.length]?) S.fr
    simp only[yj,q,e1',yoa] at z
    exact yt z
   have hx:x∈fnames:=yc e1'
   have hk:=yG.mp S.fn x hx
   simp only[yI,beq_iff_eq] at hk
   obtain⟨mX,_,hl⟩:=I.loc
   obtain⟨u,r,l⟩:=hl t x v hN hσ (.inr (.inl hk.1))
   refine⟨u,r,?_⟩
   rcases l with ⟨kl,_⟩ | ⟨_,c,hc,o,ho,hd⟩
   ·rw[hk.1] at kl;cases kl
   ·obtain⟨d,hd'⟩:=mT (env:=X.env) (acc:=[]) (.inr (S.names hk.2 (.inl rfl)))
    obtain⟨c',hc'⟩:=cr hd'
    have z:=S.cell I.ok hc'
    rw[hc] at z
    cases z
    exact .inr ⟨.inl hk.2,c,hc',o,k c o ho,hd⟩
 ·obtain⟨v,o,ho,hd⟩:=I.cell y c (S.cell I.ok h)
  exact⟨v,o,k c o ho,hd⟩
 ·unfold ez
  show _=N'.length
  rw[S.N,yf,yf,yLa,ya,hlen]
noncomputable def AE(k:Nat)(fr:List Nat)(g:TG)(tt:TT)(te:TE)(J:It)(σ:St)(H1:Hp)(Q:VK):Prop :=
 ∀D,H1 D=none→∃W:Nat→Nat→St→Hp→Prop,(∃m,W 0 m (ez k fr σ) (upd H1 D (.lst [])))∧∀i m σ' H',W i m σ' H' →
  (J.stop i H'∧Q (.ref D) H')∨(J.go i H'∧∃N:St→Hp→Prop,(∀σ2 H2,N σ2 H2→∃m',m'<m∧W (i+1) m' σ2 H2)∧∀x H2,J.yld i H' x H2 →
   g x σ' H2 fun σ2 H3=>tt σ2 H3 fun b H4=>if b=true then te σ2 H4 fun v H5=>∃xs,H5 D=some (.lst xs)∧xs.length<sizeLine∧N σ2 (upd H5 D (.lst (xs++[v]))) else N σ2 H4)
noncomputable def su(wi:TI)(k:Nat)(fr:List Nat)(g:TG)(tt:TT)(te:TE):TE:=fun σ H Q=>wi σ H fun J H1=>AE k fr g tt te J σ H1 Q
theorem mB{elt tg iter:Expr}{ifs:List Expr}{pos:Pos}{g:TG}{tt:TT}{te:TE}{s₂:Shared}{H2:Hp}{J:It}{it:Addr}{tn:Nat→Heap→Prop}{RR:Value→Addr→Result→Shared→Prop}{E:Value→Shared→Prop}{Q:VK}
  (S:cZ X scope N' own fnames fr) (hc:X.calm=true)
  (hb:∀(s₀:Shared) (H₀:Hp) (fp:List Addr) (C:Addr),PG (X.comp scope N' s₀ H₀ fp C) tg g∧PTs (X.comp scope N' s₀ H₀ fp C) ifs tt∧PE (X.comp scope N' s₀ H₀ fp C) elt te)
  (I2:Inv X pins σ H2 s₂) (T:ly X.prog X.w X.K tg J fp it tn) (st2:tn 0 s₂.heap) (f2:∀b∈fp,gw X pins H2 b) (hq:AE own.length fr g tt te J σ H2 Q)
  (hRR:∀D C H' s',Inv X pins σ H' s'→(∃m,s'.heap.Ns C m)→gw X pins H' C→Q (.ref D) H'→RR (.ref D) C (.ok .next) s') :
  wpAny (model X.prog X.w) X.A (newList []) (fun acc s₃=>wpAny (model X.prog X.w) X.A (newFunctionEnv scope X.env.globals (kB scope.names X.env) [] X.env.qual none .none (some X.env)) (fun cenv s₄ =>
   codeAny (model X.prog X.w) X.A (.compStart (.ListComp elt [⟨tg,iter,ifs,0⟩] scope pos) 0 (.ref it) acc { cenv with scope:=relabel scope X.env }) (RR acc cenv.locals) s₄) E s₃) E s₂:=by
 have nocell:∀y∈scope.names,y.2≠.cell:=fun y hy z=>by
  have:=yG.mp S.nocell y hy
  rw[z] at this
  simp at this
 refine wpAny_newObj_type (wpAny_newFunctionEnv nocell (by intro y hy;simp at hy) (fun h₁ hns₁ hsb₁=>?_) S.kind)
 have hlt2:∀b∈fp,b<s₂.heap.objs.size:=fun b hb'=>by
  obtain⟨o,e,_⟩:=T.obj _ _ st2 b hb'
  exact Heap.lt_size e
 have I3:Inv X pins σ (upd H2 s₂.heap.objs.size (.lst [])) { s₂ with heap:=s₂.heap.push { cls:=.type "list",data:=.seq ([]:List Value).toArray },toks:=s₂.toks }:=I2.lnew (its:=[]) (ys:=[]) .nil (yq _)
 have hD:H2 s₂.heap.objs.size=none:=I2.fresh
 obtain⟨W,⟨m0,w0⟩,turn⟩:=hq _ hD
 generalize hs3:({ s₂ with heap:=s₂.heap.push { cls:=.type "list",data:=.seq ([]:List Value).toArray },toks:=s₂.toks }:Shared)=s₃ at I3
 have eh:s₃.heap=s₂.heap.push { cls:=.type "list",data:=.seq ([]:List Value).toArray }:=by rw[← hs3]
 have hsz:s₃.heap.objs.size=s₂.heap.objs.size+1:=by rw[eh,Heap.size_push]
 have f3:∀b∈fp,gw X pins (upd H2 s₂.heap.objs.size (.lst [])) b:=fun b hb'=>by
  refine⟨?_,(f2 b hb').2⟩
  rw[au (yF (hlt2 b hb'))]
  exact(f2 b hb').1
 have hlt3:∀b∈fp,b<s₃.heap.objs.size:=fun b hb'=>by rw[hsz];exact yab (hlt2 b hb')
 have old:∀b o,s₃.heap.get? b=some o→h₁.get? b=some o:=fun b o e=>by
  have hb1:b≠s₃.heap.objs.size:=yF (Heap.lt_size e)
  refine hsb₁.extBut b o ?_ ?_
  ·show b≠(s₂.heap.push _).objs.size
   rw[← eh];exact hb1
  ·show(Heap.push (s₂.heap.push _) _).get? b=some o
   rw[← eh]
   exact Heap.get?_push_of_some _ e
 have hns:∃m,h₁.Ns s₃.heap.objs.size m:=⟨_,by rw[eh];exact hns₁⟩
 obtain⟨m1,hns⟩:=hns
 have I4:Inv (X.comp scope N' s₃ (upd H2 s₂.heap.objs.size (.lst [])) fp s₃.heap.objs.size) [] (ez own.length fr σ) (upd H2 s₂.heap.objs.size (.lst [])) { s₃ with heap:=h₁,toks:=s₂.toks+([]:List (Str×Value)).length } :=
  na S I3 f3 hlt3 old hns
 have st4:tn 0 h₁:=T.keep _ _ _ st2 fun b hb' o e=>old b o (by rw[eh];exact Heap.get?_push_of_some _ e)
 obtain⟨hpg,hpt,hpe⟩:=hb s₃ (upd H2 s₂.heap.objs.size (.lst [])) fp s₃.heap.objs.size
 have fpok:∀{H':Hp},(∀b∈fp,H' b=none)→∀b∈fp,gw (X.comp scope N' s₃ (upd H2 s₂.heap.objs.size (.lst [])) fp s₃.heap.objs.size) [] H' b:=fun hn b hb' =>
  ⟨hn b hb',fun z=>by
    have h1:=hlt3 b hb'
    have z':b=s₃.heap.objs.size:=z
    rw[z'] at h1
    exact absurd h1 (yZ _),fun z=>I4.ok.exfs b hb' z,.inl hb',fun x c e=>(I4.ok.exf b hb').2 x c e,fun p hp=>absurd (show p∈([]:List (Addr×Obj)) from hp) (by simp)⟩
 have loop:∀s4:Shared,s4 = { s₃ with heap:=h₁,toks:=s₂.toks+([]:List (Str×Value)).length } →
   codeAny (model X.prog X.w) X.A (.compLoop (.ListComp elt [⟨tg,iter,ifs,0⟩] scope pos) 0 (.ref it) (.ref s₂.heap.objs.size) (compEnvC scope (kB scope.names X.env) s₃.heap.objs.size X.env)) (RR (.ref s₂.heap.objs.size) s₃.heap.objs.size) s4:=by
  rintro s4 rfl
  refine codeAny_loop rfl (fun n s=>∃i σ' H',Inv (X.comp scope N' s₃ (upd H2 s₂.heap.objs.size (.lst [])) fp s₃.heap.objs.size) [] σ' H' s∧tn i s.heap∧(∀b∈fp,H' b=none)∧W i n σ' H') ?_ m0
   ⟨0,_,_,I4,st4,fun b hb'=>(f3 b hb').1,w0⟩
  rintro n s5 ⟨i,σ5,H5,I5,st5,fr5,w5⟩
  show wpAny _ X.A ((compTurn (.ListComp elt [⟨tg,iter,ifs,0⟩] scope pos) 0 (.ref it) (.ref s₂.heap.objs.size) (compEnvC scope (kB scope.names X.env) s₃.heap.objs.size X.env)).onRaise (fun x=>do noteFrame x (compEnvC scope (kB scope.names X.env) s₃.heap.objs.size X.env);theTreesLotGoes x)) _ _ s5
  refine wpAny_noted ?_
  rw[compTurn_list]
  refine wpAny_bind (wpAny_standAt (wpAny_bind ?_))
  rcases turn i n σ5 H5 w5 with ⟨stop,q⟩ | ⟨go,N,hN,step⟩
  ·refine wpAny_mono (T.done (X.comp scope N' s₃ (upd H2 s₂.heap.objs.size (.lst [])) fp s₃.heap.objs.size) rfl rfl rfl hc i [] s5 σ5 H5 (fun _ _=>False) I5 (fpok fr5) st5 stop) (fun r s6 hr=>?_) fun _ _ z=>z.elim
   obtain⟨rfl,I6⟩:=hr
   refine wpAny_pure ?_
   obtain⟨m6,hn6,_⟩:=id I6.loc
   have I7:Inv X pins σ H5 s6:=I3.call' (ch:=fp) I6.os I6.base I6.hok I6.bare fun b hb'=>by
    obtain⟨_,h1,_,h3,h4,h5⟩:=f3 b hb'
    exact⟨h3,h1,h4,h5⟩
   exact hRR _ _ H5 s6 I7 ⟨m6,hn6⟩ (I3.fpOk (yd _) I6.free) q
  ·refine wpAny_mono (T.item (X.comp scope N' s₃ (upd H2 s₂.heap.objs.size (.lst [])) fp s₃.heap.objs.size) rfl rfl rfl hc i [] s5 σ5 H5 (fun _ _=>False) I5 (fpok fr5) st5 go) (fun r s6 hr=>?_) fun _ _ z=>z.elim
   obtain⟨u,rfl,h6⟩:=hr
   refine wpAny_bind (wpAny_mono h6 (fun _ s7 h7=>?_) fun _ _ z=>z.elim)
   obtain⟨x,H7,I7,r7,y7,st7,fr7⟩:=h7
   have I7':=I7.pinned (fpok fr7) (T.obj _ _ st7)
   refine wpAny_bind (wpAny_mono (hpg _ s7 σ5 H7 x u _ I7' r7 (step x H7 y7)) (fun _ s8 h8=>?_) fun _ _ z=>z.elim)
   obtain⟨σ8,H8,I8,q8⟩:=h8
   have again':∀{σ9:St} {H9:Hp} {s9:Shared},Inv (X.comp scope N' s₃ (upd H2 s₂.heap.objs.size (.lst [])) fp s₃.heap.objs.size) ([]++iL fp s7.heap) σ9 H9 s9→N σ9 H9 →
     ∃m,m<n∧∃i σ' H',Inv (X.comp scope N' s₃ (upd H2 s₂.heap.objs.size (.lst [])) fp s₃.heap.objs.size) [] σ' H' s9∧tn i s9.heap∧(∀b∈fp,H' b=none)∧W i m σ' H':=fun {σ9 H9 s9} I9 n9=>by
    obtain⟨m',hm,w9⟩:=hN σ9 H9 n9
    refine⟨m',hm,i+1,σ9,H9,I9.unpinned,T.keep _ _ _ st7 fun b hb' o e=>(I9.pin (b,o) (yH _ (yH _ (dF hb' e)))).1,fun b hb'=>?_,w9⟩
    obtain⟨o,e,d⟩:=T.obj _ _ st7 b hb'
    exact(I9.pin (b,o) (yH _ (yH _ (dF hb' e)))).2.1
   refine wpAny_bind (wpAny_mono (hpt _ s8 σ8 H8 _ I8 q8) (fun b s9 h9=>?_) fun _ _ z=>z.elim)
   obtain⟨H9,I9,q9⟩:=h9
   cases b with
   | false =>
    rw[if_neg yl] at q9
    exact wpAny_pure ⟨rfl,again' I9 q9⟩
   | true =>
    rw[if_pos rfl] at q9
    refine wpAny_bind (wpAny_bind (wpAny_mono (hpe _ s9 σ8 H9 _ I9 q9) (fun v s10 h10=>?_) fun _ _ z=>z.elim))
    obtain⟨y,H10,I10,r10,xs,hx,hz,q10⟩:=h10
    refine wpAny_bind (wpAny_mono (bI (X:=X.comp scope N' s₃ (upd H2 s₂.heap.objs.size (.lst [])) fp s₃.heap.objs.size) _ s10 σ8 H10 (.ref s₂.heap.objs.size) [y] (.ref s₂.heap.objs.size) [v] (fun _ H'=>N σ8 H') I10 rfl (.cons r10 .nil) ⟨_,xs,y,rfl,rfl,hx,hz,q10⟩) (fun r s11 h11=>?_) fun _ _ z=>z.elim)
    obtain⟨_,H11,I11,_,q11⟩:=h11
    exact wpAny_pure (wpAny_pure ⟨rfl,again' I11 q11⟩)
 have e3:({ s₂ with heap:=s₂.heap.push { cls:=.type "list",data:=.seq ([]:List Value).toArray } }:Shared)=s₃:=hs3
 have go4:=codeAny_compStart_list (loop _ rfl) (T.self X.A 0 _ _ _ st4 (loop _ rfl))
 subst hs3
 exact go4
theorem bj{elt tg iter:Expr}{ifs:List Expr}{pos:Pos}{wi:TI}{g:TG}{tt:TT}{te:TE}(S:cZ X scope N' own fnames fr)(hc:X.calm=true)(hi:PI X tg iter wi)
  (hb:∀(s₀:Shared) (H₀:Hp) (fp:List Addr) (C:Addr),PG (X.comp scope N' s₀ H₀ fp C) tg g∧PTs (X.comp scope N' s₀ H₀ fp C) ifs tt∧PE (X.comp scope N' s₀ H₀ fp C) elt te)
  (hs:∀x,foldedSetIterable iter X.env x=pure x:=by intro _;rfl):PE X (.ListComp elt [⟨tg,iter,ifs,0⟩] scope pos) (su wi own.length fr g tt te):=by
 intro pins s σ H Q I h
 rw[eval_ListComp]
 refine wpAny_comprehension_free (use:=none) rfl hs (i9 (S.has I.ok)) S.kind (fun y hy hl=>?_) (wpAny_mono (hi pins s σ H _ I h) (fun xv s₁ h₁=>wpAny_mono h₁ (fun itv s₂ h₂=>?_) fun _ _ e=>e) fun _ _ e=>e)
 ·have:=yG.mp S.loc y hy
  rw[hl] at this
  simpa using this
 ·obtain⟨it,fp,tn,J,H2,rfl,I2,T,st2,f2,q2⟩:=h₂
  refine mB S hc hb I2 T st2 f2 q2 (RR:=fun acc C=>compPost (model X.prog X.w) X.A X.xe none (EP X pins σ Q) acc C) fun D C H' s' I' hn fC q=>?_
  obtain⟨m,hn⟩:=hn
  obtain⟨f0,f1,f2',f3,f4,f5⟩:=fC
  exact⟨m,hn,fun h' hs'=>⟨.ref D,H',I'.turned (t':=s'.toks) (fun b o hb' e=>(hs'.2 b hb').trans e) f0 f1 f3 f4 f5,rfl,q⟩⟩
theorem c7{i:Nat}{x:Str}{pos' spos:Pos}{elt tg iter:Expr}{ifs:List Expr}{pos:Pos}{wi:TI}{g:TG}{tt:TT}{te:TE}(hN:X.N.Nodup)(hi':X.N[i]? = some x)(hx:X.env.scope.names.lookup x=some .local)(S:cZ X scope N' own fnames fr)(hc:X.calm=true)(hi:PI X tg iter wi)
  (hb:∀(s₀:Shared) (H₀:Hp) (fp:List Addr) (C:Addr),PG (X.comp scope N' s₀ H₀ fp C) tg g∧PTs (X.comp scope N' s₀ H₀ fp C) ifs tt∧PE (X.comp scope N' s₀ H₀ fp C) elt te)
  (hsw:swapsWith (.ListComp elt [⟨tg,iter,ifs,0⟩] scope pos) (some (.Name x pos')) spos.line X.env=pure true:=by rfl)
  (hs:∀x,foldedSetIterable iter X.env x=pure x:=by intro _;rfl):PS X (.Assign [.Name x pos'] (.ListComp elt [⟨tg,iter,ifs,0⟩] scope pos) spos) (uQ (su wi own.length fr g tt te) (oJ i)):=by
 intro pins s σ H D I h
 rw[exec_Assign_Name_used _ _ _ _ hsw]
 refine wpAny_bind (wpAny_standAt (wpAny_bind ?_))
 show wpAny _ X.A (do let _←comprehension (.ListComp elt [⟨tg,iter,ifs,0⟩] scope pos) scope X.env _ (newList []) false (eval iter X.env) (some (assign (.Name x pos') X.env))) _ _ s
 refine wpAny_bind (wpAny_mono (wpAny_comprehension_free (use:=some (assign (.Name x pos') X.env)) (Q:=fun _ s'=>SP X pins D .next s') rfl hs (i9 (S.has I.ok)) S.kind (fun y hy hl=>?_)
  (wpAny_mono (hi pins s σ H _ I h) (fun xv s₁ h₁=>wpAny_mono h₁ (fun itv s₂ h₂=>?_) fun _ _ e=>e) fun _ _ e=>e)) (fun _ s' hq=>wpAny_pure (wpAny_pure hq)) fun _ _ e=>e)
 ·have:=yG.mp S.loc y hy
  rw[hl] at this
  simpa using this
 ·obtain⟨it,fp,tn,J,H2,rfl,I2,T,st2,f2,q2⟩:=h₂
  refine mB S hc hb I2 T st2 f2 q2 (RR:=fun acc C=>compPost (model X.prog X.w) X.A X.xe (some (assign (.Name x pos') X.env)) (fun _ s'=>SP X pins D .next s') acc C) fun D' C H' s' I' hn fC q=>?_
  obtain⟨m,hn⟩:=hn
  obtain⟨f0,f1,f2',f3,f4,f5⟩:=fC
  show wpAny _ X.A (assign (.Name x pos') X.env (.ref D')) _ _ _
  refine wpAny_assign_Name (jL I' hN hi' (.inl hx) (v:=.ref D') rfl (fun s'' I'' hch=>?_) (.inr hx))
  obtain⟨a,hsa,hca⟩:=hch
  have hCa:C≠a:=by
   rcases hca with z | z
   ·rw[z];exact f1
   ·exact fun e=>f4 x a z e.symm
  refine⟨m,hn.sameBut hsa hCa,fun h' hs'=>⟨_,H',I''.turned (t':=s''.toks) (fun b o hb' e=>(hs'.2 b hb').trans e) f0 f1 f3 f4 f5,q⟩⟩
end
end L2
namespace L2
open PySem PySem.Spec PyProof.Rows
inductive DV where
 | int (i:Int) | bl (b:Bool) | str (x:Str) | non | lst (xs:List DV) | tup (xs:List DV)
noncomputable def Den(K:PySem.W.Frag)(H:Hp):Nat→V→DV→Prop
 | _,.int i,.int j=>i=j
 | _,.bl i,.bl j=>i=j
 | _,.str i,.str j=>i=j
 | _,.non,.non=>True
 | n+1,.ref a,.lst ds=>∃xs,SqL K H a xs∧Paired (Den K H n) xs ds
 | n+1,.ref a,.tup ds=>∃xs,SqT K H a xs∧Paired (Den K H n) xs ds
 | _,_,_=>False
noncomputable def iu:Nat→DV→DV→Prop
 | _,.int _,.int _=>True
 | _,.bl _,.bl _=>True
 | _,.str _,.str _=>True
 | _,.non,.non=>True
 | n+1,.lst ds,.lst es=>ds.length=es.length→∀(i:Nat) d e,ds[i]? = some d→es[i]? = some e→iu n d e
 | n+1,.tup ds,.tup es=>∀(i:Nat) d e,ds[i]? = some d→es[i]? = some e→iu n d e
 | _,_,_=>False
theorem Paired.get'{α β:Type}{F:α→β→Prop}:∀{xs:List α} {ys:List β} {i:Nat} {x:α},Paired F xs ys→xs[i]? = some x→∃y,ys[i]? = some y∧F x y
 | _,_,_,_,.nil,e=>by simp at e
 | _,_,0,_,.cons r _,e=>by simp at e;subst e;exact⟨_,rfl,r⟩
 | _,_,i+1,x,.cons _ t,e=>by
  obtain⟨u,h1,h2⟩:=Paired.get' (i:=i) (x:=x) t (by simpa using e)
  exact⟨u,by simpa using h1,h2⟩
section
variable{X:Cx}{pins:List (Addr×Obj)}{σ:St}{H:Hp}{s:Shared}
theorem cS{α β:Type}{F:α→β→Prop}(hF:∀x d e,F x d→F x e→d=e):∀{xs:List α} {ds es:List β},Paired F xs ds→Paired F xs es→ds=es
 | _,_,_,.nil,.nil=>rfl
 | _,_,_,.cons a b,.cons c d=>by rw[hF _ _ _ a c,cS hF b d]
theorem mD(I:Inv X pins σ H s){a:Addr}{xs ys:List V}(h:SqL X.K H a xs)(h':SqT X.K H a ys):False:=by
 obtain⟨its,_,⟨o,n,e,c,_⟩,_⟩:=I.list h
 obtain⟨its',_,⟨o',e',c',_⟩,_⟩:=I.tuple h'
 rw[e] at e'; cases e'
 rw[c] at c'
 exact absurd c' (by decide)
theorem ou(I:Inv X pins σ H s):∀(n:Nat) (x:V) (d e:DV),Den X.K H n x d→Den X.K H n x e→d=e:=by
 intro n
 induction n with
 | zero =>
  intro x d e h1 h2
  cases x <;> cases d <;> simp only[Den] at h1 <;> cases e <;> simp only[Den] at h2 <;> first | rfl | (subst h1;subst h2;rfl)
 | succ n ih =>
  intro x d e h1 h2
  cases x with
  | ref a =>
   cases d with
   | lst ds =>
    obtain⟨xs,hs,hp⟩:∃xs,SqL X.K H a xs∧Paired (Den X.K H n) xs ds:=h1
    cases e with
    | lst es =>
     obtain⟨ys,hs',hp'⟩:∃xs,SqL X.K H a xs∧Paired (Den X.K H n) xs es:=h2
     rw[I.list_inj hs' hs] at hp'
     rw[cS ih hp hp']
    | tup es =>
     obtain⟨ys,hs',hp'⟩:∃xs,SqT X.K H a xs∧Paired (Den X.K H n) xs es:=h2
     exact(mD I hs hs').elim
    | _=>exact False.elim h2
   | tup ds =>
    obtain⟨xs,hs,hp⟩:∃xs,SqT X.K H a xs∧Paired (Den X.K H n) xs ds:=h1
    cases e with
    | tup es =>
     obtain⟨ys,hs',hp'⟩:∃xs,SqT X.K H a xs∧Paired (Den X.K H n) xs es:=h2
     rw[I.tuple_inj hs' hs] at hp'
     rw[cS ih hp hp']
    | lst es =>
     obtain⟨ys,hs',hp'⟩:∃xs,SqL X.K H a xs∧Paired (Den X.K H n) xs es:=h2
     exact(mD I hs' hs).elim
    | _=>exact False.elim h2
   | _=>exact False.elim h1
  | int i=>cases d <;> simp only[Den] at h1 <;> cases e <;> simp only[Den] at h2 <;> (subst h1;subst h2;rfl)
  | bl i=>cases d <;> simp only[Den] at h1 <;> cases e <;> simp only[Den] at h2 <;> (subst h1;subst h2;rfl)
  | str i=>cases d <;> simp only[Den] at h1 <;> cases e <;> simp only[Den] at h2 <;> (subst h1;subst h2;rfl)
  | non=>cases d <;> simp only[Den] at h1 <;> cases e <;> simp only[Den] at h2 <;> rfl
  | _=>cases d <;> exact False.elim h1
open Classical in
noncomputable def eqD(d e:DV):Bool:=decide (d=e)
theorem dZ(d:DV):eqD d d=true:=by simp[eqD]
theorem fH{ds es:List DV}(h:ds.length=es.length):((List.range ds.length).all fun j=>eqD (ds[j]?.getD (.int 0)) (es[j]?.getD (.int 0)))=eqD (.lst ds) (.lst es):=by
 rw[yV]
 simp only[yG,yp,eqD,decide_eq_true_eq,DV.lst.injEq]
 constructor
 ·intro hj
  refine List.ext_getElem? fun i=>?_
  by_cases hi:i<ds.length
  ·have:=hj i hi
   rw[yb hi,yb (by lia:i<es.length)] at this ⊢
   simpa using this
  ·rw[yxa (by lia),yxa (by lia)]
 ·rintro rfl j _
  rfl
theorem ig{ds es:List DV}:(((List.range (min ds.length es.length)).all fun j=>eqD (ds[j]?.getD (.int 0)) (es[j]?.getD (.int 0)))&&ds.length == es.length)=eqD (.tup ds) (.tup es):=by
 by_cases h:ds.length=es.length
 ·have e:eqD (.tup ds) (.tup es)=eqD (.lst ds) (.lst es):=by simp[eqD]
  rw[e,← fH h,h]
  simp[h]
 ·have:¬ ds=es:=fun e=>h (congrArg List.length e)
  have e:eqD (.tup ds) (.tup es)=false:=by simp[eqD,this]
  rw[e]
  simp[h]
theorem qu(I:Inv X pins σ H s):∀(n:Nat) (A:Around) (x y:V) (d e:DV) (u v:Value),Den X.K H n x d→Den X.K H n y e→iu n d e→bu x u→bu y v→A.units+n<cLine→SeqAt.EqAt A s u v (eqD d e):=by
 intro n
 have leaf:∀(n:Nat) (A:Around) (x y:V) (d e:DV) (u v:Value),(∀a,x≠.ref a)→Den X.K H n x d→Den X.K H n y e→iu n d e→bu x u→bu y v→SeqAt.EqAt A s u v (eqD d e):=by
  intro n A x y d e u v hx h1 h2 hl r1 r2
  cases x with
  | ref a=>exact absurd rfl (hx a)
  | non =>
   cases d <;> simp only[Den] at h1
   cases e <;> simp only[iu] at hl
   cases y <;> simp only[Den] at h2
   cases r1
   cases r2
   rw[dZ]
   exact SeqAt.EqAt.same _
  | int i =>
   cases d <;> simp only[Den] at h1
   subst h1
   cases e <;> simp only[iu] at hl
   cases y <;> simp only[Den] at h2
   subst h2
   obtain⟨t,rfl⟩:=r1
   obtain⟨t',rfl⟩:=r2
   rename_i j
   have e1:eqD (.int i) (.int j)=(i == j):=by
    rw[yV];simp[eqD]
   rw[e1]
   exact SeqAt.EqAt.int_int i t j t'
  | bl i =>
   cases d <;> simp only[Den] at h1
   subst h1
   cases e <;> simp only[iu] at hl
   cases y <;> simp only[Den] at h2
   subst h2
   cases r1
   cases r2
   rename_i j
   have e1:eqD (.bl i) (.bl j)=(i == j):=by
    rw[yV];simp[eqD]
   rw[e1]
   exact SeqAt.EqAt.bool_bool i j
  | str i =>
   cases d <;> simp only[Den] at h1
   subst h1
   cases e <;> simp only[iu] at hl
   cases y <;> simp only[Den] at h2
   subst h2
   obtain⟨t,rfl⟩:=r1
   obtain⟨t',rfl⟩:=r2
   rename_i j
   have e1:eqD (.str i) (.str j)=(i == j):=by
    rw[yV];simp[eqD]
   rw[e1]
   exact SeqAt.EqAt.str_str i t j t'
  | _=>cases n <;> cases d <;> exact False.elim h1
 induction n with
 | zero =>
  intro A x y d e u v h1 h2 hl r1 r2 hu
  refine leaf 0 A x y d e u v (fun a z=>?_) h1 h2 hl r1 r2
  subst z
  cases d <;> exact False.elim h1
 | succ n ih =>
  intro A x y d e u v h1 h2 hl r1 r2 hu
  cases x with
  | ref a =>
   cases r1
   cases d with
   | lst ds =>
    obtain⟨xs,hs,hp⟩:∃xs,SqL X.K H a xs∧Paired (Den X.K H n) xs ds:=h1
    cases e with
    | lst es =>
     cases y with
     | ref b =>
      cases r2
      obtain⟨ys,hs',hp'⟩:∃xs,SqL X.K H b xs∧Paired (Den X.K H n) xs es:=h2
      by_cases hab:a=b
      ·subst hab
       rw[I.list_inj hs' hs] at hp'
       rw[cS (ou I n) hp hp',dZ]
       exact SeqAt.EqAt.same _
      ·refine SeqAt.EqAt.of_refs hab ?_
       obtain⟨its,ri,pl,_⟩:=I.list hs
       obtain⟨its',ri',pl',_⟩:=I.list hs'
       have l1:=ri.length
       have l2:=ri'.length
       have l3:xs.length=ds.length:=Paired.length hp
       have l4:ys.length=es.length:=Paired.length hp'
       by_cases hlen:ds.length=es.length
       ·rw[← fH hlen]
        have hsz:its.toArray.size=its'.toArray.size:=by rw[yh,yh];lia
        have:=SeqAt.RcAt.lists (e:=fun j=>eqD (ds[j]?.getD (.int 0)) (es[j]?.getD (.int 0))) pl.isList pl'.isList hsz (by lia:A.units<cLine) (fun j h1' h2'=>?_)
        ·rw[yh,← l1,l3] at this
         exact this
        ·rw[yh] at h1' h2'
         have hj1:xs[j]? = some xs[j]:=yb (by lia)
         have hj2:ys[j]? = some ys[j]:=yb (by lia)
         obtain⟨d',hd,hdd⟩:=Paired.get' hp hj1
         obtain⟨e',he,hee⟩:=Paired.get' hp' hj2
         obtain⟨u',hu',ru'⟩:=ri.get hj1
         obtain⟨v',hv',rv'⟩:=ri'.get hj2
         have eu:its.toArray[j]=u':=by
          have:its[j]? = some its[j]:=yb h1'
          rw[this] at hu'; simpa using yt hu'
         have ev:its'.toArray[j]=v':=by
          have:its'[j]? = some its'[j]:=yb h2'
          rw[this] at hv'; simpa using yt hv'
         rw[eu,ev,hd,he]
         exact ih A.in1 _ _ d' e' u' v' hdd hee (hl hlen j d' e' hd he) ru' rv' (by show A.units+1+n<cLine;lia)
       ·have hne:¬ ds=es:=fun z=>hlen (congrArg List.length z)
        have e1:eqD (.lst ds) (.lst es)=false:=by simp[eqD,hne]
        rw[e1]
        exact SeqAt.RcAt.lists_lengths pl.isList pl'.isList (by simp only[yh,bne_iff_ne,ne_eq];lia) (by lia)
     | _=>exact False.elim h2
    | _=>exact False.elim hl
   | tup ds =>
    obtain⟨xs,hs,hp⟩:∃xs,SqT X.K H a xs∧Paired (Den X.K H n) xs ds:=h1
    cases e with
    | tup es =>
     cases y with
     | ref b =>
      cases r2
      obtain⟨ys,hs',hp'⟩:∃xs,SqT X.K H b xs∧Paired (Den X.K H n) xs es:=h2
      by_cases hab:a=b
      ·subst hab
       rw[I.tuple_inj hs' hs] at hp'
       rw[cS (ou I n) hp hp',dZ]
       exact SeqAt.EqAt.same _
      ·refine SeqAt.EqAt.of_refs hab ?_
       obtain⟨its,ri,pl,_⟩:=I.tuple hs
       obtain⟨its',ri',pl',_⟩:=I.tuple hs'
       have l1:=ri.length
       have l2:=ri'.length
       have l3:xs.length=ds.length:=Paired.length hp
       have l4:ys.length=es.length:=Paired.length hp'
       rw[← ig]
       have:=SeqAt.RcAt.tuples (e:=fun j=>eqD (ds[j]?.getD (.int 0)) (es[j]?.getD (.int 0))) (show s.heap.IsTuple a its.toArray from pl) (show s.heap.IsTuple b its'.toArray from pl') (by lia:A.units<cLine) (fun j h1' h2'=>?_)
       ·rw[yh,yh,← l1,l3,← l2,l4] at this
        exact this
       ·rw[yh] at h1' h2'
        have hj1:xs[j]? = some xs[j]:=yb (by lia)
        have hj2:ys[j]? = some ys[j]:=yb (by lia)
        obtain⟨d',hd,hdd⟩:=Paired.get' hp hj1
        obtain⟨e',he,hee⟩:=Paired.get' hp' hj2
        obtain⟨u',hu',ru'⟩:=ri.get hj1
        obtain⟨v',hv',rv'⟩:=ri'.get hj2
        have eu:its.toArray[j]=u':=by
         have:its[j]? = some its[j]:=yb h1'
         rw[this] at hu'; simpa using yt hu'
        have ev:its'.toArray[j]=v':=by
         have:its'[j]? = some its'[j]:=yb h2'
         rw[this] at hv'; simpa using yt hv'
        rw[eu,ev,hd,he]
        exact ih A.in1 _ _ d' e' u' v' hdd hee (hl j d' e' hd he) ru' rv' (by show A.units+1+n<cLine;lia)
     | _=>exact False.elim h2
    | _=>exact False.elim hl
   | _=>exact False.elim h1
  | int i=>exact leaf (n+1) A (.int i) y d e u v (fun _ z=>nomatch z) h1 h2 hl r1 r2
  | bl i=>exact leaf (n+1) A (.bl i) y d e u v (fun _ z=>nomatch z) h1 h2 hl r1 r2
  | str i=>exact leaf (n+1) A (.str i) y d e u v (fun _ z=>nomatch z) h1 h2 hl r1 r2
  | non=>exact leaf (n+1) A .non y d e u v (fun _ z=>nomatch z) h1 h2 hl r1 r2
  | _=>cases d <;> exact False.elim h1
end
section
variable{X:Cx}{pins:List (Addr×Obj)}{σ:St}{H:Hp}{s:Shared}
theorem jg(I:Inv X pins σ H s){n:Nat}{A:Around}{a b:Addr}{ds es:List DV}(h1:Den X.K H (n+1) (.ref a) (.lst ds))(h2:Den X.K H (n+1) (.ref b) (.lst es))(hl:iu (n+1) (.lst ds) (.lst es))(hu:A.units+n+1<cLine) :
  SeqAt.RcAt A s (.ref a) (.ref b) (eqD (.lst ds) (.lst es))∧SeqAt.RcNeAt A s (.ref a) (.ref b) (!eqD (.lst ds) (.lst es)):=by
 obtain⟨xs,hs,hp⟩:∃xs,SqL X.K H a xs∧Paired (Den X.K H n) xs ds:=h1
 obtain⟨ys,hs',hp'⟩:∃xs,SqL X.K H b xs∧Paired (Den X.K H n) xs es:=h2
 obtain⟨its,ri,pl,_⟩:=I.list hs
 obtain⟨its',ri',pl',_⟩:=I.list hs'
 have l1:=ri.length
 have l2:=ri'.length
 have l3:xs.length=ds.length:=Paired.length hp
 have l4:ys.length=es.length:=Paired.length hp'
 have go:∀j (h1':j<its.toArray.size) (h2':j<its'.toArray.size),ds.length=es.length→SeqAt.EqAt A.in1 s its.toArray[j] its'.toArray[j] (eqD (ds[j]?.getD (.int 0)) (es[j]?.getD (.int 0))):=fun j h1' h2' hlen=>by
  rw[yh] at h1' h2'
  have hj1:xs[j]? = some xs[j]:=yb (by lia)
  have hj2:ys[j]? = some ys[j]:=yb (by lia)
  obtain⟨d',hd,hdd⟩:=Paired.get' hp hj1
  obtain⟨e',he,hee⟩:=Paired.get' hp' hj2
  obtain⟨u',hu',ru'⟩:=ri.get hj1
  obtain⟨v',hv',rv'⟩:=ri'.get hj2
  have eu:its.toArray[j]=u':=by
   have:its[j]? = some its[j]:=yb h1'
   rw[this] at hu'; simpa using yt hu'
  have ev:its'.toArray[j]=v':=by
   have:its'[j]? = some its'[j]:=yb h2'
   rw[this] at hv'; simpa using yt hv'
  rw[eu,ev,hd,he]
  exact qu I n A.in1 _ _ d' e' u' v' hdd hee (hl hlen j d' e' hd he) ru' rv' (by show A.units+1+n<cLine;lia)
 by_cases hlen:ds.length=es.length
 ·rw[← fH hlen]
  have hsz:its.toArray.size=its'.toArray.size:=by rw[yh,yh];lia
  have r1:=SeqAt.RcAt.lists (e:=fun j=>eqD (ds[j]?.getD (.int 0)) (es[j]?.getD (.int 0))) pl.isList pl'.isList hsz (by lia:A.units<cLine) (fun j h1' h2'=>go j h1' h2' hlen)
  have r2:=SeqAt.RcNeAt.lists (e:=fun j=>eqD (ds[j]?.getD (.int 0)) (es[j]?.getD (.int 0))) pl.isList pl'.isList hsz (by lia:A.units<cLine) (fun j h1' h2'=>go j h1' h2' hlen)
  rw[yh,← l1,l3] at r1 r2
  exact⟨r1,r2⟩
 ·have hne:¬ ds=es:=fun z=>hlen (congrArg List.length z)
  have e1:eqD (.lst ds) (.lst es)=false:=by simp[eqD,hne]
  rw[e1]
  exact⟨SeqAt.RcAt.lists_lengths pl.isList pl'.isList (by simp only[yh,bne_iff_ne,ne_eq];lia) (by lia),SeqAt.RcNeAt.lists_lengths pl.isList pl'.isList (by simp only[yh,bne_iff_ne,ne_eq];lia) (by lia)⟩
theorem pD(I:Inv X pins σ H s){n:Nat}{A:Around}{a b:Addr}{ds es:List DV}(h1:Den X.K H (n+1) (.ref a) (.tup ds))(h2:Den X.K H (n+1) (.ref b) (.tup es))(hl:iu (n+1) (.tup ds) (.tup es))(hu:A.units+n+1<cLine) :
  SeqAt.RcAt A s (.ref a) (.ref b) (eqD (.tup ds) (.tup es))∧SeqAt.RcNeAt A s (.ref a) (.ref b) (!eqD (.tup ds) (.tup es)):=by
 obtain⟨xs,hs,hp⟩:∃xs,SqT X.K H a xs∧Paired (Den X.K H n) xs ds:=h1
 obtain⟨ys,hs',hp'⟩:∃xs,SqT X.K H b xs∧Paired (Den X.K H n) xs es:=h2
 obtain⟨its,ri,pl,_⟩:=I.tuple hs
 obtain⟨its',ri',pl',_⟩:=I.tuple hs'
 have l1:=ri.length
 have l2:=ri'.length
 have l3:xs.length=ds.length:=Paired.length hp
 have l4:ys.length=es.length:=Paired.length hp'
 have go:∀j (h1':j<its.toArray.size) (h2':j<its'.toArray.size),SeqAt.EqAt A.in1 s its.toArray[j] its'.toArray[j] (eqD (ds[j]?.getD (.int 0)) (es[j]?.getD (.int 0))):=fun j h1' h2'=>by
  rw[yh] at h1' h2'
  have hj1:xs[j]? = some xs[j]:=yb (by lia)
  have hj2:ys[j]? = some ys[j]:=yb (by lia)
  obtain⟨d',hd,hdd⟩:=Paired.get' hp hj1
  obtain⟨e',he,hee⟩:=Paired.get' hp' hj2
  obtain⟨u',hu',ru'⟩:=ri.get hj1
  obtain⟨v',hv',rv'⟩:=ri'.get hj2
  have eu:its.toArray[j]=u':=by
   have:its[j]? = some its[j]:=yb h1'
   rw[this] at hu'; simpa using yt hu'
  have ev:its'.toArray[j]=v':=by
   have:its'[j]? = some its'[j]:=yb h2'
   rw[this] at hv'; simpa using yt hv'
  rw[eu,ev,hd,he]
  exact qu I n A.in1 _ _ d' e' u' v' hdd hee (hl j d' e' hd he) ru' rv' (by show A.units+1+n<cLine;lia)
 rw[← ig]
 have r1:=SeqAt.RcAt.tuples (e:=fun j=>eqD (ds[j]?.getD (.int 0)) (es[j]?.getD (.int 0))) (show s.heap.IsTuple a its.toArray from pl) (show s.heap.IsTuple b its'.toArray from pl') (by lia:A.units<cLine) go
 have r2:=SeqAt.RcNeAt.tuples (e:=fun j=>eqD (ds[j]?.getD (.int 0)) (es[j]?.getD (.int 0))) (show s.heap.IsTuple a its.toArray from pl) (show s.heap.IsTuple b its'.toArray from pl') (by lia:A.units<cLine) go
 rw[yh,yh,← l1,l3,← l2,l4] at r1 r2
 exact⟨r1,r2⟩
end
noncomputable def EW(K:PySem.W.Frag)(n:Nat):R2:=fun x y H Q=>∃a b d e,x=.ref a∧y=.ref b∧Den K H (n+1) (.ref a) d∧Den K H (n+1) (.ref b) e∧iu (n+1) d e∧Q (.bl (eqD d e)) H
theorem zL{X:Cx}{k:Nat}(n:Nat)(hr:ce k X.A)(hn:n≤9:=by decide):OpR X (compareOp .Eq) (EW X.K n):=by
 intro pins s σ H x y v u Q I rx ry h
 obtain⟨a,b,d,e,rfl,rfl,hd,he,hl,q⟩:=h
 cases rx;cases ry
 have hu:=hr.units
 cases d with
 | lst ds =>
  cases e with
  | lst es=>exact(jg I (A:=X.A) hd he hl (by lia)).1 _ _ _ _ ⟨.bl _,H,I,rfl,q⟩
  | _=>exact False.elim hl
 | tup ds =>
  cases e with
  | tup es=>exact(pD I (A:=X.A) hd he hl (by lia)).1 _ _ _ _ ⟨.bl _,H,I,rfl,q⟩
  | _=>exact False.elim hl
 | _=>exact False.elim hd
theorem hX{F:V→DV→Prop}(hF:∀i:Int,F (.int i) (.int i)):∀ns:List Int,Paired F (ns.map V.int) (ns.map DV.int)
 | []=>.nil
 | i::r=>.cons (hF i) (hX hF r)
theorem iE{K:PySem.W.Frag}{H:Hp}{n:Nat}{i:Int}:Den K H n (.int i) (.int i):=by cases n <;> rfl
theorem qU{K:PySem.W.Frag}{H:Hp}{n:Nat}{a:Addr}{ns:List Int}(h:SqL K H a (ns.map V.int)):Den K H (n+1) (.ref a) (.lst (ns.map DV.int)):=⟨_,h,hX (fun _=>iE) ns⟩
theorem pZ{X:Cx}:MtR X "int.bit_length" (fun x xs H Q=>∃i,x=.int i∧xs=[]∧Q (.int (Builtin.Int.intBits i)) H):=by
 intro pins s σ H x xs v us Q I rx rs h
 obtain⟨i,rfl,rfl,q⟩:=h
 obtain⟨t,rfl⟩:=rx
 cases rs
 exact call_int_bit_length ⟨.int _,H,I.tok _,⟨_,rfl⟩,q⟩
end L2
namespace L2
open PySem PySem.Spec PyProof.Rows
section
variable{X:Cx}
theorem cW:cu X (.type "range") (fun xs H Q=>∃j:Int,xs=[.int j]∧∀p,H p=none→Q (.ref p) (upd H p (.rng 0 j))):=by
 intro pins s σ H xs us Q I r h
 obtain⟨j,rfl,q⟩:=h
 obtain⟨u,rfl,t,rfl⟩:=gK r
 refine call_range_1 ⟨.ref s.heap.objs.size,_,I.laid (fun b o e=>Heap.get?_push_of_some _ e) (yd _) ?_,rfl,q _ I.fresh⟩
 exact⟨_,_,_,Heap.get?_push_size _ rfl⟩
theorem c9(hc:X.calm=true):cu X (.type "list") (fun xs H Q=>∃p,∃j:Int,xs=[.ref p]∧H p=some (.rng 0 j)∧0≤j∧j≤1000∧∀l,H l=none→Q (.ref l) (upd H l (.lst (((List.range j.toNat).map fun i:Nat=>(i:Int)).map V.int)))):=by
 intro pins s σ H xs us Q I r h
 obtain⟨p,j,rfl,hp,j0,j1,q⟩:=h
 obtain⟨u,rfl,ru⟩:=gK r
 cases ru
 obtain⟨t,u',v,e⟩:=I.hok p _ hp
 have hn:Builtin.Range.rangeSize 0 j 1=(j.toNat:Int):=by rw[rangeSize_one];split <;> lia
 refine call_list_range (I.ok.hd hc) (a:=0) (b:=j) (c:=1) e (small_one (by lia) (by lia) (by lia) (by lia)) hn (by lia) fun h' tk acc' c' hk hS hacc=>?_
 refine⟨.ref s.heap.objs.size,_,I.laid hk (yd _) (o:=.lst (((List.range j.toNat).map fun i:Nat=>(i:Int)).map V.int)) ?_,rfl,q _ I.fresh⟩
 refine⟨by simp only[ya,yx];rw[sizeLine_eq];lia,acc'.toList,c',?_,by simpa using hS⟩
 have go:∀(n k:Nat) (l:List Value),l.length=n→(∀(i:Nat) (v:Value),l[i]? = some v→∃t,v=Value.int (0+((i+k:Nat):Int)*1) t)→bp (((List.range' k n).map fun i:Nat=>(i:Int)).map V.int) l:=by
  intro n
  induction n with
  | zero =>
   intro k l hl _
   cases l with
   | nil=>exact .nil
   | cons a b=>simp at hl
  | succ n ih =>
   intro k l hl hv
   cases l with
   | nil=>simp at hl
   | cons a b =>
    rw[List.range'_succ,yi,yi]
    refine .cons ?_ (ih (k+1) b (by simpa using hl) fun i v hi=>?_)
    ·obtain⟨t,e⟩:=hv 0 a (by simp)
     exact⟨t,by rw[e];congr 1;lia⟩
    ·obtain⟨t,e⟩:=hv (i+1) v (by simpa using hi)
     exact⟨t,by rw[e];congr 1;lia⟩
 have:=go j.toNat 0 acc'.toList (by simp[hacc.1]) fun i v hi=>hacc.2 i v (by simpa using hi)
 rw[← yvb] at this
 exact this
theorem jf(hc:X.calm=true):cu X (.builtin "all") (fun xs H Q=>∃(p:Addr) (bs:List Bool),xs=[.ref p]∧SqL X.K H p (bs.map V.bl)∧Q (.bl (bs.all id)) H):=by
 intro pins s σ H xs us Q I r h
 obtain⟨p,bs,rfl,hp,q⟩:=h
 obtain⟨u,rfl,ru⟩:=gK r
 cases ru
 obtain⟨its,ri,pl,hz⟩:=I.list hp
 have hl:=ri.length
 rw[ya] at hl
 refine call_all_walk (wpAny_pyIter_list pl.isList ?_)
 have hlt:p<s.heap.objs.size:=by obtain⟨o,e,_⟩:=pl.isList;exact Heap.lt_size e
 refine⟨s.heap.objs.size,_,_,_,_,_,fun i=>bs[i]?.getD true,rfl,Walks.list (A:=X.A.in1) (I.ok.hd hc) s.heap.objs.size p (yF hlt) its.toArray,⟨⟨_,Heap.get?_push_size _ rfl,rfl,rfl⟩,pl.isList.at fun o e=>Heap.get?_push_of_some _ e⟩,?_,?_⟩
 ·intro i v s' Q' E' hv hq
  have hv':its[i]? = some v:=by simpa using hv
  have hi:i<its.length:=(List.getElem?_eq_some_iff.mp hv').1
  have hb:(bs.map V.bl)[i]? = some (.bl (bs[i]'(by lia))):=by rw[yj,yb (by lia)];rfl
  obtain⟨w',e,rw'⟩:=ri.get hb
  rw[hv'] at e
  cases e
  obtain rfl:v=Value.bool _:=rw'
  dsimp only at hq
  rw[yb (by lia)] at hq
  exact wpAny_truthy_bool hq
 ·intro h' tk hk
  have e:(List.range its.toArray.size).all (fun i=>bs[i]?.getD true)=bs.all id:=by
   rw[yh,← hl,yV]
   simp only[yG,yp,id]
   constructor
   ·intro h x hx
    obtain⟨i,hi,e⟩:=yxb hx
    have:=h i hi
    rw[yb hi] at this
    rw[← e];exact this
   ·intro h i hi
    rw[yb hi]
    exact h _ (yQ hi)
  rw[e]
  refine⟨.bl _,H,I.kept fun b o e=>hk b o ?_ (Heap.get?_push_of_some _ e),rfl,q⟩
  intro z
  have z':b=s.heap.objs.size:=by simpa using z
  exact absurd (Heap.lt_size e) (by rw[z'];exact yZ _)
theorem im(ns:List Int):∀j:Nat,j≤ns.length→preSum (fun i=>ns[i]?.getD 0) j=(ns.take j).sum
 | 0,_=>by simp[preSum]
 | j+1,h=>by
  rw[preSum,im ns j (by lia),← List.take_append_getElem (by assumption:j<ns.length),yL,yb (by assumption:j<ns.length)]
  simp
end
end L2
namespace L2
open PySem PySem.Spec PyProof.Rows
section
variable{prog:Program}{w:World}{A:Around}{E:Value→Shared→Prop}{s:Shared}
theorem nr{it tp:Addr}{j:Nat}{vs:Array Value}{y:Value}{R:Value→Shared→Prop}(hi:s.heap.IsTupleIter it tp j)(ht:s.heap.IsTuple tp vs)(hy:vs[j]? = some y)
  (k:∀g,g.IsTupleIter it tp (j+1)→Heap.SameBut it s.heap g→R y { s with heap:=g }):wpAny (model prog w) A (Builtin.SmallTypes.nextOf (.ref it)) R E s:=by
 obtain⟨oi,ei,ci,di⟩:=id hi
 obtain⟨ot,et,_,nt,dt⟩:=ht
 unfold Builtin.SmallTypes.nextOf
 refine wpAny_bind (wpAny_callSpecial?_slot (name:=Str.ofString "__next__") hi.typeIs F.slot_tuple_iterator_next (wpAny_call_entry F.slot_tuple_iterator_next hi.typeIs F.entry_tuple_iterator_next ?_ (F.args_tuple_iterator_next_1 _)))
 show wpAny (model prog w) A.in1 (field (.ref it) 0 >>= _) _ _ s
 refine wpAny_bind (wpAny_field ei di (x:=.ref tp) rfl ?_)
 show wpAny (model prog w) A.in1 (if (Value.ref tp == Value.none)=true then _ else _) _ _ s
 rw[if_neg (show ¬(Value.ref tp == Value.none)=true from yl)]
 show wpAny (model prog w) A.in1 (field (.ref it) 1 >>= _) _ _ s
 refine wpAny_bind (wpAny_field ei di (x:=.int j 0) rfl ?_)
 show wpAny (model prog w) A.in1 (seqItems? (.ref tp) >>= _) _ _ s
 refine wpAny_bind (wpAny_seqItems et dt ?_)
 simp only[ye,hy]
 refine wpAny_bind (wpAny_setField ei di (by simp) (wpAny_pure ⟨y,rfl,wpAny_pure (k _ ⟨_,Heap.get?_update_self _ ei (Obj.isFreed_of_fields (Obj.data_mapFields di _)),(Obj.cls_mapFields ..).trans ci,?_⟩ (Heap.SameBut.update ..))⟩))
 rw[Obj.data_mapFields di]
 simp[rawInt]
theorem iI{it tp:Addr}{j:Nat}{vs:Array Value}{R:Value→Shared→Prop}(hh:A.handled=none)(hi:s.heap.IsTupleIter it tp j)(ht:s.heap.IsTuple tp vs)(hy:vs[j]? = none)
  (k:∀g x,Heap.ExtBut it s.heap g→(∃o,g.get? x=some o∧o.cls=.type "StopIteration")→E (.ref x) { s with heap:=g }):wpAny (model prog w) A (Builtin.SmallTypes.nextOf (.ref it)) R E s:=by
 obtain⟨oi,ei,ci,di⟩:=id hi
 obtain⟨ot,et,_,nt,dt⟩:=ht
 unfold Builtin.SmallTypes.nextOf
 refine wpAny_bind (wpAny_callSpecial?_slot (name:=Str.ofString "__next__") hi.typeIs F.slot_tuple_iterator_next (wpAny_call_entry F.slot_tuple_iterator_next hi.typeIs F.entry_tuple_iterator_next ?_ (F.args_tuple_iterator_next_1 _)))
 show wpAny (model prog w) A.in1 (field (.ref it) 0 >>= _) _ _ s
 refine wpAny_bind (wpAny_field ei di (x:=.ref tp) rfl ?_)
 show wpAny (model prog w) A.in1 (if (Value.ref tp == Value.none)=true then _ else _) _ _ s
 rw[if_neg (show ¬(Value.ref tp == Value.none)=true from yl)]
 show wpAny (model prog w) A.in1 (field (.ref it) 1 >>= _) _ _ s
 refine wpAny_bind (wpAny_field ei di (x:=.int j 0) rfl ?_)
 show wpAny (model prog w) A.in1 (seqItems? (.ref tp) >>= _) _ _ s
 refine wpAny_bind (wpAny_seqItems et dt ?_)
 simp only[ye,hy]
 refine wpAny_bind (wpAny_rule (wpAny_bind (wpAny_setField ei di (by simp) ?_)))
 show wpAny (model prog w) A.in1 (newExc (.type "StopIteration") [] >>= _) _ _ _
 refine wpAny_bind ?_
 simp only[newExc,newTuple]
 refine wpAny_bind (wpAny_newObj_type (wpAny_bind (m:=firstArgMember _ _) (wpAny_of_eq (a:=Value.none) (by first | rfl | (simp only[firstArgMember];rfl)) (wpAny_newObj_type ?_ (by size_fits)))) (by size_fits))
 simp only[raiseNew]
 refine wpAny_bind (wpAny_handled ?_)
 rw[show A.in1.handled=none from hh]
 refine wpAny_bind (wpAny_pure (wpAny_throw (k _ _ (((Heap.SameBut.update ..).extBut.push _).push _) ⟨_,Heap.get?_push_size _ rfl,rfl⟩)))
end
set_option maxHeartbeats 4000000 in
theorem pC(l:Addr)(vs:Array Value)(t:Tok) :
  Meets (Builtin.«enumerate.__new__» ⟨[.type "enumerate",.ref l],[("start",.int 1 t)]⟩) (fun _ R s=>s.heap.IsList l vs ∧
   R (.ok (.ret (.ref (s.heap.push { cls:=.type "list_iterator",data:=.fields #[.ref l,.int 0 0] }).objs.size)))
    { s with heap:=(s.heap.push { cls:=.type "list_iterator",data:=.fields #[.ref l,.int 0 0] }).push { cls:=.type "enumerate",data:=.fields #[.none,.bool false,.ref s.heap.objs.size,rawInt 1,.none,.none] } }) :=
 .of_wp fun prog w A R s h=>by
  obtain⟨hp,g,d,tk,os⟩:=s;obtain⟨hL,h⟩:=h
  obtain⟨⟨c,dc,dt,sl⟩,hl,hc,n,hd⟩:=id hL
  replace hc:c=.type "list" := hc
  replace hd:dt=.seq vs n:=hd
  subst hc hd
  have hsub:=sub_enumerate
  wp_walk using PySem.AutoSeq1.wpAny_loadPart' hl
  refine wpAny_stack_any fun st=>wpAny_pure ?_
  dsimp only
  split
  ·split
   all_goals
    refine wpAny_bind (wpAny_of_eq (a:=(Value.ref l,some (Value.int 1 t))) ?e ?_)
    case e=>rfl
    show wpAny _ _ (Builtin.SmallTypes.indexObject _ (Value.int 1 t) >>= _) _ _ _
    wp_walk using wpAny_pyIter_list hL
    exact⟨_,rfl,h⟩
  ·rw[if_neg yl]
   refine wpAny_bind (wpAny_of_eq (a:=(Value.ref l,some (Value.int 1 t))) ?e ?_)
   case e=>rfl
   show wpAny _ _ (Builtin.SmallTypes.indexObject _ (Value.int 1 t) >>= _) _ _ _
   wp_walk using wpAny_pyIter_list hL
   exact⟨_,rfl,h⟩
set_option maxHeartbeats 4000000 in
theorem qd(l:Addr)(vs:Array Value)(t:Tok) :
  Meets (Builtin.«enumerate.__new__» ⟨[.type "enumerate",.ref l],[("start",.int 1 t)]⟩) (fun _ R s=>s.heap.IsTuple l vs ∧
   R (.ok (.ret (.ref (s.heap.push { cls:=.type "tuple_iterator",data:=.fields #[.ref l,.int 0 0] }).objs.size)))
    { s with heap:=(s.heap.push { cls:=.type "tuple_iterator",data:=.fields #[.ref l,.int 0 0] }).push { cls:=.type "enumerate",data:=.fields #[.none,.bool false,.ref s.heap.objs.size,rawInt 1,.none,.none] } }) :=
 .of_wp fun prog w A R s h=>by
  obtain⟨hp,g,d,tk,os⟩:=s;obtain⟨hL,h⟩:=h
  obtain⟨⟨c,dc,dt,sl⟩,hl,hc,n,hd⟩:=id hL
  replace hc:c=.type "tuple" := hc
  replace hd:dt=.seq vs n:=hd
  subst hc hd
  have hsub:=sub_enumerate
  wp_walk using PySem.AutoSeq1.wpAny_loadPart' hl
  refine wpAny_stack_any fun st=>wpAny_pure ?_
  dsimp only
  split
  ·split
   all_goals
    refine wpAny_bind (wpAny_of_eq (a:=(Value.ref l,some (Value.int 1 t))) ?e ?_)
    case e=>rfl
    show wpAny _ _ (Builtin.SmallTypes.indexObject _ (Value.int 1 t) >>= _) _ _ _
    wp_walk using wpAny_pyIter_tuple hL
    exact⟨_,rfl,h⟩
  ·rw[if_neg yl]
   refine wpAny_bind (wpAny_of_eq (a:=(Value.ref l,some (Value.int 1 t))) ?e ?_)
   case e=>rfl
   show wpAny _ _ (Builtin.SmallTypes.indexObject _ (Value.int 1 t) >>= _) _ _ _
   wp_walk using wpAny_pyIter_tuple hL
   exact⟨_,rfl,h⟩
section
variable{prog:Program}{w:World}{A:Around}{E:Value→Shared→Prop}{s:Shared}
theorem o4{T newId:String}{Bn:Builtin}{a:Value}{args:List Value}{kw:List (Str×Value)}{S:PySem.Spec}{R:Value→Shared→Prop}(ft:TypeCalled T newId "object.__init__")(hne:(some newId != some "object.__new__")=true)
  (hct:checkTypeCall T ⟨a::args,kw⟩=pure ()) (hcn:checkBuiltinCall newId ⟨.type T::a::args,kw⟩=pure ()) (hok:∀obj,argsOk "object.__init__" ⟨obj::a::args,kw⟩) (eN:entryFor table newId=some Bn) (gN:Meets (Bn ⟨.type T::a::args,kw⟩) S)
  (h:S A.in1 (wants (fun obj s1=>s1.TypeIs obj T∧R obj s1) E) s):wpAny (model prog w) A (call (.type T) (a::args) kw) R E s:=by
 obtain⟨c,tl,hmro⟩:=ft.mro
 have hmade:=ft.made
 have hsub:=ft.sub
 refine wpAny_call (codeAny_of_tree ?_)
 show wpAny (model prog w) _ (callAny (.type T) _) _ _ _
 refine wpAny_pure ⟨Code.quiet_builtin _ k!,codeAny_builtin F.entry_type_call ?_⟩
 rw[Around.under_plain (weight_type_call_type T (a::args) kw) (units_type_call_type T (a::args) kw)]
 have h1:=ft.notType
 have h2:=ft.canCreate
 repeat (any_goals (first | assumption | wp_step))
 refine codeAny_mono (codeAny_call_builtin ft.plain eN (wpAny_of_eq hcn (gN prog w A.in1 _ s h))) fun r s1 hr=>?_
 cases r with
 | error e=>exact hr
 | ok fl =>
  cases fl with
  | ret obj =>
   obtain⟨hT,hq⟩:=hr
   have hli:=ft.init.lookup
   have hbi:=ft.init.bind obj
   repeat (any_goals (first | assumption | wp_step))
   have gi:Meets (Builtin.«object.__init__» ⟨obj::a::args,kw⟩) (fun _ R s=>s.TypeIs obj T∧R (.ok (.ret .none)) s):=by
    refine Meets.of_wp fun prog w A R s hs=>?_
    obtain⟨hT,hq⟩:=hs
    have hm:=ft.made
    have hl:=ft.init.lookup
    repeat (any_goals (first | assumption | wp_step))
    exact⟨_,rfl,hq⟩
   refine codeAny_mono (codeAny_call_builtin ft.init.plain F.entry_object_init (ft.init.check _ _ _ _ _ _ _ _ hT (hok obj) (gi prog w A.in1 (wants (fun r s2=>r=.none∧R obj s2) E) s1 ⟨hT,rfl,hq⟩))) fun r2 s2 hr2=>?_
   cases r2 with
   | error e=>exact hr2
   | ok fl2 =>
    cases fl2 with
    | ret r =>
     obtain⟨rfl,hq⟩:=hr2
     repeat (any_goals (first | assumption | wp_step))
    | _=>exact hr2.elim
  | _=>exact hr.elim
theorem oH(a v:Value):checkTypeCall "enumerate" ⟨[a],[("start",v)]⟩=pure ():=by kernel_rfl
theorem oq(a v:Value):checkBuiltinCall "enumerate.__new__" ⟨[.type "enumerate",a],[("start",v)]⟩=pure ():=by kernel_rfl
theorem oP(o a v:Value):argsOk "object.__init__" ⟨[o,a],[("start",v)]⟩:=by unfold argsOk;kernel_rfl
theorem ni{l:Addr}{vs:Array Value}{t:Tok}{R:Value→Shared→Prop}(hL:s.heap.IsList l vs)
  (k:∀g,IsEnum g (s.heap.objs.size+1) s.heap.objs.size 1 .none→g.IsListIter s.heap.objs.size l 0→(∀b o,s.heap.get? b=some o→g.get? b=some o)→R (.ref (s.heap.objs.size+1)) { s with heap:=g }) :
  wpAny (model prog w) A (call (.type "enumerate") [.ref l] [("start",.int 1 t)]) R E s:=by
 refine o4 F.called_enumerate (by decide) (oH _ _) (oq _ _) (fun o=>oP o _ _) F.entry_enumerate_new (pC l vs t) ⟨hL,?_⟩
 have hz:(s.heap.push { cls:=.type "list_iterator",data:=.fields #[.ref l,.int 0 0] }).objs.size=s.heap.objs.size+1:=Heap.size_push ..
 have he:=Heap.get?_push_size (s.heap.push { cls:=.type "list_iterator",data:=.fields #[.ref l,.int 0 0] }) (o:={ cls:=.type "enumerate",data:=.fields #[.none,.bool false,.ref s.heap.objs.size,rawInt 1,.none,.none] }) rfl
 show _∧_
 rw[hz] at he ⊢
 exact⟨⟨_,he,rfl⟩,k _ he ⟨_,Heap.get?_push_of_some _ (Heap.get?_push_size _ rfl),rfl,rfl⟩ fun b o q=>Heap.get?_push_of_some _ (Heap.get?_push_of_some _ q)⟩
theorem nK{l:Addr}{vs:Array Value}{t:Tok}{R:Value→Shared→Prop}(hL:s.heap.IsTuple l vs)
  (k:∀g,IsEnum g (s.heap.objs.size+1) s.heap.objs.size 1 .none→g.IsTupleIter s.heap.objs.size l 0→(∀b o,s.heap.get? b=some o→g.get? b=some o)→R (.ref (s.heap.objs.size+1)) { s with heap:=g }) :
  wpAny (model prog w) A (call (.type "enumerate") [.ref l] [("start",.int 1 t)]) R E s:=by
 refine o4 F.called_enumerate (by decide) (oH _ _) (oq _ _) (fun o=>oP o _ _) F.entry_enumerate_new (qd l vs t) ⟨hL,?_⟩
 have hz:(s.heap.push { cls:=.type "tuple_iterator",data:=.fields #[.ref l,.int 0 0] }).objs.size=s.heap.objs.size+1:=Heap.size_push ..
 have he:=Heap.get?_push_size (s.heap.push { cls:=.type "tuple_iterator",data:=.fields #[.ref l,.int 0 0] }) (o:={ cls:=.type "enumerate",data:=.fields #[.none,.bool false,.ref s.heap.objs.size,rawInt 1,.none,.none] }) rfl
 show _∧_
 rw[hz] at he ⊢
 exact⟨⟨_,he,rfl⟩,k _ he ⟨_,Heap.get?_push_of_some _ (Heap.get?_push_size _ rfl),rfl,rfl⟩ fun b o q=>Heap.get?_push_of_some _ (Heap.get?_push_of_some _ q)⟩
end
end L2
set_option maxHeartbeats 400000
namespace L2
open PySem PySem.Spec PyProof.Rows
noncomputable def mZ(S:Hp→Addr→List V→Prop)(a:Addr)(k:Nat):It :=
 ⟨fun i H=>∃xs x,S H a xs∧xs[i]? = some x,fun i H x H'=>∃t y,x=.ref t∧H t=none∧H'=upd H t (.tup [.int (((k+i:Nat)):Int),y])∧∀xs,S H a xs→xs[i]? = some y,fun i H=>∃xs,S H a xs∧xs.length=i⟩
section
variable{X:Cx}{pins:List (Addr×Obj)}{σ:St}{H:Hp}{s:Shared}
theorem Inv.pair{e it t:Addr}{g:Heap}{tk:Nat}{o:HO}(I:Inv X pins σ H s)(fe:gw X pins H e)(fi:gw X pins H it)(ht:s.heap.objs.size≤t)
  (k:∀b o,b≠e→b≠it→s.heap.get? b=some o→g.get? b=some o) (new:bF X.prog X.w (upd H t o) g t o):Inv X pins σ (upd H t o) { s with heap:=g,toks:=tk }:=by
 have hn:H t=none:=I.hok.fresh ht
 obtain⟨e0,e1,e2,e3,e4,e5⟩:=fe
 obtain⟨i0,i1,i2,i3,i4,i5⟩:=fi
 have nt:∀b o,s.heap.get? b=some o→b≠t:=fun b o q z=>by
  subst z
  exact absurd (yB (Heap.lt_size q) ht) (yZ _)
 have nch:∀b,b∉[e,it]→b≠e∧b≠it:=fun b hb=>⟨fun z=>hb (by simp[z]),fun z=>hb (by simp[z])⟩
 have ne:∀b u,H b=some u→b≠e∧b≠it:=fun b u q=>⟨ay q e0,ay q i0⟩
 refine I.step (g':=s.gens) (d':=s.drawn) (ch:=[e,it]) (fun b hb=>?_) (fun b o _ _ hc q _=>k b o (nch b hc).1 (nch b hc).2 q) (fun b o _ _ hc q _=>⟨o.slots,k b o (nch b hc).1 (nch b hc).2 q⟩) (fun b o _ q n=>by rw[au (nt b o q)];exact n)
  (fun b o hc q=>⟨o,k b o (nch b hc).1 (nch b hc).2 q⟩) (fun b xs q=>by rw[au (ay q hn)];exact q) (fun b o u q=>by rw[au (ay q hn)];exact q) (fun b ps q=>⟨#[],by rw[au (ay q hn),q];simp⟩) (fun m hm=>?_) (fun b u q=>?_) I.bare
 ·rcases List.mem_cons.mp hb with z | z
  ·subst z;exact⟨e3,e1,e4,e5⟩
  ·have z':b=it:=by simpa using z
   subst z'; exact⟨i3,i1,i4,i5⟩
 ·obtain⟨ol,es,ep,ho,r⟩:=hm
  exact⟨ol,es,ep,k _ ol (yta e1) (yta i1) ho,r⟩
 ·by_cases hb:b=t
  ·subst hb;rw[ae] at q;cases q;exact new
  ·rw[au hb] at q
   refine(I.hok b u q).stay (fun c v hc z=>k c v ?_ ?_ z) (fun c z=>by rw[au (ay z hn)];exact z) fun c xs z=>by rw[au (ay z hn)];exact z
   ·rcases hc with z' | z'
    ·rw[z'];exact(ne b u q).1
    ·exact(ne c _ z').1
   ·rcases hc with z' | z'
    ·rw[z'];exact(ne b u q).2
    ·exact(ne c _ z').2
end
structure j8(P:Program)(w:World)(K:PySem.W.Frag)(S:Hp→Addr→List V→Prop)(a it:Addr)(sq:Heap→Array Value→Prop)(ti:Nat→Heap→Prop):Prop where
 obj:∀i h,ti i h→∃o,h.get? it=some o∧∀v,o.data≠.cell v
 keep:∀i h h',ti i h→(∀o,h.get? it=some o→h'.get? it=some o)→ti i h'
 sk:∀h h' vs,sq h vs→(∀o,h.get? a=some o→h'.get? a=some o)→sq h' vs
 ne:∀h vs i,sq h vs→ti i h→a≠it
 nee:∀h vs e j old,sq h vs→IsEnum h e it j old→a≠e
 abs:∀(X:Cx) (pins:List (Addr×Obj)) (σ:St) (H:Hp) (s:Shared) (xs:List V),X.K=K→Inv X pins σ H s→S H a xs→∃its:List Value,bp xs its∧sq s.heap its.toArray
 one:∀(X:Cx) (pins:List (Addr×Obj)) (σ:St) (H:Hp) (s:Shared) (xs ys:List V),X.K=K→Inv X pins σ H s→S H a xs→S H a ys→xs=ys
 item:∀(A:Around) (i:Nat) (s:Shared) (vs:Array Value) (u:Value) (Q:Value→Shared→Prop) (E:Value→Shared→Prop),ti i s.heap→sq s.heap vs→vs[i]? = some u →
  (∀g,ti (i+1) g→Heap.SameBut it s.heap g→Q u { s with heap:=g })→wpAny (model P w) A (Builtin.SmallTypes.nextOf (.ref it)) Q E s
 done:∀(A:Around) (i:Nat) (s:Shared) (vs:Array Value) (Q:Value→Shared→Prop) (E:Value→Shared→Prop),A.handled=none→ti i s.heap→sq s.heap vs→vs[i]? = none →
  (∀g e,Heap.ExtBut it s.heap g→(∃o,g.get? e=some o∧o.cls=.type "StopIteration")→E (.ref e) { s with heap:=g })→wpAny (model P w) A (Builtin.SmallTypes.nextOf (.ref it)) Q E s
theorem lq{P:Program}{w:World}{K:PySem.W.Frag}(a it:Addr):j8 P w K (SqL K) a it (fun h vs=>h.IsList a vs) (fun i h=>h.IsListIter it a i) where
 obj:=fun i h st=>by
  obtain⟨o,e,c,d⟩:=st
  exact⟨o,e,fun v z=>by rw[d] at z;cases z⟩
 keep:=fun i h h' st k=>st.at k
 sk:=fun h h' vs q k=>q.at k
 ne:=fun h vs i q st z=>by
  obtain⟨o,e,c,_⟩:=q
  obtain⟨o',e',c',_⟩:=st
  rw[z,e'] at e
  cases e
  rw[c'] at c
  exact absurd (Value.type.inj c) (by decide)
 nee:=fun h vs e j old q en z=>by
  obtain⟨o,q,c,_⟩:=q
  subst z
  rw[show h.get? a=_ from en] at q
  cases q
  exact absurd (Value.type.inj c) (by decide)
 abs:=fun X pins σ H s xs hK I hq=>by
  subst hK
  obtain⟨its,rv,p,hz⟩:=I.list hq
  exact⟨its,rv,p.isList⟩
 one:=fun X pins σ H s xs ys hK I h1 h2=>by subst hK;exact I.list_inj h1 h2
 item:=fun A i s vs u Q E st q hx k=>wpAny_nextOf_list_item st q hx k
 done:=fun A i s vs Q E hh st q hx k=>wpAny_nextOf_list_end hh st q hx k
theorem oW{P:Program}{w:World}{K:PySem.W.Frag}(a it:Addr):j8 P w K (SqT K) a it (fun h vs=>h.IsTuple a vs) (fun i h=>h.IsTupleIter it a i) where
 obj:=fun i h st=>by
  obtain⟨o,e,c,d⟩:=st
  exact⟨o,e,fun v z=>by rw[d] at z;cases z⟩
 keep:=fun i h h' st k=>by
  obtain⟨o,e,r⟩:=st
  exact⟨o,k o e,r⟩
 sk:=fun h h' vs q k=>by
  obtain⟨o,e,r⟩:=q
  exact⟨o,k o e,r⟩
 ne:=fun h vs i q st z=>by
  obtain⟨o,e,c,_⟩:=q
  obtain⟨o',e',c',_⟩:=st
  rw[z,e'] at e
  cases e
  rw[c'] at c
  exact absurd (Value.type.inj c) (by decide)
 nee:=fun h vs e j old q en z=>by
  obtain⟨o,q,c,_⟩:=q
  subst z
  rw[show h.get? a=_ from en] at q
  cases q
  exact absurd (Value.type.inj c) (by decide)
 abs:=fun X pins σ H s xs hK I hq=>by
  subst hK
  obtain⟨its,rv,p,hz⟩:=I.tuple hq
  exact⟨its,rv,p⟩
 one:=fun X pins σ H s xs ys hK I h1 h2=>by subst hK;exact I.tuple_inj h1 h2
 item:=fun A i s vs u Q E st q hx k=>nr st q hx k
 done:=fun A i s vs Q E hh st q hx k=>iI hh st q hx k
theorem j8.draws{P:Program}{w:World}{K:PySem.W.Frag}{S:Hp→Addr→List V→Prop}{a it:Addr}{sq:Heap→Array Value→Prop}{ti:Nat→Heap→Prop}(O:j8 P w K S a it sq ti){A:Around}(hh:A.handled=none)(k:Nat)(vs:Array Value) :
  Draws P w A it [it,a] (k+vs.size) (fun j y=>∃i,j=k+i∧vs[i]? = some y) (fun j h=>∃i,j=k+i∧ti i h∧sq h vs) where
 live:=fun j h q=>by
  obtain⟨i,_,st,_⟩:=q
  obtain⟨o,e,_⟩:=O.obj i h st
  exact⟨o,e⟩
 frame:=fun j h h' q kk=>by
  obtain⟨i,e,st,sv⟩:=q
  exact⟨i,e,O.keep i h h' st fun o z=>kk it (by simp) o z,O.sk h h' vs sv fun o z=>kk a (by simp) o z⟩
 item:=fun j s Q E hj q kq=>by
  obtain⟨i,rfl,st,sv⟩:=q
  have hi:i<vs.size:=by lia
  refine O.item A i s vs vs[i] Q E st sv (by simp[hi]) fun g st' sb=>?_
  exact kq _ g s.toks ⟨i,rfl,by simp[hi]⟩ ⟨i+1,by lia,st',O.sk _ _ vs sv fun o z=>(sb.2 a (O.ne _ vs i sv st)).trans z⟩ sb
 done:=fun s Q E q kq=>by
  obtain⟨i,hi,st,sv⟩:=q
  have:i=vs.size:=by lia
  subst this
  exact O.done A _ s vs Q E hh st sv (by simp) kq
theorem p7{P:Program}{w:World}{K:PySem.W.Frag}{S:Hp→Addr→List V→Prop}{elts:List Expr}{x1:Nat}{tp:Pos}(a e it:Addr)(k:Nat)(hei:e≠it){sq:Heap→Array Value→Prop}{ti:Nat→Heap→Prop}(O:j8 P w K S a it sq ti) :
  ly P w K (.Tuple elts x1 tp) (mZ S a k) [e,it] e (fun i h=>(∃old,IsEnum h e it (((k+i:Nat)):Int) old)∧ti i h) where
 mem:=by simp
 obj:=fun i h st b hb=>by
  obtain⟨⟨old,he⟩,st⟩:=st
  rcases List.mem_cons.mp hb with z | z
  ·subst z
   exact⟨_,he,fun v z=>by
    have z':Data.fields _=Data.cell v:=z
    cases z'⟩
  ·have z':b=it:=by simpa using z
   subst z'
   exact O.obj i h st
 keep:=fun i h h' st kk=>by
  obtain⟨⟨old,he⟩,st⟩:=st
  exact⟨⟨old,kk e (by simp) _ he⟩,O.keep i h h' st fun o q=>kk it (by simp) o q⟩
 item:=by
  intro X hP hw hK hc i pins s σ H E I hf st hg
  obtain⟨⟨old,he⟩,st⟩:=st
  obtain⟨xs,x,hq,hx⟩:=hg
  have fe:=hf e (by simp)
  have fi:=hf it (by simp)
  obtain⟨its,rv,sv⟩:=O.abs X pins σ H s xs hK I hq
  obtain⟨u,hu,ru⟩:=rv.get hx
  have hlt:i<its.toArray.size:=by
   rw[yh]
   exact(List.getElem?_eq_some_iff.mp hu).1
  have hef:e∉[it,a]:=fun z=>by
   rcases List.mem_cons.mp z with z | z
   ·exact hei z
   ·exact O.nee _ _ _ _ _ sv he (by simpa using z:e=a).symm
  have hel:e<s.heap.objs.size:=Heap.lt_size he
  have hil:it<s.heap.objs.size:=by obtain⟨o,q,_⟩:=O.obj i _ st;exact Heap.lt_size q
  refine wpAny_pyNext_enum_itemD (O.draws (A:=X.A.in1) (I.ok.hd hc) k its.toArray) he ⟨i,rfl,st,sv⟩ (by lia) hei hef fun y g tk hy ho hst hT hsz hk=>?_
  obtain⟨i',e1,hy⟩:=hy
  have e2:i'=i:=by lia
  subst e2
  have e3:y=u:=by
   have hu':its.toArray[i']? = some u:=by simpa using hu
   rw[hu'] at hy
   exact(yt hy).symm
  subst e3
  refine⟨_,rfl,wpAny_letOwnedTupleGo_enum ho fun g2 he2 hs2=>?_⟩
  have nse:s.heap.objs.size≠e:=yAb hel
  have hT2:g2.get? s.heap.objs.size=some { cls:=.type "tuple",data:=.seq #[.int ((k+i':Nat):Int) tk,y] }:=(hs2.2 _ nse).trans hT
  have I2:Inv X pins σ (upd H s.heap.objs.size (.tup [.int (((k+i':Nat)):Int),x])) { s with heap:=g2,toks:=tk+1 }:=by
   refine I.pair fe fi (yd _) (fun b o h1 h2 q=>(hs2.2 b h1).trans (hk b o h1 h2 q)) ?_
   exact⟨by show 2≤sizeLine;decide,[.int ((k+i':Nat):Int) tk,y],.cons ⟨tk,rfl⟩ (.cons ru .nil),⟨_,hT2,rfl,0,rfl⟩⟩
  obtain⟨i2,e4,st2,_⟩:=hst
  have e5:i2=i'+1:=by lia
  subst e5
  refine⟨.ref s.heap.objs.size,_,I2,rfl,⟨_,x,rfl,I.fresh,rfl,fun ys hys=>?_⟩,⟨⟨y,?_⟩,O.keep _ _ _ st2 fun o q=>(hs2.2 it (yta hei)).trans q⟩,fun b hb=>?_⟩
  ·rw[O.one X pins σ H s ys xs hK I hys hq]
   exact hx
  ·have:(((k+(i'+1):Nat)):Int)=((k+i':Nat):Int)+1:=by lia
   rw[this]
   exact he2
  ·rcases List.mem_cons.mp hb with z | z
   ·subst z
    rw[au (yta nse)]
    exact fe.1
   ·have z':b=it:=by simpa using z
    subst z'
    rw[au (yF hil)]
    exact fi.1
 done:=by
  intro X hP hw hK hc i pins s σ H E I hf st hg
  obtain⟨⟨old,he⟩,st⟩:=st
  obtain⟨xs,hq,hx⟩:=hg
  obtain⟨its,rv,sv⟩:=O.abs X pins σ H s xs hK I hq
  have hl:=rv.length
  obtain⟨f0,f1,f2,f3,f4,f5⟩:=hf it (by simp)
  exact wpAny_pyNext_enum_endD (O.draws (A:=X.A.in1) (I.ok.hd hc) k its.toArray) he ⟨i,by simp;lia,st,sv⟩ fun g eb=>⟨rfl,I.turned (t':=s.toks) (fun b o hb q=>eb b o hb q) f0 f1 f3 f4 f5⟩
 self:=fun A i s Q E st h=>by
  obtain⟨⟨old,he⟩,st⟩:=st
  exact wpAny_pyIter_enum he h
theorem bS{S:Hp→Addr→List V→Prop}{a:Addr}{k:Nat}{xs:List V}{σ:St}{H:Hp}{DN:St→Hp→Prop}{B:(St→Hp→Prop)→V→St→Hp→Prop}(Pv:Nat→St→Hp→Prop)(h0:Pv 0 σ H)
  (hl:∀i σ H,i≤xs.length→Pv i σ H→S H a xs)
  (hs:∀i x σ H t,xs[i]? = some x→Pv i σ H→H t=none→B (Pv (i+1)) (.ref t) σ (upd H t (.tup [.int (((k+i:Nat)):Int),x]))) (hd:∀σ H,Pv xs.length σ H→DN σ H) :
  ∃W:Nat→Nat→St→Hp→Prop,(∃m,W 0 m σ H)∧∀i m σ H,W i m σ H →
   ((mZ S a k).stop i H∧DN σ H)∨((mZ S a k).go i H∧∃N:St→Hp→Prop,(∀σ' H',N σ' H'→∃m',m'<m∧W (i+1) m' σ' H')∧∀x H',(mZ S a k).yld i H x H'→B N x σ H'):=by
 refine⟨fun i m σ H=>m=xs.length-i∧i≤xs.length∧Pv i σ H,⟨xs.length,by simp,yq _,h0⟩,?_⟩
 rintro i m σ H ⟨rfl,hi,p⟩
 have q:=hl i σ H hi p
 by_cases hlt:i<xs.length
 ·refine .inr ⟨⟨xs,xs[i],q,by simp[hlt]⟩,Pv (i+1),fun σ' H' p'=>⟨xs.length-(i+1),by omega,rfl,hlt,p'⟩,fun x H' y=>?_⟩
  obtain⟨t,y,e,ht,e',hy⟩:=y
  subst e e'
  exact hs i y σ _ t (hy xs q) p ht
 ·have e:i=xs.length:=by lia
  subst e
  exact .inl ⟨⟨xs,q,rfl⟩,hd σ H p⟩
noncomputable def vB(K:PySem.W.Frag)(k:Nat)(te:TE):TI:=fun σ H R=>te σ H fun x H1=>∃a,x=.ref a∧(∃xs,SqL K H1 a xs)∧R (mZ (SqL K) a k) H1
noncomputable def wI(K:PySem.W.Frag)(k:Nat)(te:TE):TI:=fun σ H R=>te σ H fun x H1=>∃a,x=.ref a∧(∃xs,SqT K H1 a xs)∧R (mZ (SqT K) a k) H1
section
variable{X:Cx}{elts:List Expr}{x1:Nat}{tp:Pos}
theorem gn{S:Hp→Addr→List V→Prop}{sq:Heap→Array Value→Prop}{ti:Nat→Heap→Prop}{pins:List (Addr×Obj)}{σ:St}{H:Hp}{s:Shared}{R:It→Hp→Prop}{E:Value→Shared→Prop}{a:Addr}{k:Nat}{g:Heap}{c:Int}(I:Inv X pins σ H s)
  (O:j8 X.prog X.w X.K S a s.heap.objs.size sq ti) (hc:c=(k:Int)) (he:IsEnum g (s.heap.objs.size+1) s.heap.objs.size c .none) (hi:ti 0 g) (hk:∀b o,s.heap.get? b=some o→g.get? b=some o) (q:R (mZ S a k) H) :
  wpAny (model X.prog X.w) X.A (pyIter (.ref (s.heap.objs.size+1))) (PIE X pins σ (.Tuple elts x1 tp) R) E { s with heap:=g }:=by
 subst hc
 refine wpAny_pyIter_enum he ⟨s.heap.objs.size+1,[s.heap.objs.size+1,s.heap.objs.size],_,_,H,rfl,I.kept (t':=s.toks) hk,p7 a _ _ k (Nat.succ_ne_self _) O,⟨⟨_,he⟩,hi⟩,fun b hb=>?_,q⟩
 rcases List.mem_cons.mp hb with z | z
 ·subst z
  exact I.fpOk (yFb _) (I.hok.fresh (yFb _))
 ·have z':b=s.heap.objs.size:=by simpa using z
  subst z'
  exact I.fpOk (yd _) (I.hok.fresh (yd _))
theorem bT{e:Expr}{te:TE}{p pos:Pos}(hg:Gl X "enumerate")(hm:X.mg "enumerate" = none)(he:PE X e te)(hs:starEach [e] X.env=[(false,eval e X.env)]:=by rfl):PI X (.Tuple elts x1 tp) (.Call (.Name "enumerate" p) [e] [] pos) (vB X.K 0 te):=by
 intro pins s σ H R I h
 refine Call_ (eF I hg hm boot_enumerate (PyProof.Rows.callWith_type1 ?_ hs rfl))
 rw[hs]
 refine Calls.spliced_cons (thn (he pins s σ H _ I h) fun v s1 z1_=>?_)
 obtain⟨x,H1,I1,rx,q1⟩:=z1_
 refine Calls.spliced_nil ?_
 obtain⟨a,rfl,⟨xs,hq⟩,q⟩:=q1
 cases rx
 obtain⟨its,rv,pl,_⟩:=I1.list hq
 exact call_enumerate_list pl.isList fun g e1 e2 _ hk=>gn I1 (lq a _) rfl e1 e2 hk q
theorem kX{M:Model}{A:Around}{E:Value→Shared→Prop}{s:Shared}{env:Env}{pos:Pos}{T:String}{x:Sem Value}{rest:List (Bool×Sem Value)}{kws:List (Option Str×Sem Value)}{Q:Value→Shared→Prop}(h1:rest.any (·.1)=false)(h2:kws.all (·.1.isSome)=true)(h3:kws.any (·.1.isNone)=false)
  (h:wpAny M A (spliced ((false,x)::rest)) (fun vs s1=>wpAny M A (evalAll (kws.map (·.2))) (fun ks s2=>wpAny M A (call (.type T) vs ((kws.filterMap (·.1)).zip ks)) Q E s2) E s1) E s):wpAny M A (callWith pos (.type T) [] ((false,x)::rest) kws) Q E s:=by
 unfold callWith
 refine wpAny_bind (wpAny_holding (wpAny_mono (evalArgs_kwB h2 (Q:=fun a s1=>wpAny M A (call (.type T) ([]++a.pos) a.kw) Q E s1) h) (fun a s1 z=>wpAny_bind (wpAny_standAt ?_)) fun _ _ z=>z))
 simp only[yAa,h1,h3,Bool.or_false,Bool.false_or]
 exact wpAny_bind (wpAny_pure (wpAny_bind (wpAny_mono z (fun r s2 hr=>wpAny_bind (wpAny_holding (wpAny_point (wpAny_pure hr)))) fun _ _ z=>z)))
theorem iW{e:Expr}{te:TE}{p pos kp ip:Pos}{j:Nat}{pins:List (Addr×Obj)}{s:Shared}{σ:St}{H:Hp}{Q:VK}{R:Value→Shared→Prop}(hg:Gl X "enumerate")(hm:X.mg "enumerate" = none)(he:PE X e te)(hs:starEach [e] X.env=[(false,eval e X.env)])
  (I:Inv X pins σ H s) (h:te σ H Q) (k:∀x v H1 s1 t,Inv X pins σ H1 s1→bu x v→Q x H1→wpAny (model X.prog X.w) X.A (call (.type "enumerate") [v] [("start",.int 1 t)]) R X.xe s1) :
  wpAny (model X.prog X.w) X.A (eval (.Call (.Name "enumerate" p) [e] [⟨some "start",.Constant (.int 1) j ip,kp⟩] pos) X.env) R X.xe s:=by
 refine wpAny_Call_Name_kw (eF I hg hm boot_enumerate ?_)
 rw[hs]
 refine kX (env:=X.env) (rest:=[]) rfl rfl rfl ?_
 refine Calls.spliced_cons (thn (he pins s σ H Q I h) fun v s1 z2_=>?_)
 obtain⟨x,H1,I1,rx,q⟩:=z2_
 refine Calls.spliced_nil ?_
 refine kws_cons (wpAny_Constant_int (kws_nil ?_))
 exact k x v H1 _ _ (I1.tok _) rx q
theorem jv{e:Expr}{te:TE}{p pos kp ip:Pos}{j:Nat}(hg:Gl X "enumerate")(hm:X.mg "enumerate" = none)(he:PE X e te)(hs:starEach [e] X.env=[(false,eval e X.env)]:=by rfl):PI X (.Tuple elts x1 tp) (.Call (.Name "enumerate" p) [e] [⟨some "start",.Constant (.int 1) j ip,kp⟩] pos) (vB X.K 1 te):=by
 intro pins s σ H R I h
 refine iW hg hm he hs I h fun x v H1 s1 t I1 rx q1=>?_
 obtain⟨a,rfl,⟨xs,hq⟩,q⟩:=q1
 cases rx
 obtain⟨its,rv,pl,_⟩:=I1.list hq
 exact ni pl.isList fun g e1 e2 hk=>gn I1 (lq a _) rfl e1 e2 hk q
theorem kP{e:Expr}{te:TE}{p pos kp ip:Pos}{j:Nat}(hg:Gl X "enumerate")(hm:X.mg "enumerate" = none)(he:PE X e te)(hs:starEach [e] X.env=[(false,eval e X.env)]:=by rfl):PI X (.Tuple elts x1 tp) (.Call (.Name "enumerate" p) [e] [⟨some "start",.Constant (.int 1) j ip,kp⟩] pos) (wI X.K 1 te):=by
 intro pins s σ H R I h
 refine iW hg hm he hs I h fun x v H1 s1 t I1 rx q1=>?_
 obtain⟨a,rfl,⟨xs,hq⟩,q⟩:=q1
 cases rx
 obtain⟨its,rv,pl,_⟩:=I1.tuple hq
 exact nK pl fun g e1 e2 hk=>gn I1 (oW a _) rfl e1 e2 hk q
end
structure i6(P:Program)(w:World)(K:PySem.W.Frag)(mg:Str→Option Value)(base:Heap)(x:Str)(C:Addr)(ps:List Str)(k:Nat)(sp:Sp):Prop where
 ex:∃(f:Addr) (fd:FuncData),aT P w K mg base CX0 k f fd ps sp∧cn K fd ps []∧Mk K C f∧mg x=some (.ref C)
structure c5(P:Program)(w:World)(K:PySem.W.Frag)(mg:Str→Option Value)(base:Heap)(C:Addr)(m:Str)(ps:List Str)(k:Nat)(sp:Sp):Prop where
 ex:∃(f:Addr) (fd:FuncData),aT P w K mg base CX0 k f fd ps sp∧cn K fd ps []∧cT K C m f∧Cls K C
theorem cx{X:Cx}{x:Str}{C:Addr}{ps:List Str}{k:Nat}{sp:Sp}{e:Expr}{es:List Expr}{t:TA}{p pos:Pos}(c:i6 X.prog X.w X.K X.mg X.base x C ps k sp)(hr:ce (k+1) X.A)(hg:Gl X x)(ha:PA X (e::es) t)
  (hdb:(x == ("__debug__":Str))=false:=by decide) (he:starEach (e::es) X.env=(false,eval e X.env)::starEach es X.env:=by rfl) (hpl:(backTo pos (starEach es X.env)).any (·.1)=false:=by rfl) :
  PE X (.Call (.Name x p) (e::es) [] pos) (rK C sp [] E0 t):=by
 obtain⟨f,fd,F,b,m,hm⟩:=c.ex
 exact uG m F hr hg hm b .nil sE ha hdb he hpl
theorem bx{X:Cx}{m:Str}{C:Addr}{ps:List Str}{k:Nat}{sp:Sp}{o e:Expr}{es:List Expr}{ta:TE}{t:TA}{apos pos:Pos}{pl:Sem Bool}(c:c5 X.prog X.w X.K X.mg X.base C m ps k sp)(hr:ce k X.A)(ho:PE X o ta)(ha:PA X (e::es) t)
  (he:starEach (e::es) X.env=(false,eval e X.env)::starEach es X.env:=by rfl) (hpl:(backTo pos (starEach es X.env)).any (·.1)=false:=by rfl)
  (ht:eval (.Call (.Attribute o m apos) (e::es) [] pos) X.env=(do
   let v←eval o X.env
   standAt apos.atName
   let (g,first)←holding [v] (getMethod v m pl)
   callWith pos g first (backTo pos (starEach (e::es) X.env)) (backToKw pos (keywordEach [] X.env))):=by rfl):PE X (.Call (.Attribute o m apos) (e::es) [] pos) (qw C m sp [] E0 ta t):=by
 obtain⟨f,fd,F,b,hm,cl⟩:=c.ex
 exact um ho cl hm F hr b .nil sE ha he hpl ht
theorem eT{X:Cx}{x:Str}{n:Int}{pos:Pos}(hg:Gl X x)(hm:∃tk,X.mg x=some (.int n tk))(hd:(x == ("__debug__":Str))=false:=by decide):PE X (.Name x pos) (tC (.int n)):=by
 obtain⟨tk,hm⟩:=hm
 exact uJ hg hm ⟨tk,rfl⟩ hd
noncomputable def uP:V→List V→Hp→VK→Prop:=fun x vs H Q=>∃l xs i y,x=.ref l∧vs=[.int i,y]∧H l=some (.lst xs)∧0≤i∧i≤xs.length∧xs.length<sizeLine∧Q .non (upd H l (.lst (xs.take i.toNat++y::xs.drop i.toNat)))
end L2
namespace L2
open PySem PySem.Spec PyProof.Rows
section
variable{X:Cx}{K:PySem.W.Frag}
theorem bY(hK:X.K=K):IxR X (tT K):=by subst hK;exact bM
theorem bX(hK:X.K=K):IxR X (tG K):=by subst hK;exact ba
theorem fc{es:List Expr}{k:Nat}{t:TGs}{n:Nat}{pos:Pos}(hK:X.K=K)(hc:X.calm=true)(h:PGs X es t)(hn:(assignEach es X.env).length=n:=by rfl)(hst:(assignEach es X.env).findIdx? (·.1)=none:=by rfl):PG X (.Tuple es k pos) (uy K n t):=by
 subst hK;exact bR hc h hn hst
theorem oa(hK:X.K=K):OpR X (compareOp .In) (rIn K false):=by subst hK;exact pf
noncomputable def zl(K:PySem.W.Frag):List V→Hp→VK→Prop:=fun xs H Q=>∃p ys,xs=[.ref p]∧(SqL K H p ys∨SqT K H p ys)∧Q (.int ys.length) H
theorem aL(hK:X.K=K):cu X (.builtin "len") (zl K):=by subst hK;exact kF
noncomputable def oY(K:PySem.W.Frag):List V→Hp→VK→Prop:=fun xs H Q=>∃p ys,xs=[.ref p]∧(SqL K H p ys∨SqT K H p ys)∧∀l,H l=none→Q (.ref l) (upd H l (.lst ys))
theorem iU(hK:X.K=K):cu X (.type "list") (oY K):=by subst hK;exact lc
noncomputable def vS(K:PySem.W.Frag):List V→Hp→VK→Prop:=fun xs H Q=>∃p ys,xs=[.ref p]∧SqL K H p ys∧∀l,H l=none→Q (.ref l) (upd H l (.tup ys))
theorem bW(hK:X.K=K):cu X (.type "tuple") (vS K):=by
 subst hK
 intro pins s σ H xs us Q I r h
 obtain⟨p,ys,e,hs,q⟩:=h
 exact jy pins s σ H xs us Q I r ⟨p,ys,e,.inl ⟨hs,q⟩⟩
end
theorem SqL.off{K:PySem.W.Frag}{H:Hp}{a x:Addr}{xs:List V}{o:HO}(h:SqL K H a xs)(h1:∀ys,H x≠some (.lst ys))(h2:∀v u,H x≠some (.frz v u)):SqL K (upd H x o) a xs:=by
 rcases h with (h | ⟨v,h⟩) | h
 ·have ne:a≠x:=fun z=>h1 _ (z ▸ h)
  exact .inl (.inl (by rw[au ne];exact h))
 ·have ne:a≠x:=fun z=>h2 _ _ (z ▸ h)
  exact .inl (.inr ⟨v,by rw[au ne];exact h⟩)
 ·exact .inr h
end L2
namespace L2
theorem ap{t u:TS}{D:dk}{σ:St}{H:Hp}(h:∀U:TS,U=u→t { D with nx:=U D } σ H):zk t u D σ H:=h u rfl
end L2
set_option maxHeartbeats 4000000
namespace My
open PySem L2
noncomputable def New(H H':Hp)(r:Addr)(xs:List V):Prop:=az H H'∧H r=none∧H' r=some (.lst xs)
theorem ah{H:Hp}{p:Addr}(h:H p=none)(o:HO):az H (upd H p o):=fun b u q=>by rw[au (ay q h)];exact q
theorem aJ{H H':Hp}{p:Addr}(h:H p=none)(g:az H H')(o:HO):az H (upd H' p o):=fun b u q=>by rw[au (ay q h)];exact g b u q
theorem vw{ns:List Int}{k:Int}(h0:0≤k)(h:k<(ns.length:Int)):∃v:Int,atI (ns.map V.int) k=some (.int v):=by
 have hk:k.toNat<ns.length:=by lia
 have q:atI (ns.map V.int) ((k.toNat:Nat):Int)=some (.int ns[k.toNat]):=bg (by rw[yj,yb hk] <;> rfl)
 rw[show((k.toNat:Nat):Int)=k by lia] at q
 exact⟨_,q⟩
theorem dC{n:Nat}(h:n≤1000):n≤sizeLine:=yNa (aE h)
noncomputable abbrev Pst:=Int×Int×Int
noncomputable def j6(H:Hp)(v:V)(q:Pst):Prop:=∃t,v=.ref t∧H t=some (.tup [.int q.1,.int q.2.1,.int q.2.2])
noncomputable def okH(h:Int):Prop:=0≤h∧h<1073741824
noncomputable def okP(q:Pst):Prop:=(0≤q.1∧q.1<1073741824)∧(0≤q.2.1∧q.2.1≤1000000000)∧(0≤q.2.2∧q.2.2≤1)
structure Ok(d:Int)(hs:List Int)(ps:List Pst):Prop where
 d1:1≤d
 d2:d≤31
 h:∀x∈hs,okH x
 hl:hs.length≤8
 p:∀q∈ps,okP q
 pl:ps.length≤6
theorem j6.mono{H H':Hp}{v:V}{q:Pst}(g:az H H')(h:j6 H v q):j6 H' v q:=by
 obtain⟨t,e,h⟩:=h
 exact⟨t,e,g _ _ h⟩
noncomputable abbrev bQ(H:Hp):List V→List Pst→Prop:=Paired (j6 H)
theorem bQ.mono{H H':Hp}(g:az H H'){ts:List V}{ps:List Pst}(h:bQ H ts ps):bQ H' ts ps:=Paired.mapP h fun _ _=>j6.mono g
theorem bQ.at'{H:Hp}{ts:List V}{ps:List Pst}(h:bQ H ts ps){i:Nat}{v:V}(e:ts[i]? = some v):∃q,ps[i]? = some q∧j6 H v q:=Paired.get' h e
theorem bQ.len{H:Hp}{ts:List V}{ps:List Pst}(h:bQ H ts ps):ts.length=ps.length:=Paired.length h
theorem bQ.get{H:Hp}{ts:List V}{ps:List Pst}(h:bQ H ts ps){i:Nat}{q:Pst}(e:ps[i]? = some q):∃t,ts[i]? = some (.ref t)∧H t=some (.tup [.int q.1,.int q.2.1,.int q.2.2]):=by
 have hi:i<ts.length:=by rw[h.len];exact(List.getElem?_eq_some_iff.mp e).1
 have e1:ts[i]? = some ts[i]:=yb hi
 obtain⟨q',e2,t,et,ht⟩:=h.at' e1
 rw[e] at e2
 cases e2
 exact⟨t,by rw[e1,et],ht⟩
theorem n1:¬(("days":Str) = "hands"):=by decide +kernel
theorem n2:¬(("days":Str) = "posts"):=by decide +kernel
theorem n3:¬(("hands":Str) = "posts"):=by decide +kernel
noncomputable def wf(d:Int)(h p:Addr):List (Str×V):=bA "posts" (.ref p) (bA "hands" (.ref h) (bA "days" (.int d) []))
theorem cN(d:Int)(h p:Addr):(wf d h p).lookup ("days":Str)=some (.int d):=by
 unfold wf
 rw[ar,if_neg n2,ar,if_neg n1,ar,if_pos rfl]
theorem eV(d:Int)(h p:Addr):(wf d h p).lookup ("hands":Str)=some (.ref h):=by
 unfold wf
 rw[ar,if_neg n3,ar,if_pos rfl]
theorem eZ(d:Int)(h p:Addr):(wf d h p).lookup ("posts":Str)=some (.ref p):=by
 unfold wf
 rw[ar,if_pos rfl]
theorem qO(d:Int)(h p:Addr){m:Str}(h1:¬ m = "posts")(h2:¬ m = "hands")(h3:¬ m = "days"):(wf d h p).lookup m=none:=by
 unfold wf
 rw[ar,if_neg h1,ar,if_neg h2,ar,if_neg h3]
 all_goals rfl
structure aX(C:Addr)(H:Hp)(x:Addr)(d:Int)(hs:List Int)(ps:List Pst):Prop where
 ex:∃dx ha pa ts,H x=some (.ins C dx (wf d ha pa))∧H ha=some (.tup (hs.map V.int))∧H pa=some (.tup ts)∧bQ H ts ps
theorem aX.mono{C:Addr}{H H':Hp}{x:Addr}{d:Int}{hs:List Int}{ps:List Pst}(g:az H H')(w:aX C H x d hs ps):aX C H' x d hs ps:=by
 obtain⟨dx,ha,pa,ts,h1,h2,h3,h4⟩:=w.ex
 exact⟨dx,ha,pa,ts,g _ _ h1,g _ _ h2,g _ _ h3,h4.mono g⟩
noncomputable def cv(h n:Int):Bool:=decide (Builtin.bitAnd h n=n)
noncomputable def dN:Pst:=(0,0,0)
noncomputable def chI(h:Int)(ps:List Pst)(i:Nat):List Int:=((List.range i).filter fun j=>cv h (ps[j]?.getD dN).1).map fun j:Nat=>(j:Int)+1
noncomputable def ch(h:Int)(ps:List Pst):List Int:=0::chI h ps ps.length
theorem mK(h:Int)(ps:List Pst)(i:Nat):chI h ps (i+1)=chI h ps i++if cv h (ps[i]?.getD dN).1 then [(i:Int)+1] else []:=by
 unfold chI
 rw[yO,yM,yg]
 congr 1
 by_cases e:cv h (ps[i]?.getD dN).1 <;> simp[e]
theorem iz(h:Int)(ps:List Pst)(i:Nat):(chI h ps i).length≤i:=by
 unfold chI
 rw[ya]
 have:=yK (fun j=>cv h (ps[j]?.getD dN).1) (List.range i)
 simpa using this
theorem iK(h:Int)(ps:List Pst):(ch h ps).length≤ps.length+1:=by
 unfold ch
 rw[yD]
 have:=iz h ps ps.length
 lia
noncomputable def hrs(ps:List Pst):Nat→Int
 | 0=>0
 | k+1=>(ps[k]?.getD dN).2.1
noncomputable def ngt(ps:List Pst):Nat→Bool
 | 0=>false
 | k+1=>decide ((ps[k]?.getD dN).2.2=1)
theorem Paired.getR{α β:Type}{F:α→β→Prop}:∀{xs:List α} {ys:List β} {i:Nat} {y:β},Paired F xs ys→ys[i]? = some y→∃x,xs[i]? = some x∧F x y
 | _,_,_,_,.nil,e=>by simp at e
 | _,_,0,_,.cons r _,e=>by simp at e;subst e;exact⟨_,rfl,r⟩
 | _,_,i+1,y,.cons _ t,e=>by
  obtain⟨u,h1,h2⟩:=Paired.getR (i:=i) (y:=y) t (by simpa using e)
  exact⟨u,by simpa using h1,h2⟩
end My
set_option maxHeartbeats 1000000
namespace My
open PySem L2
noncomputable def Ae(H:Hp)(v:V)(row:List Int):Prop:=∃t,v=.ref t∧H t=some (.lst (row.map V.int))
noncomputable abbrev Rows(H:Hp):List V→List (List Int)→Prop:=Paired (Ae H)
theorem Rows.mono{H H':Hp}(g:az H H'){ts:List V}{rows:List (List Int)}(h:Rows H ts rows):Rows H' ts rows:=by
 refine Paired.mapP h fun _ _ z1_=>?_
 obtain⟨t,e,q⟩:=z1_
 exact⟨t,e,g _ _ q⟩
theorem Rows.len{H:Hp}{ts:List V}{rows:List (List Int)}(h:Rows H ts rows):ts.length=rows.length:=Paired.length h
theorem Rows.at'{H:Hp}{ts:List V}{rows:List (List Int)}(h:Rows H ts rows){i:Nat}{v:V}(e:ts[i]? = some v):∃row,rows[i]? = some row∧Ae H v row:=Paired.get' h e
theorem Rows.get{H:Hp}{ts:List V}{rows:List (List Int)}(h:Rows H ts rows){i:Nat}{row:List Int}(e:rows[i]? = some row):∃t,ts[i]? = some (.ref t)∧H t=some (.lst (row.map V.int)):=by
 obtain⟨v,e1,t,rfl,q⟩:=Paired.getR h e
 exact⟨t,e1,q⟩
theorem Rows.snoc{H:Hp}{ts:List V}{rows:List (List Int)}{v:V}{row:List Int}(h:Rows H ts rows)(hv:Ae H v row):Rows H (ts++[v]) (rows++[row]):=by
 induction h with
 | nil=>exact .cons hv .nil
 | cons a _ ih=>exact .cons a ih
theorem Rows.off{H:Hp}{ts:List V}{rows:List (List Int)}{l:Addr}{o:HO}(h:Rows H ts rows)(hl:V.ref l∉ts):Rows (upd H l o) ts rows:=by
 induction h with
 | nil=>exact .nil
 | cons a _ ih =>
  obtain⟨t,rfl,q⟩:=a
  have ne:t≠l:=fun z=>hl (by rw[z];exact yv)
  exact .cons ⟨t,rfl,by rw[au ne];exact q⟩ (ih fun z=>hl (ym _ z))
theorem Rows.tracked{H:Hp}{ts:List V}{rows:List (List Int)}(h:Rows H ts rows){l:Addr}(hl:V.ref l∈ts):∃row:List Int,H l=some (.lst (row.map V.int)):=by
 induction h with
 | nil=>cases hl
 | cons a _ ih =>
  obtain⟨t,rfl,q⟩:=a
  rcases List.mem_cons.mp hl with z | z
  ·cases z
   exact⟨_,q⟩
  ·exact ih z
theorem Rows.notin{H:Hp}{ts:List V}{rows:List (List Int)}(h:Rows H ts rows){l:Addr}(hl:H l=none):V.ref l∉ts:=fun z=>by
 obtain⟨row,q⟩:=h.tracked z
 rw[hl] at q
 cases q
theorem rB{n:Nat}{ds:List DV}:iu (n+1) (.lst ds) (.lst []):=fun _ i d e _ h2=>by simp at h2
noncomputable def val(rows:List (List Int))(j day:Nat):Int:=((rows[j]?.getD [])[day]?).getD 0
theorem dH{rows:List (List Int)}{j day:Nat}{row:List Int}(h:rows[j]? = some row)(hd:day<row.length):val rows j day=row[day]:=by
 unfold val
 rw[h,yz,yb hd,yz]
structure e8(H:Hp)(D:Addr)(rows:List (List Int))(i:Nat)(H':Hp):Prop where
 ex:∃us':List V,us'.length=i∧az H H'∧H' D=some (.lst us')∧Rows H' us' (rows.take i)∧us'.Nodup∧∀t,V.ref t∈us'→t≠D∧H t=none
theorem e8.start{H:Hp}{D:Addr}{rows:List (List Int)}(hD:H D=none):e8 H D rows 0 (upd H D (.lst [])) :=
 ⟨[],rfl,ah hD _,ae,by rw[yla];exact .nil,yia,fun t z=>by cases z⟩
theorem e8.same{H H':Hp}{D:Addr}{rows:List (List Int)}{i:Nat}(h:e8 H D rows i H'):az H H':=by
 obtain⟨_,_,g,_⟩:=h.ex
 exact g
theorem e8.step{H H':Hp}{D l:Addr}{rows:List (List Int)}{i:Nat}{row:List Int}(h:e8 H D rows i H')(hD:H D=none)(hrow:rows[i]? = some row)(hl:H' l=none)(hi:i≤900) :
  ∃xs,upd H' l (.lst (row.map V.int)) D=some (.lst xs)∧xs.length<sizeLine∧e8 H D rows (i+1) (upd (upd H' l (.lst (row.map V.int))) D (.lst (xs++[.ref l]))):=by
 obtain⟨us',hu,g,e,hR,nd,fr⟩:=h.ex
 have g2:=ah hl (.lst (row.map V.int))
 have ne:D≠l:=ay e hl
 have hlu:V.ref l∉us':=hR.notin hl
 refine⟨us',g2 _ _ e,aE (by lia),us'++[.ref l],by rw[yf,hu];rfl,aJ hD (g.trans g2) _,ae,?_,?_,fun t ht=>?_⟩
 ·refine Rows.off ?_ ?_
  ·rw[List.take_add_one,hrow]
   exact Rows.snoc (hR.mono g2) ⟨l,rfl,ae⟩
  ·intro z
   rcases List.mem_append.mp z with z | z
   ·exact(fr D z).1 rfl
   ·exact ne (V.ref.inj (List.mem_singleton.mp z))
 ·rw[yFa]
  refine⟨nd,by simp,fun a ha b hb=>?_⟩
  rw[List.mem_singleton.mp hb]
  exact fun z=>hlu (z ▸ ha)
 ·rcases List.mem_append.mp ht with z | z
  ·exact fr t z
  ·have:t=l:=V.ref.inj (List.mem_singleton.mp z)
   subst this
   exact⟨ne.symm,g.free hl⟩
theorem e8.done{H H':Hp}{D:Addr}{rows:List (List Int)}{i:Nat}(h:e8 H D rows i H')(hi:i=rows.length) :
  ∃us':List V,az H H'∧H' D=some (.lst us')∧Rows H' us' rows∧us'.Nodup∧∀t,V.ref t∈us'→t≠D∧H t=none:=by
 obtain⟨us',hu,g,e,hR,nd,fr⟩:=h.ex
 rw[hi,yo] at hR
 exact⟨us',g,e,hR,nd,fr⟩
end My
set_option maxHeartbeats 400000
namespace L2
open PySem PySem.Spec PyProof.Rows
structure dX(P:Program)(w:World)(l:List Env)(H:Hp)(s:Shared)(H':Hp)(B:Heap)(a:Addr)(cls a0:Value)(s':Shared):Prop where
 os:s'.os=s.os
 bare:AllBare s'.gens
 un:Un (frs l) [] H H' s.heap s'.heap
 hok:HOk P w H' s'.heap
 fly:Heap.FlyingW B l a cls a0 s'.heap
 cov:∀b o,s.heap.get? b=some o→b∉frs l→∃o',B.get? b=some o'
 trk:∀b u,H' b=some u→∃o',B.get? b=some o'
 own:∀b u,H' b=some u→b∉frs l
noncomputable def CX1(P:Program)(w:World):CXT:=fun outer H s E e s'=>∃(a:Addr) (cls:Value) (H':Hp) (B:Heap) (a0:Value),e=.ref a∧dX P w outer H s H' B a cls a0 s'∧E cls none H'
theorem bF.there{P:Program}{w:World}{H:Hp}{h:Heap}{a:Addr}{o:HO}(x:bF P w H h a o):∃ob,h.get? a=some ob:=by
 cases o with
 | lst xs=>obtain⟨_,_,_,_,e⟩:=x;exact⟨_,e⟩
 | tup xs=>obtain⟨_,_,_,ob,e,_⟩:=x;exact⟨_,e⟩
 | dK kvs=>obtain⟨_,_,_,_,o,_,_,e,_⟩:=x;exact⟨_,e⟩
 | dT kvs=>obtain⟨_,_,_,_,o,_,_,e,_⟩:=x;exact⟨_,e⟩
 | set S n=>obtain⟨o,_,_,_,e,_⟩:=x;exact⟨_,e⟩
 | ins C dx fs=>obtain⟨_,_,_,e,_⟩:=x;exact⟨_,e⟩
 | own y=>exact x
 | xd fs=>obtain⟨_,⟨o,_,_,e,_⟩,_⟩:=x;exact⟨_,e⟩
 | rng lo hi=>obtain⟨_,_,_,e⟩:=x;exact⟨_,e⟩
 | frz ob u=>exact⟨_,x.1⟩
 | tbl ps=>exact⟨_,x⟩
 | met f y=>exact⟨_,x⟩
 | ext φ=>exact x.2.1
section
variable{P:Program}{w:World}{l:List Env}{H H':Hp}{s s':Shared}{B h'':Heap}{a:Addr}{cls a0:Value}
theorem dX.same(F:dX P w l H s H' B a cls a0 s'){b:Addr}{o o':Obj}(e:B.get? b=some o')(q:s'.heap.get? b=some o):o'=o:=by
 have z:=F.fly.1 b o' e
 rw[q] at z
 exact(yt z).symm
theorem dX.next(F:dX P w l H s H' B a cls a0 s')(st:B.StaysIn h'')(us:s'.heap.UpToSlots h''):Un (frs l) [] H H' s.heap h''∧HOk P w H' h'':=by
 have keep:∀b o,s.heap.get? b=some o→H b=none→b∉frs l→b∉([]:List Addr)→h''.get? b=some o:=fun b o e n hb hx=>by
  obtain⟨o',eb⟩:=F.cov b o e hb
  have q:=F.un.keep b o e n hb hx
  rw[F.same eb q] at eb
  exact st b o eb
 have fr:∀b∈frs l,∀o,s'.heap.get? b=some o→∃sl,h''.get? b=some { o with slots:=sl }:=fun b hb o e=>by
  obtain⟨_,o',e',nf⟩:=F.fly.2.2.1.mem hb
  rw[e] at e'
  cases e'
  exact us b o e nf
 refine⟨⟨keep,fun b o e n hb hx=>?_,F.un.free,fun b o e hx=>?_,F.un.tups,F.un.frzs,F.un.tbls⟩,fun b u e=>?_⟩
 ·obtain⟨sl,e1⟩:=F.un.slot b o e n hb hx
  obtain⟨sl',e2⟩:=fr b hb _ e1
  exact⟨sl',e2⟩
 ·by_cases hb:b∈frs l
  ·obtain⟨o',e1⟩:=F.un.there b o e hx
   obtain⟨sl,e2⟩:=fr b hb _ e1
   exact⟨_,e2⟩
  ·obtain⟨o',eb⟩:=F.cov b o e hb
   exact⟨o',st b o' eb⟩
 ·have one:∀c v,(∃u,H' c=some u)→s'.heap.get? c=some v→h''.get? c=some v:=fun c v ⟨u,hc⟩ q=>by
   obtain⟨o',eb⟩:=F.trk c u hc
   rw[F.same eb q] at eb
   exact st c v eb
  refine(F.hok b u e).stay (fun c v hc q=>one c v ?_ q) (fun _ q=>q) fun _ _ q=>q
  rcases hc with z | z
  ·exact⟨u,by rw[z];exact e⟩
  ·exact⟨_,z⟩
end
structure sM(X:Cx):Prop where
 st:X.stack=X.env::X.outer
 fr:X.env.frame=some X.env.locals
 ex:X.ex=[]
section
variable{X:Cx}{pins:List (Addr×Obj)}{σ:St}{H H':Hp}{s s':Shared}{B:Heap}{a:Addr}{cls a0:Value}
theorem sM.frs(b:sM X):frs X.stack=X.env.locals::X.fs:=by
 rw[b.st]
 unfold L2.frs
 rw[yBa,b.fr]
 rfl
theorem oF(I:Inv X pins σ H s){b:Addr}{o:Obj}(e:X.s₀.heap.get? b=some o):b≠X.env.locals:=yF (yB (Heap.lt_size e) I.ok.above)
theorem dX.up(hb:sM X)(I:Inv X pins σ H s)(F:dX X.prog X.w X.stack H s H' B a cls a0 s'){h'':Heap}(fly:Heap.FlyingW B X.outer a cls a0 h'')(us:s'.heap.UpToSlots h'') :
  dX X.prog X.w X.outer X.H₀ X.s₀ H' B a cls a0 { s' with heap:=h'' }:=by
 obtain⟨u,k⟩:=F.next fly.1 us
 have nf:∀b o,X.s₀.heap.get? b=some o→b∉X.fs→b∉L2.frs X.stack:=fun b o e hn z=>by
  rw[hb.frs] at z
  rcases List.mem_cons.mp z with z | z
  ·exact oF I e z
  ·exact hn z
 have ib:=I.base
 rw[hb.ex] at ib
 refine⟨F.os.trans I.os,F.bare,⟨fun b o e n hn hx=>?_,fun b o e n hn hx=>?_,fun b o e n hx=>?_,fun b o e hx=>?_,fun b xs e=>u.tups b xs (ib.tups b xs e),fun b o v e=>u.frzs b o v (ib.frzs b o v e),fun b ps e=>?_⟩,k,fly,fun b o e hn=>?_,F.trk,fun b v e z=>F.own b v e ?_⟩
 ·exact u.keep b o (ib.keep b o e n hn hx) (ib.free b o e n hx) (nf b o e hn) hx
 ·obtain⟨sl,e1⟩:=ib.slot b o e n hn hx
  obtain⟨sl',e2⟩:=u.slot b _ e1 (ib.free b o e n hx) (by rw[hb.frs];exact ym _ hn) hx
  exact⟨sl',e2⟩
 ·obtain⟨o',e1⟩:=ib.there b o e hx
  exact u.free b o' e1 (ib.free b o e n hx) hx
 ·obtain⟨o',e1⟩:=ib.there b o e hx
  exact u.there b o' e1 hx
 ·obtain⟨m1,e1⟩:=ib.tbls b ps e
  obtain⟨m2,e2⟩:=u.tbls b _ e1
  exact⟨m1++m2,by rw[e2,yzb]⟩
 ·obtain⟨o',e1⟩:=ib.there b o e (by simp)
  exact F.cov b o' e1 (nf b o e hn)
 ·rw[hb.frs]
  exact ym _ z
theorem dX.made(hb:sM X)(I:Inv X pins σ H s){h' h'':Heap}{t:Nat}(mk:∀b o,s.heap.get? b=some o→h'.get? b=some o)(fly:Heap.FlyingW (PySem.W.hideAll s.heap (L2.frs X.stack)) X.outer a cls a0 h'')(us:h'.UpToSlots h'') :
  dX X.prog X.w X.outer X.H₀ X.s₀ H (PySem.W.hideAll s.heap (L2.frs X.stack)) a cls a0 { s with heap:=h'',toks:=t }:=by
 have inB:∀b o,s.heap.get? b=some o→b∉L2.frs X.stack→(PySem.W.hideAll s.heap (L2.frs X.stack)).get? b=some o:=fun b o e n=>PySem.W.hideAll_get _ e n
 have own:∀b u,H b=some u→b∉L2.frs X.stack:=fun b u e z=>by rw[I.stkFree b z] at e;cases e
 have nf:∀b o,X.s₀.heap.get? b=some o→b∉X.fs→b∉L2.frs X.stack:=fun b o e hn z=>by
  rw[hb.frs] at z
  rcases List.mem_cons.mp z with z | z
  ·exact oF I e z
  ·exact hn z
 have fr:∀b∈X.fs,∀o,s.heap.get? b=some o→∃sl,h''.get? b=some { o with slots:=sl }:=fun b hb' o e=>by
  obtain⟨_,o',e',nfd⟩:=I.funs.mem hb'
  rw[e] at e'
  cases e'
  exact us b o (mk b o e) nfd
 have ib:=I.base
 rw[hb.ex] at ib
 refine⟨I.os,I.bare,⟨fun b o e n hn hx=>fly.1 b o (inB b o (ib.keep b o e n hn hx) (nf b o e hn)),fun b o e n hn hx=>?_,ib.free,fun b o e hx=>?_,ib.tups,ib.frzs,ib.tbls⟩,fun b u e=>?_,fly,fun b o e hn=>?_,fun b u e=>?_,fun b u e z=>own b u e ?_⟩
 ·obtain⟨sl,e1⟩:=ib.slot b o e n hn hx
  obtain⟨sl',e2⟩:=fr b hn _ e1
  exact⟨sl',e2⟩
 ·obtain⟨o',e1⟩:=ib.there b o e hx
  by_cases hn:b∈X.fs
  ·obtain⟨sl,e2⟩:=fr b hn _ e1
   exact⟨_,e2⟩
  ·exact⟨o',fly.1 b o' (inB b o' e1 (nf b o e hn))⟩
 ·refine(I.hok b u e).stay (fun c v hc q=>fly.1 c v (inB c v q ?_)) (fun _ q=>q) fun _ _ q=>q
  rcases hc with z | z
  ·rw[z];exact own b u e
  ·exact own c _ z
 ·obtain⟨o',e1⟩:=ib.there b o e (by simp)
  exact⟨o',inB b o' e1 (nf b o e hn)⟩
 ·obtain⟨o',e1⟩:=(I.hok b u e).there
  exact⟨o',inB b o' e1 (own b u e)⟩
 ·rw[hb.frs]
  exact ym _ z
end
noncomputable def wB(X:Cx)(E:XK):Prop:=∀(pins:List (Addr×Obj)) (σ:St) (H:Hp) (s:Shared) (h':Heap) (a:Addr) (cls:Value) (args:List Value),Inv X pins σ H s→Heap.MadeExcOf s.heap h' a cls args→E cls none H→X.xe (.ref a) { s with heap:=h' }
section
variable{P:Program}{w:World}{K:PySem.W.Frag}{mg:Str→Option Value}{base:Heap}{N:List Str}{qual:Str}{scope:Scope}{f:Addr}{cd:Value}{A:Around}{outer:List Env}{s₀:Shared}{H₀:Hp}{E:XK}
theorem oX{CX:CXT}:sM (fA CX P w K mg base N qual scope f cd A outer s₀ H₀ E):=⟨rfl,rfl,rfl⟩
theorem B3:dL (CX1 P w) (fA (CX1 P w) P w K mg base N qual scope f cd A outer s₀ H₀ E) E:=by
 intro pins σ H s e s' I h
 obtain⟨a,cls,H',B,a0,rfl,F,q⟩:=h
 exact wpAny_leaves_onW I.ok.frames rfl F.fly fun h'' fl us=>⟨a,cls,H',B,a0,rfl,F.up oX I fl us,q⟩
theorem Bq:wB (fA (CX1 P w) P w K mg base N qual scope f cd A outer s₀ H₀ E) E:=by
 intro pins σ H s h' a cls args I mk q
 have st:(PySem.W.hideAll s.heap (L2.frs (fA (CX1 P w) P w K mg base N qual scope f cd A outer s₀ H₀ E).stack)).StaysIn s.heap:=fun b o e=>PySem.W.of_hideAll _ e
 have ff:=PySem.W.funFrames_hide (as:=L2.frs (fA (CX1 P w) P w K mg base N qual scope f cd A outer s₀ H₀ E).stack) I.stack fun env he b hb=>List.mem_filterMap.mpr ⟨env,he,hb⟩
 exact wpAny_leaves_madeW (h:=s.heap) I.ok.frames rfl st ff mk fun h'' t fl _ _ us=>⟨a,cls,H,_,_,rfl,dX.made (t:=s.toks) oX I mk.keeps fl us,q⟩
theorem Fun.okX{x qual:Str}{st:Stmt}{f:Addr}{fd:FuncData}{N ps:List Str}{k:Nat}{sp:Sp}(F:Fun K x qual st f fd)(S:ax N ps (ao st))(len:∀vs H Q E,sp vs H Q E→vs.length=ps.length)
  (hbody:∀(cdv:Value) (A:Around) (outer:List Env) (s:Shared) (H:Hp) (vs:List V) (Q:VK) (E:XK),ce k (A.deeper (envOfC qual (ao st) s.heap.objs.size f cdv))→sp vs H Q E →
   ∃t,PSs (fA (CX1 P w) P w K mg base N qual (ao st) f cdv A outer s H E) (cA st) t∧t { nx:=fun _ H'=>Q .non H',rt:=Q } (start N vs) H):aT P w K mg base (CX1 P w) (k+1) f fd ps sp:=by
 obtain⟨oc,od,kV,doc,pm,an,cdv,ct,osl,rfl,lk,hcd⟩:=F.ex
 exact wA lk hcd S len fun A outer s H vs Q E hr hsp=>hbody cdv A outer s H vs Q E hr hsp
end
abbrev bmV:List Value:=[.type "ValueError",.type "Exception",.type "BaseException",.type "object"]
structure uL(K:PySem.W.Frag)(mg:Str→Option Value)(x:Str)(C:Addr):Prop where
 at_:mg x=some (.ref C)
 ok:PySem.W.excIn K C bmV "ValueError.__new__" = true
theorem uL.obj{K:PySem.W.Frag}{mg:Str→Option Value}{x:Str}{C:Addr}(c:uL K mg x C){h:Heap}(X:K.In h):∃bm N nm q bs hdct sn sub ab col dd k0 k1 k2 k3 k5 mN,h.get? C=some (excClassObj nm q C N bs bm hdct sn sub ab col dd k0 k1 k2 k3 k5 "ValueError.__new__")∧h.Ns N mN∧mN "__init__" = none∧OwnTail h bmV bm:=by
 have z:=c.ok
 unfold PySem.W.excIn at z
 split at z
 ·rename_i dd cd sl ho
  split at z
  ·rename_i C' bm k0 k1 k2 k3 n k5 hm hs
   simp only[yI,beq_iff_eq,yGa] at z
   obtain⟨⟨⟨⟨⟨e1,e2⟩,e3⟩,e4⟩,e5⟩,e6⟩:=z
   subst e1 e2
   obtain⟨nm,bs,mro,ns,qn,hd,sn,sub,ab,col,del⟩:=cd
   dsimp only at hm e3 e5 e6
   subst hm e3
   obtain⟨sl⟩:=sl
   have hs':sl=[k0,k1,k2,k3,some (.builtin "ValueError.__new__"),k5]:=hs
   subst hs'
   exact⟨bm,ns,nm,qn,bs,hd,sn,sub,ab,col,dd,k0,k1,k2,k3,k5,_,X _ _ ho,.of_isNs (PySem.W.isNs_of_in X e5),PySem.W.nsMap_none_of_in X e5 e6,PySem.W.tail_of_in X e4⟩
  ·cases z
 ·cases z
noncomputable def sr(E:XK)(C:Addr)(ta:TA):TS:=fun _ σ H=>ta σ H fun vs H1=>vs.length≤sizeLine∧E (.ref C) none H1
theorem qj{X:Cx}{E:XK}{x:Str}{C:Addr}{e:Expr}{es:List Expr}{t:TA}{np cpos pos:Pos}(hR:wB X E)(hc:X.calm=true)(hg:Gl X x)(c:uL X.K X.mg x C)(ha:PA X (e::es) t)
  (hdb:(x == ("__debug__":Str))=false:=by decide) (he:starEach (e::es) X.env=(false,eval e X.env)::starEach es X.env:=by rfl) (hpl:(backTo cpos (starEach es X.env)).any (·.1)=false:=by rfl) :
  PS X (.Raise (some (.Call (.Name x np) (e::es) [] cpos)) none pos) (sr E C t):=by
 intro pins s σ H D I h
 obtain⟨bm,Na,nm,q,bs,hdct,sn,sub,ab,col,dd,k0,k1,k2,k3,k5,mN,hC,hN,hni,TL⟩:=c.obj I.mod.kin
 refine wpAny_Raise_call_subT (C:=C) (nm:=nm) (q:=q) (N:=Na) (bs:=bs) (bm:=bm) (hdct:=hdct) (sn:=sn) (sub:=sub) (ab:=ab) (col:=col) (dd:=dd) (k0:=k0) (k1:=k1) (k2:=k2) (k3:=k3) (k5:=k5) PySem.F.excBase_ValueError (mN:=mN) (TL.hasType PySem.F.excBase_ValueError.hasBase) (I.ok.hd hc) ?_ hni (iA I hg c.at_ ⟨rfl,?_⟩ hdb)
 ·rw[he]
  show(false||(backTo cpos (starEach es X.env)).any (·.1))=false
  rw[hpl]
  rfl
 ·have z:=ha cpos pins s σ H _ I h
  rw[he] at z ⊢
  refine Calls.evalArgs_plain (wpAny_mono z (fun us s1 y=>?_) fun _ _ y=>y)
  obtain⟨vs,H1,I1,r,hl,qE⟩:=y
  exact⟨rfl,by rw[← r.length];exact hl,I1.bk _ _ hC,hN.keeps I1.bk,TL.keeps I1.bk,fun h' a mk=>hR pins σ H1 s1 h' a _ _ I1 mk qE⟩
structure uh(P:Program)(w:World)(K:PySem.W.Frag)(mg:Str→Option Value)(base:Heap)(x:Str)(ps:List Str)(k:Nat)(sp:Sp):Prop where
 ex:∃(f:Addr) (fd:FuncData),aT P w K mg base (CX1 P w) k f fd ps sp∧cn K fd ps []∧PySem.W.keepIn K (.ref f)=true∧mg x=some (.ref f)
noncomputable def Az(sp:Sp)(t:TA):St→Hp→VK→XK→Prop:=fun σ H Q E=>t σ H fun vs H1=>sp (vs++[]) H1 Q E
noncomputable def AM(te:St→Hp→VK→XK→Prop):dk→St→Hp→XK→Prop:=fun D σ H E=>te σ H (fun _ H1=>D.nx σ H1) E
noncomputable def CA(i:Nat)(te:St→Hp→VK→XK→Prop):dk→St→Hp→XK→Prop:=fun D σ H E=>te σ H (fun v H1=>D.nx (σ.set i (some v)) H1) E
noncomputable def CG(C:Addr)(tb:dk→St→Hp→XK→Prop)(ts to:TS):TS:=fun D σ H=>tb { D with nx:=to D } σ H fun cls _ H'=>cls=.ref C∧ts D σ H'
end L2
set_option maxHeartbeats 1000000
namespace My
open PySem L2
noncomputable def du(d:Int)(h:Int)(ps:List Pst)(row:List Int):Bool:=decide ((row.length:Int)=d)&&row.all fun v=>decide (v∈ch h ps)
noncomputable def ju(d:Int)(hs:List Int)(ps:List Pst)(rows:List (List Int))(j:Nat):Bool:=du d (hs[j]?.getD 0) ps (rows[j]?.getD [])
noncomputable def cz(d:Int)(hs:List Int)(ps:List Pst)(rows:List (List Int)):Bool:=decide (rows.length=hs.length)&&(List.range rows.length).all (ju d hs ps rows)
theorem vn(x:Int)(ps:List Int):inV (.int x) (ps.map V.int)=decide (x∈ps):=by
 rw[yV,decide_eq_true_eq]
 unfold inV
 simp only[List.any_map,List.any_eq_true,Function.comp]
 constructor
 ·rintro⟨y,hy,e⟩
  have:y=x:=by simpa [eqV] using e
  exact this ▸ hy
 ·intro h
  exact⟨x,h,by simp[eqV]⟩
theorem px(ps:List Int):(ps.map V.int).all fF=true:=by simp[yG,fF]
theorem nD(f:Nat→Bool)(n:Nat):((List.range n).map f).all id=(List.range n).all f:=by
 simp[yOa]
end My
set_option maxHeartbeats 400000
namespace L2
open PySem PySem.Spec PySem.Calls PyProof.Rows
structure Fd(K:PySem.W.Frag)(C:Addr):Prop where
 ga:PySem.W.findIn K (.ref C) "__getattribute__" = some (some (.builtin "BaseException.__getattribute__"))
 cl:PySem.W.findIn K (.ref C) "__class__" = some (some (.builtin "object.__class__"))
 no:PySem.W.findIn K (.ref C) "__getattr__" = some none
 be:PySem.W.mroIn K C (.type "BaseException")=some true
 ob:PySem.W.mroIn K C (.type "object")=some true
section
variable{K:PySem.W.Frag}{prog:Program}{w:World}{A:Around}{E:Value→Shared→Prop}{h:Heap}{g:Array GenState}{d:Drawn}{t:Nat}{os:OsState}{a C:Addr}{o:Obj}
end
noncomputable abbrev BK(a C:Addr)(h:Heap):Prop:=∃o,h.get? a=some o∧o.cls=.ref C
noncomputable abbrev Bx(a C:Addr):HO:=.ext (BK a C)
noncomputable def vO:V→Value
 | .ref a=>.ref a
 | .ty n=>.type n
 | _=>.none
noncomputable def Fh(K:PySem.W.Frag):List V→Hp→VK→Prop:=fun xs H Q=>∃a D c b,xs=[.ref a,c]∧H a=some (Bx a D)∧Fd K D∧PySem.W.kitOne K (.ref D) (vO c)=some b∧Q (.bl b) H
noncomputable def DL(C:Addr):List V→Hp→VK→Prop:=fun xs H Q=>xs.length≤sizeLine∧∀a,H a=none→Q (.ref a) (upd H a (Bx a C))
end L2
set_option maxHeartbeats 1000000
namespace My
open PySem L2 PySem.Spec PyProof.Rows
structure Dk(K:PySem.W.Frag)(C:Addr):Prop where
 ha:PySem.W.findIn K (.ref C) "__class__" = some (some (.builtin "object.__class__"))
 hn:PySem.W.specialIn K (.builtin "object.__class__") "__get__" = some (some (.builtin "getset_descriptor.__get__"))
 htk:PySem.W.takesIn K (.builtin "object.__class__")=some true
 hm:PySem.W.mroIn K C (.type "object")=some true
noncomputable def Fs(K:PySem.W.Frag):List V→Hp→VK→Prop:=fun xs H Q=>∃a C dx fs c b,xs=[.ref a,c]∧H a=some (.ins C dx fs)∧Cls K C∧Dk K C∧PySem.W.kitOne K (.ref C) (vO c)=some b∧Q (.bl b) H
section
variable{X:Cx}
noncomputable def vT:List V→Hp→VK→Prop:=fun xs H Q=>∃i j:Int,xs=[.int i,.int j]∧∀p,H p=none→Q (.ref p) (upd H p (.rng i j))
theorem dM:cu X (.type "range") vT:=by
 intro pins s σ H xs us Q I r h
 obtain⟨i,j,rfl,q⟩:=h
 obtain⟨u,u',rfl,⟨t,rfl⟩,⟨t',rfl⟩⟩:=ox r
 refine call_range_2 ⟨.ref s.heap.objs.size,_,I.laid (fun b o e=>Heap.get?_push_of_some _ e) (yd _) ?_,rfl,q _ I.fresh⟩
 exact⟨_,_,_,Heap.get?_push_size _ rfl⟩
noncomputable def bh(i:Int)(n:Nat):List Int:=(List.range n).map fun k:Nat=>i+(k:Int)
noncomputable def qV:List V→Hp→VK→Prop:=fun xs H Q=>∃p,∃i j:Int,xs=[.ref p]∧H p=some (.rng i j)∧-1000≤i∧i≤1000∧j≤1000∧-1000≤j∧∀l,H l=none→Q (.ref l) (upd H l (.lst ((bh i (j-i).toNat).map V.int)))
theorem eS(hc:X.calm=true):cu X (.type "list") qV:=by
 intro pins s σ H xs us Q I r h
 obtain⟨p,i,j,rfl,hp,i0,i1,j1,j0,q⟩:=h
 obtain⟨u,rfl,ru⟩:=gK r
 cases ru
 obtain⟨t,u',v,e⟩:=I.hok p _ hp
 have hn:Builtin.Range.rangeSize i j 1=((j-i).toNat:Int):=by rw[rangeSize_one];split <;> lia
 refine call_list_range (I.ok.hd hc) (a:=i) (b:=j) (c:=1) e (small_one (by lia) (by lia) (by lia) (by lia)) hn (by lia) fun h' tk acc' c' hk hS hacc=>?_
 refine⟨.ref s.heap.objs.size,_,I.laid hk (yd _) (o:=.lst ((bh i (j-i).toNat).map V.int)) ?_,rfl,q _ I.fresh⟩
 refine⟨by unfold bh;simp only[ya,yx];rw[sizeLine_eq];lia,acc'.toList,c',?_,by simpa using hS⟩
 have go:∀(n k:Nat) (l:List Value),l.length=n→(∀(m:Nat) (v:Value),l[m]? = some v→∃t,v=Value.int (i+((m+k:Nat):Int)*1) t)→bp (((List.range' k n).map fun m:Nat=>i+(m:Int)).map V.int) l:=by
  intro n
  induction n with
  | zero =>
   intro k l hl _
   cases l with
   | nil=>exact .nil
   | cons a b=>simp at hl
  | succ n ih =>
   intro k l hl hv
   cases l with
   | nil=>simp at hl
   | cons a b =>
    rw[List.range'_succ,yi,yi]
    refine .cons ?_ (ih (k+1) b (by simpa using hl) fun m v hm=>?_)
    ·obtain⟨t,e⟩:=hv 0 a (by simp)
     exact⟨t,by rw[e];congr 1;lia⟩
    ·obtain⟨t,e⟩:=hv (m+1) v (by simpa using hm)
     exact⟨t,by rw[e];congr 1;lia⟩
 have:=go (j-i).toNat 0 acc'.toList (by simp[hacc.1]) fun m v hm=>hacc.2 m v (by simpa using hm)
 rw[← yvb] at this
 exact this
noncomputable def Ei:List V→Hp→VK→Prop:=fun xs H Q=>(∃i:Int,xs=[.int i]∧i.natAbs.log2<1920∧Q (.str (toString i)) H)∨∃z,xs=[.str z]∧Q (.str z) H
noncomputable def Its(lo c:Int)(n:Nat):It:=⟨fun i _=>i<n,fun i H x H'=>H'=H∧x=.int (lo+i*c),fun i _=>n≤i⟩
noncomputable def BQ(ta:TA):TI:=fun σ H R=>ta σ H fun vs H1=>∃i j:Int,vs=[.int i,.int j,.int 2]∧(-1000≤i∧i≤1000∧-1000≤j∧j≤1000)∧R (Its i 2 ((j-i+1) / 2).toNat) H1
end
end My
namespace My
open PySem L2
end My
set_option maxHeartbeats 400000
namespace L2
open PySem PySem.Spec PySem.Calls PyProof.Rows
structure Gb(K:PySem.W.Frag)(mg:Str→Option Value)(x:Str)(W C:Addr):Prop where
 at_:mg x=some (.ref W)
 ty:PySem.W.typeIn K (.ref W)=some (.type "type")
 be:PySem.W.mroIn K W (.type "BaseException")=some true
 sub:PySem.W.mroIn K C (.ref W)=some true
section
variable{X:Cx}{pins:List (Addr×Obj)}{σ:St}{H H':Hp}{s s':Shared}{B:Heap}{a:Addr}{cls a0:Value}
end
noncomputable def dk.gone(D:dk)(i:Nat):dk:={ nx:=fun σ H=>D.nx (σ.set i none) H,rt:=D.rt,bk:=fun σ H=>D.bk (σ.set i none) H,ct:=fun σ H=>D.ct (σ.set i none) H }
noncomputable def BE(i:Nat)(K:PySem.W.Frag)(mg:Str→Option Value)(x:Str)(W:Addr)(tb:dk→St→Hp→XK→Prop)(ts to:TS):TS:=fun D σ H =>
 tb { D with nx:=to D } σ H fun cls _ H'=>∃C,cls=.ref C∧Gb K mg x W C∧∀a,H' a=none→ts (D.gone i) (σ.set i (some (.ref a))) (upd H' a (Bx a C))
theorem fo{X:Cx}{K:PySem.W.Frag}{e:Expr}{ta:TE}{f:Str}{pos:Pos}(hK:X.K=K)(he:PE X e ta)(hb:attributeBase e f X.env (eval e X.env)=eval e X.env):PE X (.Attribute e f pos) (xk K ta f):=by subst hK;exact aO he hb
end L2
set_option maxHeartbeats 1000000
namespace My
open PySem L2
structure jR(d:Int)(hs:List Int)(ps:List Pst)(i:Nat)(rows:List (List Int)):Prop where
 len:rows.length=i
 ok:∀j,j<i→ju d hs ps rows j=true
section
variable{d:Int}{hs:List Int}{ps:List Pst}{i:Nat}{rows:List (List Int)}{row:List Int}{x:Int}
theorem qS(hl:(row.length:Int)=d)(hv:∀y∈row,y∈ch x ps):du d x ps row=true:=by
 unfold du
 rw[yI,decide_eq_true_eq,yG]
 exact⟨hl,fun y hy=>decide_eq_true (hv y hy)⟩
theorem jR.snoc(h:jR d hs ps i rows)(hh:hs[i]? = some x)(hr:du d x ps row=true):jR d hs ps (i+1) (rows++[row]):=by
 refine⟨by rw[yf,h.len];rfl,fun j hj=>?_⟩
 unfold ju
 by_cases e:j=i
 ·subst e
  rw[hh,← h.len,yaa (yd _),Nat.sub_self]
  exact hr
 ·have hj':j<i:=by lia
  rw[yra (by rw[h.len];exact hj')]
  exact h.ok j hj'
theorem jR.tab(h:jR d hs ps hs.length rows):cz d hs ps rows=true:=by
 unfold cz
 rw[yI,decide_eq_true_eq,yG]
 exact⟨h.len,fun j hj=>h.ok j (by rw[← h.len];exact yp.mp hj)⟩
end
section
variable{H:Hp}{us:List V}{rows:List (List Int)}{v:V}{row:List Int}
end
noncomputable def qB(H:Hp)(v:V)(q:Int×Int):Prop:=∃t,v=.ref t∧H t=some (.tup [.int q.1,.int q.2])
noncomputable abbrev cD(H:Hp):List V→List (Int×Int)→Prop:=Paired (qB H)
theorem cD.mono{H H':Hp}(g:az H H'){ts:List V}{qs:List (Int×Int)}(h:cD H ts qs):cD H' ts qs:=by
 refine Paired.mapP h fun _ _ z1_=>?_
 obtain⟨t,e,q⟩:=z1_
 exact⟨t,e,g _ _ q⟩
theorem cD.len{H:Hp}{ts:List V}{qs:List (Int×Int)}(h:cD H ts qs):ts.length=qs.length:=Paired.length h
theorem cD.snoc{H:Hp}{ts:List V}{qs:List (Int×Int)}{v:V}{q:Int×Int}(h:cD H ts qs)(hv:qB H v q):cD H (ts++[v]) (qs++[q]):=by
 induction h with
 | nil=>exact .cons hv .nil
 | cons a _ ih=>exact .cons a ih
theorem cD.get'{H:Hp}{ts:List V}{qs:List (Int×Int)}(h:cD H ts qs){i:Nat}{v:V}(e:ts[i]? = some v):∃q,qs[i]? = some q∧qB H v q:=Paired.get' h e
section
variable{H H' H'':Hp}{r:Addr}{us us':List V}{rows rows':List (List Int)}{n L:Nat}
end
end My
namespace My
open PySem L2
theorem aU{α β:Type}{F:α→β→Prop}{xs:List α}{ys:List β}{x:α}{y:β}(h:Paired F xs ys)(hx:F x y):Paired F (xs++[x]) (ys++[y]):=by
 induction h with
 | nil=>exact .cons hx .nil
 | cons a _ ih=>exact .cons a ih
theorem fP{α β:Type}{F:α→β→Prop}{xs xs':List α}{ys ys':List β}(h:Paired F xs ys)(h':Paired F xs' ys'):Paired F (xs++xs') (ys++ys'):=by
 induction h with
 | nil=>exact h'
 | cons a _ ih=>exact .cons a ih
theorem aP{α:Type}{xs:List α}{i:Nat}{x:α}(h:xs[i]? = some x):xs.take (i+1)=xs.take i++[x]:=by
 rw[List.take_succ,h]
 rfl
noncomputable def eO(H H':Hp):Prop:=∀a xs,H a=some (.tup xs)→H' a=some (.tup xs)
theorem aC{H H':Hp}(g:az H H'):eO H H':=fun a xs e=>g _ _ e
theorem lC{H:Hp}{l:Addr}{o:HO}(h:∀xs,H l≠some (.tup xs)):eO H (upd H l o):=fun a xs e=>by
 have ne:a≠l:=fun z=>h xs (by rw[← z];exact e)
 rw[au ne];exact e
theorem bc{H:Hp}{l:Addr}{ys:List V}{o:HO}(h:H l=some (.lst ys)):eO H (upd H l o):=lC fun xs z=>by rw[h] at z;cases z
structure Prt where
 h:Int
 d:Int
 p:Int
 n:Int
noncomputable def Es(H:Hp)(v:V)(q:Prt):Prop:=∃t,v=.ref t∧H t=some (.tup [.int q.h,.int q.d,.int q.p,.int q.n])
noncomputable abbrev cI(H:Hp):List V→List Prt→Prop:=Paired (Es H)
theorem cI.mono{H H':Hp}(g:eO H H'){ts:List V}{qs:List Prt}(h:cI H ts qs):cI H' ts qs:=by
 refine Paired.mapP h fun _ _ z1_=>?_
 obtain⟨t,e,q⟩:=z1_
 exact⟨t,e,g _ _ q⟩
structure Lin where
 ps:List Prt
 b:Int
noncomputable def mq(H:Hp)(v:V)(l:Lin):Prop:=∃t u ts,v=.ref t∧H t=some (.tup [.ref u,.int l.b])∧H u=some (.tup ts)∧cI H ts l.ps
noncomputable abbrev dG(H:Hp):List V→List Lin→Prop:=Paired (mq H)
theorem mq.mono{H H':Hp}(g:eO H H'){v:V}{l:Lin}(h:mq H v l):mq H' v l:=by
 obtain⟨t,u,ts,e,h1,h2,h3⟩:=h
 exact⟨t,u,ts,e,g _ _ h1,g _ _ h2,h3.mono g⟩
theorem dG.mono{H H':Hp}(g:eO H H'){ts:List V}{ls:List Lin}(h:dG H ts ls):dG H' ts ls:=Paired.mapP h fun _ _=>mq.mono g
theorem cD.tmono{H H':Hp}(g:eO H H'){ts:List V}{qs:List (Int×Int)}(h:cD H ts qs):cD H' ts qs:=by
 refine Paired.mapP h fun _ _ z2_=>?_
 obtain⟨t,e,q⟩:=z2_
 exact⟨t,e,g _ _ q⟩
noncomputable def tot(rows:List (List Int))(qs:List Prt):Int:=(qs.map fun q=>if val rows q.h.toNat q.d.toNat=q.p then q.n else 0).sum
theorem dv(rows:List (List Int))(a b:List Prt):tot rows (a++b)=tot rows a+tot rows b:=by
 unfold tot
 rw[yg,yL]
theorem fg(rows:List (List Int))(q:Prt):tot rows [q]=if val rows q.h.toNat q.d.toNat=q.p then q.n else 0:=by
 unfold tot
 rw[List.map_singleton,List.sum_singleton]
noncomputable def spr(h:Int)(ds ps:List Int)(n:Int):List Prt:=ds.flatMap fun d=>ps.map fun p=>⟨h,d,p,n⟩
theorem jq(h:Int)(ds:List Int)(d:Int)(ps:List Int)(n:Int):spr h (ds++[d]) ps n=spr h ds ps n++ps.map fun p=>⟨h,d,p,n⟩:=by
 unfold spr
 rw[yga,yIa]
theorem b6(h:Int)(ps:List Int)(n:Int):∀ds:List Int,(spr h ds ps n).length=ds.length*ps.length
 | []=>by simp[spr]
 | d::ds=>by
  have ih:=b6 h ps n ds
  unfold spr at ih ⊢
  rw[yca,yf,ih,ya,yD,yya]
  lia
theorem fY{h n:Int}{ds ps:List Int}{q:Prt}(hq:q∈spr h ds ps n):q.h=h∧q.d∈ds∧q.p∈ps∧q.n=n:=by
 unfold spr at hq
 obtain⟨d,hd,hq⟩:=yza.mp hq
 obtain⟨p,hp,rfl⟩:=yk.mp hq
 exact⟨rfl,hd,hp,rfl⟩
theorem gZ(rows:List (List Int))(h d n:Int):∀{ps:List Int},ps.Nodup→tot rows (ps.map fun p=>⟨h,d,p,n⟩)=if val rows h.toNat d.toNat∈ps then n else 0
 | [],_=>by simp[tot]
 | p::ps,nd=>by
  obtain⟨h1,h2⟩:=yP.mp nd
  have ih:=gZ rows h d n h2
  rw[yi,show((⟨h,d,p,n⟩:Prt)::ps.map fun p=>(⟨h,d,p,n⟩:Prt))=[(⟨h,d,p,n⟩:Prt)]++ps.map fun p=>(⟨h,d,p,n⟩:Prt) from rfl,dv,fg,ih]
  by_cases e:val rows h.toNat d.toNat=p
  ·rw[if_pos e,if_neg (by rw[e];exact h1),if_pos (by rw[e];exact yv ..),yBb]
  ·rw[if_neg e]
   by_cases m:val rows h.toNat d.toNat∈ps
   ·rw[if_pos m,if_pos (ym _ m)]
    lia
   ·rw[if_neg m,if_neg (fun z=>by rcases List.mem_cons.mp z with z | z;exact e z;exact m z)]
    lia
noncomputable def hit(rows:List (List Int))(h:Int)(ps:List Int)(d:Int):Bool:=decide (val rows h.toNat d.toNat∈ps)
theorem kJ(rows:List (List Int))(h n:Int){ps:List Int}(nd:ps.Nodup):∀ds:List Int,tot rows (spr h ds ps n)=n*(((ds.filter (hit rows h ps)).length:Nat):Int)
 | []=>by simp[spr,tot]
 | d::ds=>by
  have ih:=kJ rows h n nd ds
  unfold spr at ih ⊢
  rw[yca,dv,ih,gZ rows h d n nd,yma]
  unfold hit
  by_cases m:val rows h.toNat d.toNat∈ps
  ·rw[if_pos m,if_pos (decide_eq_true m),yD,Int.natCast_succ,Int.mul_add,yEb]
   lia
  ·rw[if_neg m,if_neg (by simpa using m)]
   lia
noncomputable def bL(ps:List Pst):List Int:=bh 1 ps.length
noncomputable def npI(ps:List Pst)(i:Nat):List Int:=((List.range i).filter fun j=>ngt ps (j+1)).map fun j:Nat=>1+(j:Int)
noncomputable def np(ps:List Pst):List Int:=npI ps ps.length
theorem qM(ps:List Pst)(i:Nat):npI ps (i+1)=npI ps i++if ngt ps (i+1)=true then [1+(i:Int)] else []:=by
 unfold npI
 rw[yO,yM,yg]
 congr 1
 cases h:ngt ps (i+1)
 ·rw[yS (by rw[h];exact yl)]
  rfl
 ·rw[yT (by exact h)]
  rfl
theorem oS(ps:List Pst)(i:Nat):(npI ps i).length≤i:=by
 unfold npI
 rw[ya]
 exact yu (yK _ _) (by rw[yx];exact yd _)
theorem sA(ps:List Pst):(np ps).Nodup:=by
 unfold np npI
 exact ybb _ (fun a b h z=>h (by lia)) ((yKa).filter _)
theorem kY{ps:List Pst}{v:Int}:v∈np ps↔1≤v∧v≤ps.length∧ngt ps v.toNat=true:=by
 unfold np npI
 rw[yk]
 constructor
 ·rintro⟨j,hj,rfl⟩
  obtain⟨h1,h2⟩:=List.mem_filter.mp hj
  have:=yp.mp h1
  exact⟨by lia,by lia,by rw[show(1+(j:Int)).toNat=j+1 by lia];exact h2⟩
 ·rintro⟨h1,h2,h3⟩
  refine⟨v.toNat-1,List.mem_filter.mpr ⟨yp.mpr (by omega),?_⟩,by omega⟩
  show ngt ps (v.toNat-1+1)=true
  rw[show v.toNat-1+1=v.toNat by lia]
  exact h3
end My
namespace My
open PySem L2
noncomputable def dU(hs:List Int)(h:Int):Bool:=decide (0≤h)&&decide (h<(hs.length:Int))
noncomputable def isM(m:Int):Bool:=decide (0≤m)&&decide (m≤99)
theorem nhm:¬(("hand":Str) = "many"):=by decide +kernel
noncomputable def hm(h m:Int):List (Str×V):=bA "many" (.int m) (bA "hand" (.int h) [])
theorem kL(h m:Int):(hm h m).lookup ("hand":Str)=some (.int h):=by
 unfold hm
 rw[ar,if_neg nhm,ar,if_pos rfl]
theorem iC(h m:Int):(hm h m).lookup ("many":Str)=some (.int m):=by
 unfold hm
 rw[ar,if_pos rfl]
theorem wE(h m:Int){x:Str}(h1:¬ x = "many")(h2:¬ x = "hand"):(hm h m).lookup x=none:=by
 unfold hm
 rw[ar,if_neg h1,ar,if_neg h2]
 rfl
noncomputable def cg(h m d:Int)(ps:List Int):List Lin:=(List.range (d-m).toNat).map fun i:Nat=>⟨spr h (bh i (m+1).toNat) ps (-1),-m⟩
end My
namespace My
open PySem L2
end My
namespace My
open PySem L2
end My
namespace My
open PySem L2
theorem t8(xs:List V)(i n:Nat)(h:i+n≤xs.length):js xs (some (i:Int)) (some ((i+n:Nat):Int))=(xs.drop i).take n:=by
 unfold js
 rw[HT.sIx_nat,HT.sIx_nat,Nat.min_eq_left h,Nat.min_eq_left (yu (Nat.le_add_right i n) h),Nat.add_sub_cancel_left]
noncomputable def at_(bs:List Bool)(j:Nat):Bool:=bs[j]?.getD false
theorem iS{α β:Type}(f:α→β)(p:β→Bool)(l:List α):((l.map f).filter p).length=(l.filter fun x=>p (f x)).length:=by
 rw[yPa,ya]
 rfl
noncomputable def ng(f:Nat→Bool)(i n:Nat):Nat:=((List.range n).filter fun k=>f (i+k)).length
theorem lW(f:Nat→Bool)(i n:Nat):n≤ng f i n↔∀k,k<n→f (i+k)=true:=by
 unfold ng
 constructor
 ·intro h k hk
  have e:((List.range n).filter fun k=>f (i+k)).length=(List.range n).length:=by
   have:=yK (fun k=>f (i+k)) (List.range n)
   rw[yx] at this ⊢
   lia
  exact List.length_filter_eq_length_iff.mp e k (yp.mpr hk)
 ·intro h
  have e:((List.range n).filter fun k=>f (i+k)).length=(List.range n).length:=List.length_filter_eq_length_iff.mpr fun k hk=>h k (yp.mp hk)
  rw[e,yx]
  exact yd _
noncomputable def dQ(f:Nat→Bool):Nat→Nat
 | 0=>0
 | k+1=>if f k=true then dQ f k+1 else 0
noncomputable def gU(f:Nat→Bool):Nat→Nat
 | 0=>0
 | k+1=>max (gU f k) (dQ f (k+1))
theorem kG(f:Nat→Bool):∀k,dQ f k≤k∧(∀j,k-dQ f k≤j→j<k→f j=true)∧(dQ f k=k∨f (k-dQ f k-1)=false)
 | 0=>⟨yd _,fun j _ h=>absurd h (yea j),.inl rfl⟩
 | k+1=>by
  obtain⟨h1,h2,h3⟩:=kG f k
  unfold dQ
  by_cases e:f k=true
  ·rw[if_pos e]
   refine⟨by lia,fun j a b=>?_,?_⟩
   ·by_cases z:j=k
    ·rw[z];exact e
    ·exact h2 j (by lia) (by lia)
   ·rcases h3 with h3 | h3
    ·exact .inl (by lia)
    ·refine .inr ?_
     rw[show k+1-(dQ f k+1)-1=k-dQ f k-1 by lia]
     exact h3
  ·rw[if_neg e]
   refine⟨by lia,fun j a b=>by lia,.inr ?_⟩
   rw[show k+1-0-1=k by lia]
   exact Bool.eq_false_iff.mpr e
theorem oV(f:Nat→Bool)(m:Nat):∀k,gU f k≤m↔∀i,i+m<k→¬(m+1≤ng f i (m+1))
 | 0=>⟨fun _ i h=>absurd h (yea _),fun _=>yq _⟩
 | k+1=>by
  have ih:=oV f m k
  obtain⟨h1,h2,h3⟩:=kG f (k+1)
  show max (gU f k) (dQ f (k+1))≤m↔_
  rw[Nat.max_le,ih]
  constructor
  ·rintro⟨ha,hb⟩ i hi
   by_cases z:i+m<k
   ·exact ha i z
   ·rw[lW]
    intro hall
    rcases h3 with h3 | h3
    ·lia
    ·have:=hall (k+1-dQ f (k+1)-1-i) (by omega)
     rw[show i+(k+1-dQ f (k+1)-1-i)=k+1-dQ f (k+1)-1 by lia,h3] at this
     exact yl this
  ·intro h
   refine⟨fun i hi=>h i (by lia),?_⟩
   refine yfb fun hb=>?_
   refine h (k-m) (by lia) ?_
   rw[lW]
   exact fun j hj=>h2 _ (by omega) (by lia)
noncomputable def zh(bs:List Bool)(m:Int):List (Int×Int):=(List.range ((bs.length:Int)-m).toNat).map fun i:Nat=>(0-(ng (at_ bs) i (m+1).toNat:Int),0-m)
noncomputable def nk(ps:List Pst)(v:Int):Bool:=ngt ps v.toNat
theorem CH{ps:List Pst}{v:Int}(h0:0≤v)(h1:v≤ps.length):nk ps v=decide (v∈np ps):=by
 unfold nk
 by_cases z:v=0
 ·subst z
  symm
  exact decide_eq_false fun h=>by have:=kY.mp h;omega
 ·cases e:ngt ps v.toNat
  ·symm
   exact decide_eq_false fun h=>by have:=(kY.mp h).2.2;rw[e] at this;cases this
  ·symm
   exact decide_eq_true (kY.mpr ⟨by lia,h1,e⟩)
theorem nq{rows:List (List Int)}{ps:List Pst}{row:List Int}{h:Nat}{m d:Int}(hr:rows[h]? = some row)(hd:(row.length:Int)=d)(hv:∀x∈row,0≤x∧x≤(ps.length:Int))(m0:0≤m) :
  (cg h m d (np ps)).map (fun ℓ=>(tot rows ℓ.ps,ℓ.b))=zh (row.map (nk ps)) m:=by
 unfold cg zh
 rw[yW,ya,hd]
 refine yR fun i hi=>?_
 have hi':=yp.mp hi
 show(tot rows (spr h (bh i (m+1).toNat) (np ps) (-1)),-m)=_
 rw[kJ rows h (-1) (sA ps),Int.zero_sub,Int.zero_sub]
 rw[Int.neg_one_mul]
 refine congrArg (fun x:Nat=>(-(x:Int),-m)) ?_
 unfold bh ng
 rw[iS]
 refine congrArg _ (ypa fun k hk=>?_)
 have hk':=yp.mp hk
 have hlt:i+k<row.length:=by lia
 unfold hit at_
 rw[ye,show((i:Int)+(k:Int)).toNat=i+k by lia,dH hr hlt,yj,yb hlt]
 have:=hv _ (yQ hlt)
 exact(CH this.1 this.2).symm
theorem l8{bs:List Bool}{m:Int}(m0:0≤m):((zh bs m).map fun q=>decide (q.2≤q.1)).all id=decide ((gU (at_ bs) bs.length:Int)≤m):=by
 obtain⟨n,rfl⟩:∃n:Nat,m=n:=⟨m.toNat,by lia⟩
 have key:=oV (at_ bs) n bs.length
 rw[yV,decide_eq_true_eq,yOa,yG]
 constructor
 ·intro h
  have:gU (at_ bs) bs.length≤n:=key.mpr fun i hi hc=>by
   have:=h (0-(ng (at_ bs) i ((n:Int)+1).toNat:Int),0-(n:Int)) (yk.mpr ⟨i,yp.mpr (by omega),rfl⟩)
   have:=of_decide_eq_true this
   rw[show((n:Int)+1).toNat=n+1 by lia] at this
   simp only at this
   lia
  lia
 ·intro h q hq
  obtain⟨i,hi,rfl⟩:=yk.mp hq
  have hi':=yp.mp hi
  have h2:=key.mp (by lia) i (by omega)
  refine decide_eq_true ?_
  show 0-(n:Int)≤0-(ng (at_ bs) i ((n:Int)+1).toNat:Int)
  rw[show((n:Int)+1).toNat=n+1 by lia]
  lia
end My
namespace My
open PySem L2
end My
namespace My
open PySem L2
end My
namespace My
open PySem L2
theorem bv{wi:TI}{g:TG}{tb:TS}{D:dk}{σ:St}{H:Hp}(h:∀B:TS,B=tb→tX wi g B D σ H):tX wi g tb D σ H:=h tb rfl
end My
namespace My
open PySem L2
theorem va(rows:List (List Int))(h d n:Int){ps:List Int}(nd:ps.Nodup):tot rows (spr h [d] ps n)=if val rows h.toNat d.toNat∈ps then n else 0:=by
 rw[← gZ rows h d n nd]
 unfold spr
 rw[yIa]
end My
namespace L2
open PySem PySem.Spec PyProof.Rows
section
variable{prog:Program}{w:World}{A:Around}{E:Value→Shared→Prop}{s:Shared}
theorem sy{t b:Addr}{vs ws:List Value}{Q:Value→Shared→Prop}(ht:IsTup s.heap t vs.toArray)(hb:IsTup s.heap b ws.toArray)(hv:vs=[])(h:Q (.ref b) s):wpAny (model prog w) A (binaryOp .Add (.ref t) (.ref b)) Q E s:=by
 obtain⟨⟨cls,dd,data,sl⟩,ho,hc,n,hd⟩:=id ht
 obtain⟨⟨cls2,dd2,data2,sl2⟩,ho2,hc2,n2,hd2⟩:=id hb
 simp only at hc hd hc2 hd2
 subst hc hd hc2 hd2
 exact concat_meets ⟨_,ho,rfl⟩ ⟨_,ho2,rfl⟩ noFill_tuple_add seq_tuple_add PySem.F.slot_tuple_add PySem.F.entry_tuple_add (PySem.F.args_tuple_add_2 _ _)
   (tuple_addW0 t b vs.toArray ws.toArray n n2 dd dd2 sl sl2 (by simp[hv])) ⟨ho,ho2,h⟩
end
section
variable{X:Cx}
noncomputable def we:R2:=fun x y H Q=>∃a b xs ys,x=.ref a∧y=.ref b∧H a=some (.tup xs)∧H b=some (.tup ys)∧xs.length+ys.length≤sizeLine∧∀t H',L2.az H H'→H' t=some (.tup (xs++ys))→Q (.ref t) H'
theorem vJ:OpR X (binaryOp .Add) we:=by
 intro pins s σ H x y v u Q I rx ry h
 obtain⟨a,b,xs,ys,rfl,rfl,ha,hb,hz,q⟩:=h
 by_cases hx:xs=[]
 ·subst hx
  cases rx
  cases ry
  obtain⟨its,r1,p1,_⟩:=I.tuple (SqT.of ha)
  obtain⟨its2,r2,p2,_⟩:=I.tuple (SqT.of hb)
  exact sy p1 p2 (r1.nil_iff.mpr rfl) ⟨.ref b,H,I,rfl,q b H (fun _ _ z=>z) hb⟩
 ·refine uO pins s σ H _ _ v u Q I rx ry ⟨a,b,xs,ys,rfl,rfl,SqT.of ha,SqT.of hb,hx,hz,fun e=>?_,fun e p hp=>?_⟩
  ·subst e
   exact q a H (fun _ _ z=>z) (by rw[yy];exact ha)
  ·exact q p _ (My.ah hp _) ae
end
end L2
namespace My
open PySem L2
end My
namespace L2
open PySem PySem.Spec PyProof.Rows
section
variable{κ:Type}[DecidableEq κ]
noncomputable def bD(kvs:List (κ×V))(k:κ):Option V:=(kvs.find? fun kv=>decide (kv.1=k)).map (·.2)
noncomputable def bC(kvs:List (κ×V))(k:κ)(v:V):List (κ×V) :=
 if (kvs.any fun kv=>decide (kv.1=k))=true then kvs.map (fun kv=>if kv.1=k then (kv.1,v) else kv) else kvs++[(k,v)]
theorem b5{p:κ×V}{r:List (κ×V)}{k:κ}(e:p.1=k):bD (p::r) k=some p.2:=by simp[bD,yva,e]
theorem bZ{p:κ×V}{r:List (κ×V)}{k:κ}(e:¬ p.1=k):bD (p::r) k=bD r k:=by simp[bD,yva,e]
theorem gE(k:κ):∀kvs:List (κ×V),(kvs.any fun kv=>decide (kv.1=k))=(bD kvs k).isSome
 | []=>rfl
 | p::r=>by
  rw[yAa]
  by_cases e:p.1=k
  ·simp only[b5 e,decide_eq_true e,Bool.true_or,Option.isSome_some]
  ·rw[bZ e,decide_eq_false e,Bool.false_or];exact gE k r
theorem lA(k j:κ)(y:V):∀kvs:List (κ×V),bD (kvs.map fun kv=>if kv.1=k then (kv.1,y) else kv) j=(bD kvs j).map fun x=>if j=k then y else x
 | []=>rfl
 | p::r=>by
  have ih:=lA k j y r
  rw[yi]
  by_cases h:p.1=k
  ·rw[if_pos h]
   by_cases e:p.1=j
   ·rw[b5 (p:=(p.1,y)) e,b5 e,yoa,if_pos (e.symm.trans h)]
   ·rw[bZ (p:=(p.1,y)) e,bZ e,ih]
  ·rw[if_neg h]
   by_cases e:p.1=j
   ·rw[b5 (p:=p) e,b5 e,yoa,if_neg (fun z=>h (e.trans z))]
   ·rw[bZ (p:=p) e,bZ e,ih]
theorem jK(k j:κ)(y:V):∀kvs:List (κ×V),bD kvs k=none→bD (kvs++[(k,y)]) j=if j=k then some y else bD kvs j
 | [],_=>by
  by_cases e:k=j
  ·rw[if_pos e.symm];exact b5 (p:=(k,y)) e
  ·rw[if_neg (fun z=>e z.symm)];exact bZ (p:=(k,y)) e
 | p::r,hn=>by
  rw[List.cons_append]
  have hk:¬ p.1=k:=fun z=>by rw[b5 z] at hn;cases hn
  rw[bZ hk] at hn
  have ih:=jK k j y r hn
  by_cases e:p.1=j
  ·rw[b5 e,b5 e,if_neg (fun z=>hk (e.trans z))]
  ·rw[bZ e,bZ e,ih]
theorem cY(kvs:List (κ×V))(k j:κ)(y:V):bD (bC kvs k y) j=if j=k then some y else bD kvs j:=by
 unfold bC
 by_cases a:(kvs.any fun kv=>decide (kv.1=k))=true
 ·rw[if_pos a,lA]
  rw[gE] at a
  by_cases e:j=k
  ·obtain⟨x,hx⟩:=Option.isSome_iff_exists.mp a
   rw[if_pos e,e,hx,yoa,if_pos rfl]
  ·rw[if_neg e]
   cases bD kvs j with
   | none=>rfl
   | some x=>rw[yoa,if_neg e]
 ·rw[if_neg a]
  refine jK k j y kvs ?_
  rw[gE] at a
  cases q:bD kvs k with
  | none=>rfl
  | some x=>rw[q] at a;exact(a rfl).elim
theorem cb(kvs:List (κ×V))(k:κ)(v:V):(bC kvs k v).length≤kvs.length+1:=by
 unfold bC
 split
 ·rw[ya];lia
 ·rw[yf,yD,yQa];lia
theorem dR.isSome_eq{o:Option V}{u:Option Value}(r:dR o u):o.isSome=u.isSome:=by
 cases o with
 | none=>cases u with
  | none=>rfl
  | some _=>exact(show False from r).elim
 | some _=>cases u with
  | none=>exact(show False from r).elim
  | some _=>rfl
theorem dR.getD{o:Option V}{u:Option Value}{d:V}{d':Value}(r:dR o u)(rd:bu d d'):bu (o.getD d) (u.getD d'):=by
 cases o with
 | none=>cases u with
  | none=>exact rd
  | some _=>exact(show False from r).elim
 | some _=>cases u with
  | none=>exact(show False from r).elim
  | some _=>exact r
theorem KV.val{kvs:List (κ×V)}{vs:List (κ×Value)}(r:KV kvs vs)(k:κ):dR (bD kvs k) (valueAt vs k):=by
 unfold KV at r
 induction r with
 | nil=>exact True.intro
 | @cons p q ps qs h t ih =>
  obtain⟨h1,h2⟩:=h
  by_cases e:p.1=k
  ·have e':q.1=k:=h1.symm.trans e
   have b:valueAt (q::qs) k=some q.2:=by simp[valueAt,yva,e']
   rw[b5 e,b];exact h2
  ·have e':¬ q.1=k:=fun z=>e (h1.trans z)
   have b:valueAt (q::qs) k=valueAt qs k:=by simp[valueAt,yva,e']
   rw[bZ e,b];exact ih
theorem KV.any{kvs:List (κ×V)}{vs:List (κ×Value)}(r:KV kvs vs)(k:κ):(kvs.any fun kv=>decide (kv.1=k))=vs.any fun kv=>decide (kv.1=k):=by
 unfold KV at r
 induction r with
 | nil=>rfl
 | cons h t ih=>rw[yAa,yAa,ih,h.1]
theorem KV.repl{kvs:List (κ×V)}{vs:List (κ×Value)}(r:KV kvs vs)(k:κ){y:V}{u:Value}(ry:bu y u) :
  KV (kvs.map fun kv=>if kv.1=k then (kv.1,y) else kv) (vs.map fun kv=>if kv.1=k then (kv.1,u) else kv):=by
 unfold KV at r ⊢
 induction r with
 | nil=>exact .nil
 | @cons p q ps qs h t ih =>
  rw[yi,yi]
  refine .cons ?_ ih
  obtain⟨h1,h2⟩:=h
  by_cases e:p.1=k
  ·rw[if_pos e,if_pos (h1.symm.trans e)];exact⟨h1,ry⟩
  ·rw[if_neg e,if_neg (fun z=>e (h1.trans z))];exact⟨h1,h2⟩
theorem KV.put{kvs:List (κ×V)}{vs:List (κ×Value)}(r:KV kvs vs)(k:κ){y:V}{u:Value}(ry:bu y u):KV (bC kvs k y) (stored vs k u):=by
 unfold bC stored
 rw[r.any k]
 by_cases e:(vs.any fun kv=>decide (kv.1=k))=true
 ·rw[if_pos e,if_pos e];exact r.repl k ry
 ·rw[if_neg e,if_neg e];exact Paired.snoc r ⟨rfl,ry⟩
theorem KV.length{kvs:List (κ×V)}{vs:List (κ×Value)}(r:KV kvs vs):kvs.length=vs.length:=Paired.length r
end
theorem jE{P:Program}{w:World}{k:Key}{u:Value}(r:bu (kV k) u):(bE P w).is k u=true:=by
 cases k with
 | inl i=>obtain⟨t,e⟩:=(show ∃t,u=Value.int i t from r);subst e;exact lg P w i t
 | inr x=>obtain⟨t,e⟩:=(show ∃t,u=Value.str x t from r);subst e;exact l9 P w x t
theorem jX{P:Program}{w:World}:∀{ks:List Key} {us:List Value},bp (ks.map kV) us→ItemsAre (bE P w) ks us
 | [],_,r=>by rw[yua] at r;cases r;exact .nil
 | k::ks,_,r=>by
  rw[yi] at r
  cases r with
  | cons h t=>exact .cons (jE h) (jX t)
noncomputable abbrev KT(H:Hp):List (List Key×V)→List (List Key×Addr×Value)→Prop:=Paired fun p q=>p.1=q.1∧H q.2.1=some (.tup (p.1.map kV))∧bu p.2 q.2.2
theorem KT.val{H:Hp}{kvs:List (List Key×V)}{xs:List (List Key×Addr×Value)}(r:KT H kvs xs)(k:List Key):dR (bD kvs k) ((atKey xs k).map (·.2)):=by
 induction r with
 | nil=>exact True.intro
 | @cons p q ps qs h t ih =>
  obtain⟨h1,_,h2⟩:=h
  by_cases e:p.1=k
  ·have e':q.1=k:=h1.symm.trans e
   have b:atKey (q::qs) k=some q.2:=by simp[atKey,yva,e']
   rw[b5 e,b];exact h2
  ·have e':¬ q.1=k:=fun z=>e (h1.trans z)
   have b:atKey (q::qs) k=atKey qs k:=by simp[atKey,yva,e']
   rw[bZ e,b];exact ih
theorem KT.repl{H:Hp}{kvs:List (List Key×V)}{xs:List (List Key×Addr×Value)}(r:KT H kvs xs)(k:List Key){y:V}{u:Value}(ry:bu y u) :
  KT H (kvs.map fun kv=>if kv.1=k then (kv.1,y) else kv) (xs.map (putAt k u)):=by
 induction r with
 | nil=>exact .nil
 | @cons p q ps qs h t ih =>
  rw[yi,yi]
  refine .cons ?_ ih
  obtain⟨h1,h2,h3⟩:=h
  unfold putAt
  by_cases e:p.1=k
  ·rw[if_pos e,if_pos (h1.symm.trans e)];exact⟨h1,h2,ry⟩
  ·rw[if_neg e,if_neg (fun z=>e (h1.trans z))];exact⟨h1,h2,h3⟩
theorem KT.put{H:Hp}{kvs:List (List Key×V)}{xs:List (List Key×Addr×Value)}(r:KT H kvs xs)(k:List Key){b:Addr}{y:V}{u:Value}(hb:H b=some (.tup (k.map kV)))(ry:bu y u) :
  KT H (bC kvs k y) (storedH xs k b u):=by
 have e:(kvs.any fun kv=>decide (kv.1=k))=(atKey xs k).isSome:=by
  rw[gE,(r.val k).isSome_eq,ycb]
 unfold bC storedH
 rw[e]
 by_cases q:(atKey xs k).isSome=true
 ·rw[if_pos q,if_pos q];exact r.repl k ry
 ·rw[if_neg q,if_neg q];exact Paired.snoc r ⟨rfl,hb,ry⟩
theorem KT.keeps{H H':Hp}{kvs:List (List Key×V)}{xs:List (List Key×Addr×Value)}(r:KT H kvs xs)(ht:∀b ys,H b=some (.tup ys)→H' b=some (.tup ys)):KT H' kvs xs :=
 Paired.mapP r fun _ _ z=>⟨z.1,ht _ _ z.2.1,z.2.2⟩
section
variable{P:Program}{w:World}{H:Hp}{h:Heap}{a:Addr}
theorem wc{u:HO}(ok:HOk P w H h)(e:Rd H a u):bF P w H h a u:=e.ok ok
theorem iH{kvs:List (Key×V)}(ok:HOk P w H h)(e:Rd H a (.dK kvs)):kvs.length≤sizeLine∧(a == sysModules)=false∧∃vs,KV kvs vs∧h.DictOf (bE P w) a vs :=
 show bF P w H h a (.dK kvs) from wc ok e
theorem B7{kvs:List (Key×V)}(ok:HOk P w H h)(e:H a=some (.dK kvs)):kvs.length≤sizeLine∧(a == sysModules)=false∧∃vs,KV kvs vs∧h.DictOf (bE P w) a vs:=iH ok (.inl e)
theorem fM{ks:List Key}(ok:HOk P w H h)(e:H a=some (.tup (ks.map kV))):(tupleKind (bE P w)).is h ks a:=by
 obtain⟨_,its,r,o,h1,h2,n,h3⟩:=(show bF P w H h a (.tup (ks.map kV)) from ok a _ e)
 exact⟨o,its.toArray,n,h1,h2,h3,by simpa using jX r⟩
theorem jb{kvs:List (List Key×V)}(ok:HOk P w H h)(e:Rd H a (.dT kvs)):kvs.length≤sizeLine∧(a == sysModules)=false ∧
  ∃xs,KT H kvs xs∧h.DictOfH (tupleKind (bE P w)) a xs:=by
 obtain⟨z,y,xs,r,o,es,ep,h1,h2,h3,h4,h5⟩:=(show bF P w H h a (.dT kvs) from wc ok e)
 refine⟨z,y,xs,r,o,es,ep,h1,h2,h3,h4,fun x hx=>?_,h5⟩
 have all:∀{l:List (List Key×V)} {m:List (List Key×Addr×Value)},KT H l m→∀x∈m,(tupleKind (bE P w)).is h x.1 x.2.1:=by
  intro l m q
  induction q with
  | nil=>intro x hx;exact nomatch hx
  | @cons p q ps qs hq t ih =>
   intro x hx
   rcases List.mem_cons.mp hx with e | hx
   ·subst e
    exact fM ok (by rw[← hq.1];exact hq.2.1)
   ·exact ih x hx
 exact all r x hx
theorem wm{kvs:List (List Key×V)}(ok:HOk P w H h)(e:H a=some (.dT kvs)):kvs.length≤sizeLine∧(a == sysModules)=false ∧
  ∃xs,KT H kvs xs∧h.DictOfH (tupleKind (bE P w)) a xs:=jb ok (.inl e)
end
noncomputable def dS(H:Hp)(a:Addr)(y:V)(r:Option V):Prop :=
 (∃kvs k,Rd H a (.dK kvs)∧y=kV k∧r=bD kvs k)∨∃kvs k b,Rd H a (.dT kvs)∧y=.ref b∧H b=some (.tup (k.map kV))∧r=bD kvs k
noncomputable def lS(H:Hp)(a:Addr)(y v:V)(H':Hp):Prop :=
 (∃kvs k,H a=some (.dK kvs)∧y=kV k∧kvs.length<sizeLine∧H'=upd H a (.dK (bC kvs k v))) ∨
 ∃kvs k b,H a=some (.dT kvs)∧y=.ref b∧H b=some (.tup (k.map kV))∧kvs.length<sizeLine∧H'=upd H a (.dT (bC kvs k v))
theorem dS.t{H:Hp}{a b:Addr}{kvs:List (List Key×V)}{k:List Key}(e:H a=some (.dT kvs))(eb:H b=some (.tup (k.map kV))):dS H a (.ref b) (bD kvs k):=.inr ⟨kvs,k,b,.inl e,rfl,eb,rfl⟩
theorem lS.t{H:Hp}{a b:Addr}{kvs:List (List Key×V)}{k:List Key}{v:V}(e:H a=some (.dT kvs))(eb:H b=some (.tup (k.map kV)))(hl:kvs.length<sizeLine) :
  lS H a (.ref b) v (upd H a (.dT (bC kvs k v))):=.inr ⟨kvs,k,b,e,rfl,eb,hl,rfl⟩
section
variable{X:Cx}{pins:List (Addr×Obj)}{σ:St}{H:Hp}{s:Shared}{a:Addr}{y v:V}{u r:Value}{o:Option V}{A:Around}{E:Value→Shared→Prop}
theorem Inv.big(I:Inv X pins σ H s):sysModules<s.heap.objs.size:=by
 have h:mainGlobals<s.heap.objs.size:=(I.mod.glob.keeps I.bk).lt
 exact Nat.lt_trans (by decide) h
theorem pX{Q:Value→Shared→Prop}(hu:A.units+1<cLine)(I:Inv X pins σ H s)(g:dS H a y (some v))(ry:bu y u)(h:∀w' s',Inv X pins σ H s'→bu v w'→Q w' s') :
  wpAny (model X.prog X.w) A (getItem (.ref a) u) Q E s:=by
 rcases g with ⟨kvs,k,e,ey,l⟩ | ⟨kvs,k,b,e,ey,eb,l⟩
 ·subst ey
  obtain⟨z,hd,vs,rel,dd⟩:=iH I.hok e
  obtain⟨w',hw,rw'⟩:=dR.some_of (v:=v) (o:=valueAt vs k) (by rw[l];exact rel.val k)
  exact wpAny_getItem_of (jE ry) dd.mapOf hw (h w' _ (I.tok _) rw')
 ·subst ey
  cases (show u=Value.ref b from ry)
  obtain⟨z,hd,xs,rel,dd⟩:=jb I.hok e
  obtain⟨w',hw,rw'⟩:=dR.some_of (v:=v) (o:=(atKey xs k).map (·.2)) (by rw[l];exact rel.val k)
  obtain⟨p,hp,hp2⟩:=Option.map_eq_some_iff.mp hw
  refine wpAny_getItem_heap (tupleKind_room_in1 hu) (fM I.hok eb) dd hp ?_
  rw[hp2]
  exact h w' _ (I.tok _) rw'
theorem DE{Q:Value→Shared→Prop}(hu:A.units+1<cLine)(I:Inv X pins σ H s)(g:dS H a y o)(ry:bu y u)(h:∀s',Inv X pins σ H s'→Q (.bool o.isSome) s') :
  wpAny (model X.prog X.w) A (compareOp .In u (.ref a)) Q E s:=by
 rcases g with ⟨kvs,k,e,ey,l⟩ | ⟨kvs,k,b,e,ey,eb,l⟩
 ·subst ey
  obtain⟨z,hd,vs,rel,dd⟩:=iH I.hok e
  refine wpAny_in_of (jE ry) hd dd.mapOf ?_
  rw[← (rel.val k).isSome_eq,← l]
  exact h _ (I.tok _)
 ·subst ey
  cases (show u=Value.ref b from ry)
  obtain⟨z,hd,xs,rel,dd⟩:=jb I.hok e
  refine wpAny_in_heap (tupleKind_room_in1 hu) (fM I.hok eb) hd dd ?_
  have q:=(rel.val k).isSome_eq
  rw[ycb] at q
  rw[← q,← l]
  exact h _ (I.tok _)
theorem tZ{Q:Value→Shared→Prop}(hu:A.units+1<cLine)(I:Inv X pins σ H s)(g:dS H a y o)(ry:bu y u)(h:∀s',Inv X pins σ H s'→Q (.bool (!o.isSome)) s') :
  wpAny (model X.prog X.w) A (compareOp .NotIn u (.ref a)) Q E s:=by
 rcases g with ⟨kvs,k,e,ey,l⟩ | ⟨kvs,k,b,e,ey,eb,l⟩
 ·subst ey
  obtain⟨z,hd,vs,rel,dd⟩:=iH I.hok e
  refine wpAny_notIn_of (jE ry) hd dd.mapOf ?_
  rw[← (rel.val k).isSome_eq,← l]
  exact h _ (I.tok _)
 ·subst ey
  cases (show u=Value.ref b from ry)
  obtain⟨z,hd,xs,rel,dd⟩:=jb I.hok e
  refine wpAny_notIn_heap (tupleKind_room_in1 hu) (fM I.hok eb) hd dd ?_
  have q:=(rel.val k).isSome_eq
  rw[ycb] at q
  rw[← q,← l]
  exact h _ (I.tok _)
theorem oN{h':Heap}{t':Nat}{ob:HO}(I:Inv X pins σ H s)(mu:Mut (H a))(hs:Heap.SameBut a s.heap h')(he:∃q,h'.get? a=some q)(new:bF X.prog X.w (upd H a ob) h' a ob) :
  Inv X pins σ (upd H a ob) { s with heap:=h',toks:=t' } :=
 I.write (x:=a) (e:=a) mu (.inl rfl) (fun b q hb z=>(hs.2 b hb).trans z) he new
theorem A3{P:Program}{w:World}{H':Hp}{h':Heap}{kvs:List (Key×V)}{vs:List (Key×Value)}(z:kvs.length≤sizeLine)(hd:(a == sysModules)=false)(rel:KV kvs vs)(dd:h'.DictOf (bE P w) a vs) :
  bF P w H' h' a (.dK kvs):=⟨z,hd,vs,rel,dd⟩
theorem qa{H':Hp}{Q:Unit→Shared→Prop}(hu:A.units+1<cLine)(I:Inv X pins σ H s)(g:lS H a y v H')(ry:bu y u)(rv:bu v r)(h:∀s',Inv X pins σ H' s'→Q () s') :
  wpAny (model X.prog X.w) A (setItem (.ref a) u r) Q E s:=by
 rcases g with ⟨kvs,k,e,ey,l,eH⟩ | ⟨kvs,k,b,e,ey,eb,l,eH⟩
 ·subst ey eH
  obtain⟨z,hd,vs,rel,dd⟩:=B7 I.hok e
  have hz:vs.length≤sizeLine:=by rw[← rel.length];exact z
  have hl:(bC kvs k v).length≤sizeLine:=by have:=cb kvs k v;lia
  refine wpAny_setItem_pairs (hsz:=hz) (jE ry) dd fun h' dd' hs=>h _ ?_
  have he:∃q,h'.get? a=some q:=let ⟨q,_,_,hq,_⟩:=dd'; ⟨q,hq⟩
  exact oN I (by rw[e];exact True.intro) hs he (A3 hl hd (rel.put k rv) dd')
 ·subst ey eH
  cases (show u=Value.ref b from ry)
  obtain⟨z,hd,xs,rel,dd⟩:=wm I.hok e
  have hz:xs.length≤sizeLine:=by rw[← Paired.length rel];exact z
  have hl:(bC kvs k v).length≤sizeLine:=by have:=cb kvs k v;lia
  refine wpAny_setItem_heap (hsz:=hz) (tupleKind_room_in1 hu) (fM I.hok eb) dd fun h' dd' hs=>h _ ?_
  obtain⟨q,es,ep,hq,h2,h3,h4,_,h5⟩:=dd'
  refine oN I (by rw[e];exact True.intro) hs ⟨q,hq⟩ ⟨hl,hd,_,(rel.put k eb rv).keeps fun c ys ec=>?_,q,es,ep,hq,h2,h3,h4,h5⟩
  rw[au (CI ec e (fun z=>nomatch z))]
  exact ec
end
section
variable{X:Cx}{pins:List (Addr×Obj)}{σ:St}{H:Hp}{s:Shared}{a:Addr}{kvs:List (Key×V)}{k:Key}{u:Value}{A:Around}{E:Value→Shared→Prop}
end
noncomputable def BC(i:Expr):Prop:=∀ov iv,subscripted i false ov iv=operate [ov,iv] (getItem ov iv)
theorem vy{prog:Program}{w:World}{A:Around}{E:Value→Shared→Prop}{s:Shared}{env:Env}{value slice:Expr}{pos:Pos}{T id:String}{Q:Value→Shared→Prop}
  (hl:typeLookup (.type T) "__getitem__" = pure (some (.builtin id))) (hs:BC slice)
  (h:wpAny (model prog w) A (eval value env) (fun o s₁=>wpAny (model prog w) A (eval slice env) (fun i s₂=>s₂.TypeIs o T∧wpAny (model prog w) A (getItem o i) Q E s₂) E s₁) E s) :
  wpAny (model prog w) A (eval (.Subscript value slice pos) env) Q E s:=by
 refine Subscript_ (wpAny_mono h (fun o s₁ h₁=>wpAny_mono h₁ (fun i s₂ h₂=>?_) fun _ _ x=>x) fun _ _ x=>x)
 obtain⟨hT,h₂⟩:=h₂
 unfold subscriptTail
 refine wpAny_bind ?_
 rw[getitemInPython_of_ne hT.not_modules]
 refine wpAny_bind (wpAny_specialOf hT hl ?_)
 have fin:wpAny (model prog w) A (subscripted slice false o i) (fun r s₃=>wpAny (model prog w) A (letTemporaryGo value o r >>= fun _=>pure r) Q E s₃) E s₂:=by
  rw[hs o i]
  exact wpAny_operating (wpAny_mono h₂ (fun r s₃ h₃=>wpAny_bind (wpAny_letTemporaryGo (wpAny_pure h₃))) fun _ _ x=>x)
 first
  | exact wpAny_pure (wpAny_bind fin)
  | exact wpAny_bind (wpAny_pure (wpAny_bind fin))
  | exact wpAny_bind fin
theorem li{X:Cx}{pins:List (Addr×Obj)}{σ:St}{H:Hp}{s:Shared}{a:Addr}{y:V}{o:Option V}(I:Inv X pins σ H s)(g:dS H a y o):s.TypeIs (.ref a) "dict" := by
 rcases g with ⟨kvs,k,e,_,_⟩ | ⟨kvs,k,b,e,_,_,_⟩
 ·obtain⟨_,_,vs,_,dd⟩:=iH I.hok e
  exact dd.typeIs
 ·obtain⟨_,_,xs,_,dd⟩:=jb I.hok e
  exact dd.typeIs
noncomputable def vW(td ty:TE):TE:=fun σ H Q=>td σ H fun x H1=>ty σ H1 fun y H2=>∃a v,x=.ref a∧dS H2 a y (some v)∧Q v H2
noncomputable def CF(ty td:TE):TE:=fun σ H Q=>ty σ H fun y H1=>td σ H1 fun x H2=>∃a o,x=.ref a∧dS H2 a y o∧Q (.bl o.isSome) H2
noncomputable def o7(ty td:TE):TE:=fun σ H Q=>ty σ H fun y H1=>td σ H1 fun x H2=>∃a o,x=.ref a∧dS H2 a y o∧Q (.bl (!o.isSome)) H2
noncomputable def vY(td ty tv:TE):TS:=fun D σ H=>tv σ H fun v H1=>td σ H1 fun x H2=>ty σ H2 fun y H3=>∃a H4,x=.ref a∧lS H3 a y v H4∧D.nx σ H4
section
variable{X:Cx}{o i e value:Expr}{pos pos' tpos:Pos}{td ty tv:TE}
theorem kZ(hu:X.A.units+1<cLine)(ho:PE X o td)(hi:PE X i ty)(hs:BC i):PE X (.Subscript o i pos) (vW td ty):=by
 intro pins s σ H Q I h
 refine vy PySem.F.slot_dict_getitem.lookup hs (thn (ho pins s σ H _ I h) fun u s1 z1_=>?_)
 obtain⟨x,H1,I1,rx,q1⟩:=z1_
 refine thn (hi pins s1 σ H1 _ I1 q1) fun iv s2 zz_=>?_
 obtain⟨y,H2,I2,ry,a,v,ex,g,q2⟩:=zz_
 subst ex
 obtain rfl:u=Value.ref a:=rx
 exact⟨li I2 g,pX hu I2 g ry fun w' s3 I3 rw'=>⟨v,H2,I3,rw',q2⟩⟩
theorem qD(hu:X.A.units+1<cLine)(hi:PE X i ty)(ho:PE X o td):PC X .In i o (CF ty td):=by
 intro pins s σ H Q I h
 refine thn (hi pins s σ H _ I h) fun iv s1 z2_=>?_
 obtain⟨y,H1,I1,ry,q1⟩:=z2_
 refine thn (ho pins s1 σ H1 _ I1 q1) fun u s2 zz_=>?_
 obtain⟨x,H2,I2,rx,a,ov,ex,g,q2⟩:=zz_
 subst ex
 obtain rfl:u=Value.ref a:=rx
 exact DE hu I2 g ry fun s3 I3=>⟨.bl ov.isSome,H2,I3,rfl,q2⟩
theorem jO(hu:X.A.units+1<cLine)(hi:PE X i ty)(ho:PE X o td):PC X .NotIn i o (o7 ty td):=by
 intro pins s σ H Q I h
 refine thn (hi pins s σ H _ I h) fun iv s1 z3_=>?_
 obtain⟨y,H1,I1,ry,q1⟩:=z3_
 refine thn (ho pins s1 σ H1 _ I1 q1) fun u s2 zz_=>?_
 obtain⟨x,H2,I2,rx,a,ov,ex,g,q2⟩:=zz_
 subst ex
 obtain rfl:u=Value.ref a:=rx
 exact tZ hu I2 g ry fun s3 I3=>⟨.bl (!ov.isSome),H2,I3,rfl,q2⟩
theorem iB(hu:X.A.units+1<cLine)(ho:PE X o td)(hi:PE X i ty)(hv:PE X value tv)(hs:swapsWith value (some (.Subscript o i pos')) pos.line X.env=pure false) :
  PS X (.Assign [.Subscript o i pos'] value pos) (vY td ty tv):=by
 intro pins s σ H D I h
 refine wpAny_Assign_Subscript (thn (hv pins s σ H _ I h) fun r s1 z4_=>?_) hs
 obtain⟨v,H1,I1,rv,q1⟩:=z4_
 refine thn (ho pins s1 σ H1 _ I1 q1) fun u s2 z5_=>?_
 obtain⟨x,H2,I2,rx,q2⟩:=z5_
 refine thn (hi pins s2 σ H2 _ I2 q2) fun iv s3 zz_=>?_
 obtain⟨y,H3,I3,ry,a,H4,ex,g,q3⟩:=zz_
 subst ex
 obtain rfl:u=Value.ref a:=rx
 exact qa hu I3 g ry rv fun s4 I4=>⟨σ,H4,I4,q3⟩
end
theorem rH{P:Program}{w:World}{H:Hp}(h:Heap)(hb:sysModules<h.objs.size):bF P w H (h.push { cls:=.type "dict",data:=.dict #[] }) h.objs.size (.dT []) :=
 ⟨yq _,beq_eq_false_iff_ne.mpr (yta (yF hb)),[],.nil,_,#[],0,Heap.get?_push_size _ rfl,⟨rfl,rfl,rfl⟩,rfl,rfl,yia⟩
noncomputable def qQ:TE:=fun _ H Q=>∀p,H p=none→Q (.ref p) (upd H p (.dT []))
section
variable{X:Cx}{pos:Pos}
theorem fV:PE X (.Dict [] [] pos) qQ:=fun pins s σ H Q I h =>
 wpAny_Dict_empty ⟨.ref s.heap.objs.size,_,I.laid (a:=s.heap.objs.size) (o:=.dT []) (t':=s.toks) (fun _ _ q=>Heap.get?_push_of_some _ q) (yd _) (rH s.heap I.big),rfl,h _ (I.hok.fresh (yd _))⟩
end
structure M2(X:Cx)(o:Expr)(m:Str)(apos:Pos)(e f:Expr)(cpos:Pos):Prop where
 base:attributeBase o m X.env (eval o X.env)=eval o X.env
 few:((backTo cpos (starEach [e,f] X.env)).all (fun x=>!x.1)&&(backToKw cpos (keywordEach [] X.env)).all (fun x=>x.1.isSome)
  && decide (([e,f]:List Expr).length+([]:List Keyword).length+(if ([]:List Keyword).isEmpty then 0 else 1)<30))=true
 line:(apos.endLine == cpos.line)=true
 trees:backTo cpos (starEach [e,f] X.env)=[(false,eval e X.env),(false,eval f X.env)]
noncomputable def IsD(H:Hp)(a:Addr):Prop:=(∃kvs,Rd H a (.dK kvs))∨∃kvs,Rd H a (.dT kvs)
theorem xK{X:Cx}{pins:List (Addr×Obj)}{σ:St}{H:Hp}{s:Shared}{a:Addr}(I:Inv X pins σ H s)(d:IsD H a) :
  s.TypeIs (.ref a) "dict" ∧ (∀b,Value.ref a=.ref b→∃ob,s.heap.get? b=some ob∧ob.dict=none)∧(a == sysModules)=false:=by
 rcases d with ⟨kvs,e⟩ | ⟨kvs,e⟩
 ·obtain⟨_,hd,vs,_,dd⟩:=iH I.hok e
  refine⟨dd.typeIs,fun b q=>?_,hd⟩
  cases q
  obtain⟨ob,_,_,h1,h2,_⟩:=dd
  exact⟨ob,h1,h2.2.1⟩
 ·obtain⟨_,hd,xs,_,dd⟩:=jb I.hok e
  refine⟨dd.typeIs,fun b q=>?_,hd⟩
  cases q
  obtain⟨ob,_,_,h1,h2,_⟩:=dd
  exact⟨ob,h1,h2.2.1⟩
section
variable{X:Cx}{pins:List (Addr×Obj)}{σ:St}{H:Hp}{s:Shared}{a:Addr}{y d:V}{u r:Value}{o:Option V}{A:Around}{E:Value→Shared→Prop}
theorem Ad{Q:Value→Shared→Prop}(hu:A.units+1<cLine)(I:Inv X pins σ H s)(g:dS H a y o)(ry:bu y u)(rd:bu d r)(h:∀w' s',Inv X pins σ H s'→bu (o.getD d) w'→Q w' s') :
  wpAny (model X.prog X.w) A (call (.builtin "dict.get") [.ref a,u,r]) Q E s:=by
 rcases g with ⟨kvs,k,e,ey,l⟩ | ⟨kvs,k,b,e,ey,eb,l⟩
 ·subst ey
  obtain⟨z,hd,vs,rel,dd⟩:=iH I.hok e
  refine call_meetsIn PySem.F.slot_dict_get dd.typeIs PySem.F.entry_dict_get (PySem.F.args_dict_get_3 _ _ _) (meets_dict_get_default (bE X.prog X.w) a (jE ry) hd r) ⟨_,dd.mapOf,h _ _ (I.tok _) ?_⟩
  rw[l]
  exact(rel.val k).getD rd
 ·subst ey
  cases (show u=Value.ref b from ry)
  obtain⟨z,hd,xs,rel,dd⟩:=jb I.hok e
  refine call_meetsIn PySem.F.slot_dict_get dd.typeIs PySem.F.entry_dict_get (PySem.F.args_dict_get_3 _ _ _) (meetsH_dict_get_default (tupleKind (bE X.prog X.w)) a b hd r) ⟨tupleKind_room_in1 hu,k,xs,fM I.hok eb,dd,h _ _ (I.tok _) ?_⟩
  rw[l]
  exact(rel.val k).getD rd
end
noncomputable def sN(td ty tx:TE):TE:=fun σ H Q=>td σ H fun x H1=>∃a,x=.ref a∧IsD H1 a∧ty σ H1 fun y H2=>tx σ H2 fun z H3=>∃o,dS H3 a y o∧Q (o.getD z) H3
section
variable{X:Cx}{o e f:Expr}{apos cpos:Pos}{td ty tx:TE}
theorem eW(hu:X.A.units+1<cLine)(ho:PE X o td)(he:PE X e ty)(hf:PE X f tx)(m:M2 X o "get" apos e f cpos):PE X (.Call (.Attribute o "get" apos) [e,f] [] cpos) (sN td ty tx):=by
 intro pins s σ H Q I h
 refine wpAny_Call_method m.base m.few m.line PySem.F.plainAttrs_dict PySem.F.slot_dict_get PySem.F.type_dict_get (thn (ho pins s σ H _ I h) fun u s1 zz_=>?_)
 obtain⟨x,H1,I1,rx,a,ex,d,q1⟩:=zz_
 subst ex
 obtain rfl:u=Value.ref a:=rx
 obtain⟨t1,t2,_⟩:=xK I1 d
 refine⟨t1,t2,?_⟩
 rw[m.trees]
 refine Calls.callWith_builtin rfl (Calls.evalArgs_plain (Calls.spliced_cons (thn (he pins s1 σ H1 _ I1 q1) fun iv s2 ⟨y,H2,I2,ry,q2⟩ =>
  Calls.spliced_cons (thn (hf pins s2 σ H2 _ I2 q2) fun fv s3 ⟨z,H3,I3,rz,ov,g,q3⟩=>Calls.spliced_nil ?_))))
 exact Ad hu I3 g ry rz fun w' s4 I4 rw'=>⟨_,H3,I4,rw',q3⟩
end
section
variable{X:Cx}{pins:List (Addr×Obj)}{σ:St}{H:Hp}{s:Shared}{a:Addr}{kvs:List (Key×V)}{A:Around}{E:Value→Shared→Prop}
end
section
variable{X:Cx}{pins:List (Addr×Obj)}{σ:St}{H:Hp}{s:Shared}{a:Addr}{y:V}{u:Value}{A:Around}{E:Value→Shared→Prop}
end
end L2
namespace L2
open PySem PySem.Spec PyProof.Rows
section
variable{prog:Program}{w:World}{A:Around}{E:Value→Shared→Prop}{s:Shared}{it d:Addr}{i ep:Nat}{es:Array DictEntry}{o:Obj}
theorem rR{Q:Value→Shared→Prop}(hs:(d == sysModules)=false)(hd:s.heap.get? d=some o)(hx:o.ExactDict)(ht:s.TypeIs (.ref d) "dict")(hdat:o.data=.dict es ep)
  (hQ:Q (.ref s.heap.objs.size) { s with heap:=s.heap.push { cls:=.type "dict_keyiterator",data:=.fields #[.ref d,.int 0 0,.int es.size 0,.int ep 0] } }) :
  wpAny (model prog w) A (pyIter (.ref d)) Q E s:=by
 refine wpAny_pyIter_slot ht F.slot_dict_iter (wpAny_call_entry F.slot_dict_iter ht F.entry_dict_iter ?_ (F.args_dict_iter_1 _))
 unfold Builtin.«dict.__iter__» Builtin.Dict.dictSlotNone Builtin.Dict.showsAll
 refine wpAny_bind (wpAny_bind (wpAny_notOrdered_dict ht (wpAny_pure ?_)))
 show wpAny _ _ ((if (d == sysModules)=true then _ else _) >>= _) _ _ s
 rw[if_neg (by rw[hs];exact yl)]
 refine wpAny_bind (wpAny_pure (wpAny_bind (wpAny_dictEntries hd hdat (wpAny_bind (wpAny_dictEpoch hd hdat ?_)))))
 refine wpAny_bind (wpAny_newObj_type (wpAny_pure ⟨_,rfl,"dict_keyiterator",_,⟨_,Heap.get?_push_size _ rfl,rfl⟩,F.slot_dict_keyiterator_next.lookup,?_⟩))
 simpa [rawInt] using hQ
theorem sQ{Q:Option Value→Shared→Prop}(hit:s.heap.IsKeyIter it d i es.size ep)(hd:s.heap.get? d=some o)(hdat:o.data=.dict es ep)(hlt:i<es.size)
  (hQ:∀h',h'.IsKeyIter it d (i+1) es.size ep→Heap.SameBut it s.heap h'→Q (some es[i].key) { s with heap:=h' }) :
  wpAny (model prog w) A (pyNext (.ref it)) Q E s:=by
 obtain⟨oi,ho,hc,hf⟩:=id hit
 have hown:Builtin.Dict_items.ownsTuple "dict_keyiterator" = false:=by decide
 unfold pyNext
 refine wpAny_bind (wpAny_attempt (wpAny_callSpecial?_slot (name:=Str.ofString "__next__") hit.typeIs F.slot_dict_keyiterator_next
  (wpAny_call_entry F.slot_dict_keyiterator_next hit.typeIs F.entry_dict_keyiterator_next (wpAny_bind (wpAny_pure (wpAny_bind (wpAny_bind ?_)))) (F.args_dict_keyiterator_next_1 _))))
 refine wpAny_bind (wpAny_typeNameOfWhole_keyiter hit.typeIs (wpAny_pure (wpAny_bind (wpAny_fieldsOf ho hf ?_))))
 simp only[hown,yDa,if_false]
 show wpAny _ _ (if (Value.ref d == Value.none)=true then _ else _) _ _ s
 rw[if_neg (show ¬((Value.ref d == Value.none)=true) from yl)]
 refine wpAny_bind (wpAny_pure (wpAny_bind (wpAny_dictEntries hd hdat ?_)))
 rw[if_neg (by simp)]
 refine wpAny_bind (wpAny_pure (wpAny_bind (wpAny_dictEpoch hd hdat ?_)))
 rw[if_neg (by simp)]
 refine wpAny_pure ?_
 simp only[show ¬((i:Int)<0) from by lia,if_false,ye,ysa hlt]
 refine wpAny_bind (wpAny_bind (wpAny_typeNameOfWhole_keyiter hit.typeIs (wpAny_pure (wpAny_bind (wpAny_isOneOf_keyiter hit.typeIs ?_)))))
 show wpAny _ _ (setField (.ref it) 1 (rawInt ((i:Int)+1)) >>= _) _ _ s
 refine wpAny_bind (wpAny_setField ho hf (by simp) ?_)
 have hit2:(s.heap.update it (Obj.mapFields (·.setIfInBounds 1 (rawInt ((i:Int)+1))))).IsKeyIter it d (i+1) es.size ep :=
  ⟨_,Heap.get?_update_self _ ho (Obj.isFreed_of_fields (Obj.data_mapFields hf _)),(Obj.cls_mapFields ..).trans hc,by rw[Obj.data_mapFields hf];simp[rawInt]⟩
 refine wpAny_bind (wpAny_holding (wpAny_bind (wpAny_isOneOf_keyiter (s:={ s with heap:=s.heap.update it (Obj.mapFields (·.setIfInBounds 1 (rawInt ((i:Int)+1)))) }) hit2.typeIs ?_)))
 show wpAny _ _ (pure es[i].key) _ _ _
 exact wpAny_pure (wpAny_pure ⟨_,rfl,wpAny_pure (hQ _ hit2 (Heap.SameBut.update ..))⟩)
theorem tE{Q:Option Value→Shared→Prop}(hh:A.handled=none)(hit:s.heap.IsKeyIter it d i es.size ep)(hd:s.heap.get? d=some o)(hdat:o.data=.dict es ep)(hge:es.size≤i)
  (hQ:∀h',Heap.ExtBut it s.heap h'→Q none { s with heap:=h' }):wpAny (model prog w) A (pyNext (.ref it)) Q E s:=by
 obtain⟨oi,ho,hc,hf⟩:=id hit
 have hown:Builtin.Dict_items.ownsTuple "dict_keyiterator" = false:=by decide
 unfold pyNext
 refine wpAny_bind (wpAny_attempt (wpAny_callSpecial?_slot (name:=Str.ofString "__next__") hit.typeIs F.slot_dict_keyiterator_next
  (wpAny_call_entry F.slot_dict_keyiterator_next hit.typeIs F.entry_dict_keyiterator_next (wpAny_bind (wpAny_pure (wpAny_bind (wpAny_bind ?_)))) (F.args_dict_keyiterator_next_1 _))))
 refine wpAny_bind (wpAny_typeNameOfWhole_keyiter hit.typeIs (wpAny_pure (wpAny_bind (wpAny_fieldsOf ho hf ?_))))
 simp only[hown,yDa,if_false]
 show wpAny _ _ (if (Value.ref d == Value.none)=true then _ else _) _ _ s
 rw[if_neg (show ¬((Value.ref d == Value.none)=true) from yl)]
 refine wpAny_bind (wpAny_pure (wpAny_bind (wpAny_dictEntries hd hdat ?_)))
 rw[if_neg (by simp)]
 refine wpAny_bind (wpAny_pure (wpAny_bind (wpAny_dictEpoch hd hdat ?_)))
 rw[if_neg (by simp)]
 refine wpAny_pure ?_
 simp only[show ¬((i:Int)<0) from by lia,if_false,ye,yrb hge]
 refine wpAny_bind (wpAny_bind (wpAny_typeNameOfWhole_keyiter hit.typeIs (wpAny_pure ?_)))
 show wpAny _ _ (setField (.ref it) 0 .none >>= _) _ _ s
 refine wpAny_bind (wpAny_setField ho hf (by simp) ?_)
 show wpAny _ _ (newExc (.type "StopIteration") [] >>= _) _ _ _
 simp only[newExc,newTuple]
 refine wpAny_bind (wpAny_bind (wpAny_newObj_type ?_ (by size_fits)))
 refine wpAny_bind (m:=firstArgMember _ _) (wpAny_of_eq (a:=Value.none) (by first | rfl | (simp only[firstArgMember];rfl)) (wpAny_newObj_type ?_ (by size_fits)))
 simp only[raiseNew]
 refine wpAny_bind (wpAny_handled ?_)
 rw[show A.in1.handled=none from hh]
 refine wpAny_bind (wpAny_pure (wpAny_throw ?_))
 refine wpAny_bind (wpAny_isInstance (T := "StopIteration") (b:=true) ⟨_,Heap.get?_push_size _ rfl,rfl⟩ isSubtype_stop ?_)
 exact wpAny_pure (hQ _ (((Heap.SameBut.update ..).extBut.push _).push _))
end
noncomputable def Itd(d:Addr)(ob:Obj)(kvs:List (List Key×V)):It :=
 ⟨fun i H=>H d=some (.frz ob (.dT kvs))∧i<kvs.length,fun i H x H'=>H'=H∧∃b k v,kvs[i]? = some (k,v)∧x=.ref b∧H b=some (.tup (k.map kV)),fun i H=>H d=some (.frz ob (.dT kvs))∧kvs.length≤i⟩
theorem nY{P:Program}{w:World}{K:PySem.W.Frag}{tg:Expr}(d it:Addr)(ob:Obj)(es:Array DictEntry)(ep:Nat)(kvs:List (List Key×V))(hdat:ob.data=.dict es ep)(hsz:es.size=kvs.length) :
  ly P w K tg (Itd d ob kvs) [it] it (fun i h=>h.IsKeyIter it d i es.size ep) where
 mem:=by simp
 obj:=fun i h st b hb=>by
  have e:b=it:=by simpa using hb
  subst e
  obtain⟨o,e,c,dd⟩:=st
  exact⟨o,e,fun v z=>by rw[dd] at z;cases z⟩
 keep:=fun i h h' st k=>st.at fun o e=>k it (by simp) o e
 item:=by
  intro X hP hw hK hc i pins s σ H E I hf st hg
  subst hP hw hK
  obtain⟨hH,hlt⟩:=hg
  obtain⟨f0,f1,f2,f3,f4,f5⟩:=hf it (by simp)
  obtain⟨hob,hz,hsm,xs,rel,o',es',ep',g1,g2,g3,g4,g5⟩:=(show bF X.prog X.w H s.heap d (.frz ob (.dT kvs)) from I.hok d _ hH)
  rw[hob] at g1
  cases g1
  rw[hdat] at g3
  cases g3
  have hlt':i<es.size:=by lia
  refine sQ st hob hdat hlt' fun h' st' sb=>?_
  have I1:Inv X pins σ H { s with heap:=h' }:=I.turned (t':=s.toks) (fun b o hb e=>(sb.2 b hb).trans e) f0 f1 f3 f4 f5
  have hxl:xs.length=kvs.length:=(Paired.length rel).symm
  have hxi:xs[i]? = some xs[i]:=yb (by lia)
  have hki:kvs[i]? = some kvs[i]:=yb hlt
  obtain⟨q,hq,r1,r2,r3⟩:=Paired.get' rel hki
  rw[hxi] at hq
  have hq':xs[i]=q:=yt hq
  have hkey:es[i].key=.ref q.2.1:=by
   have z:es.toList[i]? = (xs.map (entryOfKey (tupleKind (bE X.prog X.w))))[i]?:=by rw[g4]
   rw[yj,hxi,ytb,ysa hlt'] at z
   have z':=yt z
   rw[z',hq']
   rfl
  rw[hkey]
  obtain⟨oi,ei,ci,di⟩:=id st'
  exact⟨_,rfl,lD (s:={ s with heap:=h' }) ei ci di (by decide) ⟨.ref q.2.1,H,I1,rfl,⟨rfl,q.2.1,kvs[i].1,kvs[i].2,hki,rfl,r2⟩,st',fun b hb=>(hf b hb).1⟩⟩
 done:=by
  intro X hP hw hK hc i pins s σ H E I hf st hg
  subst hP hw hK
  obtain⟨hH,hge⟩:=hg
  obtain⟨f0,f1,f2,f3,f4,f5⟩:=hf it (by simp)
  obtain⟨hob,_⟩:=(show bF X.prog X.w H s.heap d (.frz ob (.dT kvs)) from I.hok d _ hH)
  exact tE (I.ok.hd hc) st hob hdat (by lia) fun h' eb=>⟨rfl,I.turned (t':=s.toks) (fun b o hb e=>eb b o hb e) f0 f1 f3 f4 f5⟩
 self:=fun _ _ _ _ _ st h=>wpAny_pyIter_keyiter st h
section
variable{X:Cx}{pins:List (Addr×Obj)}{σ:St}{H:Hp}{s:Shared}{d:Addr}{kvs:List (List Key×V)}
theorem sG{P:Program}{w:World}{h:Heap}{o:HO}(n:∀xs,H d≠some (.tup xs))(x:bF P w H h d (.dT kvs)):bF P w (upd H d o) h d (.dT kvs):=by
 obtain⟨hz,hsm,xs,rel,rest⟩:=x
 refine⟨hz,hsm,xs,?_,rest⟩
 clear rest hz hsm
 induction rel with
 | nil=>exact .nil
 | cons a _ ih=>exact .cons ⟨a.1,by rw[au fun z=>n _ (by rw[← z];exact a.2.1)];exact a.2.1,a.2.2⟩ ih
theorem Inv.freeze{ob:Obj}(I:Inv X pins σ H s)(e:H d=some (.dT kvs))(g:s.heap.get? d=some ob):Inv X pins σ (upd H d (.frz ob (.dT kvs))) s :=
 I.write (t':=s.toks) (x:=d) (e:=d) (by rw[e];exact True.intro) (.inl rfl) (fun _ _ _ q=>q) ⟨_,g⟩ ⟨g,sG (fun xs z=>by rw[e] at z;cases z) (I.hok d _ e)⟩
theorem Inv.thaw{ob:Obj}(I:Inv X pins σ H s)(e:H d=some (.frz ob (.dT kvs)))(hb:∀o u,X.H₀ d≠some (.frz o u)):Inv X pins σ (upd H d (.dT kvs)) s:=by
 have up:∀b u,H b=some u→b≠d→upd H d (.dT kvs) b=some u:=fun b u q z=>by rw[au z];exact q
 have no:∀b,H b=none→upd H d (.dT kvs) b=none:=fun b q=>by rw[au fun z=>by rw[z,e] at q;cases q];exact q
 refine⟨I.ok,I.os,I.bare,⟨I.base.keep,I.base.slot,fun b o e1 n hx=>no b (I.base.free b o e1 n hx),I.base.there,fun b xs q=>?_,fun b o u q=>?_,fun b ps q=>?_⟩,I.loc,I.cell,no _ I.free,fun x c q=>no _ (I.freeC x c q),fun p hp=>?_,fun b u q=>?_,I.len⟩
 ·have z:=I.base.tups b xs q
  exact up b _ z fun y=>by rw[y,e] at z;cases z
 ·exact up b _ (I.base.frzs b o u q) fun y=>hb o u (by rw[← y];exact q)
 ·obtain⟨m,z⟩:=I.base.tbls b ps q
  exact⟨m,up b _ z fun y=>by rw[y,e] at z;cases z⟩
 ·obtain⟨p1,p2,p3⟩:=I.pin p hp
  exact⟨p1,no _ p2,p3⟩
 ·by_cases z:b=d
  ·subst z
   rw[ae] at q
   cases q
   exact sG (fun xs y=>by rw[e] at y;cases y) (show bF X.prog X.w H s.heap b (.frz ob (.dT kvs)) from I.hok b _ e).2
  ·rw[au z] at q
   exact(I.hok b u q).stay (fun c v _ y=>y) (fun c y=>up _ _ y fun w=>by rw[w,e] at y;cases y) fun c xs y=>up _ _ y fun w=>by rw[w,e] at y;cases y
end
noncomputable def iDT(te:TE):TI:=fun σ H R=>te σ H fun x H1=>∃d kvs,x=.ref d∧H1 d=some (.dT kvs)∧∀ob,R (Itd d ob kvs) (upd H1 d (.frz ob (.dT kvs)))
theorem iP{X:Cx}{tg:Expr}{e:Expr}{te:TE}(he:PE X e te):PI X tg e (iDT te):=by
 intro pins s σ H R I h
 refine thn (he pins s σ H _ I h) fun v s1 zz_=>?_
 obtain⟨x,H1,I1,r1,q1⟩:=zz_
 obtain⟨d,kvs,rfl,hd,q⟩:=q1
 cases r1
 obtain⟨hz,hsm,xs,rel,o,es,ep,g1,g2,g3,g4,g5⟩:=id (show bF X.prog X.w H1 s1.heap d (.dT kvs) from I1.hok d _ hd)
 have hxl:xs.length=kvs.length:=(Paired.length rel).symm
 have hsz:es.size=kvs.length:=by
  rw[← hxl,← yfa,g4,ya]
 have hty:s1.TypeIs (.ref d) "dict" := ⟨o,g1,g2.1⟩
 have I2:=I1.freeze hd g1
 refine rR hsm g1 g2 hty g3 ?_
 refine⟨s1.heap.objs.size,[s1.heap.objs.size],_,_,_,rfl,I2.kept (t':=s1.toks) fun b o e=>Heap.get?_push_of_some _ e,nY d _ o es ep kvs g3 hsz,⟨_,Heap.get?_push_size _ rfl,rfl,rfl⟩,fun b hb=>?_,q o⟩
 have e:b=s1.heap.objs.size:=by simpa using hb
 subst e
 exact I2.fpOk (yd _) (I2.hok.fresh (yd _))
noncomputable def wt(H0:Hp)(t:TS):TS:=fun D σ H=>∃d ob kvs,H d=some (.frz ob (.dT kvs))∧(∀o u,H0 d≠some (.frz o u))∧t D σ (upd H d (.dT kvs))
theorem gF{X:Cx}{sts:List Stmt}{t:TS}(h:PSs X sts t):PSs X sts (wt X.H₀ t):=by
 intro pins s σ H D I hq
 obtain⟨d,ob,kvs,e,hb,q⟩:=hq
 exact h pins s σ _ D (I.thaw e hb) q
end L2
namespace My
open PySem L2
theorem hG{d:Addr}{ob:Obj}{kvs:List (List Key×V)}{σ:St}{H:Hp}{DN:St→Hp→Prop}{B:(St→Hp→Prop)→V→St→Hp→Prop}(Pv:Nat→St→Hp→Prop)(h0:Pv 0 σ H)
  (hl:∀i σ H,i≤kvs.length→Pv i σ H→H d=some (.frz ob (.dT kvs)))
  (hs:∀i b k v σ H,kvs[i]? = some (k,v)→H b=some (.tup (k.map kV))→Pv i σ H→B (Pv (i+1)) (.ref b) σ H) (hd:∀σ H,Pv kvs.length σ H→DN σ H) :
  ∃W:Nat→Nat→St→Hp→Prop,(∃m,W 0 m σ H)∧∀i m σ H,W i m σ H →
   ((Itd d ob kvs).stop i H∧DN σ H)∨((Itd d ob kvs).go i H∧∃N:St→Hp→Prop,(∀σ' H',N σ' H'→∃m',m'<m∧W (i+1) m' σ' H')∧∀x H',(Itd d ob kvs).yld i H x H'→B N x σ H'):=by
 refine⟨fun i m σ H=>m=kvs.length-i∧i≤kvs.length∧Pv i σ H,⟨kvs.length,by simp,yq _,h0⟩,?_⟩
 rintro i m σ H ⟨rfl,hi,p⟩
 have q:=hl i σ H hi p
 by_cases hlt:i<kvs.length
 ·refine .inr ⟨⟨q,hlt⟩,Pv (i+1),fun σ' H' p'=>⟨kvs.length-(i+1),by omega,rfl,hlt,p'⟩,fun x H' y=>?_⟩
  obtain⟨e,b,k,v,h1,h2,h3⟩:=y
  subst e h2
  exact hs i b k v σ _ h1 h3 p
 ·have e:i=kvs.length:=by lia
  subst e
  exact .inl ⟨⟨q,yd _⟩,hd σ H p⟩
end My
namespace L2
open PySem PySem.Spec PyProof.Rows
variable{X:Cx}
theorem hJ(hc:X.calm=true):cu X (.builtin "sum") (fun xs H Q=>∃(p:Addr) (ns:List Int),xs=[.ref p]∧SqL X.K H p (ns.map V.int)∧Q (.int ns.sum) H):=by
 intro pins s σ H xs us Q I r h
 obtain⟨p,ns,rfl,hp,q⟩:=h
 obtain⟨u,rfl,ru⟩:=gK r
 cases ru
 obtain⟨its,ri,pl,hz⟩:=I.list hp
 have hl:=ri.length
 rw[ya] at hl
 refine call_sum_walkG (wpAny_pyIter_list pl.isList ?_)
 have hlt:p<s.heap.objs.size:=by obtain⟨o,e,_⟩:=pl.isList;exact Heap.lt_size e
 refine⟨s.heap.objs.size,_,_,_,_,_,fun i=>ns[i]?.getD 0,rfl,Walks.list (A:=X.A.in1) (I.ok.hd hc) s.heap.objs.size p (yF hlt) its.toArray,⟨⟨_,Heap.get?_push_size _ rfl,rfl,rfl⟩,pl.isList.at fun o e=>Heap.get?_push_of_some _ e⟩,?_,?_,?_⟩
 ·intro b hb
  have:b=s.heap.objs.size∨b=p:=by simpa using hb
  rcases this with rfl | rfl
  ·show _<(Heap.push _ _).objs.size
   rw[Heap.size_push];exact yeb _
  ·show _<(Heap.push _ _).objs.size
   rw[Heap.size_push];exact yab hlt
 ·intro i v hv
  have hv':its[i]? = some v:=by simpa using hv
  have hi:i<its.length:=(List.getElem?_eq_some_iff.mp hv').1
  have hb:(ns.map V.int)[i]? = some (.int (ns[i]'(by lia))):=by rw[yj,yb (by lia)];rfl
  obtain⟨w',e,rw'⟩:=ri.get hb
  rw[hv'] at e
  cases e
  obtain⟨t,rfl⟩:=rw'
  exact⟨t,by dsimp only;rw[yb (by lia)];rfl⟩
 ·intro h' tk t' hk
  have e:preSum (fun i=>ns[i]?.getD 0) its.toArray.size=ns.sum:=by
   rw[yh,← hl,im ns _ (yd _),yo]
  rw[e]
  refine⟨.int _,H,I.kept fun b o e=>hk b o ?_ (Heap.get?_push_of_some _ e),⟨_,rfl⟩,q⟩
  intro z
  have z':b=s.heap.objs.size:=by simpa using z
  exact absurd (Heap.lt_size e) (by rw[z'];exact yZ _)
noncomputable def Fa:List V→Hp→VK→Prop:=fun xs H Q=>∃a kvs,xs=[.ref a,.ty "dict"]∧H a=some (.dT kvs)∧Q (.bl true) H
noncomputable def ud:V→List V→Hp→VK→Prop:=fun x vs H Q=>∃a kvs,x=.ref a∧vs=[]∧H a=some (.dT kvs)∧Q .non (upd H a (.dT []))
end L2
namespace My
open PySem L2
theorem ee(a:Int)(n:Nat):(bh a n).length=n:=by unfold bh;rw[ya,yx]
theorem dm{ps:List Pst}{v:Int}:v∈bL ps↔1≤v∧v≤ps.length:=by
 unfold bL bh
 rw[yk]
 constructor
 ·rintro⟨j,hj,rfl⟩
  have:=yp.mp hj
  lia
 ·rintro⟨h1,h2⟩
  exact⟨v.toNat-1,yp.mpr (by lia),by lia⟩
theorem fN(ps:List Pst):(bL ps).Nodup:=by
 unfold bL bh
 exact ybb _ (fun a b h z=>h (by lia)) yKa
theorem cB(ps:List Pst):(bL ps).length=ps.length:=by unfold bL;exact ee _ _
end My
namespace L2
open PySem PySem.Spec PyProof.Rows
noncomputable def Itz(K:PySem.W.Frag)(a b:Addr):It :=
 ⟨fun i H=>∃xs ys x y,SqL K H a xs∧SqL K H b ys∧xs[i]? = some x∧ys[i]? = some y,
  fun i H v H'=>∃t x y,v=.ref t∧H t=none∧H'=upd H t (.tup [x,y])∧(∀xs,SqL K H a xs→xs[i]? = some x)∧(∀ys,SqL K H b ys→ys[i]? = some y),
  fun i H=>∃xs ys,SqL K H a xs∧SqL K H b ys∧(xs[i]? = none∨ys[i]? = none)⟩
section
variable{X:Cx}{pins:List (Addr×Obj)}{σ:St}{H:Hp}{s:Shared}
end
noncomputable def Ew(K:PySem.W.Frag)(ta:TA):TI:=fun σ H R=>ta σ H fun vs H1=>∃a b,vs=[.ref a,.ref b]∧(∃xs,SqL K H1 a xs)∧(∃ys,SqL K H1 b ys)∧R (Itz K a b) H1
end L2
namespace My
open PySem L2
theorem nho:¬(("hand":Str) = "other"):=by decide +kernel
noncomputable def ho(h o:Int):List (Str×V):=bA "other" (.int o) (bA "hand" (.int h) [])
theorem kg(h o:Int):(ho h o).lookup ("hand":Str)=some (.int h):=by
 unfold ho
 rw[ar,if_neg nho,ar,if_pos rfl]
theorem lQ(h o:Int):(ho h o).lookup ("other":Str)=some (.int o):=by
 unfold ho
 rw[ar,if_pos rfl]
theorem vQ(h o:Int){x:Str}(h1:¬ x = "other")(h2:¬ x = "hand"):(ho h o).lookup x=none:=by
 unfold ho
 rw[ar,if_neg h1,ar,if_neg h2]
 rfl
noncomputable def gj(P d:Nat):List (Int×Int):=(List.range d).flatMap fun i:Nat=>(bh 1 P).map fun p=>((i:Int),p)
theorem gY(P d:Nat):gj P (d+1)=gj P d++(bh 1 P).map fun p=>((d:Int),p):=by
 unfold gj
 rw[yO,yga,yIa]
theorem eU(P:Nat):∀d,(gj P d).length=d*P
 | 0=>by simp[gj]
 | d+1=>by rw[gY,yf,eU P d,ya,ee,yya]
theorem jG{P:Nat}{v:Int}:v∈bh 1 P↔1≤v∧v≤P:=by
 unfold bh
 rw[yk]
 constructor
 ·rintro⟨j,hj,rfl⟩
  have:=yp.mp hj
  lia
 ·rintro⟨h1,h2⟩
  exact⟨v.toNat-1,yp.mpr (by lia),by lia⟩
theorem i7{P d:Nat}{q:Int×Int}:q∈gj P d↔(0≤q.1∧q.1<d)∧1≤q.2∧q.2≤P:=by
 unfold gj
 rw[yza]
 constructor
 ·rintro⟨i,hi,h⟩
  obtain⟨p,hp,rfl⟩:=yk.mp h
  have:=yp.mp hi
  have:=jG.mp hp
  refine⟨⟨?_,?_⟩,this⟩
  ·show(0:Int)≤(i:Int);lia
  ·show(i:Int)<d;lia
 ·rintro⟨⟨h0,h1⟩,h2⟩
  exact⟨q.1.toNat,yp.mpr (by lia),yk.mpr ⟨q.2,jG.mpr h2,Prod.ext (by show((q.1.toNat:Nat):Int)=q.1;lia) rfl⟩⟩
noncomputable def ms(h o n b:Int)(q:Int×Int):Lin:=⟨[⟨h,q.1,q.2,-1⟩,⟨o,q.1,q.2,n⟩],b⟩
noncomputable def c6(h o n b:Int)(P d:Nat):List Lin:=(gj P d).map (ms h o n b)
noncomputable def xV(f g:Nat→Int)(s b:Int)(q:Int×Int):Int×Int:=(s*(if g q.1.toNat=q.2 then 1 else 0)-(if f q.1.toNat=q.2 then 1 else 0),b)
noncomputable def zR(f g:Nat→Int)(s b:Int)(P d:Nat):List (Int×Int):=(gj P d).map (xV f g s b)
theorem qG(rows:List (List Int))(h o:Nat)(n b:Int)(P d:Nat):(c6 h o n b P d).map (fun ℓ=>(tot rows ℓ.ps,ℓ.b))=zR (val rows h) (val rows o) n b P d:=by
 unfold c6 zR
 rw[yW]
 refine yR fun q _=>?_
 show(tot rows ([⟨h,q.1,q.2,-1⟩]++[⟨o,q.1,q.2,n⟩]),b)=xV _ _ n b q
 unfold xV
 rw[dv,fg,fg]
 simp only[ye]
 congr 1
 split <;> split <;> simp <;> lia
theorem fk{ns:List Int}{i:Nat}{v:V}(h:(ns.map V.int)[i]? = some v):∃y,ns[i]? = some y∧V.int y=v:=by
 rw[yj] at h
 exact Option.map_eq_some_iff.mp h
theorem cK{X:Cx}{e:PySem.Expr}{t1 t2:TE}(h1:PE X e t1)(h2:PE X e t2):PE X e (fun σ H Q=>t1 σ H Q∨t2 σ H Q):=fun pins s σ H Q I h=>h.elim (fun h=>h1 pins s σ H Q I h) fun h=>h2 pins s σ H Q I h
end My
namespace My
open PySem L2
end My
namespace My
open PySem L2
end My
set_option maxHeartbeats 4000000
namespace My
open PySem L2
noncomputable def plN(n:Nat)(k:Nat):List Nat:=(List.range k).filter fun i=>n.testBit i
noncomputable def pl(n:Int):List Int:=(plN n.toNat 40).map fun i:Nat=>(i:Int)
theorem lN{n k m:Nat}(h:∀i,k≤i→n.testBit i=false)(hk:k≤m):plN n k=plN n m:=by
 unfold plN
 obtain⟨d,rfl⟩:∃d,m=k+d:=⟨m-k,by lia⟩
 rw[List.range_add,yM]
 have:(List.map (fun x=>k+x) (List.range d)).filter (fun i=>n.testBit i)=[]:=by
  rw[yJa]
  intro a ha
  obtain⟨b,_,rfl⟩:=yk.mp ha
  rw[h _ (by lia)];decide
 rw[this,yy]
theorem rk(n k:Nat):plN n (k+1)=plN n k++if n.testBit k then [k] else []:=by
 unfold plN
 rw[yO,yM]
 congr 1
 by_cases h:n.testBit k <;> simp[h]
theorem vb(n k:Nat):(plN n k).length≤k:=by
 have:=yK (fun i=>n.testBit i) (List.range k)
 simpa [plN] using this
theorem Eo{n:Int}(h0:0≤n)(h:n<2 ^ 40):n.toNat<2 ^ 40:=by
 have e:(2:Int) ^ 40=1099511627776:=by decide
 have e':(2:Nat) ^ 40=1099511627776:=by decide
 lia
theorem vH{n:Int}(h:0≤n)(i:Nat):decide (Builtin.bitAnd n (1*2 ^ i)=1*2 ^ i)=n.toNat.testBit i:=by
 have e:(1*2 ^ i:Int)=((2 ^ i:Nat):Int):=by simp
 have hi:(n.toNat &&& 2 ^ i=2 ^ i)↔n.toNat.testBit i=true:=by
  constructor
  ·intro z
   have:=congrArg (fun x=>x.testBit i) z
   simpa [yCa,yyb] using this
  ·intro z
   refine Nat.eq_of_testBit_eq fun j=>?_
   rw[yCa,yyb]
   by_cases q:i=j
   ·subst q;simp[z]
   ·simp[q]
 rw[e,PyProof.Rows.bitAnd_pp h (yY _),ye,yV,decide_eq_true_eq,← hi]
 lia
theorem tV{n:Int}(h0:0≤n)(h:n<2 ^ 40):Builtin.Int.intBits n≤40∧∀i,Builtin.Int.intBits n≤i→n.toNat.testBit i=false:=by
 have e:n.natAbs=n.toNat:=by lia
 constructor
 ·unfold Builtin.Int.intBits
  split
  ·exact yq _
  ·rename_i hz
   have hz':n.toNat≠0:=fun q=>hz (by simp;lia)
   have:n.toNat.log2<40:=(Nat.log2_lt hz').mpr (Eo h0 h)
   rw[e]
   lia
 ·intro i hi
  refine ysb ?_
  unfold Builtin.Int.intBits at hi
  split at hi
  ·rename_i hz
   have:n=0:=by simpa using hz
   subst this
   exact Nat.two_pow_pos i
  ·rename_i hz
   rw[e] at hi
   exact yB (Nat.lt_log2_self) (yRa (by decide) hi)
end My
set_option maxHeartbeats 1000000
namespace My
open PySem L2
noncomputable def ca(n:Nat)(d p:Int):List Prt:=(List.range n).map fun i:Nat=>⟨(i:Int),d,p,1⟩
noncomputable def kE(rows:List (List Int))(d:Nat)(p:Int):Nat:=(rows.filter fun row=>decide (row[d]?.getD 0=p)).length
theorem fS(n:Nat)(d p:Int):ca (n+1) d p=ca n d p++[⟨(n:Int),d,p,1⟩]:=by
 unfold ca
 rw[yO,yg]
 rfl
theorem lF(rows:List (List Int))(d:Nat)(p:Int):∀n,n≤rows.length→tot rows (ca n d p)=(((rows.take n).filter fun row=>decide (row[d]?.getD 0=p)).length:Int)
 | 0,_=>by simp[ca,tot]
 | n+1,h=>by
  have hn:n<rows.length:=by lia
  have e:rows[n]? = some rows[n]:=yb hn
  rw[fS,dv,lF rows d p n (by lia),fg,aP e,yM,yf]
  have ev:val rows n d=rows[n][d]?.getD 0:=by unfold val;rw[e];rfl
  simp only[ye]
  rw[ev]
  by_cases z:rows[n][d]?.getD 0=p
  ·rw[if_pos z,yT (by simpa using z)]
   simp
  ·rw[if_neg z,yS (by simpa using z)]
   simp
theorem qL(rows:List (List Int))(d:Nat)(p:Int):tot rows (ca rows.length d p)=(kE rows d p:Int):=by
 rw[lF rows d p rows.length (yd _),yo]
 rfl
noncomputable def dsN(days d:Nat):List Int:=((List.range d).filter fun i=>days.testBit i).map fun i:Nat=>(i:Int)
theorem zY{days d:Nat}(hd:d≤40):pl ((days &&& (2 ^ d-1):Nat):Int)=dsN days d:=by
 unfold pl dsN
 rw[ye]
 have h:plN (days &&& (2 ^ d-1)) 40=(List.range d).filter fun i=>days.testBit i:=by
  rw[← lN (k:=d) (m:=40) (fun i hi=>by rw[yCa,yXa,decide_eq_false (by lia),yEa]) hd]
  unfold plN
  refine ypa fun i hi=>?_
  have:=yp.mp hi
  rw[yCa,yXa,decide_eq_true this,Bool.and_true]
 rw[h]
noncomputable def ia(h:Int)(ps:List Pst)(days d:Nat):List Lin:=(dsN days d).map fun x=>⟨spr h [x] (bL ps) (-1),0⟩
noncomputable def At(row:List Int)(days d:Nat):List (Int×Int):=(dsN days d).map fun x=>(0-(if 0<row[x.toNat]?.getD 0 then 1 else 0),0)
theorem qW{rows:List (List Int)}{ps:List Pst}{row:List Int}{h days:Nat}(hr:rows[h]? = some row)(hv:∀x∈row,0≤x∧x≤(ps.length:Int)) :
  (ia h ps days row.length).map (fun ℓ=>(tot rows ℓ.ps,ℓ.b))=At row days row.length:=by
 unfold ia At
 rw[yW]
 refine yR fun x hx=>?_
 unfold dsN at hx
 obtain⟨i,hi,rfl⟩:=yk.mp hx
 have hil:=yp.mp (List.mem_filter.mp hi).1
 have ev:val rows h i=row[i]:=dH hr hil
 have eg:row[((i:Nat):Int).toNat]?.getD 0=row[i]:=by rw[ye,yb hil];rfl
 have:=hv _ (yQ hil)
 show(tot rows (spr h [(i:Int)] (bL ps) (-1)),(0:Int))=(0-(if 0<row[((i:Nat):Int).toNat]?.getD 0 then 1 else 0),0)
 rw[va rows h i (-1) (fN ps)]
 by_cases z:0<row[i]
 ·rw[if_pos (show 0<row[((i:Nat):Int).toNat]?.getD 0 by rw[eg];exact z),if_pos (by rw[ye,ye,ev];exact dm.mpr ⟨by lia,this.2⟩)]
  rfl
 ·rw[if_neg (show ¬ 0<row[((i:Nat):Int).toNat]?.getD 0 by rw[eg];exact z),if_neg fun w=>z (by rw[ye,ye,ev] at w;have:=dm.mp w;lia)]
  rfl
end My
namespace My
open PySem L2
theorem Dt:¬(("day":Str) = "post"):=by decide +kernel
theorem CL:¬(("day":Str) = "many"):=by decide +kernel
theorem Dy:¬(("post":Str) = "many"):=by decide +kernel
theorem BV:¬(("hand":Str) = "days"):=by decide +kernel
noncomputable def wf3(d p m:Int):List (Str×V):=bA "many" (.int m) (bA "post" (.int p) (bA "day" (.int d) []))
theorem kM(d p m:Int):(wf3 d p m).lookup ("day":Str)=some (.int d):=by
 unfold wf3
 rw[ar,if_neg CL,ar,if_neg Dt,ar,if_pos rfl]
theorem lv(d p m:Int):(wf3 d p m).lookup ("post":Str)=some (.int p):=by
 unfold wf3
 rw[ar,if_neg Dy,ar,if_pos rfl]
theorem lw(d p m:Int):(wf3 d p m).lookup ("many":Str)=some (.int m):=by
 unfold wf3
 rw[ar,if_pos rfl]
theorem rM(d p m:Int){x:Str}(h1:¬ x = "many")(h2:¬ x = "post")(h3:¬ x = "day"):(wf3 d p m).lookup x=none:=by
 unfold wf3
 rw[ar,if_neg h1,ar,if_neg h2,ar,if_neg h3]
 rfl
noncomputable def af2(h s:Int):List (Str×V):=bA "days" (.int s) (bA "hand" (.int h) [])
theorem jo(h s:Int):(af2 h s).lookup ("hand":Str)=some (.int h):=by
 unfold af2
 rw[ar,if_neg BV,ar,if_pos rfl]
theorem lY(h s:Int):(af2 h s).lookup ("days":Str)=some (.int s):=by
 unfold af2
 rw[ar,if_pos rfl]
theorem sY(h s:Int){x:Str}(h1:¬ x = "days")(h2:¬ x = "hand"):(af2 h s).lookup x=none:=by
 unfold af2
 rw[ar,if_neg h1,ar,if_neg h2]
 rfl
end My
namespace My
open PySem L2
theorem sD(n:Nat):((2:Int) ^ n-1)=((2 ^ n-1:Nat):Int):=by
 have h:1≤2 ^ n:=Nat.one_le_two_pow
 rw[Int.natCast_sub h,yob]
 rfl
theorem sx(s n:Nat):Builtin.bitAnd (s:Int) ((2:Int) ^ n-1)=((s &&& (2 ^ n-1):Nat):Int):=by
 rw[sD,PyProof.Rows.bitAnd_pp (yY _) (yY _),ye,ye]
theorem p5{s n:Nat}(h:s<2147483648):((s &&& n:Nat):Int)<2 ^ 40:=by
 have:s &&& n≤s:=Nat.and_le_left
 have e:(2:Int) ^ 40=1099511627776:=by decide
 lia
end My
namespace My
open PySem L2
end My
namespace My
open PySem L2
theorem gk(s i:Nat):(Builtin.bitAnd ((s:Int) / 2 ^ i) 1=1)↔s.testBit i=true:=by
 have e1:((s:Int) / 2 ^ i)=((s / 2 ^ i:Nat):Int):=by rw[Int.natCast_ediv,yob];rfl
 rw[e1,PyProof.Rows.bitAnd_pp (yY _) (by decide),ye,Nat.testBit_eq_decide_div_mod_eq,decide_eq_true_eq,show(1:Int).toNat=1 from rfl,Nat.and_one_is_mod]
 omega
theorem ml(s i:Nat):dsN s (i+1)=dsN s i++if s.testBit i=true then [(i:Int)] else []:=by
 unfold dsN
 rw[yO,yM,yg]
 congr 1
 cases h:s.testBit i
 ·rw[yS (by rw[h];exact yl)]
  rfl
 ·rw[yT (by exact h)]
  rfl
theorem iy(s i:Nat):(dsN s i).length≤i:=by
 unfold dsN
 rw[ya]
 exact yu (yK _ _) (by rw[yx];exact yd _)
end My
namespace My
open PySem L2 PySem.Spec
end My
namespace My
open PySem L2 PySem.Spec
end My
namespace My
open PySem L2 PySem.Spec
noncomputable def wkN(row:List Int)(s:Nat):Nat:=((List.range row.length).filter fun i=>decide (0<row[i]?.getD 0)&&s.testBit i).length
noncomputable def wkI(row:List Int)(s i:Nat):List Int:=((List.range i).filter fun i=>decide (0<row[i]?.getD 0)&&s.testBit i).map fun i:Nat=>(i:Int)
theorem se(row:List Int)(s i:Nat):wkI row s (i+1)=wkI row s i++if (decide (0<row[i]?.getD 0)&&s.testBit i)=true then [(i:Int)] else []:=by
 unfold wkI
 rw[yO,yM,yg]
 congr 1
 by_cases h:(decide (0<row[i]?.getD 0)&&s.testBit i)=true
 ·rw[if_pos h,yT (by exact h)];rfl
 ·rw[if_neg h,yS (by exact h)];rfl
theorem oQ(row:List Int)(s i:Nat):(wkI row s i).length≤i:=by
 unfold wkI
 rw[ya]
 exact yu (yK _ _) (by rw[yx];exact yd _)
theorem oK(row:List Int)(s:Nat):(wkI row s row.length).length=wkN row s:=by
 unfold wkI wkN
 rw[ya]
theorem A5(row:List Int)(s:Nat):wkN row s≤row.length:=by rw[← oK];exact oQ _ _ _
theorem qX{rows:List (List Int)}{ps:List Pst}{row:List Int}{h s:Nat}{n:Int}(hr:rows[h]? = some row)(hv:∀x∈row,0≤x∧x≤(ps.length:Int)) :
  tot rows (spr h (dsN s row.length) (bL ps) n)=n*(wkN row s:Int):=by
 rw[kJ rows h n (fN ps)]
 congr 2
 unfold dsN wkN
 rw[yPa,ya,yCb]
 congr 1
 refine ypa fun i hi=>?_
 have hil:=yp.mp hi
 have ev:val rows h i=row[i]:=dH hr hil
 have:=hv _ (yQ hil)
 have e1:hit rows (h:Int) (bL ps) ((i:Nat):Int)=decide (0<row[i]?.getD 0):=by
  unfold hit
  rw[ye,ye,ev,yb hil,yz]
  exact decide_eq_decide.mpr ⟨fun w=>by have:=dm.mp w;omega,fun w=>dm.mpr ⟨by omega,this.2⟩⟩
 show(hit rows (h:Int) (bL ps) ((i:Nat):Int)&&s.testBit i)=_
 rw[e1]
noncomputable def hrV(ps:List Pst)(p:Int):Int:=hrs ps p.toNat
noncomputable def hrN(ps:List Pst)(row:List Int):Int:=(row.map (hrV ps)).sum
theorem lE(ps:List Pst):hrV ps 0=0:=by unfold hrV;rfl
noncomputable def byI(h:Int)(ps:List Pst)(d:Nat)(times:Int)(i:Nat):List Prt:=(bh 1 i).flatMap fun p=>spr h (bh 0 d) [p] (hrV ps p*times)
noncomputable def byH(h:Int)(ps:List Pst)(d:Nat)(times:Int):List Prt:=byI h ps d times ps.length
theorem cR(a:Int)(i:Nat):bh a (i+1)=bh a i++[a+i]:=by
 unfold bh
 rw[yO,yg]
 rfl
theorem mi(h:Int)(ps:List Pst)(d:Nat)(times:Int)(i:Nat):byI h ps d times (i+1)=byI h ps d times i++spr h (bh 0 d) [1+(i:Int)] (hrV ps (1+i)*times):=by
 unfold byI
 rw[cR,yga]
 congr 1
 rw[yca,List.flatMap_nil,yy]
theorem oE(h:Int)(ps:List Pst)(d:Nat)(times:Int):∀i,(byI h ps d times i).length=i*d
 | 0=>by simp[byI,bh]
 | i+1=>by rw[mi,yf,oE h ps d times i,b6,ee,yya];simp
theorem lV(rows:List (List Int))(f:Int→List Prt):∀L:List Int,tot rows (L.flatMap f)=(L.map fun p=>tot rows (f p)).sum
 | []=>rfl
 | p::L=>by rw[yca,dv,lV rows f L];rfl
theorem md(f:Int→Int)(v:Int):∀{L:List Int},L.Nodup→(L.map fun p=>if v=p then f p else 0).sum=if v∈L then f v else 0
 | [],_=>rfl
 | p::L,nd=>by
  rw[yi,yC,md f v (yP.mp nd).2]
  by_cases e:v=p
  ·rw[if_pos e,if_neg (by rw[e];exact(yP.mp nd).1),if_pos (by rw[e];exact yv),e];lia
  ·rw[if_neg e]
   by_cases m:v∈L
   ·rw[if_pos m,if_pos (ym _ m)];lia
   ·rw[if_neg m,if_neg (fun w=>(List.mem_cons.mp w).elim e m)];rfl
theorem oj(f g:Int→Int):∀L:List Int,(L.map fun p=>f p+g p).sum=(L.map f).sum+(L.map g).sum
 | []=>rfl
 | p::L=>by simp only[yi,yC];rw[oj f g L];lia
theorem vU{rows:List (List Int)}{ps:List Pst}{row:List Int}{h:Nat}(times:Int)(hr:rows[h]? = some row)(hv:∀x∈row,0≤x∧x≤(ps.length:Int)) :
  ∀d,d≤row.length→((bL ps).map fun p=>tot rows (spr h (bh 0 d) [p] (hrV ps p*times))).sum=times*hrN ps (row.take d)
 | 0,_=>by
  have:∀L:List Int,(L.map fun p=>tot rows (spr h (bh 0 0) [p] (hrV ps p*times))).sum=0:=fun L=>by
   induction L with
   | nil=>rfl
   | cons p L ih=>rw[yi,yC,ih];rfl
  rw[this]
  simp[hrN]
 | d+1,hd=>by
  have hdl:d<row.length:=hd
  have ih:=vU times hr hv d (by lia)
  have hg:row[d]? = some row[d]:=yb hdl
  have ev:val rows h d=row[d]:=dH hr hdl
  have e1:∀p:Int,tot rows (spr h (bh 0 (d+1)) [p] (hrV ps p*times))=tot rows (spr h (bh 0 d) [p] (hrV ps p*times))+if row[d]=p then hrV ps p*times else 0:=fun p=>by
   rw[cR,jq,dv]
   congr 1
   show tot rows [⟨h,0+(d:Int),p,hrV ps p*times⟩]=_
   rw[fg]
   show(if val rows ((h:Int)).toNat (0+(d:Int)).toNat=p then _ else _)=_
   rw[show(0+(d:Int)).toNat=d by lia,ye,ev]
  rw[yR fun p _=>e1 p,oj,ih,md (fun p=>hrV ps p*times) row[d] (fN ps),aP hg]
  unfold hrN
  rw[yg,yL,Int.mul_add]
  congr 1
  have:=hv _ (yQ hdl)
  show _=times*(hrV ps row[d]+0)
  by_cases z:row[d]=0
  ·rw[if_neg (fun w=>by have:=dm.mp w;lia),z,lE];simp
  ·rw[if_pos (dm.mpr ⟨by lia,this.2⟩),yBb,Int.mul_comm]
theorem qF{rows:List (List Int)}{ps:List Pst}{row:List Int}{h:Nat}(times:Int)(hr:rows[h]? = some row)(hv:∀x∈row,0≤x∧x≤(ps.length:Int)) :
  tot rows (byH h ps row.length times)=times*hrN ps row:=by
 unfold byH byI
 rw[lV]
 have:=vU times hr hv row.length (yd _)
 rw[yo] at this
 exact this
theorem rh{ps:List Pst}(h:∀q∈ps,okP q)(j:Nat):0≤hrs ps j∧hrs ps j≤1000000000:=by
 cases j with
 | zero=>exact⟨yWa 0,by show(0:Int)≤1000000000;decide⟩
 | succ k =>
  show 0≤(ps[k]?.getD dN).2.1∧(ps[k]?.getD dN).2.1≤1000000000
  cases e:ps[k]? with
  | none=>exact⟨by decide,by decide⟩
  | some q=>exact(h q (yc e)).2.1
theorem wy{ps:List Pst}(h:∀q∈ps,okP q):∀row:List Int,0≤hrN ps row∧hrN ps row≤1000000000*row.length
 | []=>⟨yWa 0,by show(0:Int)≤1000000000*0;decide⟩
 | x::row=>by
  have:=wy h row
  have h2:=rh h x.toNat
  unfold hrN at this ⊢
  rw[yi,yC,yD]
  have e:hrV ps x=hrs ps x.toNat:=rfl
  rw[e]
  lia
theorem qN(ps:List Pst)(row:List Int)(x:Int):hrN ps (row++[x])=hrN ps row+hrV ps x:=by
 unfold hrN
 rw[yg,yL]
 show _+(hrV ps x+0)=_
 lia
end My
namespace My
open PySem L2 PySem.Spec
theorem CY:¬(("hand":Str) = "many"):=by decide +kernel
theorem C4:¬(("days":Str) = "many"):=by decide +kernel
theorem Eb:¬(("hand":Str) = "least"):=by decide +kernel
theorem Dm:¬(("hand":Str) = "most"):=by decide +kernel
theorem Fo:¬(("least":Str) = "most"):=by decide +kernel
noncomputable def mf3(h s m:Int):List (Str×V):=bA "many" (.int m) (bA "days" (.int s) (bA "hand" (.int h) []))
theorem dq(h s m:Int):(mf3 h s m).lookup ("hand":Str)=some (.int h):=by
 unfold mf3
 rw[ar,if_neg CY,ar,if_neg BV,ar,if_pos rfl]
theorem fX(h s m:Int):(mf3 h s m).lookup ("days":Str)=some (.int s):=by
 unfold mf3
 rw[ar,if_neg C4,ar,if_pos rfl]
theorem eP(h s m:Int):(mf3 h s m).lookup ("many":Str)=some (.int m):=by
 unfold mf3
 rw[ar,if_pos rfl]
theorem k9(h s m:Int){x:Str}(h1:¬ x = "many")(h2:¬ x = "days")(h3:¬ x = "hand"):(mf3 h s m).lookup x=none:=by
 unfold mf3
 rw[ar,if_neg h1,ar,if_neg h2,ar,if_neg h3]
 rfl
noncomputable def qf3(h l m:Int):List (Str×V):=bA "most" (.int m) (bA "least" (.int l) (bA "hand" (.int h) []))
theorem jm(h l m:Int):(qf3 h l m).lookup ("hand":Str)=some (.int h):=by
 unfold qf3
 rw[ar,if_neg Dm,ar,if_neg Eb,ar,if_pos rfl]
theorem jV(h l m:Int):(qf3 h l m).lookup ("least":Str)=some (.int l):=by
 unfold qf3
 rw[ar,if_neg Fo,ar,if_pos rfl]
theorem lT(h l m:Int):(qf3 h l m).lookup ("most":Str)=some (.int m):=by
 unfold qf3
 rw[ar,if_pos rfl]
theorem ku(h l m:Int){x:Str}(h1:¬ x = "most")(h2:¬ x = "least")(h3:¬ x = "hand"):(qf3 h l m).lookup x=none:=by
 unfold qf3
 rw[ar,if_neg h1,ar,if_neg h2,ar,if_neg h3]
 rfl
theorem cU{a:Int}{n:Nat}{x:Int}(h:x∈bh a n):a≤x∧x<a+n:=by
 unfold bh at h
 obtain⟨i,hi,rfl⟩:=yk.mp h
 have:=yp.mp hi
 lia
end My
namespace My
open PySem L2
noncomputable def kk(h d p:Int):List Key:=[Sum.inl h,Sum.inl d,Sum.inl p]
noncomputable def iv:Option V→Int
 | some (.int i)=>i
 | _=>0
noncomputable def cm(t:Int)(kvs:List (List Key×V))(q:Prt):List (List Key×V):=bC kvs (kk q.h q.d q.p) (.int (iv (bD kvs (kk q.h q.d q.p))+q.n*t))
noncomputable def kD(kvs:List (List Key×V))(l:Lin×Int):List (List Key×V):=l.1.ps.foldl (cm l.2) kvs
noncomputable def bn(ls:List (Lin×Int)):List (List Key×V):=ls.foldl kD []
noncomputable def cE(ls:List (Lin×Int)):Int:=(ls.map fun l=>l.1.b*l.2).sum
noncomputable def cJ(kvs:List (List Key×V)):Prop:=∀k v,bD kvs k=some v→∃i:Int,v=.int i
theorem dY:cJ []:=fun k v h=>by cases h
theorem iM{kvs:List (List Key×V)}(h:cJ kvs)(k:List Key)(i:Int):cJ (bC kvs k (.int i)):=fun j v e=>by
 rw[cY] at e
 by_cases z:j=k
 ·rw[if_pos z] at e
  cases e
  exact⟨i,rfl⟩
 ·rw[if_neg z] at e
  exact h j v e
theorem nU{kvs:List (List Key×V)}(h:cJ kvs)(k:List Key):(bD kvs k).getD (.int 0)=.int (iv (bD kvs k)):=by
 cases e:bD kvs k with
 | none=>rfl
 | some v =>
  obtain⟨i,rfl⟩:=h k v e
  rfl
theorem tQ{t:Int}{kvs:List (List Key×V)}{q:Prt}(h:cJ kvs):cJ (cm t kvs q):=iM h _ _
theorem gq{t:Int}:∀{qs:List Prt} {kvs:List (List Key×V)},cJ kvs→cJ (qs.foldl (cm t) kvs)
 | [],_,h=>h
 | _::qs,_,h=>gq (qs:=qs) (tQ h)
theorem gG:∀{ls:List (Lin×Int)} {kvs:List (List Key×V)},cJ kvs→cJ (ls.foldl kD kvs)
 | [],_,h=>h
 | l::ls,_,h=>gG (ls:=ls) (gq (qs:=l.1.ps) h)
theorem fh{t:Int}:∀{qs:List Prt} {kvs:List (List Key×V)},(qs.foldl (cm t) kvs).length≤kvs.length+qs.length
 | [],_=>yd _
 | q::qs,kvs=>by
  have h1:=fh (t:=t) (qs:=qs) (kvs:=cm t kvs q)
  have h2:(cm t kvs q).length≤kvs.length+1:=cb _ _ _
  show(qs.foldl (cm t) (cm t kvs q)).length≤_
  rw[yD]
  lia
noncomputable def bq(ls:List (Lin×Int)):Nat:=(ls.map fun l=>l.1.ps.length).sum
theorem fq:∀{ls:List (Lin×Int)} {kvs:List (List Key×V)},(ls.foldl kD kvs).length≤kvs.length+bq ls
 | [],_=>yd _
 | l::ls,kvs=>by
  have h1:=fq (ls:=ls) (kvs:=kD kvs l)
  have h2:(kD kvs l).length≤kvs.length+l.1.ps.length:=fh
  show(ls.foldl kD (kD kvs l)).length≤_
  have h3:bq (l::ls)=l.1.ps.length+bq ls:=by unfold bq;rw[yi,yC]
  lia
noncomputable def iw(kvs:List (List Key×V)):Prop:=(kvs.map (·.1)).Nodup
theorem iO{kvs:List (List Key×V)}(h:iw kvs)(k:List Key)(v:V):iw (bC kvs k v):=by
 unfold iw bC at *
 split
 ·have e:(kvs.map fun kv=>if kv.1=k then (kv.1,v) else kv).map (·.1)=kvs.map (·.1):=by
   rw[yW]
   refine yR fun kv _=>?_
   show(if kv.1=k then (kv.1,v) else kv).1=kv.1
   split <;> rfl
  rw[e]
  exact h
 ·rename_i hn
  rw[yg,yFa]
  refine⟨h,by simp,fun a ha b hb=>?_⟩
  rw[show b=k by simpa using hb]
  intro z
  obtain⟨kv,hkv,rfl⟩:=yk.mp ha
  exact hn (List.any_eq_true.mpr ⟨kv,hkv,decide_eq_true z⟩)
theorem kT{kvs:List (List Key×V)}(h:iw kvs){i:Nat}{k:List Key}{v:V}(e:kvs[i]? = some (k,v)):bD kvs k=some v:=by
 induction kvs generalizing i with
 | nil=>simp at e
 | cons p r ih =>
  unfold iw at h
  rw[yi,yP] at h
  cases i with
  | zero =>
   rw[ykb] at e
   cases e
   exact b5 rfl
  | succ j =>
   rw[ylb] at e
   rw[bZ fun z=>h.1 (by rw[z];exact yk.mpr ⟨_,yc e,rfl⟩)]
   exact ih h.2 e
noncomputable def PrV(H:Hp)(v:V)(l:Lin×Int):Prop:=∃t u,v=.ref t∧H t=some (.tup [.ref u,.int l.2])∧mq H (.ref u) l.1
noncomputable abbrev Prs(H:Hp):List V→List (Lin×Int)→Prop:=Paired (PrV H)
theorem PrV.mono{H H':Hp}(g:eO H H'){v:V}{l:Lin×Int}(h:PrV H v l):PrV H' v l:=by
 obtain⟨t,u,e,h1,h2⟩:=h
 exact⟨t,u,e,g _ _ h1,h2.mono g⟩
theorem Prs.mono{H H':Hp}(g:eO H H'){ts:List V}{ls:List (Lin×Int)}(h:Prs H ts ls):Prs H' ts ls:=Paired.mapP h fun _ _=>PrV.mono g
noncomputable def pQ(rows:List (List Int))(q:Prt):Bool:=decide (val rows q.h.toNat q.d.toNat=q.p)
noncomputable def me(rows:List (List Int))(qs:List Prt):List Int:=(qs.filter (pQ rows)).map (·.n)
theorem pH(rows:List (List Int))(qs:List Prt)(q:Prt):me rows (qs++[q])=me rows qs++if pQ rows q=true then [q.n] else []:=by
 unfold me
 rw[yM,yg]
 congr 1
 cases e:pQ rows q
 ·rw[yS (by rw[e];exact yl)]
  rfl
 ·rw[yT (by exact e)]
  rfl
theorem lZ(rows:List (List Int)):∀qs:List Prt,(me rows qs).sum=tot rows qs
 | []=>rfl
 | q::qs=>by
  have ih:=lZ rows qs
  rw[show q::qs=[q]++qs from rfl,dv,fg,← ih]
  unfold me
  rw[yM,yg,yL]
  congr 1
  unfold pQ
  by_cases e:val rows q.h.toNat q.d.toNat=q.p
  ·rw[if_pos e,yT (by exact decide_eq_true e)]
   simp
  ·rw[if_neg e,yS (by simpa using e)]
   rfl
theorem qo(rows:List (List Int))(qs:List Prt):(me rows qs).length≤qs.length:=by
 unfold me
 rw[ya]
 exact yK _ _
noncomputable def InT(rows:List (List Int))(D:Nat)(qs:List Prt):Prop:=∀q∈qs,0≤q.h∧q.h<rows.length∧0≤q.d∧q.d<D
end My
namespace L2
open PySem PySem.Spec PyProof.Rows
section
variable{prog:Program}{w:World}{A:Around}{E:Value→Shared→Prop}{s:Shared}
end
end L2
namespace L2
open PySem
end L2
namespace L2
open PySem
end L2
namespace My
open PySem L2
theorem cX{ns:List Int}{i:Nat}{v:V}(h:(ns.map V.int)[i]? = some v):∃x,ns[i]? = some x∧v=.int x:=by
 rw[yj] at h
 cases hz:ns[i]? with
 | none=>rw[hz] at h;cases h
 | some x=>rw[hz] at h;exact⟨x,rfl,(yt h).symm⟩
end My
namespace My
open PySem L2
end My
namespace My
open PySem L2
end My
namespace L2
open PySem PySem.Spec PyProof.Rows
section
variable{X:Cx}
end
end L2
namespace My
end My
namespace My
open PySem L2
end My
namespace My
open PySem L2
end My
namespace My
open PySem L2
end My
namespace My
open PySem L2
end My
namespace L2
open PySem PySem.Spec PyProof.Rows
end L2
namespace My
open PySem L2
end My
namespace My
open PySem L2
end My
namespace My
open PySem L2
end My
namespace My
open PySem L2
end My
namespace My
open PySem L2
end My
namespace L2
open PySem PySem.Spec PyProof.Rows
end L2
namespace My
open PySem L2
end My
namespace My
open PySem L2
end My
namespace L2
open PySem PySem.Spec PyProof.Rows
set_option maxHeartbeats 4000000 in
theorem nu(l:Addr)(vs:Array Value) :
  Meets (Builtin.«enumerate.__new__» ⟨[.type "enumerate",.ref l],[]⟩) (fun _ R s=>s.heap.IsTuple l vs ∧
   R (.ok (.ret (.ref (s.heap.push { cls:=.type "tuple_iterator",data:=.fields #[.ref l,.int 0 0] }).objs.size)))
    { s with heap:=(s.heap.push { cls:=.type "tuple_iterator",data:=.fields #[.ref l,.int 0 0] }).push { cls:=.type "enumerate",data:=.fields #[.none,.bool false,.ref s.heap.objs.size,rawInt 0,.none,.none] } }) :=
 .of_wp fun prog w A R s h=>by
  obtain⟨hp,g,d,tk,os⟩:=s;obtain⟨hL,h⟩:=h
  obtain⟨⟨c,dc,dt,sl⟩,hl,hc,n,hd⟩:=id hL
  replace hc:c=.type "tuple" := hc
  replace hd:dt=.seq vs n:=hd
  subst hc hd
  have hsub:=sub_enumerate
  wp_walk using PySem.AutoSeq1.wpAny_loadPart' hl
  refine wpAny_stack_any fun st=>wpAny_pure ?_
  split
  ·rename_i c _ _ _ _ _
   cases (c == Value.type "enumerate")
   ·wp_walk using PySem.AutoSeq1.wpAny_loadPart' hl,wpAny_pyIter_tuple hL
    exact⟨_,rfl,h⟩
   ·wp_walk using PySem.AutoSeq1.wpAny_loadPart' hl,wpAny_pyIter_tuple hL
    exact⟨_,rfl,h⟩
  ·wp_walk using PySem.AutoSeq1.wpAny_loadPart' hl,wpAny_pyIter_tuple hL
   exact⟨_,rfl,h⟩
theorem my{prog:Program}{w:World}{A:Around}{E:Value→Shared→Prop}{s:Shared}{l:Addr}{vs:Array Value}{R:Value→Shared→Prop}(hL:s.heap.IsTuple l vs)
  (k:∀g,IsEnum g (s.heap.objs.size+1) s.heap.objs.size 0 .none→g.IsTupleIter s.heap.objs.size l 0→(∀b o,s.heap.get? b=some o→g.get? b=some o)→R (.ref (s.heap.objs.size+1)) { s with heap:=g }) :
  wpAny (model prog w) A (call (.type "enumerate") [.ref l]) R E s:=by
 refine callType_new F.called_enumerate (by decide) (F.typeCall_enumerate_1 _) (F.newCall_enumerate_1 _) (fun obj=>F.args_object_init_2 obj _) F.entry_enumerate_new (nu l vs) ⟨hL,?_⟩
 have hz:(s.heap.push { cls:=.type "tuple_iterator",data:=.fields #[.ref l,.int 0 0] }).objs.size=s.heap.objs.size+1:=Heap.size_push ..
 have he:=Heap.get?_push_size (s.heap.push { cls:=.type "tuple_iterator",data:=.fields #[.ref l,.int 0 0] }) (o:={ cls:=.type "enumerate",data:=.fields #[.none,.bool false,.ref s.heap.objs.size,rawInt 0,.none,.none] }) rfl
 show _∧_
 rw[hz] at he ⊢
 exact⟨⟨_,he,rfl⟩,k _ he ⟨_,Heap.get?_push_of_some _ (Heap.get?_push_size _ rfl),rfl,rfl⟩ fun b o q=>Heap.get?_push_of_some _ (Heap.get?_push_of_some _ q)⟩
theorem io{X:Cx}{elts:List Expr}{x1:Nat}{tp:Pos}{e:Expr}{te:TE}{p pos:Pos}(hg:Gl X "enumerate")(hm:X.mg "enumerate" = none)(he:PE X e te)(hs:starEach [e] X.env=[(false,eval e X.env)]:=by rfl):PI X (.Tuple elts x1 tp) (.Call (.Name "enumerate" p) [e] [] pos) (wI X.K 0 te):=by
 intro pins s σ H R I h
 refine Call_ (eF I hg hm boot_enumerate (PyProof.Rows.callWith_type1 ?_ hs rfl))
 rw[hs]
 refine Calls.spliced_cons (thn (he pins s σ H _ I h) fun v s1 z1_=>?_)
 obtain⟨x,H1,I1,rx,q1⟩:=z1_
 refine Calls.spliced_nil ?_
 obtain⟨a,rfl,⟨xs,hq⟩,q⟩:=q1
 cases rx
 obtain⟨its,rv,pl,_⟩:=I1.tuple hq
 exact my pl fun g e1 e2 hk=>gn I1 (oW a _) rfl e1 e2 hk q
theorem jU{X:Cx}:OpR X (compareOp .IsNot) (fun x y H Q=>∃a b,x=.bl a∧y=.bl b∧Q (.bl (!(a == b))) H):=by
 intro pins s σ H x y v u Q I rx ry h
 obtain⟨a,b,rfl,rfl,q⟩:=h
 cases rx;cases ry
 refine wpAny_isNot_plain ?_ (bz I q ?_)
 ·cases a <;> cases b <;> rfl
 ·cases a <;> cases b <;> rfl
end L2
namespace L2
open PySem PySem.Spec PyProof.Rows
end L2
namespace L2
open PySem
end L2
namespace My
open PySem L2
theorem mP{α:Type}{xs:List α}{x:α}(h:xs.Nodup)(n:x∉xs):(xs++[x]).Nodup:=by
 rw[yFa]
 exact⟨h,by simp,fun a ha b hb=>by rw[List.mem_singleton.mp hb];exact fun z=>n (z ▸ ha)⟩
theorem oT{c:TT}{tb:TS}{D:dk}{σ:St}{H:Hp}(h:∀B:TS,B=tb→kz c B D σ H):kz c tb D σ H:=h tb rfl
structure PsG(H:Hp)(L:Addr)(i:Nat)(H':Hp):Prop where
 ex:∃(ts:List V) (ps:List Pst),ps.length=i∧az H H'∧H' L=some (.lst ts)∧bQ H' ts ps∧∀q∈ps,okP q
theorem PsG.start{H:Hp}{L:Addr}(hL:H L=none):PsG H L 0 (upd H L (.lst [])):=⟨[],[],rfl,ah hL _,ae,.nil,fun q z=>by cases z⟩
theorem PsG.same{H H':Hp}{L:Addr}{i:Nat}(h:PsG H L i H'):az H H':=by
 obtain⟨_,_,_,g,_⟩:=h.ex
 exact g
theorem PsG.mono{H H' H2:Hp}{L:Addr}{i:Nat}(h:PsG H L i H')(g:az H' H2):PsG H L i H2:=by
 obtain⟨ts,ps,hl,g0,e,hP,ok⟩:=h.ex
 exact⟨ts,ps,hl,g0.trans g,g _ _ e,hP.mono g,ok⟩
theorem PsG.step{H H':Hp}{L t:Addr}{i:Nat}{q:Pst}(h:PsG H L i H')(hL:H L=none)(hi:i≤900)(ht:H' t=none)(hq:okP q) :
  ∃xs,upd H' t (.tup [.int q.1,.int q.2.1,.int q.2.2]) L=some (.lst xs)∧xs.length<sizeLine∧PsG H L (i+1) (upd (upd H' t (.tup [.int q.1,.int q.2.1,.int q.2.2])) L (.lst (xs++[.ref t]))):=by
 obtain⟨ts,ps,hl,g,e,hP,ok⟩:=h.ex
 have htl:=hP.len
 have gt:=ah ht (.tup [.int q.1,.int q.2.1,.int q.2.2])
 refine⟨ts,gt _ _ e,aE (by lia),ts++[.ref t],ps++[q],by rw[yf,hl];rfl,aJ hL (g.trans gt) _,ae,?_,fun q' hq'=>?_⟩
 ·have h1:bQ (upd H' t (.tup [.int q.1,.int q.2.1,.int q.2.2])) (ts++[.ref t]) (ps++[q]):=aU (hP.mono gt) ⟨t,rfl,ae⟩
  refine Paired.mapP h1 fun _ _ z8_=>?_
  obtain⟨t',e',q'⟩:=z8_
  exact⟨t',e',(bc (gt _ _ e)) _ _ q'⟩
 ·rcases List.mem_append.mp hq' with z | z
  ·exact ok q' z
  ·rw[List.mem_singleton.mp z];exact hq
theorem bQ.tmono{H H':Hp}(g:eO H H'){ts:List V}{ps:List Pst}(h:bQ H ts ps):bQ H' ts ps:=by
 refine Paired.mapP h fun _ _ z9_=>?_
 obtain⟨t,e,q⟩:=z9_
 exact⟨t,e,g _ _ q⟩
end My
namespace My
open PySem L2
structure Sp4 where
 k:Nat
 a:Int
 b:Int
 c:Int
structure gT(d:Int)(n P:Nat)(s:Sp4):Prop where
 k6:s.k≤6
 P0:0<P
 w:s.k=0→0≤s.a∧s.a<d∧0≤s.c∧s.c≤99
 h:s.k≠0→0≤s.a∧s.a<(n:Int)
 b:s.k=1∨s.k=2∨s.k=3→0≤s.b∧s.b<2147483648
 c1:s.k=1→-1≤s.c∧s.c≤99
 c2:s.k=2→0≤s.c∧s.c≤99
 c4:s.k=4→0≤s.c∧s.c≤99
 q:s.k=5→0≤s.b∧s.b≤100000000000∧-1≤s.c∧s.c≤100000000000
 o:s.k=6→0≤s.b∧s.b<(n:Int)∧s.a≠s.b
noncomputable def bd(P:Nat)(s:Sp4):List (Str×V) :=
 if s.k=0 then wf3 s.a (1+s.b % (P:Int)) s.c else if s.k=1 then mf3 s.a s.b s.c else if s.k=2 then mf3 s.a s.b s.c else if s.k=3 then af2 s.a s.b else if s.k=4 then hm s.a s.c else if s.k=5 then qf3 s.a s.b s.c else ho s.a s.b
noncomputable def bG(d n:Nat)(ps:List Pst)(s:Sp4):List Lin :=
 if s.k=0 then [⟨ca n s.a (1+s.b % (ps.length:Int)),s.c⟩] else if s.k=1 then [⟨spr s.a (dsN s.b.toNat d) (bL ps) (-1),-s.c⟩] else if s.k=2 then [⟨spr s.a (dsN s.b.toNat d) (bL ps) 1,s.c⟩] else if s.k=3 then ia s.a ps s.b.toNat d else if s.k=4 then cg s.a s.c d (np ps) else if s.k=5 then [⟨byH s.a ps d 1,s.b⟩,⟨byH s.a ps d (-1),-s.c⟩] else c6 s.a s.b (-1) (-1) ps.length d
noncomputable def fK(ps:List Pst)(i m:Int)(q:Prt):Bool:=ngt ps q.p.toNat&&(decide (i≤q.d)&&decide (q.d≤i+m))
noncomputable def fj(h m:Int)(d:Nat)(ps:List Pst):List Lin:=(List.range ((d:Int)-m).toNat).map fun i:Nat=>⟨(spr h (bh 0 d) (bL ps) (-1)).filter (fK ps i m),-m⟩
noncomputable def eX(h:Int)(d:Nat)(ps:List Pst)(t:Int):List Prt:=(spr h (bh 0 d) (bL ps) 1).map fun q=>⟨q.h,q.d,q.p,hrV ps q.p*t⟩
noncomputable def dn(d n:Nat)(ps:List Pst)(s:Sp4):List Lin :=
 if s.k=4 then fj s.a s.c d ps else if s.k=5 then [⟨eX s.a d ps 1,s.b⟩,⟨eX s.a d ps (-1),-s.c⟩] else bG d n ps s
theorem x5{α:Type}(f g:α→Int):∀xs:List α,(xs.map fun x=>f x+g x).sum=(xs.map f).sum+(xs.map g).sum
 | []=>rfl
 | x::xs=>by
  rw[yi,yi,yi,yC,yC,yC,x5 f g xs]
  lia
theorem BO{α:Type}:∀xs:List α,(xs.map fun _=>(0:Int)).sum=0
 | []=>rfl
 | _::xs=>by rw[yi,yC,BO xs];rfl
theorem ro{α β:Type}(f:α→β→Int)(ys:List β):∀xs:List α,(xs.map fun x=>(ys.map (f x)).sum).sum=(ys.map fun y=>(xs.map fun x=>f x y).sum).sum
 | []=>(BO ys).symm
 | x::xs=>by
  rw[yi,yC,ro f ys xs,← x5]
  rfl
theorem om(i m:Nat):∀d:Nat,(bh 0 d).filter (fun x=>decide ((i:Int)≤x)&&decide (x≤(i:Int)+m))=bh i (min (d-i) (m+1))
 | 0=>by rw[Nat.zero_sub,Nat.zero_min];rfl
 | d+1=>by
  rw[cR,yM,om i m d]
  by_cases h1:i≤d
  ·by_cases h2:d≤i+m
   ·have e1:min (d-i) (m+1)=d-i:=by lia
    have e2:min (d+1-i) (m+1)=(d-i)+1:=by omega
    rw[e1,e2,cR]
    congr 1
    rw[yma,ySa,if_pos (by simp;lia)]
    congr 1
    lia
   ·have e1:min (d-i) (m+1)=m+1:=by lia
    have e2:min (d+1-i) (m+1)=m+1:=by lia
    rw[e1,e2,yma,ySa,if_neg (by simp;lia),yy]
  ·have e1:d-i=0:=by lia
   have e2:d+1-i=0:=by omega
   rw[e1,e2,Nat.zero_min,yma,ySa,if_neg (by simp;lia),yy]
theorem pT(ps:List Pst):(bL ps).filter (fun p=>ngt ps p.toNat)=np ps:=by
 unfold bL np npI bh
 rw[yPa]
 refine congrArg (List.map _) ?_
 refine ypa fun k _=>?_
 show ngt ps (1+(k:Int)).toNat=ngt ps (k+1)
 rw[show(1+(k:Int)).toNat=k+1 by lia]
theorem gm(h m:Int)(d:Nat)(ps:List Pst)(hm:0≤m):fj h m d ps=cg h m d (np ps):=by
 obtain⟨m,rfl⟩:∃m':Nat,m=m':=⟨m.toNat,by lia⟩
 unfold fj cg
 refine yR fun i hi=>?_
 have hi':=yp.mp hi
 have key:(spr h (bh 0 d) (bL ps) (-1)).filter (fK ps i m)=spr h (bh i ((m:Int)+1).toNat) (np ps) (-1):=by
  rw[show((m:Int)+1).toNat=m+1 by lia,← pT]
  have hw:=om i m d
  rw[show min (d-i) (m+1)=m+1 by lia] at hw
  rw[← hw]
  unfold spr
  rw[List.filter_flatMap]
  generalize bh 0 d=xs
  induction xs with
  | nil=>rfl
  | cons x xs ih =>
   rw[yca,ih,yma]
   have e0:((bL ps).map fun p=>(⟨h,x,p,-1⟩:Prt)).filter (fK ps i m)=if (decide ((i:Int)≤x)&&decide (x≤(i:Int)+m))=true then ((bL ps).filter fun p=>ngt ps p.toNat).map fun p=>⟨h,x,p,-1⟩ else []:=by
    rw[yPa]
    by_cases z:(decide ((i:Int)≤x)&&decide (x≤(i:Int)+m))=true
    ·rw[if_pos z]
     refine congrArg (List.map _) (ypa fun p _=>?_)
     show(ngt ps p.toNat&&(decide ((i:Int)≤x)&&decide (x≤(i:Int)+m)))=_
     rw[z,Bool.and_true]
    ·rw[if_neg z]
     rw[List.map_eq_nil_iff,yJa]
     intro p _ y
     have y':(ngt ps p.toNat&&(decide ((i:Int)≤x)&&decide (x≤(i:Int)+m)))=true:=y
     rw[yI] at y'
     exact z y'.2
   rw[e0]
   by_cases z:(decide ((i:Int)≤x)&&decide (x≤(i:Int)+m))=true
   ·rw[if_pos z,if_pos z,yca]
   ·rw[if_neg z,if_neg z,List.nil_append]
 rw[key]
end My
namespace L2
open PySem
theorem BU{P:Program}{w:World}{K:PySem.W.Frag}{mg:Str→Option Value}{base:Heap}{N:List Str}{qual:Str}{scope:Scope}{f:Addr}{cd:Value}{A:Around}{outer:List Env}{s₀:Shared}{H₀:Hp}{E:XK}{CX:CXT} :
  PassesOwn (model P w) (fA CX P w K mg base N qual scope f cd A outer s₀ H₀ E).A (fA CX P w K mg base N qual scope f cd A outer s₀ H₀ E).env (fA CX P w K mg base N qual scope f cd A outer s₀ H₀ E).xe:=PassesOwn.leaving
theorem Ak{X:Cx}:dL (CX1 X.prog X.w) X E0:=fun _ _ _ _ _ _ _ h=>by
 obtain⟨_,_,_,_,_,_,_,q⟩:=h
 exact q.elim
theorem oI{X:Cx}{x:Str}{ps:List Str}{k:Nat}{sp:Sp}{e:Expr}{es:List Expr}{t:TA}{p pos:Pos}{E:XK}(c:uh X.prog X.w X.K X.mg X.base x ps k sp)(hp:dL (CX1 X.prog X.w) X E)(hr:ce k X.A)(hg:Gl X x)(ha:PA X (e::es) t)
  (hdb:(x == ("__debug__":Str))=false:=by decide) (he:starEach (e::es) X.env=(false,eval e X.env)::starEach es X.env:=by rfl) (hpl:(backTo pos (starEach es X.env)).any (·.1)=false:=by rfl) :
  PE X (.Call (.Name x p) (e::es) [] pos) (oB sp [] E t):=by
 obtain⟨f,fd,F,b,hk,hm⟩:=c.ex
 exact o6 F hr hg hm hk b .nil hp ha hdb he hpl
end L2
namespace My
open PySem L2
noncomputable def bO(W M L A N Q P:Addr)(k:Nat):Addr:=if k=0 then W else if k=1 then M else if k=2 then L else if k=3 then A else if k=4 then N else if k=5 then Q else P
noncomputable def jB(C:Nat→Addr)(P:Nat)(H:Hp)(v:V)(s:Sp4):Prop:=∃x dx,v=.ref x∧H x=some (.ins (C s.k) dx (bd P s))
theorem vR{W M L A N Q P:Addr}{n:Nat}{H:Hp}{x dx:Addr}{s:Sp4}(hk:s.k=0)(e:H x=some (.ins (bO W M L A N Q P s.k) dx (bd n s))):H x=some (.ins W dx (wf3 s.a (1+s.b % (n:Int)) s.c)):=by
 unfold bO bd at e
 rw[if_pos hk,if_pos hk] at e
 exact e
theorem vN{W M L A N Q P:Addr}{n:Nat}{H:Hp}{x dx:Addr}{s:Sp4}(hk:s.k=1)(e:H x=some (.ins (bO W M L A N Q P s.k) dx (bd n s))):H x=some (.ins M dx (mf3 s.a s.b s.c)):=by
 unfold bO bd at e
 rw[if_neg (by lia),if_pos hk,if_neg (by lia),if_pos hk] at e
 exact e
theorem wl{W M L A N Q P:Addr}{n:Nat}{H:Hp}{x dx:Addr}{s:Sp4}(hk:s.k=2)(e:H x=some (.ins (bO W M L A N Q P s.k) dx (bd n s))):H x=some (.ins L dx (mf3 s.a s.b s.c)):=by
 unfold bO bd at e
 rw[if_neg (by lia),if_neg (by lia),if_pos hk,if_neg (by lia),if_neg (by lia),if_pos hk] at e
 exact e
theorem vM{W M L A N Q P:Addr}{n:Nat}{H:Hp}{x dx:Addr}{s:Sp4}(hk:s.k=3)(e:H x=some (.ins (bO W M L A N Q P s.k) dx (bd n s))):H x=some (.ins A dx (af2 s.a s.b)):=by
 unfold bO bd at e
 rw[if_neg (by lia),if_neg (by lia),if_neg (by lia),if_pos hk,if_neg (by lia),if_neg (by lia),if_neg (by lia),if_pos hk] at e
 exact e
theorem wx{W M L A N Q P:Addr}{n:Nat}{H:Hp}{x dx:Addr}{s:Sp4}(hk:s.k=4)(e:H x=some (.ins (bO W M L A N Q P s.k) dx (bd n s))):H x=some (.ins N dx (hm s.a s.c)):=by
 unfold bO bd at e
 rw[if_neg (by lia),if_neg (by lia),if_neg (by lia),if_neg (by lia),if_pos hk,if_neg (by lia),if_neg (by lia),if_neg (by lia),if_neg (by lia),if_pos hk] at e
 exact e
theorem wC{W M L A N Q P:Addr}{n:Nat}{H:Hp}{x dx:Addr}{s:Sp4}(hk:s.k=5)(e:H x=some (.ins (bO W M L A N Q P s.k) dx (bd n s))):H x=some (.ins Q dx (qf3 s.a s.b s.c)):=by
 unfold bO bd at e
 rw[if_neg (by lia),if_neg (by lia),if_neg (by lia),if_neg (by lia),if_neg (by lia),if_pos hk,if_neg (by lia),if_neg (by lia),if_neg (by lia),if_neg (by lia),if_neg (by lia),if_pos hk] at e
 exact e
theorem wo{W M L A N Q P:Addr}{n:Nat}{H:Hp}{x dx:Addr}{s:Sp4}(hk:s.k=6)(e:H x=some (.ins (bO W M L A N Q P s.k) dx (bd n s))):H x=some (.ins P dx (ho s.a s.b)):=by
 unfold bO bd at e
 rw[if_neg (by lia),if_neg (by lia),if_neg (by lia),if_neg (by lia),if_neg (by lia),if_neg (by lia),if_neg (by lia),if_neg (by lia),if_neg (by lia),if_neg (by lia),if_neg (by lia),if_neg (by lia)] at e
 exact e
theorem BS{W M L A N Q P:Addr}{n:Nat}{H:Hp}{x dx:Addr}{s:Sp4}(hk:s.k=0)(e:H x=some (.ins W dx (wf3 s.a (1+s.b % (n:Int)) s.c))):jB (bO W M L A N Q P) n H (.ref x) s:=by
 refine⟨x,dx,rfl,?_⟩
 unfold bO bd
 rw[if_pos hk,if_pos hk]
 exact e
theorem BN{W M L A N Q P:Addr}{n:Nat}{H:Hp}{x dx:Addr}{s:Sp4}(hk:s.k=1)(e:H x=some (.ins M dx (mf3 s.a s.b s.c))):jB (bO W M L A N Q P) n H (.ref x) s:=by
 refine⟨x,dx,rfl,?_⟩
 unfold bO bd
 rw[if_neg (by lia),if_pos hk,if_neg (by lia),if_pos hk]
 exact e
theorem Cc{W M L A N Q P:Addr}{n:Nat}{H:Hp}{x dx:Addr}{s:Sp4}(hk:s.k=2)(e:H x=some (.ins L dx (mf3 s.a s.b s.c))):jB (bO W M L A N Q P) n H (.ref x) s:=by
 refine⟨x,dx,rfl,?_⟩
 unfold bO bd
 rw[if_neg (by lia),if_neg (by lia),if_pos hk,if_neg (by lia),if_neg (by lia),if_pos hk]
 exact e
theorem Cm{W M L A N Q P:Addr}{n:Nat}{H:Hp}{x dx:Addr}{s:Sp4}(hk:s.k=3)(e:H x=some (.ins A dx (af2 s.a s.b))):jB (bO W M L A N Q P) n H (.ref x) s:=by
 refine⟨x,dx,rfl,?_⟩
 unfold bO bd
 rw[if_neg (by lia),if_neg (by lia),if_neg (by lia),if_pos hk,if_neg (by lia),if_neg (by lia),if_neg (by lia),if_pos hk]
 exact e
theorem BG{W M L A N Q P:Addr}{n:Nat}{H:Hp}{x dx:Addr}{s:Sp4}(hk:s.k=4)(e:H x=some (.ins N dx (hm s.a s.c))):jB (bO W M L A N Q P) n H (.ref x) s:=by
 refine⟨x,dx,rfl,?_⟩
 unfold bO bd
 rw[if_neg (by lia),if_neg (by lia),if_neg (by lia),if_neg (by lia),if_pos hk,if_neg (by lia),if_neg (by lia),if_neg (by lia),if_neg (by lia),if_pos hk]
 exact e
theorem B6{W M L A N Q P:Addr}{n:Nat}{H:Hp}{x dx:Addr}{s:Sp4}(hk:s.k=5)(e:H x=some (.ins Q dx (qf3 s.a s.b s.c))):jB (bO W M L A N Q P) n H (.ref x) s:=by
 refine⟨x,dx,rfl,?_⟩
 unfold bO bd
 rw[if_neg (by lia),if_neg (by lia),if_neg (by lia),if_neg (by lia),if_neg (by lia),if_pos hk,if_neg (by lia),if_neg (by lia),if_neg (by lia),if_neg (by lia),if_neg (by lia),if_pos hk]
 exact e
theorem Cw{W M L A N Q P:Addr}{n:Nat}{H:Hp}{x dx:Addr}{s:Sp4}(hk:s.k=6)(e:H x=some (.ins P dx (ho s.a s.b))):jB (bO W M L A N Q P) n H (.ref x) s:=by
 refine⟨x,dx,rfl,?_⟩
 unfold bO bd
 rw[if_neg (by lia),if_neg (by lia),if_neg (by lia),if_neg (by lia),if_neg (by lia),if_neg (by lia),if_neg (by lia),if_neg (by lia),if_neg (by lia),if_neg (by lia),if_neg (by lia),if_neg (by lia)]
 exact e
theorem pR(n:Nat)(s:Sp4):bd n s≠[]:=fun z=>by
 have h:∀{k:Str} {v:V},(bd n s).lookup k≠some v:=fun {k v} e=>by rw[z] at e;cases e
 unfold bd at h
 by_cases k0:s.k=0
 ·rw[if_pos k0] at h;exact h (kM _ _ _)
 rw[if_neg k0] at h
 by_cases k1:s.k=1
 ·rw[if_pos k1] at h;exact h (dq _ _ _)
 rw[if_neg k1] at h
 by_cases k2:s.k=2
 ·rw[if_pos k2] at h;exact h (dq _ _ _)
 rw[if_neg k2] at h
 by_cases k3:s.k=3
 ·rw[if_pos k3] at h;exact h (jo _ _)
 rw[if_neg k3] at h
 by_cases k4:s.k=4
 ·rw[if_pos k4] at h;exact h (kL _ _)
 rw[if_neg k4] at h
 by_cases k5:s.k=5
 ·rw[if_pos k5] at h;exact h (jm _ _ _)
 rw[if_neg k5] at h
 exact h (kg _ _)
noncomputable abbrev lb(C:Nat→Addr)(P:Nat)(H:Hp):List V→List Sp4→Prop:=Paired (jB C P H)
theorem lb.mono{C:Nat→Addr}{P:Nat}{H H':Hp}(g:az H H'){us:List V}{ss:List Sp4}(h:lb C P H us ss):lb C P H' us ss:=by
 refine Paired.mapP h fun _ _ z1_=>?_
 obtain⟨x,dx,e,q⟩:=z1_
 exact⟨x,dx,e,g _ _ q⟩
noncomputable def EH(H:Hp)(v:V)(ls:List Lin):Prop:=∃t us,v=.ref t∧H t=some (.tup us)∧dG H us ls
noncomputable abbrev iT(H:Hp):List V→List (List Lin)→Prop:=Paired (EH H)
theorem iT.tmono{H H':Hp}(g:eO H H'){us:List V}{ss:List (List Lin)}(h:iT H us ss):iT H' us ss:=by
 refine Paired.mapP h fun _ _ z2_=>?_
 obtain⟨t,us,e,q,r⟩:=z2_
 exact⟨t,us,e,g _ _ q,Paired.mapP r fun _ _ z=>z.mono g⟩
theorem nwr:¬(("ward":Str) = "rules"):=by decide +kernel
theorem nws:¬(("ward":Str) = "sums"):=by decide +kernel
noncomputable def tf(y r s:Addr):List (Str×V):=bA "sums" (.ref s) (bA "rules" (.ref r) (bA "ward" (.ref y) []))
theorem gz(y r s:Addr):(tf y r s).lookup ("ward":Str)=some (.ref y):=by
 unfold tf
 rw[ar,if_neg nws,ar,if_neg nwr,ar,if_pos rfl]
theorem iD(y r s:Addr):(tf y r s).lookup ("sums":Str)=some (.ref s):=by
 unfold tf
 rw[ar,if_pos rfl]
structure cy(CT CW:Addr)(H:Hp)(x:Addr)(d:Int)(hs:List Int)(ps:List Pst)(sums:List (List Lin)):Prop where
 ex:∃dx y rt st vr vs,H x=some (.ins CT dx (tf y rt st))∧aX CW H y d hs ps∧H rt=some (.tup vr)∧H st=some (.tup vs)∧iT H vs sums
theorem cy.mono{CT CW:Addr}{H H':Hp}{x:Addr}{d:Int}{hs:List Int}{ps:List Pst}{sums:List (List Lin)}(h:cy CT CW H x d hs ps sums)(g:az H H'):cy CT CW H' x d hs ps sums:=by
 obtain⟨dx,y,rt,st,vr,vs,h1,h2,h3,h4,h5⟩:=h.ex
 exact⟨dx,y,rt,st,vr,vs,g _ _ h1,h2.mono g,g _ _ h3,g _ _ h4,iT.tmono (aC g) h5⟩
theorem fQ{hs:List Int}{h:Int}(a:0≤h)(b:h<(hs.length:Int)):dU hs h=true:=by
 unfold dU
 rw[decide_eq_true a,decide_eq_true b]
 rfl
theorem qi{m:Int}(a:0≤m)(b:m≤99):isM m=true:=by
 unfold isM
 rw[decide_eq_true a,decide_eq_true b]
 rfl
structure jC(H:Hp)(L:Addr)(lls:List (List Lin))(i:Nat)(H':Hp):Prop where
 ex:∃vs:List V,az H H'∧H' L=some (.lst vs)∧iT H' vs (lls.take i)
theorem jC.start{H:Hp}{L:Addr}{lls:List (List Lin)}(hL:H L=none):jC H L lls 0 (upd H L (.lst [])):=⟨[],ah hL _,ae,by rw[yla];exact .nil⟩
theorem jC.same{H H':Hp}{L:Addr}{lls:List (List Lin)}{i:Nat}(h:jC H L lls i H'):az H H':=by
 obtain⟨_,g,_⟩:=h.ex
 exact g
theorem jC.step{H H' H2:Hp}{L l:Addr}{lls:List (List Lin)}{i:Nat}{ls:List Lin}{ul:List V}(h:jC H L lls i H')(hL:H L=none)(hi:i≤900)(g2:az H' H2)(hr:lls[i]? = some ls)(hl:H2 l=none)(hu:dG H2 ul ls) :
  ∃xs,upd H2 l (.tup ul) L=some (.lst xs)∧xs.length<sizeLine∧jC H L lls (i+1) (upd (upd H2 l (.tup ul)) L (.lst (xs++[.ref l]))):=by
 obtain⟨vs,g,e,hS⟩:=h.ex
 have hvl:=Paired.length hS
 rw[yr] at hvl
 have gl:=ah hl (.tup ul)
 have gg:=g2.trans gl
 refine⟨vs,gg _ _ e,aE (by lia),vs++[.ref l],aJ hL (g.trans gg) _,ae,?_⟩
 rw[aP hr]
 have h1:iT (upd H2 l (.tup ul)) (vs++[.ref l]) (lls.take i++[ls]):=aU (iT.tmono (aC gg) hS) ⟨l,ul,rfl,ae,Paired.mapP hu fun _ _ z=>z.mono (aC gl)⟩
 exact iT.tmono (bc (gg _ _ e)) h1
theorem mw{d n:Nat}{ps:List Pst}{s:Sp4}(hk:s.k=0):bG d n ps s=[⟨ca n s.a (1+s.b % (ps.length:Int)),s.c⟩]:=by
 unfold bG
 rw[if_pos hk]
theorem mj{d n:Nat}{ps:List Pst}{s:Sp4}(hk:s.k=1):bG d n ps s=[⟨spr s.a (dsN s.b.toNat d) (bL ps) (-1),-s.c⟩]:=by
 unfold bG
 rw[if_neg (by lia),if_pos hk]
theorem ln{d n:Nat}{ps:List Pst}{s:Sp4}(hk:s.k=2):bG d n ps s=[⟨spr s.a (dsN s.b.toNat d) (bL ps) 1,s.c⟩]:=by
 unfold bG
 rw[if_neg (by lia),if_neg (by lia),if_pos hk]
theorem mC{d n:Nat}{ps:List Pst}{s:Sp4}(hk:s.k=3):bG d n ps s=ia s.a ps s.b.toNat d:=by
 unfold bG
 rw[if_neg (by lia),if_neg (by lia),if_neg (by lia),if_pos hk]
theorem jQ{d n:Nat}{ps:List Pst}{s:Sp4}(hk:s.k=4):bG d n ps s=cg s.a s.c d (np ps):=by
 unfold bG
 rw[if_neg (by lia),if_neg (by lia),if_neg (by lia),if_neg (by lia),if_pos hk]
theorem lL{d n:Nat}{ps:List Pst}{s:Sp4}(hk:s.k=5):bG d n ps s=[⟨byH s.a ps d 1,s.b⟩,⟨byH s.a ps d (-1),-s.c⟩]:=by
 unfold bG
 rw[if_neg (by lia),if_neg (by lia),if_neg (by lia),if_neg (by lia),if_neg (by lia),if_pos hk]
theorem lR{d n:Nat}{ps:List Pst}{s:Sp4}(hk:s.k=6):bG d n ps s=c6 s.a s.b (-1) (-1) ps.length d:=by
 unfold bG
 rw[if_neg (by lia),if_neg (by lia),if_neg (by lia),if_neg (by lia),if_neg (by lia),if_neg (by lia)]
noncomputable abbrev Tri:=Int×Int×Int
noncomputable def Ft(H:Hp)(v:V)(t:Tri):Prop:=∃a,v=.ref a∧H a=some (.tup [.int t.1,.int t.2.1,.int t.2.2])
noncomputable abbrev eG(H:Hp):List V→List Tri→Prop:=Paired (Ft H)
theorem eG.tmono{H H':Hp}(g:eO H H'){us:List V}{ts:List Tri}(h:eG H us ts):eG H' us ts:=by
 refine Paired.mapP h fun _ _ z3_=>?_
 obtain⟨a,e,q⟩:=z3_
 exact⟨a,e,g _ _ q⟩
noncomputable def fJ(i:Nat)(qs:List (Int×Int))(j:Nat):List Tri:=match qs[j]? with
 | some q=>if 0<q.2-q.1 then [((i:Int),(j:Int),q.2-q.1)] else []
 | none=>[]
noncomputable def df(i:Nat)(qs:List (Int×Int))(k:Nat):List Tri:=(List.range k).flatMap (fJ i qs)
noncomputable def c8(qss:List (List (Int×Int)))(k:Nat):List Tri:=(List.range k).flatMap fun i=>df i (qss[i]?.getD []) (qss[i]?.getD []).length
theorem ii(i:Nat)(qs:List (Int×Int))(k:Nat):df i qs (k+1)=df i qs k++fJ i qs k:=by
 unfold df
 rw[yO,yga]
 simp
theorem ij(qss:List (List (Int×Int)))(k:Nat):c8 qss (k+1)=c8 qss k++df k (qss[k]?.getD []) (qss[k]?.getD []).length:=by
 unfold c8
 rw[yO,yga]
 simp
theorem m3(i:Nat)(qs:List (Int×Int))(j:Nat):(fJ i qs j).length≤1:=by
 unfold fJ
 split
 ·split <;> simp
 ·simp
theorem fG(i:Nat)(qs:List (Int×Int)):∀k,(df i qs k).length≤k
 | 0=>yd _
 | k+1=>by
  rw[ii,yf]
  have:=fG i qs k
  have:=m3 i qs k
  lia
theorem iV{qss:List (List (Int×Int))}{B:Nat}(h:∀qs∈qss,qs.length≤B):∀k,(c8 qss k).length≤k*B
 | 0=>yq _
 | k+1=>by
  rw[ij,yf,yya]
  have:=iV h k
  have:=fG k (qss[k]?.getD []) (qss[k]?.getD []).length
  have:(qss[k]?.getD []).length≤B:=by
   cases e:qss[k]? with
   | none=>exact yq _
   | some qs=>exact h qs (yc e)
  lia
theorem uC{d:Int}{hs:List Int}{ps:List Pst}{rows:List (List Int)}(h:cz d hs ps rows=true):rows.length=hs.length∧∀row∈rows,(row.length:Int)=d:=by
 unfold cz at h
 rw[yI,decide_eq_true_eq,yG] at h
 refine⟨h.1,fun row hr=>?_⟩
 obtain⟨i,hi⟩:=List.getElem?_of_mem hr
 have il:=(List.getElem?_eq_some_iff.mp hi).1
 have z:=h.2 i (yp.mpr (by omega))
 unfold ju at z
 rw[hi,yz] at z
 unfold du at z
 rw[yI,decide_eq_true_eq] at z
 exact z.1
noncomputable def eM(rows:List (List Int))(ls:List Lin):List (Int×Int):=ls.map fun ℓ=>(tot rows ℓ.ps,ℓ.b)
noncomputable def gI(rows:List (List Int))(sums:List (List Lin)):List Tri:=c8 (sums.map (eM rows)) sums.length
structure fL(H:Hp)(L:Addr)(ts:List Tri)(H':Hp):Prop where
 ex:∃us:List V,az H H'∧H' L=some (.lst us)∧eG H' us ts
theorem fL.start{H:Hp}{L:Addr}(hL:H L=none):fL H L [] (upd H L (.lst [])):=⟨[],ah hL _,ae,.nil⟩
theorem fL.same{H H':Hp}{L:Addr}{ts:List Tri}(h:fL H L ts H'):az H H':=by
 obtain⟨_,g,_⟩:=h.ex
 exact g
theorem fL.mono{H H' H2:Hp}{L:Addr}{ts:List Tri}(h:fL H L ts H')(g:az H' H2):fL H L ts H2:=by
 obtain⟨us,g0,e,hT⟩:=h.ex
 exact⟨us,g0.trans g,g _ _ e,eG.tmono (aC g) hT⟩
theorem fL.step{H H':Hp}{L t:Addr}{ts:List Tri}{a b c:Int}(h:fL H L ts H')(hL:H L=none)(hl:ts.length≤900)(ht:H' t=none) :
  ∃xs,upd H' t (.tup [.int a,.int b,.int c]) L=some (.lst xs)∧xs.length<sizeLine∧fL H L (ts++[(a,b,c)]) (upd (upd H' t (.tup [.int a,.int b,.int c])) L (.lst (xs++[.ref t]))):=by
 obtain⟨us,g,e,hT⟩:=h.ex
 have hul:=Paired.length hT
 have gt:=ah ht (.tup [.int a,.int b,.int c])
 refine⟨us,gt _ _ e,aE (by lia),us++[.ref t],aJ hL (g.trans gt) _,ae,?_⟩
 exact eG.tmono (bc (gt _ _ e)) (aU (eG.tmono (aC gt) hT) ⟨t,rfl,ae⟩)
noncomputable def tD3(t:Tri):DV:=.tup [.int t.1,.int t.2.1,.int t.2.2]
theorem rb{K:PySem.W.Frag}{H:Hp}{n:Nat}{a:Addr}{us:List V}{ts:List Tri}(h:SqL K H a us)(hT:eG H us ts):Den K H (n+2) (.ref a) (.lst (ts.map tD3)):=by
 refine⟨_,h,?_⟩
 clear h
 induction hT with
 | nil=>exact .nil
 | cons x _ ih =>
  obtain⟨t,rfl,e⟩:=x
  exact .cons ⟨_,SqT.of e,.cons iE (.cons iE (.cons iE .nil))⟩ ih
theorem ub(ts:List Tri):eqD (.lst (ts.map tD3)) (.lst (([]:List Int).map DV.int))=decide (ts=[]):=by
 cases ts with
 | nil=>simp[eqD]
 | cons t ts=>simp[eqD]
noncomputable def mh(H:Hp)(v:V)(ℓ:Lin):Prop:=∃t l ts,v=.ref t∧H t=some (.tup [.ref l,.int ℓ.b])∧H l=some (.lst ts)∧cI H ts ℓ.ps
noncomputable abbrev mn(H:Hp):List V→List Lin→Prop:=Paired (mh H)
theorem mn.mono{H H':Hp}(g:az H H'){us:List V}{ls:List Lin}(h:mn H us ls):mn H' us ls:=by
 refine Paired.mapP h fun _ _ z4_=>?_
 obtain⟨t,l,ts,e,q,r,z⟩:=z4_
 exact⟨t,l,ts,e,g _ _ q,g _ _ r,z.mono (aC g)⟩
noncomputable def Gh(H:Hp)(v:V)(s:Sp4):Prop:=∃t,v=.ref t∧H t=some (.tup [.int (s.k:Nat),.int s.a,.int s.b,.int s.c])
noncomputable abbrev lU(H:Hp):List V→List Sp4→Prop:=Paired (Gh H)
theorem lU.tmono{H H':Hp}(g:eO H H'){us:List V}{ss:List Sp4}(h:lU H us ss):lU H' us ss:=by
 refine Paired.mapP h fun _ _ z5_=>?_
 obtain⟨t,e,q⟩:=z5_
 exact⟨t,e,g _ _ q⟩
theorem upL(a:Int)(n:Nat):(bh a n).length=n:=by unfold bh;rw[ya,yx]
structure fw(H:Hp)(L:Addr)(qs:List Prt)(H':Hp):Prop where
 ex:∃us:List V,az H H'∧H' L=some (.lst us)∧cI H' us qs
theorem fw.start{H:Hp}{L:Addr}(hL:H L=none):fw H L [] (upd H L (.lst [])):=⟨[],ah hL _,ae,.nil⟩
theorem fw.same{H H':Hp}{L:Addr}{qs:List Prt}(h:fw H L qs H'):az H H':=by
 obtain⟨_,g,_⟩:=h.ex
 exact g
theorem fw.step{H H':Hp}{L t:Addr}{qs:List Prt}{a b c n:Int}(h:fw H L qs H')(hL:H L=none)(hl:qs.length≤900)(ht:H' t=none) :
  ∃xs,upd H' t (.tup [.int a,.int b,.int c,.int n]) L=some (.lst xs)∧xs.length<sizeLine∧fw H L (qs++[⟨a,b,c,n⟩]) (upd (upd H' t (.tup [.int a,.int b,.int c,.int n])) L (.lst (xs++[.ref t]))):=by
 obtain⟨us,g,e,hT⟩:=h.ex
 have hul:=Paired.length hT
 have gt:=ah ht (.tup [.int a,.int b,.int c,.int n])
 refine⟨us,gt _ _ e,aE (by lia),us++[.ref t],aJ hL (g.trans gt) _,ae,?_⟩
 exact cI.mono (bc (gt _ _ e)) (aU (hT.mono (aC gt)) ⟨t,rfl,ae⟩)
structure MpI(H:Hp)(L:Addr)(tgt:List (List Int))(i:Nat)(H':Hp):Prop where
 ex:∃us:List V,az H H'∧H' L=some (.lst us)∧Rows H' us (tgt.take i)∧∀t,V.ref t∈us→t≠L
theorem MpI.start{H:Hp}{L:Addr}{tgt:List (List Int)}(hL:H L=none):MpI H L tgt 0 (upd H L (.lst [])) :=
 ⟨[],ah hL _,ae,by rw[yla];exact .nil,fun t z=>by cases z⟩
theorem MpI.same{H H':Hp}{L:Addr}{tgt:List (List Int)}{i:Nat}(h:MpI H L tgt i H'):az H H':=by
 obtain⟨_,g,_⟩:=h.ex
 exact g
theorem MpI.step{H H' H2:Hp}{L l:Addr}{tgt:List (List Int)}{i:Nat}{row:List Int}(h:MpI H L tgt i H')(hL:H L=none)(hi:i≤900)(hr:tgt[i]? = some row)(g2:az H' H2)(hl:H' l=none)(hl2:H2 l=some (.lst (row.map V.int))) :
  ∃xs,H2 L=some (.lst xs)∧xs.length<sizeLine∧MpI H L tgt (i+1) (upd H2 L (.lst (xs++[.ref l]))):=by
 obtain⟨us,g,e,hR,fr⟩:=h.ex
 have hul:=hR.len
 have htl:(tgt.take i).length≤i:=by rw[yr];lia
 have ne:L≠l:=ay e hl
 refine⟨us,g2 _ _ e,aE (by lia),us++[.ref l],aJ hL (g.trans g2) _,ae,?_,fun t ht=>?_⟩
 ·rw[List.take_succ,hr]
  refine Rows.off (Rows.snoc (hR.mono g2) ⟨l,rfl,hl2⟩) fun z=>?_
  rcases List.mem_append.mp z with z | z
  ·exact(fr L z) rfl
  ·exact ne (V.ref.inj (List.mem_singleton.mp z))
 ·rcases List.mem_append.mp ht with z | z
  ·exact fr t z
  ·rw[V.ref.inj (List.mem_singleton.mp z)]
   exact ne.symm
theorem rJ{h n:Int}(hh:0≤h)(hn:0≤n):Builtin.bitAnd n h=Builtin.bitAnd h n:=by rw[PyProof.Rows.bitAnd_pp hn hh,PyProof.Rows.bitAnd_pp hh hn,Nat.and_comm]
end My
namespace My
open PySem L2
noncomputable def jJ(d:Int)(n:Nat)(ℓ:Lin):Prop:=ℓ.ps.length≤900∧∀q∈ℓ.ps,0≤q.h∧q.h<(n:Int)∧0≤q.d∧q.d<d
noncomputable def Bi(d:Int)(n:Nat)(ls:List Lin):Prop:=ls.length≤40∧∀ℓ∈ls,jJ d n ℓ
theorem iR{d:Int}{n:Nat}{ℓ:Lin}(h:jJ d n ℓ):Bi d n [ℓ]:=⟨by simp,fun _ z=>by rw[List.mem_singleton.mp z];exact h⟩
theorem sJ{d:Int}{n:Nat}{ℓ m:Lin}(h:jJ d n ℓ)(i:jJ d n m):Bi d n [ℓ,m]:=⟨by simp,fun _ z=>by
 rcases List.mem_cons.mp z with z | z
 ·rw[z];exact h
 ·rw[List.mem_singleton.mp z];exact i⟩
theorem fU{d h c b:Int}{n:Nat}{ds ps:List Int}(h0:0≤h)(h1:h<(n:Int))(hd:∀x∈ds,0≤x∧x<d)(l:ds.length≤31)(p:ps.length≤6):jJ d n ⟨spr h ds ps c,b⟩:=by
 refine⟨?_,fun q hq=>?_⟩
 ·show(spr h ds ps c).length≤900
  rw[b6]
  exact yu (yba l p) (by decide)
 ·obtain⟨z1,z2,_,_⟩:=fY hq
  have:=hd _ z2
  lia
theorem qZ{s d:Nat}{x:Int}(h:x∈dsN s d):0≤x∧x<(d:Int):=by
 unfold dsN at h
 obtain⟨i,hi,rfl⟩:=yk.mp h
 have:=yp.mp (List.mem_filter.mp hi).1
 lia
theorem qY(ps:List Pst):(np ps).length≤ps.length:=by
 unfold np npI
 rw[ya]
 exact yu (yK _ _) (by rw[yx];exact yd _)
theorem nA{α β:Type}{f:α→List β}{B:Nat}(h:∀x,(f x).length≤B):∀xs:List α,(xs.flatMap f).length≤xs.length*B
 | []=>yq _
 | x::xs=>by
  rw[yca,yf,yD,yya]
  have:=nA h xs
  have:=h x
  lia
theorem mG{d h c b:Int}{n:Nat}{ps:List Pst}(h0:0≤h)(h1:h<(n:Int))(d1:1≤d)(d2:d≤31)(p:ps.length≤6):jJ d n ⟨byH h ps d.toNat c,b⟩:=by
 refine⟨?_,fun q hq=>?_⟩
 ·show(byH h ps d.toNat c).length≤900
  unfold byH byI
  refine yu (nA (B:=31) (fun x=>?_) _) ?_
  ·rw[b6,upL]
   show d.toNat*1≤31
   lia
  ·rw[upL]
   lia
 ·have hq':q∈byH h ps d.toNat c:=hq
  unfold byH byI at hq'
  obtain⟨y,hy,hq2⟩:=yza.mp hq'
  obtain⟨z1,z2,_,_⟩:=fY hq2
  have z6:=cU z2
  lia
theorem qf{d:Int}{n:Nat}{ps:List Pst}{s:Sp4}(ok:gT d n ps.length s)(d1:1≤d)(d2:d≤6)(p:ps.length≤6)(n8:n≤8):Bi d n (bG d.toNat n ps s):=by
 have k6:=ok.k6
 have al:=cB ps
 have hd:∀m,∀x∈dsN m d.toNat,0≤x∧x<d:=fun m x hx=>by have:=qZ hx;lia
 have dl:∀m,(dsN m d.toNat).length≤31:=fun m=>by have:=iy m d.toNat;lia
 obtain hk | hk | hk | hk | hk | hk | hk:s.k=0∨s.k=1∨s.k=2∨s.k=3∨s.k=4∨s.k=5∨s.k=6:=by lia
 ·rw[mw hk]
  obtain⟨a0,a1,_,_⟩:=ok.w hk
  refine iR ⟨?_,fun q hq=>?_⟩
  ·show(ca n s.a (1+s.b % (ps.length:Int))).length≤900
   unfold ca
   rw[ya,yx]
   lia
  ·have hq':q∈ca n s.a (1+s.b % (ps.length:Int)):=hq
   unfold ca at hq'
   obtain⟨i,hi,rfl⟩:=yk.mp hq'
   have:=yp.mp hi
   exact⟨by show(0:Int)≤(i:Int);lia,by show(i:Int)<n;lia,a0,a1⟩
 ·rw[mj hk]
  obtain⟨a0,a1⟩:=ok.h (by lia)
  exact iR (fU a0 a1 (hd _) (dl _) (by lia))
 ·rw[ln hk]
  obtain⟨a0,a1⟩:=ok.h (by lia)
  exact iR (fU a0 a1 (hd _) (dl _) (by lia))
 ·rw[mC hk]
  obtain⟨a0,a1⟩:=ok.h (by lia)
  unfold ia
  refine⟨by rw[ya];have:=dl s.b.toNat;lia,fun ℓ hℓ=>?_⟩
  obtain⟨x,hx,rfl⟩:=yk.mp hℓ
  exact fU a0 a1 (fun y hy=>by rw[List.mem_singleton.mp hy];exact hd _ _ hx) (by simp) (by lia)
 ·rw[jQ hk]
  obtain⟨a0,a1⟩:=ok.h (by lia)
  obtain⟨c0,c1⟩:=ok.c4 hk
  unfold cg
  refine⟨by rw[ya,yx];lia,fun ℓ hℓ=>?_⟩
  obtain⟨i,hi,rfl⟩:=yk.mp hℓ
  have hi':=yp.mp hi
  have nl:=qY ps
  exact fU a0 a1 (fun y hy=>by have:=cU hy;lia) (by rw[upL];lia) (by lia)
 ·rw[lL hk]
  obtain⟨a0,a1⟩:=ok.h (by lia)
  exact sJ (mG a0 a1 d1 (by lia) p) (mG a0 a1 d1 (by lia) p)
 ·rw[lR hk]
  obtain⟨a0,a1⟩:=ok.h (by lia)
  obtain⟨b0,b1,_⟩:=ok.o hk
  unfold c6
  refine⟨by rw[ya,eU];exact yu (yba (show d.toNat≤6 by lia) p) (by decide),fun ℓ hℓ=>?_⟩
  obtain⟨x,hx,rfl⟩:=yk.mp hℓ
  obtain⟨⟨x0,x1⟩,_⟩:=i7.mp hx
  refine⟨by show 2≤900;decide,fun q hq=>?_⟩
  have hq':q∈[(⟨s.a,x.1,x.2,-1⟩:Prt),⟨s.b,x.1,x.2,-1⟩]:=hq
  rcases List.mem_cons.mp hq' with z | z
  ·rw[z]
   exact⟨a0,a1,x0,by show x.1<d;lia⟩
  ·rw[List.mem_singleton.mp z]
   exact⟨b0,b1,x0,by show x.1<d;lia⟩
structure kf(H:Hp)(L:Addr)(d:Int)(hs:List Int)(ps:List Pst)(i:Nat)(H':Hp):Prop where
 ex:∃(us:List V) (rows:List (List Int)),az H H'∧H' L=some (.lst us)∧Rows H' us rows∧jR d hs ps i rows∧us.Nodup∧∀t,V.ref t∈us→t≠L∧H t=none
theorem kf.start{H:Hp}{L:Addr}{d:Int}{hs:List Int}{ps:List Pst}(hL:H L=none):kf H L d hs ps 0 (upd H L (.lst [])) :=
 ⟨[],[],ah hL _,ae,.nil,⟨rfl,fun j z=>by lia⟩,yia,fun t z=>by cases z⟩
theorem kf.same{H H':Hp}{L:Addr}{d:Int}{hs:List Int}{ps:List Pst}{i:Nat}(h:kf H L d hs ps i H'):az H H':=by
 obtain⟨_,_,g,_⟩:=h.ex
 exact g
theorem kf.step{H H' H2:Hp}{L l:Addr}{d x:Int}{hs:List Int}{ps:List Pst}{i:Nat}{row:List Int}(h:kf H L d hs ps i H')(hL:H L=none)(hi:i≤900)(g2:az H' H2)(hl:H' l=none)(hl2:H2 l=some (.lst (row.map V.int)))(hh:hs[i]? = some x)(hp:du d x ps row=true) :
  ∃xs,H2 L=some (.lst xs)∧xs.length<sizeLine∧kf H L d hs ps (i+1) (upd H2 L (.lst (xs++[.ref l]))):=by
 obtain⟨us,rows,g,e,hR,hT,nd,fr⟩:=h.ex
 have hul:=hR.len
 have hrl:=hT.len
 have ne:L≠l:=ay e hl
 refine⟨us,g2 _ _ e,aE (by lia),us++[.ref l],rows++[row],aJ hL (g.trans g2) _,ae,?_,hT.snoc hh hp,mP nd (hR.notin hl),fun t ht=>?_⟩
 ·refine Rows.off (Rows.snoc (hR.mono g2) ⟨l,rfl,hl2⟩) fun z=>?_
  rcases List.mem_append.mp z with z | z
  ·exact(fr L z).1 rfl
  ·exact ne (V.ref.inj (List.mem_singleton.mp z))
 ·rcases List.mem_append.mp ht with z | z
  ·exact fr t z
  ·rw[V.ref.inj (List.mem_singleton.mp z)]
   exact⟨ne.symm,g.free hl⟩
noncomputable def wd(L:Addr)(H0 H:Hp)(v:V)(ℓ:Lin):Prop:=∃t l ts,v=.ref t∧H t=some (.tup [.ref l,.int ℓ.b])∧H l=some (.lst ts)∧cI H ts ℓ.ps∧l≠L∧H0 l=none
noncomputable def BR(H0 H:Hp)(v:V)(ℓ:Lin):Prop:=∃t l ts,v=.ref t∧H t=some (.tup [.ref l,.int ℓ.b])∧H l=some (.lst ts)∧cI H ts ℓ.ps∧H0 l=none
noncomputable abbrev j2(H0 H:Hp):List V→List Lin→Prop:=Paired (BR H0 H)
structure fu(H:Hp)(L:Addr)(ls:List Lin)(H':Hp):Prop where
 ex:∃us:List V,az H H'∧H' L=some (.lst us)∧Paired (wd L H H') us ls
theorem fu.start{H:Hp}{L:Addr}(hL:H L=none):fu H L [] (upd H L (.lst [])):=⟨[],ah hL _,ae,.nil⟩
theorem fu.same{H H':Hp}{L:Addr}{ls:List Lin}(h:fu H L ls H'):az H H':=by
 obtain⟨_,g,_⟩:=h.ex
 exact g
theorem fu.done{H H':Hp}{L:Addr}{ls:List Lin}(h:fu H L ls H'):∃us,az H H'∧H' L=some (.lst us)∧j2 H H' us ls:=by
 obtain⟨us,g0,e,hT⟩:=h.ex
 exact⟨us,g0,e,Paired.mapP hT fun _ _ ⟨t,l,ts,e,q,r,z,n,f⟩=>⟨t,l,ts,e,q,r,z,f⟩⟩
theorem fu.step{H H' H2:Hp}{L l t:Addr}{ls:List Lin}{ts:List V}{qs:List Prt}{b:Int}(h:fu H L ls H')(hL:H L=none)(hi:ls.length≤900)(g2:az H' H2)(hl:H' l=none)(el:H2 l=some (.lst ts))(hP:cI H2 ts qs)(ht:H2 t=none) :
  ∃xs,upd H2 t (.tup [.ref l,.int b]) L=some (.lst xs)∧xs.length<sizeLine∧fu H L (ls++[⟨qs,b⟩]) (upd (upd H2 t (.tup [.ref l,.int b])) L (.lst (xs++[.ref t]))):=by
 obtain⟨us,g,e,hT⟩:=h.ex
 have hul:=Paired.length hT
 have gt:=ah ht (.tup [.ref l,.int b])
 have ne:l≠L:=(ay e hl).symm
 have gg:=g2.trans gt
 have eL:=gg _ _ e
 refine⟨us,eL,aE (by lia),us++[.ref t],aJ hL (g.trans gg) _,ae,?_⟩
 refine aU (Paired.mapP hT fun _ _ ⟨t',l',ts',e',q',r',z',n',f'⟩=>⟨t',l',ts',e',(bc eL) _ _ (gg _ _ q'),by rw[au n'];exact gg _ _ r',(z'.mono (aC gg)).mono (bc eL),n',f'⟩) ?_
 exact⟨t,l,ts,rfl,(bc eL) _ _ ae,by rw[au ne];exact gt _ _ el,(hP.mono (aC gt)).mono (bc eL),ne,g.free hl⟩
theorem wj{m k:Nat}(h:m≤k):(0:Int)≤1*2 ^ m∧(1:Int)*2 ^ m≤((2 ^ k:Nat):Int):=by
 rw[Int.one_mul,show(2:Int) ^ m=((2 ^ m:Nat):Int) by simp]
 exact⟨yY _,Int.ofNat_le.mpr (yRa (by decide) h)⟩
theorem wD{f o z:Int}(f0:0≤f)(f1:f≤8192)(o0:0≤o)(o1:o≤536870912)(z0:0≤z)(z1:z<4):∃w:Int,atI [V.int 0,.int f,.int o,.int (f+o)] z=some (.int w)∧okH w:=by
 obtain rfl | rfl | rfl | rfl:z=0∨z=1∨z=2∨z=3:=by lia
 ·exact⟨_,rfl,by decide,by decide⟩
 all_goals exact⟨_,rfl,by omega,by lia⟩
theorem B0{z:Int}(h0:0≤z)(h1:z<5):∃w:Int,atI [V.int 3,.int 1,.int 2,.int 3,.int 0] z=some (.int w)∧0≤w∧w<4:=by
 obtain rfl | rfl | rfl | rfl | rfl:z=0∨z=1∨z=2∨z=3∨z=4:=by lia
 all_goals exact⟨_,rfl,by decide,by decide⟩
theorem xx{x z:Int}(x0:0≤x)(x1:x≤1000000000)(h0:0≤z)(h1:z<3):∃w:Int,atI [V.int x,.int 1000000000,.int 8] z=some (.int w)∧0≤w∧w≤1000000000:=by
 obtain rfl | rfl | rfl:z=0∨z=1∨z=2:=by lia
 ·exact⟨_,rfl,x0,x1⟩
 all_goals exact⟨_,rfl,by decide,by decide⟩
theorem uF{ns:List Int}{k:Int}(h0:0≤k)(h:k<(ns.length:Int)):∃v∈ns,atI (ns.map V.int) k=some (.int v):=by
 have hk:k.toNat<ns.length:=by lia
 have q:atI (ns.map V.int) ((k.toNat:Nat):Int)=some (.int ns[k.toNat]):=bg (by rw[yj,yb hk] <;> rfl)
 rw[show((k.toNat:Nat):Int)=k by lia] at q
 exact⟨_,yQ hk,q⟩
theorem jj{H0 H:Hp}{p p1 l:Addr}{ts:List V}{qs:List Prt}{b:Int}(h0:H0 l=none)(el:H l=some (.lst ts))(hP:cI H ts qs)(hp:H p=none)(hp1:upd H p (.tup [.ref l,.int b]) p1=none):az H (upd (upd H p (.tup [.ref l,.int b])) p1 (.lst [.ref p]))∧H p1=none∧j2 H0 (upd (upd H p (.tup [.ref l,.int b])) p1 (.lst [.ref p])) [.ref p] [⟨qs,b⟩]:=by
 have g1:=ah hp (.tup [.ref l,.int b])
 have g2:=ah hp1 (.lst [.ref p])
 have gg:=g1.trans g2
 exact⟨gg,g1.free hp1,.cons ⟨p,l,ts,rfl,g2 _ _ ae,gg _ _ el,hP.mono (aC gg),h0⟩ .nil⟩
theorem rY{d n:Nat}{ps:List Pst}{s:Sp4}(hk:s.k≠4∧s.k≠5):dn d n ps s=bG d n ps s:=by
 unfold dn
 rw[if_neg hk.1,if_neg hk.2]
theorem EI{d n:Nat}{ps:List Pst}{s:Sp4}(hk:s.k=4):dn d n ps s=fj s.a s.c d ps:=by
 unfold dn
 rw[if_pos hk]
theorem FD{d n:Nat}{ps:List Pst}{s:Sp4}(hk:s.k=5):dn d n ps s=[⟨eX s.a d ps 1,s.b⟩,⟨eX s.a d ps (-1),-s.c⟩]:=by
 unfold dn
 rw[if_neg (by lia),if_pos hk]
structure iY(H:Hp)(L:Addr)(qs:List Prt)(H':Hp):Prop where
 ex:∃us:List V,az H H'∧H' L=some (.lst us)∧cI H us qs
theorem iY.start{H:Hp}{L:Addr}(hL:H L=none):iY H L [] (upd H L (.lst [])):=⟨[],ah hL _,ae,.nil⟩
theorem iY.same{H H':Hp}{L:Addr}{qs:List Prt}(h:iY H L qs H'):az H H':=by
 obtain⟨_,g,_⟩:=h.ex
 exact g
theorem iY.step{H H':Hp}{L t:Addr}{qs:List Prt}{q:Prt}(h:iY H L qs H')(hL:H L=none)(hl:qs.length≤900)(ht:H t=some (.tup [.int q.h,.int q.d,.int q.p,.int q.n])) :
  ∃xs,H' L=some (.lst xs)∧xs.length<sizeLine∧iY H L (qs++[q]) (upd H' L (.lst (xs++[.ref t]))):=by
 obtain⟨us,g,e,hT⟩:=h.ex
 have hul:=Paired.length hT
 exact⟨us,e,aE (by lia),us++[.ref t],aJ hL g _,ae,aU hT ⟨t,rfl,ht⟩⟩
theorem jS{α:Type}{xs:List α}{i:Nat}{x:α}(p:α→Bool)(h:xs[i]? = some x):(xs.take (i+1)).filter p=(xs.take i).filter p++if p x=true then [x] else []:=by
 rw[aP h,yM,yma,ySa]
theorem lm{α:Type}(xs:List α)(i:Nat)(p:α→Bool):((xs.take i).filter p).length≤xs.length:=by
 have h1:=yK p (xs.take i)
 rw[yr] at h1
 lia
theorem jP(n:Nat)(d p:Int):(ca n d p).length=n:=by
 unfold ca
 rw[ya,yx]
theorem rs0{d a b c:Int}{n P:Nat}(hP:0<P)(a0:0≤a)(a1:a<d)(c0:0≤c)(c1:c≤99):gT d n P ⟨0,a,b,c⟩ :=
 ⟨by show 0≤6;decide,hP,fun _=>⟨a0,a1,c0,c1⟩,fun z=>absurd rfl z,fun z=>by simp at z,fun z=>by simp at z,fun z=>by simp at z,fun z=>by simp at z,fun z=>by simp at z,fun z=>by simp at z⟩
theorem rs6{d a b:Int}{n P:Nat}(hP:0<P)(a0:0≤a)(a1:a<(n:Int))(b0:0≤b)(b1:b<(n:Int))(ne:a≠b):gT d n P ⟨6,a,b,0⟩ :=
 ⟨by show 6≤6;decide,hP,fun z=>by simp at z,fun _=>⟨a0,a1⟩,fun z=>by simp at z,fun z=>by simp at z,fun z=>by simp at z,fun z=>by simp at z,fun z=>by simp at z,fun _=>⟨b0,b1,ne⟩⟩
theorem rs5{d a b c:Int}{n P:Nat}(hP:0<P)(a0:0≤a)(a1:a<(n:Int))(b0:0≤b)(b1:b≤100000000000)(c0:-1≤c)(c1:c≤100000000000):gT d n P ⟨5,a,b,c⟩ :=
 ⟨by show 5≤6;decide,hP,fun z=>by simp at z,fun _=>⟨a0,a1⟩,fun z=>by simp at z,fun z=>by simp at z,fun z=>by simp at z,fun z=>by simp at z,fun _=>⟨b0,b1,c0,c1⟩,fun z=>by simp at z⟩
theorem uk{d a b c:Int}{n P k:Nat}(hP:0<P)(k1:1≤k)(k4:k≤4)(a0:0≤a)(a1:a<(n:Int))(b0:0≤b)(b1:b<2147483648)(c0:-1≤c)(c1:c≤99)(c2:k≠1→0≤c):gT d n P ⟨k,a,b,c⟩ :=
 ⟨by show k≤6;lia,hP,fun z=>by have:k=0:=z;lia,fun _=>⟨a0,a1⟩,fun _=>⟨b0,b1⟩,fun _=>⟨c0,c1⟩,fun z=>⟨c2 (by have:k=2:=z;lia),c1⟩,fun z=>⟨c2 (by have:k=4:=z;lia),c1⟩,fun z=>by have:k=5:=z;lia,fun z=>by have:k=6:=z;lia⟩
theorem nR{h t n:Int}(h0:0≤h)(h1:h<n)(t0:0≤t)(t1:t<n-1):0≤(h+1+t) % n∧(h+1+t) % n<n∧h≠(h+1+t) % n:=by
 refine⟨yA _ (by lia),yw _ (by lia),?_⟩
 by_cases z:h+1+t<n
 ·rw[Int.emod_eq_of_lt (by lia) z]
  lia
 ·have e:h+1+t=(h+1+t-n)+n:=by lia
  rw[e,Int.add_emod_right,Int.emod_eq_of_lt (by lia) (by lia)]
  lia
theorem oA{H:Hp}{ts:List V}{ps:List Pst}{p:Int}(h:bQ H ts ps)(hp:p∈bL ps):∃(t:Addr) (q:Pst),atI ts (p-1)=some (.ref t)∧H t=some (.tup [.int q.1,.int q.2.1,.int q.2.2])∧hrV ps p=q.2.1∧ngt ps p.toNat=decide (q.2.2=1):=by
 obtain⟨p1,p2⟩:=cU hp
 obtain⟨k,hk⟩:∃k:Nat,p=k+1:=⟨(p-1).toNat,by omega⟩
 have hkl:k<ps.length:=by lia
 obtain⟨t,e1,e2⟩:=h.get (yb hkl)
 refine⟨t,ps[k],?_,e2,?_,?_⟩
 ·rw[show p-1=(k:Int) by lia]
  exact bg e1
 ·unfold hrV
  rw[hk,show((k:Int)+1).toNat=k+1 by lia]
  show(ps[k]?.getD dN).2.1=_
  rw[yb hkl,yz]
 ·rw[hk,show((k:Int)+1).toNat=k+1 by lia]
  show decide ((ps[k]?.getD dN).2.2=1)=_
  rw[yb hkl,yz]
theorem jr(n:Nat):((List.range n).map fun i:Nat=>(i:Int))=bh 0 n:=by
 unfold bh
 refine yR fun i _=>?_
 lia
noncomputable def sL(h:Int)(ps:List Pst)(x:Int):Lin:=⟨spr h [x] (bL ps) (-1),0⟩
theorem vF(h:Int)(ps:List Pst)(days d:Nat):ia h ps days d=(dsN days d).map (sL h ps):=rfl
noncomputable def nlI(ps:List Pst)(m:Int)(S:List Prt)(i:Nat):List Lin:=(List.range i).map fun j:Nat=>⟨S.filter (fK ps j m),-m⟩
theorem rG(ps:List Pst)(m:Int)(S:List Prt)(i:Nat):nlI ps m S (i+1)=nlI ps m S i++[⟨S.filter (fK ps i m),-m⟩]:=by
 unfold nlI
 rw[yO,yg]
 rfl
theorem vi(ps:List Pst)(m:Int)(S:List Prt)(i:Nat):(nlI ps m S i).length=i:=by
 unfold nlI
 rw[ya,yx]
noncomputable def inW(i m:Int)(q:Prt):Bool:=decide (i≤q.d)&&decide (q.d≤i+m)
noncomputable def dJ(ps:List Pst)(q:Prt):Bool:=ngt ps q.p.toNat
theorem pM(ps:List Pst)(i m:Int)(S:List Prt):(S.filter (dJ ps)).filter (inW i m)=S.filter (fK ps i m):=by
 rw[yCb]
 refine ypa fun q _=>?_
 unfold inW dJ fK
 rw[Bool.and_comm]
noncomputable def eK(ps:List Pst)(t:Int)(q:Prt):Prt:=⟨q.h,q.d,q.p,hrV ps q.p*t⟩
theorem xg(h:Int)(d:Nat)(ps:List Pst)(t:Int):eX h d ps t=(spr h (bh 0 d) (bL ps) 1).map (eK ps t):=rfl
theorem sS(ps:List Pst)(q:Prt):eK ps (-1) q=⟨(eK ps 1 q).h,(eK ps 1 q).d,(eK ps 1 q).p,0-(eK ps 1 q).n⟩:=by
 unfold eK
 congr 1
 show hrV ps q.p*(-1)=0-hrV ps q.p*1
 lia
theorem qI{H0 H:Hp}{p1 p2 p3 l m:Addr}{ts us:List V}{qs rs:List Prt}{b c:Int}(h0:H0 l=none)(h1:H0 m=none)(el:H l=some (.lst ts))(hP:cI H ts qs)(e1:H p1=some (.tup [.ref l,.int b]))(em:H m=some (.lst us))(hR:cI H us rs)(hp2:H p2=none)(hp3:upd H p2 (.tup [.ref m,.int c]) p3=none):az H (upd (upd H p2 (.tup [.ref m,.int c])) p3 (.lst [.ref p1,.ref p2]))∧H p3=none∧j2 H0 (upd (upd H p2 (.tup [.ref m,.int c])) p3 (.lst [.ref p1,.ref p2])) [.ref p1,.ref p2] [⟨qs,b⟩,⟨rs,c⟩]:=by
 have g1:=ah hp2 (.tup [.ref m,.int c])
 have g2:=ah hp3 (.lst [.ref p1,.ref p2])
 have gg:=g1.trans g2
 exact⟨gg,g1.free hp3,.cons ⟨p1,l,ts,rfl,gg _ _ e1,gg _ _ el,hP.mono (aC gg),h0⟩ (.cons ⟨p2,m,us,rfl,g2 _ _ ae,gg _ _ em,hR.mono (aC gg),h1⟩ .nil)⟩
noncomputable def sF(ps:List Pst)(q:Prt):Prt:=eK ps (-1) q
theorem Bs(h:Int)(d:Nat)(ps:List Pst):eX h d ps (-1)=(spr h (bh 0 d) (bL ps) 1).map (sF ps):=rfl
structure kH(H:Hp)(L:Addr)(Pr:Sp4→Prop)(i:Nat)(H':Hp):Prop where
 ex:∃(us:List V) (ss:List Sp4),ss.length=i∧az H H'∧H' L=some (.lst us)∧lU H' us ss∧∀s∈ss,Pr s
theorem kH.start{H:Hp}{L:Addr}{Pr:Sp4→Prop}(hL:H L=none):kH H L Pr 0 (upd H L (.lst [])):=⟨[],[],rfl,ah hL _,ae,.nil,fun s z=>by cases z⟩
theorem kH.same{H H':Hp}{L:Addr}{Pr:Sp4→Prop}{i:Nat}(h:kH H L Pr i H'):az H H':=by
 obtain⟨_,_,_,g,_⟩:=h.ex
 exact g
theorem kH.step{H H' H2:Hp}{L t:Addr}{Pr:Sp4→Prop}{i:Nat}{s:Sp4}(h:kH H L Pr i H')(hL:H L=none)(hi:i≤900)(g2:az H' H2)(et:H2 t=some (.tup [.int (s.k:Nat),.int s.a,.int s.b,.int s.c]))(hs:Pr s) :
  ∃xs,H2 L=some (.lst xs)∧xs.length<sizeLine∧kH H L Pr (i+1) (upd H2 L (.lst (xs++[.ref t]))):=by
 obtain⟨us,ss,hl,g,e,hS,ok⟩:=h.ex
 have hul:=Paired.length hS
 have eL:=g2 _ _ e
 refine⟨us,eL,aE (by lia),us++[.ref t],ss++[s],by rw[yf,hl];rfl,aJ hL (g.trans g2) _,ae,?_,fun x hx=>?_⟩
 ·exact lU.tmono (bc eL) (aU (lU.tmono (aC g2) hS) ⟨t,rfl,et⟩)
 ·rcases List.mem_append.mp hx with z | z
  ·exact ok x z
  ·rw[List.mem_singleton.mp z];exact hs
structure km(C:Nat→Addr)(P:Nat)(H:Hp)(L:Addr)(ss:List Sp4)(i:Nat)(H':Hp):Prop where
 ex:∃us:List V,az H H'∧H' L=some (.lst us)∧lb C P H' us (ss.take i)
theorem km.start{C:Nat→Addr}{P:Nat}{H:Hp}{L:Addr}{ss:List Sp4}(hL:H L=none):km C P H L ss 0 (upd H L (.lst [])):=⟨[],ah hL _,ae,by rw[yla];exact .nil⟩
theorem km.same{C:Nat→Addr}{P:Nat}{H H':Hp}{L:Addr}{ss:List Sp4}{i:Nat}(h:km C P H L ss i H'):az H H':=by
 obtain⟨_,g,_⟩:=h.ex
 exact g
theorem km.step{C:Nat→Addr}{P:Nat}{H H' H2:Hp}{L x:Addr}{ss:List Sp4}{i:Nat}{s:Sp4}(h:km C P H L ss i H')(hL:H L=none)(hi:i≤900)(hs:ss[i]? = some s)(g2:az H' H2)(hx:jB C P H2 (.ref x) s) :
  ∃xs,H2 L=some (.lst xs)∧xs.length<sizeLine∧km C P H L ss (i+1) (upd H2 L (.lst (xs++[.ref x]))):=by
 obtain⟨us,g,e,hS⟩:=h.ex
 have hul:=Paired.length hS
 rw[yr] at hul
 have eL:=g2 _ _ e
 refine⟨us,eL,aE (by lia),us++[.ref x],aJ hL (g.trans g2) _,ae,?_⟩
 rw[aP hs]
 exact Paired.mapP (aU (lb.mono g2 hS) hx) fun _ _ ⟨y,dy,ey,qy⟩=>⟨y,dy,ey,by rw[au (fun z=>by rw[z,eL] at qy;cases qy)];exact qy⟩
end My
namespace PySem
section
variable{prog:Program}{w:World}{K:Type}[DecidableEq K]{A:Around}{E:Value→Shared→Prop}{s:Shared}
theorem fD{b:Addr}{Q:Bool→Shared→Prop}(ht:s.TypeIs (.ref b) "tuple")(h:Q false s):wpAny (model prog w) A (Builtin.Dict.quietEq (.ref b)) Q E s:=by
 unfold Builtin.Dict.quietEq
 refine wpAny_bind (wpAny_specialOf ht F.slot_tuple_eq.lookup ?_)
 exact wpAny_pure h
theorem dB{id:String}{d:Addr}{o:Obj}{es ep}{Q:Array DictEntry→Shared→Prop}(ho:s.heap.get? d=some o)(hd:o.data=.dict es ep)
  (hk:∀e∈es.toList,∃b,e.key=.ref b∧s.TypeIs (.ref b) "tuple") (hh:∀e∈es.toList,(es.filter (·.hash == e.hash)).size≤1) (h:Q es s) :
  wpAny (model prog w) A (Builtin.Dict.entriesForEmpty id d) Q E s:=by
 unfold Builtin.Dict.entriesForEmpty
 refine wpAny_bind (wpAny_dictEntries ho hd ?_)
 refine wpAny_bind ?_
 rw[← Array.forIn_toList]
 refine wpAny_forIn_list _ (fun rest _ s'=>s'=s∧∃pre,pre++rest=es.toList) _ ?_ ?_ _ _ ⟨rfl,[],rfl⟩
 ·rintro e rest b s' ⟨rfl,pre,hp⟩
  have he:e∈es.toList:=by rw[← hp];simp
  obtain⟨b,hb,ht⟩:=hk e he
  rw[hb]
  refine wpAny_bind (fD ht ?_)
  have:=hh e he
  rw[if_pos (by decide),if_neg (by omega)]
  exact wpAny_pure ⟨rfl,pre++[e],by rw[← hp];simp⟩
 ·rintro b s' ⟨rfl,_⟩
  exact wpAny_pure h
theorem nc{es:Array DictEntry}{hs:List Int}(he:es.toList.map (·.hash)=hs)(hn:hs.Nodup):∀e∈es.toList,(es.filter (·.hash == e.hash)).size≤1:=fun e hem=>by
 rw[← yfa,Array.toList_filter]
 subst he
 generalize es.toList=l at hem hn
 clear hem
 induction l with
 | nil=>exact yq _
 | cons x xs ih =>
  rw[yi,yP] at hn
  rw[yma]
  by_cases z:(x.hash == e.hash)=true
  ·rw[if_pos z,yD]
   have e0:xs.filter (·.hash == e.hash)=[]:=by
    rw[yJa]
    intro y hy w
    have h1:x.hash=e.hash:=by simpa using z
    have h2:y.hash=e.hash:=by simpa using w
    exact hn.1 (yk.mpr ⟨y,hy,by rw[h2,h1]⟩)
   rw[e0]
   exact yd _
  ·rw[if_neg z]
   exact ih hn.2
variable{kx:KeyKind prog w K}
theorem hV{nm:String}{d o:Addr}{xs:List (List K×Addr×Value)}{Q:Unit→Shared→Prop}(hdo:d≠o)(hoS:(o == sysModules)=false)
  (hd:s.heap.DictOfH (tupleKind kx) d []) (ho:s.heap.DictOfH (tupleKind kx) o xs) (hh:(xs.map fun x=>(tupleKind kx).hash x.1).Nodup) (hsz:xs.length≤sizeLine)
  (hQ:∀h',h'.DictOfH (tupleKind kx) d xs→Heap.SameBut d s.heap h'→Q () { s with heap:=h' }) :
  wpAny (model prog w) A (Builtin.Dict.mergeDict nm d o) Q E s:=by
 obtain⟨od,esd,epd,hod,hcd,hdd,hed,hid,hnd⟩:=id hd
 obtain⟨oo,eso,epo,hoo,hco,hdo',heo,hio,hno⟩:=id ho
 have hlen:=size_of_entries heo
 have hd0:esd = #[]:=by
  have:=size_of_entries hed
  exact yTa this
 unfold Builtin.Dict.mergeDict
 rw[if_neg (by simpa using hdo)]
 unfold Builtin.Dict.showsAll
 rw[if_neg (by rw[hoS];exact yl)]
 refine wpAny_bind (wpAny_pure ?_)
 refine wpAny_bind (wpAny_dictEntries hoo hdo' ?_)
 dsimp only
 cases xs with
 | nil =>
  have ho0:eso = #[]:=yTa hlen
  subst ho0
  rw[if_neg (by simp)]
  refine wpAny_bind (wpAny_dictEpoch hoo hdo' ?_)
  refine wpAny_bind (wpAny_dictEntries hoo hdo' ?_)
  refine wpAny_bind ?_
  rw[Std.Legacy.Range.forIn_eq_forIn_range']
  simp only[Std.Legacy.Range.size,Nat.sub_zero,Nat.add_sub_cancel,Nat.div_one]
  refine wpAny_forIn_list _ (fun rest _ s'=>rest=[]∧s'=s) _ (fun _ _ _ _ z=>by cases z.1) (fun b s' z=>?_) _ _ ⟨rfl,rfl⟩
  obtain⟨_,rfl⟩:=z
  exact wpAny_pure (hQ _ hd (Heap.SameBut.refl _ _))
 | cons x xs =>
  have h0:eso[0]? = some (entryOfKey (tupleKind kx) x):=by rw[entry_at heo 0];rfl
  have hlt:0<eso.size:=by rw[hlen];exact ygb _
  have hall:(eso.all fun e=>(keyPart e.key).isSome)=false:=by
   rw[← Array.all_toList,heo,yi,yZa]
   rfl
  rw[hall,yEa,Bool.not_false,if_pos rfl]
  refine wpAny_bind (wpAny_dictEntries hod hdd ?_)
  rw[hd0,if_pos (by rfl)]
  have hk:∀e∈eso.toList,∃b,e.key=.ref b∧s.TypeIs (.ref b) "tuple" := fun e he=>by
   rw[heo] at he
   obtain⟨y,hy,rfl⟩:=yk.mp he
   exact⟨y.2.1,rfl,IsTupleKey.typeIs (hio y hy)⟩
  have hhs:eso.toList.map (·.hash)=(x::xs).map fun x=>(tupleKind kx).hash x.1:=by
   rw[heo,yW]
   rfl
  refine wpAny_bind (dB hoo hdo' hk (nc hhs hh) ?_)
  rw[if_pos (by
   have:eso.isEmpty=false:=by rw[Array.isEmpty_eq_false_iff];intro z;rw[z] at hlt;exact absurd hlt (by decide)
   rw[this];rfl)]
  have hsb:=Heap.SameBut.update (h:=s.heap) (a:=d) (f:=Obj.mapDictKeys fun _=>eso)
  refine wpAny_bind (wpAny_updateDictKeysTo hod hdd (wpAny_pure (hQ _ ⟨_,eso,epd+1,Heap.get?_update_self _ hod (Obj.isFreed_of_dict (Obj.data_mapDictKeys hdd _)),hcd.mapDictKeys _,Obj.data_mapDictKeys hdd _,heo,fun y hy=>(tupleKind kx).keeps (hio y hy) hod hdd (Heap.SameBut.update ..),hno⟩ (Heap.SameBut.update ..))) ?_)
  rw[hlen]
  lia
theorem jx{o:Addr}{xs:List (List K×Addr×Value)}{Q:Value→Shared→Prop}(hoS:(o == sysModules)=false)(ho:s.heap.DictOfH (tupleKind kx) o xs)(hh:(xs.map fun x=>(tupleKind kx).hash x.1).Nodup)(hsz:xs.length≤sizeLine)
  (h:∀h',h'.DictOfH (tupleKind kx) s.heap.objs.size xs→Heap.SameBut s.heap.objs.size (s.heap.push { cls:=.type "dict",data:=.dict #[] }) h'→Q (.ref s.heap.objs.size) { s with heap:=h' }) :
  wpAny (model prog w) A (call (.type "dict") [.ref o]) Q E s:=by
 refine callType_codes (Q₁:=fun obj s₁=>obj=.ref s.heap.objs.size∧s₁ = { s with heap:=s.heap.push { cls:=.type "dict",data:=.dict #[] } }) F.kt_called_dict (F.kt_typeCall_dict_1 _) F.entry_dict_init (kt_code_dict_new _ ⟨rfl,rfl⟩) ?_
 rintro obj s₁ ⟨rfl,rfl⟩
 have hnew:(s.heap.push { cls:=.type "dict",data:=.dict #[] }).DictOfH (tupleKind kx) s.heap.objs.size []:=Heap.DictOfH.new s.heap
 have hdo:s.heap.objs.size≠o:=by
  obtain⟨_,_,_,hg,_⟩:=ho
  exact fun e=>absurd (Heap.lt_size hg) (by rw[e];exact yZ _)
 have ho':(s.heap.push { cls:=.type "dict",data:=.dict #[] }).DictOfH (tupleKind kx) o xs:=by
  obtain⟨oo,es,ep,h1,h2,h3,h4,h5,h6⟩:=ho
  refine⟨oo,es,ep,Heap.get?_push_of_some _ h1,h2,h3,h4,fun x hx=>?_,h6⟩
  obtain⟨ot,its,n,k1,k2,k3,k4⟩:=h5 x hx
  exact⟨ot,its,n,Heap.get?_push_of_some _ k1,k2,k3,k4⟩
 refine⟨hnew.typeIs,F.args_dict_init_2 _ _,?_⟩
 unfold Builtin.«dict.__init__»
 refine wpAny_bind ?_
 unfold Builtin.Dict.selfAndRest
 refine wpAny_bind (wpAny_notOrdered_dict hnew.typeIs ?_)
 show wpAny _ _ (pure (s.heap.objs.size,[Value.ref o])) _ _ _
 refine wpAny_pure ?_
 show wpAny _ _ (Builtin.Dict.updateFrom "dict.__init__" s.heap.objs.size (.ref o) [] .none) _ _ _
 unfold Builtin.Dict.updateFrom
 refine wpAny_bind (wpAny_typeOf ho'.typeIs ?_)
 rw[if_neg (by decide)]
 refine wpAny_bind ?_
 unfold Builtin.Dict.merge
 refine wpAny_bind ?_
 unfold Builtin.Dict.readDirectly
 refine wpAny_bind (wpAny_isInstance ho'.typeIs isSubtype_dict_dict ?_)
 simp only[Bool.not_true,yDa,if_false]
 refine wpAny_bind (wpAny_specialOf ho'.typeIs F.slot_dict_iter.lookup (wpAny_pure ?_))
 simp only[beq_self_eq_true,if_true]
 refine wpAny_bind (wpAny_pure ?_)
 refine hV hdo hoS hnew ho' hh hsz fun h' hd' hs'=>?_
 show wpAny _ _ (Builtin.Dict.addKeywords s.heap.objs.size [] >>= _) _ _ _
 exact wpAny_bind (wpAny_pure (wpAny_pure ⟨rfl,h h' hd' hs'⟩))
end
end PySem
namespace L2
open PySem PySem.Spec PyProof.Rows
noncomputable def mf(ns:List Int):Int:=reduceHash (Builtin.Tuple.tupleHashOf (ns.map hashInt))
section
variable{X:Cx}
noncomputable def qv(X:Cx):List V→Hp→VK→Prop:=fun xs H Q=>∃a kvs,xs=[.ref a]∧H a=some (.dT kvs)∧(kvs.map fun kv=>tupleKeyHash (bE X.prog X.w) kv.1).Nodup∧∀p,H p=none→Q (.ref p) (upd H p (.dT kvs))
theorem KT.hashes{P:Program}{w:World}{H:Hp}:∀{kvs:List (List Key×V)} {xs:List (List Key×Addr×Value)},KT H kvs xs→(xs.map fun x=>(tupleKind (bE P w)).hash x.1)=kvs.map fun kv=>tupleKeyHash (bE P w) kv.1
 | _,_,.nil=>rfl
 | _,_,.cons h r=>by rw[yi,yi,KT.hashes r,h.1];rfl
theorem jk:cu X (.type "dict") (qv X):=by
 intro pins s σ H xs us Q I r h
 obtain⟨a,kvs,rfl,e,hn,q⟩:=h
 obtain⟨u,rfl,rx⟩:=bp.one r
 cases rx
 obtain⟨z,hd,xs,rel,dd⟩:=wm I.hok e
 have hl:kvs.length=xs.length:=Paired.length rel
 refine jx hd dd (by rw[KT.hashes rel];exact hn) (by lia) fun h' dd' hs=>?_
 refine⟨.ref s.heap.objs.size,_,I.laid (a:=s.heap.objs.size) (o:=.dT kvs) (t':=s.toks) (fun b q hq=>?_) (yd _) ?_,rfl,q _ (I.hok.fresh (yd _))⟩
 ·exact(hs.2 b (yF (Heap.lt_size hq))).trans (Heap.get?_push_of_some _ hq)
 ·obtain⟨o',es,ep,k1,k2,k3,k4,_,k6⟩:=dd'
  exact⟨z,beq_eq_false_iff_ne.mpr (yta (yF I.big)),xs,KT.keeps rel (fun b ys eb=>by rw[au (ay eb (I.hok.fresh (yd _)))];exact eb),o',es,ep,k1,k2,k3,k4,k6⟩
end
noncomputable def kN(ns:List Int):List Key:=ns.map Sum.inl
theorem oU(P:Program)(w:World)(ns:List Int):tupleKeyHash (bE P w) (kN ns)=mf ns:=by
 unfold tupleKeyHash mf kN
 rw[yW]
 rfl
end L2
namespace PySem
open Sem (wp)
namespace F
theorem lk_list_keys:typeLookup (.type "list") "keys" = pure none:=by rw[typeLookup_type,builtinLookup_eq_fast];kernel_rfl
theorem lk_list_hook:typeLookup (.type "list") "__getattr__" = pure none:=by rw[typeLookup_type,builtinLookup_eq_fast];kernel_rfl
end F
section
variable{prog:Program}{w:World}{A:Around}{E:Value→Shared→Prop}{h:Heap}{g:Array GenState}{d:Drawn}{t:Nat}{os:OsState}{a:Addr}{o:Obj}
theorem iq{tk:Tok}{Q:Fin→Shared→Prop}{E:Value→Shared→Prop}(hx:h.get? a=some o)(hc:o.cls=.type "list"){its:Array Value}{n:Nat}(hdt:o.data=.seq its n)(hdc:o.dict=none)(hh:A.handled=none)(hq:∀(e:Addr) (h':Heap) (t':Nat),(∀b ob,h.get? b=some ob→h'.get? b=some ob)→(∃oe,h'.get? e=some oe∧oe.cls=.type "AttributeError")→E (.ref e) ⟨h',g,d,t',os⟩) :
  wpAny (model prog w) A (Builtin.«object.__getattribute__» ⟨[.ref a,.str "keys" tk],[]⟩) Q E ⟨h,g,d,t,os⟩:=by
 have hT:(⟨h,g,d,t,os⟩:Shared).TypeIs (.ref a) "list" := ⟨_,hx,hc⟩
 have f4:=F.lk_list_keys
 repeat (any_goals (first | assumption | wp_step))
 rw[hdt]
 dsimp only
 unfold instanceDict
 repeat (any_goals (first | assumption | wp_step))
 rw[hc,hdc]
 dsimp only
 rw[if_pos (by rfl)]
 refine wpAny_pure ?_
 unfold Builtin.ObjectAttr.inDict
 dsimp only
 repeat (any_goals (first | assumption | wp_step))
 unfold raiseAttrError
 have hm:¬((Str.ofString (toString "'" ++ toString ((Manifest.find? "list").elim "list" fun x=>x.tpName)++toString "' object has no attribute '")++Str.ofString "keys" ++ Str.ofString "'").length>sizeLine):=by decide +kernel
 generalize (Str.ofString (toString "'" ++ toString ((Manifest.find? "list").elim "list" fun x=>x.tpName)++toString "' object has no attribute '")++Str.ofString "keys" ++ Str.ofString "'")=msg at hm
 refine wpAny_bind ?_
 unfold mkStr
 rw[if_neg hm]
 have fsub:isSubtype (.type "AttributeError") (.type "AttributeError")=pure true:=by rw[isSubtype_type];kernel_rfl
 have fman:((Manifest.find? "AttributeError").elim false fun t=>t.mro.contains "StopIteration" || t.mro.contains "SystemExit")=false:=by kernel_rfl
 have fown:ownMembersOf (.type "AttributeError") [Value.str msg t] = #[unsetMember,unsetMember]:=by rfl
 repeat (any_goals (first | assumption | wp_step))
 rw[fman,fown]
 have kp:∀(f:Obj→Obj) b ob,h.get? b=some ob→(((h.push { cls:=Value.type "tuple",data:=Data.seq #[Value.str msg t] }).push { cls:=Value.type "AttributeError",data:=Data.fields (#[Value.ref h.objs.size,Value.none,Value.none,Value.none,Value.bool false,if false=true then [Value.str msg t].headD Value.none else Value.none] ++ #[unsetMember,unsetMember]) }).update (h.push { cls:=Value.type "tuple",data:=Data.seq #[Value.str msg t] }).objs.size f).get? b=some ob:=fun f b ob hb=>by
  have hlt:=Heap.lt_size hb
  refine(Heap.get?_update_ne _ b _ f ?_).trans (Heap.get?_push_of_some _ (Heap.get?_push_of_some _ hb))
  have e1:(h.push { cls:=Value.type "tuple",data:=Data.seq #[Value.str msg t] }).objs.size=h.objs.size+1:=by simp[Heap.push]
  exact yF (by rw[e1];exact yab hlt)
 unfold raiseNew
 refine wpAny_bind (wpAny_handled ?_)
 rw[hh]
 dsimp only
 refine wpAny_bind (wpAny_pure (wpAny_throw (hq _ _ _ (kp _) ?_)))
 exact⟨_,Heap.get?_update_self _ (Heap.get?_push_size _ rfl) (by rfl),rfl⟩
theorem jc{tk:Tok}{R:Result→Shared→Prop}(hx:h.get? a=some o)(hc:o.cls=.type "list"){its:Array Value}{n:Nat}(hdt:o.data=.seq its n)(hdc:o.dict=none)(hh:A.handled=none)
  (hq:∀(e:Addr) (h':Heap) (t':Nat),(∀b ob,h.get? b=some ob→h'.get? b=some ob)→(∃oe,h'.get? e=some oe∧oe.cls=.type "AttributeError")→R (.error (.ref e)) ⟨h',g,d,t',os⟩) :
  codeAny (model prog w) A (.call (.builtin "list.__getattribute__") ⟨[.ref a,.str "keys" tk],[]⟩) R ⟨h,g,d,t,os⟩ :=
 codeAny_call_builtin F.slot_list_getattribute.plain F.entry_list_ga (F.slot_list_getattribute.check _ _ _ _ _ _ _ _ (show(⟨h,g,d,t,os⟩:Shared).TypeIs (.ref a) "list" from ⟨_,hx,hc⟩) (F.args_list_getattribute_2 _ _) (iq hx hc hdt hdc hh hq))
theorem kK{tk:Tok}{Q:Value→Shared→Prop}{E:Value→Shared→Prop}(hx:h.get? a=some o)(hc:o.cls=.type "list"){its:Array Value}{n:Nat}(hdt:o.data=.seq its n)(hdc:o.dict=none)(hh:A.handled=none)
  (hq:∀(e:Addr) (h':Heap) (t':Nat),(∀b ob,h.get? b=some ob→h'.get? b=some ob)→(∃oe,h'.get? e=some oe∧oe.cls=.type "AttributeError")→E (.ref e) ⟨h',g,d,t',os⟩):wpAny (model prog w) A (getAttrBy (.ref a) (.str "keys" tk) false) Q E ⟨h,g,d,t,os⟩:=by
 have hT:(⟨h,g,d,t,os⟩:Shared).TypeIs (.ref a) "list" := ⟨_,hx,hc⟩
 have f2:=F.slot_list_getattribute.lookup
 have f3:=F.slot_list_getattribute.bind (.ref a)
 repeat (any_goals (first | assumption | wp_step))
 refine jc hx hc hdt hdc hh fun e h' t' k1 k2=>?_
 dsimp only
 obtain⟨oe,he,hec⟩:=id k2
 have hTe:(⟨h',g,d,t',os⟩:Shared).TypeIs (.ref e) "AttributeError" := ⟨_,he,hec⟩
 have fsub:isSubtype (.type "AttributeError") (.type "AttributeError")=pure true:=by rw[isSubtype_type];kernel_rfl
 have fhk:=F.lk_list_hook
 unfold getattributeRaised
 repeat (any_goals (first | assumption | wp_step))
 exact hq e h' t' k1 k2
theorem jp{Q:Option Value→Shared→Prop}(hx:h.get? a=some o)(hc:o.cls=.type "list"){its:Array Value}{n:Nat}(hdt:o.data=.seq its n)(hdc:o.dict=none)(hh:A.handled=none)
  (hq:∀(h':Heap) (t':Nat),(∀b ob,h.get? b=some ob→h'.get? b=some ob)→Q none ⟨h',g,d,t',os⟩):wpAny (model prog w) A (getAttr? (.ref a) "keys") Q E ⟨h,g,d,t,os⟩:=by
 have fsub:isSubtype (.type "AttributeError") (.type "AttributeError")=pure true:=by rw[isSubtype_type];kernel_rfl
 unfold getAttr? getAttrBy?
 refine wpAny_bind ?_
 unfold mkText
 repeat (any_goals (first | assumption | (with_reducible apply kK hx hc hdt hdc hh) | wp_step))
 intro e h' t' k1 k2
 obtain⟨oe,he,hec⟩:=id k2
 have hTe:(⟨h',g,d,t',os⟩:Shared).TypeIs (.ref e) "AttributeError" := ⟨_,he,hec⟩
 dsimp only
 repeat (any_goals (first | assumption | wp_step))
 exact hq h' t' k1
end
end PySem
namespace PySem
open Sem (wp)
namespace F
theorem entry_dict_loop:entryFor table "dict.update.loop" = some Builtin.«dict.update.loop»:=entryFor_of_tree (by kernel_rfl)
end F
structure nW{prog:Program}{w:World}{K:Type}[DecidableEq K](kx:KeyKind prog w K)(h:Heap)(x:Value)(p:List K×Addr×Value):Prop where
 ex:∃t o n,x=.ref t∧h.get? t=some o∧o.cls=.type "tuple" ∧ o.data=.seq #[.ref p.2.1,p.2.2] n
 key:(tupleKind kx).is h p.1 p.2.1
section
variable{prog:Program}{w:World}{K:Type}[DecidableEq K]{kx:KeyKind prog w K}{A:Around}
noncomputable def nS(a b:Addr)(h0 h:Heap):Prop:=∀c o,h0.get? c=some o→c≠a→c≠b→h.get? c=some o
theorem kc{h h':Heap}{d it l:Addr}{i:Nat}{xs:List (List K×Addr×Value)}(hD:h.DictOfH (tupleKind kx) d xs)(hI:h.IsListIter it l i)(hx:Heap.ExtBut it h h')(hne:it≠d):h'.DictOfH (tupleKind kx) d xs:=by
 obtain⟨o,es,ep,h1,h2,h3,h4,h5,h6⟩:=hD
 obtain⟨oi,i1,i2,i3⟩:=hI
 refine⟨o,es,ep,hx _ _ (yta hne) h1,h2,h3,h4,fun x hx'=>?_,h6⟩
 obtain⟨ot,its,n,k1,k2,k3,k4⟩:=h5 x hx'
 refine⟨ot,its,n,hx _ _ (fun z=>?_) k1,k2,k3,k4⟩
 rw[z,i1] at k1
 cases k1
 rw[i2] at k2
 injection k2 with k2
 exact absurd k2 (by decide)
theorem iJ{h0:Heap}{d it l:Addr}{items:Array Value}{ps:List (List K×Addr×Value)}{R:Result→Shared→Prop}(hu2:∀args,(A.under (.builtin "dict.update.loop" args)).units<cLine)(hh:A.handled=none)
  (hit:∀b o,h0.get? b=some o→b≠it∧b≠d) (hl:h0.IsList l items) (hlen:ps.length=items.size) (hp:∀(j:Nat) x p,items[j]? = some x→ps[j]? = some p→nW kx h0 x p)
  (hne:it≠d) :
  ∀(m i:Nat) (xs:List (List K×Addr×Value)) (s:Shared),m+i=items.size→s.heap.IsListIter it l i→nS it d h0 s.heap→s.heap.DictOfH (tupleKind kx) d xs→xs.length+m≤sizeLine →
   (∀h' t',h'.DictOfH (tupleKind kx) d ((ps.drop i).foldl (fun acc p=>storedH acc p.1 p.2.1 p.2.2) xs)→nS it d h0 h'→R (.ok (.ret .none)) { s with heap:=h',toks:=t' }) →
   codeAny (model prog w) A (.builtin "dict.update.loop" ⟨[.ref d,.ref it,.int i 0,.none],[]⟩) R s
 | 0,i,xs,s,hm,hI,hK,hD,hz,hR=>by
  obtain⟨ol,g1,g2,n,g3⟩:=id hl
  obtain⟨n1,n2⟩:=hit l ol g1
  have hL:s.heap.IsList l items:=⟨ol,hK l ol g1 n1 n2,g2,n,g3⟩
  refine codeAny_builtin F.entry_dict_loop ?_
  unfold Builtin.«dict.update.loop»
  dsimp only
  refine wpAny_bind (wpAny_pyNext_list_end (by exact hh) hI hL (yrb (by lia)) fun h' hx=>?_)
  dsimp only
  show wpAny _ _ (Builtin.Dict.addKeywords d [] >>= _) _ _ _
  have e0:ps.drop i=[]:=List.drop_eq_nil_of_le (by lia)
  rw[e0] at hR
  exact wpAny_bind (wpAny_pure (wpAny_pure (hR h' s.toks (kc hD hI hx hne) fun c o e c1 c2=>hx _ _ c1 (hK c o e c1 c2))))
 | m+1,i,xs,s,hm,hI,hK,hD,hz,hR=>by
  obtain⟨ol,g1,g2,n,g3⟩:=id hl
  obtain⟨n1,n2⟩:=hit l ol g1
  have hL:s.heap.IsList l items:=⟨ol,hK l ol g1 n1 n2,g2,n,g3⟩
  have hi:i<items.size:=by lia
  have hi2:i<ps.length:=by lia
  have P:=hp i _ _ (ysa hi) (yb hi2)
  obtain⟨t,o,n',ex,k1,k2,k3⟩:=P.ex
  obtain⟨n3,n4⟩:=hit t o k1
  refine codeAny_builtin F.entry_dict_loop ?_
  unfold Builtin.«dict.update.loop»
  dsimp only
  refine wpAny_bind (wpAny_pyNext_list_item hI hL (ysa hi) fun h' hI' hs=>?_)
  have hext:Heap.ExtBut it s.heap h':=fun b o nb e=>by rw[hs.2 b nb];exact e
  have hD':=kc hD hI hext hne
  have hK':nS it d h0 h':=fun c o e c1 c2=>hext _ _ c1 (hK c o e c1 c2)
  dsimp only
  refine wpAny_bind (wpAny_holding ?_)
  refine wpAny_bind (wpAny_tryCatch ?_)
  rw[ex]
  have hT:({ s with heap:=h' }:Shared).TypeIs (.ref t) "tuple" := ⟨o,hK' t o k1 n3 n4,k2⟩
  unfold Builtin.Dict.pairItems
  refine wpAny_bind (wpAny_typeOf hT ?_)
  rw[if_pos (by rfl)]
  refine wpAny_bind (wpAny_seqItems (hK' t o k1 n3 n4) k3 (wpAny_pure ?_))
  show wpAny _ _ (holding [Value.ref ps[i].2.1,ps[i].2.2] (dictSet d (Value.ref ps[i].2.1) ps[i].2.2)) _ _ _
  obtain⟨ok,ik,nk,q1,q2,q3,q4⟩:=P.key
  obtain⟨n5,n6⟩:=hit _ ok q1
  have hkey:(tupleKind kx).is h' ps[i].1 ps[i].2.1:=⟨ok,ik,nk,hK' _ ok q1 n5 n6,q2,q3,q4⟩
  refine wpAny_holding (wpAny_dictSet_heap (knd:=tupleKind kx) (hu2 _) hkey hD' (fun h'' hD'' hs''=>?_) (by lia))
  refine wpAny_pure ⟨Code.quiet_builtin _ k!,?_⟩
  have hstep:(ps.drop i).foldl (fun acc p=>storedH acc p.1 p.2.1 p.2.2) xs=(ps.drop (i+1)).foldl (fun acc p=>storedH acc p.1 p.2.1 p.2.2) (storedH xs ps[i].1 ps[i].2.1 ps[i].2.2):=by
   rw[List.drop_eq_getElem_cons hi2,yX]
  rw[hstep] at hR
  have hsl:(storedH xs ps[i].1 ps[i].2.1 ps[i].2.2).length≤xs.length+1:=by
   unfold storedH
   split
   ·rw[ya];lia
   ·rw[yf];exact yd _
  refine iJ hu2 hh hit hl hlen hp hne m (i+1) _ _ (by lia) ?_ ?_ hD'' (by lia) ?_
  ·obtain⟨oi,i1,i2,i3⟩:=hI'
   exact⟨oi,(hs''.2 it hne).trans i1,i2,i3⟩
  ·exact fun c o e c1 c2=>(hs''.2 c c2).trans (hK' c o e c1 c2)
  ·exact fun h3 t3=>hR h3 t3
theorem jD{l:Addr}{items:Array Value}{ps:List (List K×Addr×Value)}{E:Value→Shared→Prop}{s:Shared}{Q:Value→Shared→Prop}(hu1:∀args,((A.in1).under (.builtin "dict.update.loop" args)).units<cLine)(hh:A.handled=none)
  (hl:s.heap.IsList l items) (hdc:∀o,s.heap.get? l=some o→o.dict=none) (hlen:ps.length=items.size) (hp:∀(j:Nat) x p,items[j]? = some x→ps[j]? = some p→nW kx s.heap x p) (hz:ps.length≤sizeLine)
  (h:∀h' t',h'.DictOfH (tupleKind kx) s.heap.objs.size (ps.foldl (fun acc p=>storedH acc p.1 p.2.1 p.2.2) [])→(∀c o,s.heap.get? c=some o→h'.get? c=some o)→Q (.ref s.heap.objs.size) { s with heap:=h',toks:=t' }) :
  wpAny (model prog w) A (call (.type "dict") [.ref l]) Q E s:=by
 refine callType_codes (Q₁:=fun obj s₁=>obj=.ref s.heap.objs.size∧s₁ = { s with heap:=s.heap.push { cls:=.type "dict",data:=.dict #[] } }) F.kt_called_dict (F.kt_typeCall_dict_1 _) F.entry_dict_init (kt_code_dict_new _ ⟨rfl,rfl⟩) ?_
 rintro obj s₁ ⟨rfl,rfl⟩
 have hnew:(s.heap.push { cls:=.type "dict",data:=.dict #[] }).DictOfH (tupleKind kx) s.heap.objs.size []:=Heap.DictOfH.new s.heap
 obtain⟨ol,g1,g2,n,g3⟩:=id hl
 have hd0:=hdc ol g1
 have g1':(s.heap.push { cls:=.type "dict",data:=.dict #[] }).get? l=some ol:=Heap.get?_push_of_some _ g1
 have hT:({ s with heap:=s.heap.push { cls:=.type "dict",data:=.dict #[] } }:Shared).TypeIs (.ref l) "list" := ⟨ol,g1',g2⟩
 refine⟨hnew.typeIs,F.args_dict_init_2 _ _,?_⟩
 unfold Builtin.«dict.__init__»
 refine wpAny_bind ?_
 unfold Builtin.Dict.selfAndRest
 refine wpAny_bind (wpAny_notOrdered_dict hnew.typeIs ?_)
 show wpAny _ _ (pure (s.heap.objs.size,[Value.ref l])) _ _ _
 refine wpAny_pure ?_
 show wpAny _ _ (Builtin.Dict.updateFrom "dict.__init__" s.heap.objs.size (.ref l) [] .none) _ _ _
 unfold Builtin.Dict.updateFrom
 refine wpAny_bind (wpAny_typeOf hT ?_)
 rw[if_pos (by rfl)]
 refine wpAny_bind (jp g1' g2 g3 hd0 (by exact hh) fun h2 t2 hk2=>?_)
 rw[if_pos (by rfl)]
 refine wpAny_bind (wpAny_rule ?_)
 have hl2:h2.IsList l items:=⟨ol,hk2 _ _ g1',g2,n,g3⟩
 refine wpAny_bind (wpAny_pyIter_list hl2 ?_)
 refine wpAny_pure ⟨Code.quiet_builtin _ k!,?_⟩
 have up:∀b o,s.heap.get? b=some o→h2.get? b=some o:=fun b o e=>hk2 _ _ (Heap.get?_push_of_some _ e)
 have hd2:h2.get? s.heap.objs.size=some { cls:=.type "dict",data:=.dict #[] }:=hk2 _ _ (Heap.get?_push_size _ rfl)
 have hdl:=Heap.lt_size hd2
 refine iJ (kx:=kx) (h0:=s.heap) (l:=l) (items:=items) (ps:=ps) hu1 (by exact hh) (fun b o e=>?_) hl hlen hp (yAb hdl) items.size 0 [] _ (by lia) ⟨_,Heap.get?_push_size _ rfl,rfl,rfl⟩ (fun c o e _ _=>Heap.get?_push_of_some _ (up c o e)) ?_ (by rw[← hlen];simpa using hz) fun h3 t3 hD3 hK3=>?_
 ·exact⟨yF (Heap.lt_size (up b o e)),yF (Heap.lt_size e)⟩
 ·exact⟨_,#[],0,Heap.get?_push_of_some _ hd2,⟨rfl,rfl,rfl⟩,rfl,rfl,(fun _ hx=>by simp at hx),yia⟩
 ·refine⟨rfl,h h3 t3 hD3 fun c o e=>hK3 c o e ?_ ?_⟩
  ·exact yF (Heap.lt_size (up c o e))
  ·exact yF (Heap.lt_size e)
end
end PySem
namespace L2
open PySem PySem.Spec PyProof.Rows
noncomputable def PrV(H:Hp)(v:V)(kv:List Key×V):Prop:=∃t b,v=.ref t∧H t=some (.tup [.ref b,kv.2])∧H b=some (.tup (kv.1.map kV))
noncomputable abbrev qm(H:Hp):List V→List (List Key×V)→Prop:=Paired (PrV H)
theorem mx{P:Program}{w:World}{H:Hp}{h:Heap}(ok:HOk P w H h):∀{vs:List V} {kvs:List (List Key×V)} {its:List Value},qm H vs kvs→bp vs its→∃ps,KT H kvs ps∧Paired (nW (bE P w) h) its ps
 | _,_,_,.nil,.nil=>⟨[],.nil,.nil⟩
 | _,_,_,.cons (b:=kv) h1 r1,.cons (b:=u) h2 r2=>by
  obtain⟨ps,a1,a2⟩:=mx ok r1 r2
  obtain⟨t,b,rfl,et,eb⟩:=h1
  cases (show u=Value.ref t from h2)
  obtain⟨_,its2,rl,o,i1,i2,n,i3⟩:=(show bF P w H h t (.tup [.ref b,kv.2]) from ok t _ et)
  obtain⟨x1,x2,rfl⟩:∃x1 x2,its2=[x1,x2]:=by
   have:=rl.length
   match its2,this with
   | [x1,x2],_=>exact⟨x1,x2,rfl⟩
  cases rl with
  | cons r3 r4 =>
   cases r4 with
   | cons r5 _ =>
    cases (show x1=Value.ref b from r3)
    exact⟨(kv.1,b,x2)::ps,.cons ⟨rfl,eb,r5⟩ a1,.cons ⟨⟨t,o,n,rfl,i1,i2,i3⟩,fM ok eb⟩ a2⟩
theorem oC{H:Hp}:∀{kvs:List (List Key×V)} {ps:List (List Key×Addr×Value)} {acc:List (List Key×V)} {xs:List (List Key×Addr×Value)},KT H kvs ps→KT H acc xs→KT H (kvs.foldl (fun acc kv=>bC acc kv.1 kv.2) acc) (ps.foldl (fun acc p=>storedH acc p.1 p.2.1 p.2.2) xs)
 | _,_,_,_,.nil,h=>h
 | _,_,acc,xs,.cons (a:=kv) (b:=p) h1 r1,h=>by
  rw[yX,yX,← h1.1]
  exact oC r1 (KT.put h kv.1 h1.2.1 h1.2.2)
section
variable{X:Cx}
noncomputable def qh:List V→Hp→VK→Prop:=fun xs H Q=>∃a us kvs,xs=[.ref a]∧H a=some (.lst us)∧qm H us kvs∧kvs.length≤1000∧∀p,H p=none→Q (.ref p) (upd H p (.dT (kvs.foldl (fun acc kv=>bC acc kv.1 kv.2) [])))
theorem mQ{k:Nat}(hc:X.calm=true)(hr:ce k X.A):cu X (.type "dict") qh:=by
 intro pins s σ H xs us Q I r h
 obtain⟨a,vs,kvs,rfl,e,hP,hl,q⟩:=h
 obtain⟨u,rfl,rx⟩:=bp.one r
 cases rx
 obtain⟨z,its,n,rel,g1⟩:=(show bF X.prog X.w H s.heap a (.lst vs) from I.hok a _ e)
 obtain⟨ps,kt,pa⟩:=mx I.hok hP rel
 have l1:its.length=ps.length:=Paired.length pa
 have l2:kvs.length=ps.length:=Paired.length kt
 refine jD (kx:=bE X.prog X.w) (l:=a) (items:=its.toArray) (ps:=ps) (fun args=>?_) (I.ok.hd hc) ⟨_,g1,rfl,n,rfl⟩ (fun o ho=>?_) (by simp[l1]) (fun j x p hx hp'=>?_) (yu (by lia) (show 1000≤sizeLine by decide)) fun h' t' hD hK=>?_
 ·have:=hr.un
  show X.A.units+2<cLine
  lia
 ·rw[g1] at ho
  cases ho
  rfl
 ·have hx':its[j]? = some x:=by simpa using hx
  obtain⟨p2,e2,q2⟩:=Paired.get' pa hx'
  rw[hp'] at e2
  cases e2
  exact q2
 ·obtain⟨o',es,ep,k1,k2,k3,k4,_,k6⟩:=hD
  have kt2:=oC kt (acc:=[]) (xs:=[]) .nil
  refine⟨.ref s.heap.objs.size,_,I.laid (a:=s.heap.objs.size) (o:=.dT (kvs.foldl (fun acc kv=>bC acc kv.1 kv.2) [])) (t':=t') (fun b q hq=>hK b q hq) (yd _) ?_,rfl,q _ (I.hok.fresh (yd _))⟩
  refine⟨?_,beq_eq_false_iff_ne.mpr (yta (yF I.big)),_,KT.keeps kt2 (fun b ys eb=>by rw[au (ay eb (I.hok.fresh (yd _)))];exact eb),o',es,ep,k1,k2,k3,k4,k6⟩
  have fl:∀(l acc:List (List Key×V)),(l.foldl (fun acc kv=>bC acc kv.1 kv.2) acc).length≤acc.length+l.length:=fun l=>by
   induction l with
   | nil=>intro acc;exact yd _
   | cons x xs ih =>
    intro acc
    have:=ih (bC acc x.1 x.2)
    have:=cb acc x.1 x.2
    rw[yX,yD]
    lia
  have:=fl kvs []
  exact yu this (yu (by simpa using hl) (show 1000≤sizeLine by decide))
end
end L2
namespace PySem
open Sem (wp)
section
variable{prog:Program}{w:World}{K:Type}[DecidableEq K]{knd:HeapKind prog w K}{A:Around}{E:Value→Shared→Prop}{s:Shared}
end
end PySem
namespace L2
open PySem PySem.Spec PyProof.Rows
section
variable{X:Cx}
noncomputable def DA:R2:=fun x y H Q=>∃a b kvs,x=.ref a∧y=.ref b∧H a=some (.dT kvs)∧H b=some (.dT kvs)∧(∀kv∈kvs,∃i,kv.2=.int i)∧Q (.bl true) H
noncomputable def EN:R2:=fun x y H Q=>∃a b kvs,x=.ref a∧y=.ref b∧H a=some (.dT kvs)∧H b=some (.dT kvs)∧(∀kv∈kvs,∃i,kv.2=.int i)∧Q (.bl false) H
end
end L2
namespace My
open PySem L2
noncomputable def apart(f:Nat→Nat):Nat→Nat→Bool
 | 0,_=>true
 | k+1,m=>!(m.testBit (f k))&&apart f k (m ||| (1 <<< f k))
theorem j4{f:Nat→Nat}:∀{k m:Nat},apart f k m=true→(∀i,i<k→m.testBit (f i)=false)∧∀i j,i<k→j<k→f i=f j→i=j
 | 0,_,_=>⟨fun _ h=>absurd h (yea _),fun _ _ h=>absurd h (yea _)⟩
 | k+1,m,h=>by
  unfold apart at h
  rw[yI,yGa] at h
  obtain⟨h1,h2⟩:=j4 h.2
  have up:∀i,i<k→m.testBit (f i)=false∧f i≠f k:=fun i hi=>by
   have z:=h1 i hi
   rw[Nat.testBit_or,Bool.or_eq_false_iff] at z
   refine⟨z.1,fun e=>?_⟩
   rw[e,Nat.shiftLeft_eq,Nat.one_mul,Nat.testBit_two_pow_self] at z
   exact absurd z.2 (by decide)
  refine⟨fun i hi=>?_,fun i j hi hj e=>?_⟩
  ·rcases Nat.lt_succ_iff_lt_or_eq.mp hi with z | z
   ·exact(up i z).1
   ·rw[z];exact h.1
  ·rcases Nat.lt_succ_iff_lt_or_eq.mp hi with zi | zi
   ·rcases Nat.lt_succ_iff_lt_or_eq.mp hj with zj | zj
    ·exact h2 i j zi zj e
    ·exact absurd (zj ▸ e) (up i zi).2
   ·rcases Nat.lt_succ_iff_lt_or_eq.mp hj with zj | zj
    ·exact absurd (zi ▸ e.symm) (up j zj).2
    ·rw[zi,zj]
noncomputable def f2(i:Nat):Nat:=(mf [((i / 31:Nat):Int),((i % 31:Nat):Int)] % 18446744073709551616).toNat % 1518
theorem sV:apart f2 248 0=true:=by decide +kernel
theorem ux{a b a' b':Nat}(ha:a<8)(hb:b<31)(ha':a'<8)(hb':b'<31)(e:mf [(a:Int),(b:Int)]=mf [(a':Int),(b':Int)]):a=a'∧b=b':=by
 have h:=(j4 sV).2 (a*31+b) (a'*31+b') (by lia) (by lia) (by
  unfold f2
  rw[show(a*31+b) / 31=a by lia,show(a*31+b) % 31=b by lia,show(a'*31+b') / 31=a' by lia,show(a'*31+b') % 31=b' by lia,e])
 lia
end My
namespace L2
open PySem PySem.Spec PyProof.Rows
section
variable{prog:Program}{w:World}{A:Around}
end
section
variable{X:Cx}
noncomputable def KyV(H:Hp)(v:V)(kv:List Key×V):Prop:=∃b,v=.ref b∧H b=some (.tup (kv.1.map kV))
noncomputable def Bv:List V→Hp→VK→Prop:=fun xs H Q=>∃a kvs,xs=[.ref a]∧H a=some (.dT kvs)∧∀l us,H l=none→Paired (KyV H) us kvs→Q (.ref l) (upd H l (.lst us))
theorem kb(hc:X.calm=true):cu X (.builtin "max") (fun xs H Q=>∃(p:Addr) (ns:List Int),xs=[.ref p]∧SqL X.K H p (ns.map V.int)∧0<ns.length∧∀M,M∈ns→(∀a∈ns,a≤M)→Q (.int M) H):=by
 intro pins s σ H xs us Q I r h
 obtain⟨p,ns,rfl,hp,hne,q⟩:=h
 obtain⟨u,rfl,ru⟩:=gK r
 cases ru
 obtain⟨its,ri,pl,hz⟩:=I.list hp
 have hi:=nF ri
 obtain⟨ys,e⟩:=hi.allInts.items
 have hns:ns=ys.toList.map (·.1):=by
  rw[← hi.numsOf,← nums_intItems,← e]
 have hsz:0<ys.size:=by
  have h3:=hne;rw[hns,ya,yfa] at h3;exact h3
 have hl:=pl.isList
 rw[e] at hl
 refine max_intList (I.ok.hd hc) hl hsz fun v h' tk hv hk=>?_
 obtain⟨t,rfl⟩:=intItems_at hv
 obtain⟨h1,h2⟩:=argBest_gt (numAt ys) (ys.size-1)
 refine⟨.int _,H,I.kept hk,⟨_,rfl⟩,q _ ?_ fun a ha=>?_⟩
 ·rw[hns,numAt_eq];exact getD_mem (by rw[ya,yfa];omega)
 ·rw[hns] at ha
  obtain⟨j,hj,rfl⟩:=mem_getD ha
  rw[ya,yfa] at hj
  rw[← numAt_eq];exact h2 j (by lia)
end
end L2
namespace My
open PySem L2
noncomputable def k2(h d:Int):List Key:=[Sum.inl h,Sum.inl d]
noncomputable def nO(kvs:List (List Key×V))(h d p:Int):Int:=iv (bD kvs (kk h d p))
structure cp(n D P:Nat)(kvs:List (List Key×V)):Prop where
 ky:iw kvs
 ai:cJ kvs
 inb:∀kv∈kvs,∃h d p:Nat,kv.1=kk h d p∧h<n∧d<D∧p<P
theorem cp.nil{n D P:Nat}:cp n D P []:=⟨yia,dY,fun _ h=>by cases h⟩
theorem jn{k:List Key}{v:V}{kvs:List (List Key×V)}{kv:List Key×V}(h:kv∈bC kvs k v):kv.1=k∨∃kv'∈kvs,kv'.1=kv.1:=by
 unfold bC at h
 split at h
 ·obtain⟨x,hx,rfl⟩:=yk.mp h
  by_cases z:x.1=k
  ·rw[if_pos z];exact .inl z
  ·rw[if_neg z];exact .inr ⟨x,hx,rfl⟩
 ·rcases List.mem_append.mp h with h | h
  ·exact .inr ⟨kv,h,rfl⟩
  ·rw[List.mem_singleton.mp h];exact .inl rfl
theorem cp.put{n D P:Nat}{kvs:List (List Key×V)}(o:cp n D P kvs){h d p:Nat}(hh:h<n)(hd:d<D)(hp:p<P)(i:Int):cp n D P (bC kvs (kk h d p) (.int i)) :=
 ⟨iO o.ky _ _,iM o.ai _ _,fun kv m=>by
  rcases jn m with e | ⟨kv',h1,h2⟩
  ·exact⟨h,d,p,e,hh,hd,hp⟩
  ·obtain⟨a,b,c,e,r⟩:=o.inb kv' h1
   exact⟨a,b,c,h2 ▸ e,r⟩⟩
structure cF(n D P:Nat)(pns:List (List Key×V)):Prop where
 ky:iw pns
 ai:cJ pns
 inb:∀kv∈pns,∃h d:Nat,kv.1=k2 h d∧h<n∧d<D
theorem cF.nil{n D P:Nat}:cF n D P []:=⟨yia,dY,fun _ h=>by cases h⟩
theorem cF.put{n D P:Nat}{kvs:List (List Key×V)}(o:cF n D P kvs){h d:Nat}(hh:h<n)(hd:d<D)(i:Int):cF n D P (bC kvs (k2 h d) (.int i)) :=
 ⟨iO o.ky _ _,iM o.ai _ _,fun kv m=>by
  rcases jn m with e | ⟨kv',h1,h2⟩
  ·exact⟨h,d,e,hh,hd⟩
  ·obtain⟨a,b,e,r⟩:=o.inb kv' h1
   exact⟨a,b,h2 ▸ e,r⟩⟩
theorem gJ{α β:Type _}{f:α→β}:∀{l:List α} {γ:Type} {g:α→γ},(l.map g).Nodup→(∀a∈l,∀b∈l,f a=f b→g a=g b)→(l.map f).Nodup
 | [],_,_,_,_=>yia
 | a::l,_,g,h,j=>by
  rw[yi,yP] at h ⊢
  refine⟨fun z=>?_,gJ h.2 fun x hx y hy=>j x (ym _ hx) y (ym _ hy)⟩
  obtain⟨b,hb,e⟩:=yk.mp z
  exact h.1 (yk.mpr ⟨b,hb,j b (ym _ hb) a (yv ..) e⟩)
theorem cF.hash{n D P:Nat}{kvs:List (List Key×V)}(o:cF n D P kvs)(hn:n≤8)(hD:D≤31)(pr:Program)(w:World):(kvs.map fun kv=>tupleKeyHash (bE pr w) kv.1).Nodup:=by
 refine gJ (g:=fun kv=>kv.1) o.ky fun a ha b hb e=>?_
 obtain⟨h,d,e1,a1,a2⟩:=o.inb a ha
 obtain⟨h',d',e2,b1,b2⟩:=o.inb b hb
 have f1:=oU pr w [(h:Int),(d:Int)]
 have f2:=oU pr w [(h':Int),(d':Int)]
 rw[e1,e2] at e
 obtain⟨rfl,rfl⟩:=ux (by lia) (by lia) (by lia) (by lia) (f1.symm.trans (e.trans f2))
 rw[e1,e2]
theorem tN{kvs:List (List Key×V)}(ky:iw kvs)(ai:cJ kvs):∀kv∈kvs,∃i,kv.2=.int i:=fun kv m=>by
 obtain⟨j,hj,e⟩:=yxb m
 exact ai kv.1 kv.2 (kT ky (i:=j) (by rw[yb hj,e]))
theorem lP{α:Type _}(f:α→Int){a b:List α}(h:a.Perm b):(a.map f).sum=(b.map f).sum:=by
 induction h with
 | nil=>rfl
 | cons x _ ih=>rw[yi,yi,yC,yC,ih]
 | swap x y l=>simp only[yi,yC];lia
 | trans _ _ i1 i2=>exact i1.trans i2
theorem gH{α:Type _}(f:α→Int):∀{l:List α},(∀x∈l,f x=0)→(l.map f).sum=0
 | [],_=>rfl
 | x::l,h=>by rw[yi,yC,h x (yv ..),gH f fun y hy=>h y (ym _ hy)];rfl
theorem pe{α:Type _}[DecidableEq α](f:α→Int):∀{s L:List α},s.Nodup→L.Nodup→(∀x∈s,x∈L)→(∀x∈L,x∉s→f x=0)→(s.map f).sum=(L.map f).sum
 | [],L,_,_,_,h=>(gH f fun x hx=>h x hx (by simp)).symm
 | x::s,L,hs,hL,hi,h=>by
  rw[yP] at hs
  have hx:=hi x (yv ..)
  rw[lP f (ywb hx),yi,yi,yC,yC]
  refine congrArg (f x + ·) (pe f hs.2 (hL.erase x) (fun y hy=>?_) fun y hy hn=>?_)
  ·have:y≠x:=fun z=>hs.1 (z ▸ hy)
   exact(List.mem_erase_of_ne this).mpr (hi y (ym _ hy))
  ·have hyL:=List.mem_of_mem_erase hy
   refine h y hyL fun z=>?_
   rcases List.mem_cons.mp z with rfl | z
   ·exact(hL.not_mem_erase hy).elim
   ·exact hn z
theorem mR{α:Type _}{f g:α→Int}:∀{l:List α},(∀x∈l,f x≤g x)→(l.map f).sum≤(l.map g).sum
 | [],_=>yWa _
 | x::l,h=>by
  have h1:=h x (yv ..)
  have h2:=mR (l:=l) fun y hy=>h y (ym _ hy)
  simp only[yi,yC]
  lia
theorem jZ{α:Type _}{f g:α→Int}{l:List α}(h:∀x∈l,f x=g x):(l.map f).sum=(l.map g).sum:=by
 rw[yR h]
noncomputable def cls(n D:Nat):List (Nat×Nat):=(List.range n).flatMap fun h=>(List.range D).map fun d=>(h,d)
theorem gx{n D:Nat}{c:Nat×Nat}:c∈cls n D↔c.1<n∧c.2<D:=by
 unfold cls
 rw[yza]
 constructor
 ·rintro⟨h,h1,h2⟩
  obtain⟨d,h3,rfl⟩:=yk.mp h2
  exact⟨yp.mp h1,yp.mp h3⟩
 ·intro h
  exact⟨c.1,yp.mpr h.1,yk.mpr ⟨c.2,yp.mpr h.2,rfl⟩⟩
theorem gM:∀{n D:Nat},(cls n D).Nodup
 | 0,D=>yia
 | n+1,D=>by
  have e:cls (n+1) D=cls n D++(List.range D).map fun d=>(n,d):=by
   unfold cls
   rw[yO,yga]
   simp
  rw[e,yFa]
  refine⟨gM,?_,fun a ha b hb z=>?_⟩
  ·refine gJ (g:=fun x=>x) (by simpa using yKa) fun a _ b _ z=>?_
   exact(Prod.mk.inj z).2
  ·subst z
   obtain⟨d,_,rfl⟩:=yk.mp hb
   have:=(gx.mp ha).1
   lia
noncomputable def ka(k:List Key)(i:Nat):Int:=match k[i]? with | some (.inl z)=>z | _=>0
theorem iF{a b c a' b' c':Int}(h:kk a b c=kk a' b' c'):a=a'∧b=b'∧c=c':=by
 unfold kk at h
 simp only[ypb,Sum.inl.injEq,and_true] at h
 exact h
theorem sP{a b a' b':Int}(h:k2 a b=k2 a' b'):a=a'∧b=b':=by
 unfold k2 at h
 simp only[ypb,Sum.inl.injEq,and_true] at h
 exact h
noncomputable def mxL:List Int→Int
 | []=>0
 | x::xs=>xs.foldl max x
theorem dA:∀(xs:List Int) (x:Int),x≤xs.foldl max x∧∀y∈xs,y≤xs.foldl max x
 | [],x=>⟨yWa _,fun _ h=>by cases h⟩
 | a::xs,x=>by
  obtain⟨h1,h2⟩:=dA xs (max x a)
  refine⟨Int.le_trans (Int.le_max_left ..) h1,fun y hy=>?_⟩
  rcases List.mem_cons.mp hy with rfl | hy
  ·exact Int.le_trans (Int.le_max_right ..) h1
  ·exact h2 y hy
theorem fE:∀(xs:List Int) (x:Int),xs.foldl max x=x∨xs.foldl max x∈xs
 | [],x=>.inl rfl
 | a::xs,x=>by
  have e:(a::xs).foldl max x=xs.foldl max (max x a):=rfl
  rw[e]
  rcases fE xs (max x a) with h | h
  ·rw[h]
   by_cases z:a≤x
   ·exact .inl (Int.max_eq_left z)
   ·rw[Int.max_eq_right (by lia)];exact .inr (yv ..)
  ·exact .inr (ym _ h)
theorem nH{ns:List Int}{M:Int}(h:M∈ns)(g:∀a∈ns,a≤M):M=mxL ns:=by
 cases ns with
 | nil=>cases h
 | cons x xs =>
  obtain⟨h1,h2⟩:=dA xs x
  have a:M≤xs.foldl max x:=by
   rcases List.mem_cons.mp h with rfl | h
   ·exact h1
   ·exact h2 M h
  have b:xs.foldl max x≤M:=by
   rcases fE xs x with e | e
   ·rw[e];exact g x (yv ..)
   ·exact g _ (ym _ e)
  exact Int.le_antisymm a b
theorem AK{ns:List Int}{a:Int}(h:a∈ns):a≤mxL ns:=by
 cases ns with
 | nil=>cases h
 | cons x xs =>
  obtain⟨h1,h2⟩:=dA xs x
  rcases List.mem_cons.mp h with rfl | h
  ·exact h1
  ·exact h2 a h
noncomputable def jz(pns:List (List Key×V))(own:List Int)(h d:Int):List Int:=match bD pns (k2 h d) with | some v=>[iv (some v)] | none=>own
noncomputable def mxC(pns kvs:List (List Key×V))(own:Nat→List Int)(h d:Nat):Int:=mxL ((jz pns (own h) h d).map fun p=>nO kvs h d p)
noncomputable def dP(pns kvs:List (List Key×V))(own:Nat→List Int)(n D:Nat):Int:=((cls n D).map fun c=>mxC pns kvs own c.1 c.2).sum
noncomputable def prK(kv:List Key×V):List Key×V:=(k2 (ka kv.1 0) (ka kv.1 1),.bl true)
noncomputable def prD(kvs:List (List Key×V)):List (List Key×V):=(kvs.map prK).foldl (fun acc kv=>bC acc kv.1 kv.2) []
theorem j5:∀{xs acc:List (List Key×V)},iw acc→iw (xs.foldl (fun acc kv=>bC acc kv.1 kv.2) acc)
 | [],_,h=>h
 | x::xs,_,h=>j5 (xs:=xs) (iO h _ _)
theorem lK:∀{xs acc:List (List Key×V)} {kv:List Key×V},kv∈xs.foldl (fun acc kv=>bC acc kv.1 kv.2) acc→(∃x∈xs,x.1=kv.1)∨∃x∈acc,x.1=kv.1
 | [],_,kv,h=>.inr ⟨kv,h,rfl⟩
 | x::xs,acc,kv,h=>by
  rcases lK (xs:=xs) h with ⟨y,h1,h2⟩ | ⟨y,h1,h2⟩
  ·exact .inl ⟨y,ym _ h1,h2⟩
  ·rcases jn h1 with e | ⟨z,h3,h4⟩
   ·exact .inl ⟨x,yv ..,e.symm.trans h2⟩
   ·exact .inr ⟨z,h3,h4.trans h2⟩
theorem lz:∀{xs acc:List (List Key×V)} {k:List Key},((∃x∈xs,x.1=k)∨(bD acc k).isSome)→(bD (xs.foldl (fun acc kv=>bC acc kv.1 kv.2) acc) k).isSome
 | [],_,k,h=>by
  rcases h with ⟨x,h,_⟩ | h
  ·cases h
  ·exact h
 | x::xs,acc,k,h=>by
  refine lz (xs:=xs) ?_
  by_cases z:k=x.1
  ·right
   show(bD (bC acc x.1 x.2) k).isSome=true
   rw[cY,if_pos z]
   rfl
  ·rcases h with ⟨y,h1,h2⟩ | h
   ·rcases List.mem_cons.mp h1 with rfl | h1
    ·exact(z h2.symm).elim
    ·exact .inl ⟨y,h1,h2⟩
   ·right
    show(bD (bC acc x.1 x.2) k).isSome=true
    rw[cY,if_neg z]
    exact h
theorem kC{kvs:List (List Key×V)}{k:List Key}{v:V}(h:bD kvs k=some v):(k,v)∈kvs:=by
 induction kvs with
 | nil=>cases h
 | cons p r ih =>
  by_cases z:p.1=k
  ·rw[b5 z] at h
   cases h
   rw[← z]
   exact yv ..
  ·rw[bZ z] at h
   exact ym _ (ih h)
theorem uD(kvs:List (List Key×V)):(prD kvs).length≤kvs.length:=by
 have:∀(xs acc:List (List Key×V)),(xs.foldl (fun acc kv=>bC acc kv.1 kv.2) acc).length≤acc.length+xs.length:=by
  intro xs
  induction xs with
  | nil=>intro acc;exact yd _
  | cons x xs ih =>
   intro acc
   have h1:=ih (bC acc x.1 x.2)
   have h2:=cb acc x.1 x.2
   rw[yX,yD]
   lia
 have h:=this (kvs.map prK) []
 rw[ya] at h
 unfold prD
 simp only[yQa] at h
 lia
theorem ko{n D P:Nat}{kvs:List (List Key×V)}(o:cp n D P kvs):∀kv∈prD kvs,∃h d:Nat,kv.1=k2 h d∧h<n∧d<D:=fun kv m=>by
 rcases lK m with ⟨x,h1,h2⟩ | ⟨x,h1,_⟩
 ·obtain⟨y,hy,rfl⟩:=yk.mp h1
  obtain⟨h,d,p,e,b1,b2,_⟩:=o.inb y hy
  refine⟨h,d,?_,b1,b2⟩
  rw[← h2]
  unfold prK
  rw[e]
  rfl
 ·cases h1
noncomputable def hZ(pns kvs:List (List Key×V))(own:Nat→List Int)(ks:List (List Key×V)):Int:=(ks.map fun kv=>mxC pns kvs own (ka kv.1 0).toNat (ka kv.1 1).toNat).sum
theorem re{pns kvs:List (List Key×V)}{own:Nat→List Int}{h d:Nat}(hw:0<(own h).length)(z:∀p:Int,nO kvs h d p=0):mxC pns kvs own h d=0:=by
 unfold mxC
 have hv:0<(jz pns (own h) h d).length:=by
  unfold jz
  split
  ·exact Nat.zero_lt_one
  ·exact hw
 refine(nH ?_ fun a ha=>?_).symm
 ·obtain⟨x,hx⟩:=List.exists_mem_of_length_pos hv
  exact yk.mpr ⟨x,hx,z x⟩
 ·obtain⟨p,_,rfl⟩:=yk.mp ha
  rw[z]
  exact yWa _
theorem qH{pns kvs:List (List Key×V)}{own:Nat→List Int}{n D P:Nat}(o:cp n D P kvs)(hw:∀h,h<n→0<(own h).length):hZ pns kvs own (prD kvs)=dP pns kvs own n D:=by
 have hk:iw (prD kvs):=j5 yia
 have e1:hZ pns kvs own (prD kvs)=(((prD kvs).map fun kv=>((ka kv.1 0).toNat,(ka kv.1 1).toNat)).map fun c=>mxC pns kvs own c.1 c.2).sum:=by
  unfold hZ
  rw[yW]
  rfl
 rw[e1]
 refine pe (α:=Nat×Nat) (fun c=>mxC pns kvs own c.1 c.2) ?_ gM (fun c hc=>?_) fun c hc hn=>?_
 ·refine gJ (g:=fun kv=>kv.1) hk fun a ha b hb e=>?_
  obtain⟨h,d,e1,_,_⟩:=ko o a ha
  obtain⟨h',d',e2,_,_⟩:=ko o b hb
  rw[e1,e2] at e
  obtain⟨z1,z2⟩:=Prod.mk.inj e
  have z1:((h:Int)).toNat=((h':Int)).toNat:=z1
  have z2:((d:Int)).toNat=((d':Int)).toNat:=z2
  rw[e1,e2,show h=h' by lia,show d=d' by lia]
 ·obtain⟨kv,m,rfl⟩:=yk.mp hc
  obtain⟨h,d,e,b1,b2⟩:=ko o kv m
  rw[e]
  exact gx.mpr ⟨by show((h:Int)).toNat<n;lia,by show((d:Int)).toNat<D;lia⟩
 ·obtain⟨b1,b2⟩:=gx.mp hc
  refine re (hw _ b1) fun p=>?_
  unfold nO
  cases e:bD kvs (kk c.1 c.2 p) with
  | none=>rfl
  | some v =>
   exfalso
   have m:=kC e
   have h1:=lz (xs:=kvs.map prK) (acc:=[]) (k:=k2 c.1 c.2) (.inl ⟨prK (kk c.1 c.2 p,v),yk.mpr ⟨_,m,rfl⟩,rfl⟩)
   obtain⟨x,hx⟩:=Option.isSome_iff_exists.mp h1
   refine hn (yk.mpr ⟨_,kC hx,?_⟩)
   refine Prod.ext ?_ ?_
   ·show((c.1:Int)).toNat=c.1;lia
   ·show((c.2:Int)).toNat=c.2;lia
noncomputable def pAt(k:List Key)(qs:List Prt):Int:=(qs.map fun q=>if kk q.h q.d q.p=k then q.n else 0).sum
theorem uZ(t:Int)(kvs:List (List Key×V))(q:Prt)(k:List Key):iv (bD (cm t kvs q) k)=iv (bD kvs k)+(if kk q.h q.d q.p=k then q.n else 0)*t:=by
 unfold cm
 rw[cY]
 by_cases z:k=kk q.h q.d q.p
 ·rw[if_pos z,if_pos z.symm,z]
  rfl
 ·rw[if_neg z,if_neg (fun y=>z y.symm)]
  lia
theorem lG(t:Int)(k:List Key):∀(qs:List Prt) (kvs:List (List Key×V)),iv (bD (qs.foldl (cm t) kvs) k)=iv (bD kvs k)+pAt k qs*t
 | [],kvs=>by show iv (bD kvs k)=iv (bD kvs k)+0*t;lia
 | q::qs,kvs=>by
  have h:=lG t k qs (cm t kvs q)
  rw[uZ] at h
  rw[yX,h]
  unfold pAt
  rw[yi,yC,Int.add_mul]
  lia
theorem mE(k:List Key):∀(ls:List (Lin×Int)) (kvs:List (List Key×V)),iv (bD (ls.foldl kD kvs) k)=iv (bD kvs k)+(ls.map fun l=>pAt k l.1.ps*l.2).sum
 | [],kvs=>by show iv (bD kvs k)=iv (bD kvs k)+0;lia
 | l::ls,kvs=>by
  rw[yX,mE k ls]
  show iv (bD (l.1.ps.foldl (cm l.2) kvs) k)+_=_
  rw[lG,yi,yC]
  lia
theorem cp.parts{n D P:Nat}{t:Int}:∀{qs:List Prt} {kvs:List (List Key×V)},cp n D P kvs→(∀q∈qs,∃h d p:Nat,kk q.h q.d q.p=kk h d p∧h<n∧d<D∧p<P)→cp n D P (qs.foldl (cm t) kvs)
 | [],_,o,_=>o
 | q::qs,kvs,o,h=>by
  obtain⟨a,b,c,e,b1,b2,b3⟩:=h q (yv ..)
  refine cp.parts (qs:=qs) ?_ fun x hx=>h x (ym _ hx)
  unfold cm
  rw[e]
  exact o.put b1 b2 b3 _
theorem cp.lines{n D P:Nat}:∀{ls:List (Lin×Int)} {kvs:List (List Key×V)},cp n D P kvs→(∀l∈ls,∀q∈l.1.ps,∃h d p:Nat,kk q.h q.d q.p=kk h d p∧h<n∧d<D∧p<P)→cp n D P (ls.foldl kD kvs)
 | [],_,o,_=>o
 | l::ls,kvs,o,h=>cp.lines (ls:=ls) (cp.parts o (h l (yv ..))) fun x hx=>h x (ym _ hx)
theorem vm(k:List Key)(a b:List Prt):pAt k (a++b)=pAt k a+pAt k b:=by
 unfold pAt
 rw[yg,yL]
end My
namespace My
open PySem L2
structure jl(H:Hp)(L:Addr)(f:Nat→List Int→Prop)(i:Nat)(H':Hp):Prop where
 ex:∃(us:List V) (rows:List (List Int)),rows.length=i∧az H H'∧H' L=some (.lst us)∧Rows H' us rows∧(∀j row,rows[j]? = some row→f j row)∧∀t,V.ref t∈us→t≠L
theorem jl.start{H:Hp}{L:Addr}{f:Nat→List Int→Prop}(hL:H L=none):jl H L f 0 (upd H L (.lst [])) :=
 ⟨[],[],rfl,ah hL _,ae,.nil,(fun j r z=>by simp at z),fun t z=>by cases z⟩
theorem jl.same{H H':Hp}{L:Addr}{f:Nat→List Int→Prop}{i:Nat}(h:jl H L f i H'):az H H':=by
 obtain⟨_,_,_,g,_⟩:=h.ex
 exact g
theorem jl.step{H H' H2:Hp}{L l:Addr}{f:Nat→List Int→Prop}{i:Nat}{row:List Int}(h:jl H L f i H')(hL:H L=none)(hi:i≤900)(g2:az H' H2)(hl:H' l=none)(hl2:H2 l=some (.lst (row.map V.int)))(hp:f i row) :
  ∃xs,H2 L=some (.lst xs)∧xs.length<sizeLine∧jl H L f (i+1) (upd H2 L (.lst (xs++[.ref l]))):=by
 obtain⟨us,rows,hr,g,e,hR,hP,fr⟩:=h.ex
 have hul:=hR.len
 have ne:L≠l:=ay e hl
 refine⟨us,g2 _ _ e,aE (by lia),us++[.ref l],rows++[row],by rw[yf,hr];rfl,aJ hL (g.trans g2) _,ae,?_,fun j r hr'=>?_,fun t ht=>?_⟩
 ·refine Rows.off (Rows.snoc (hR.mono g2) ⟨l,rfl,hl2⟩) fun z=>?_
  rcases List.mem_append.mp z with z | z
  ·exact fr L z rfl
  ·exact ne (V.ref.inj (List.mem_singleton.mp z))
 ·by_cases z:j<rows.length
  ·rw[yra z] at hr'
   exact hP j r hr'
  ·rw[yaa (by lia)] at hr'
   have hj:j-rows.length<[row].length:=(List.getElem?_eq_some_iff.mp hr').1
   rw[yJ] at hj
   rw[show j-rows.length=0 by lia] at hr'
   cases hr'
   rw[show j=i by lia]
   exact hp
 ·rcases List.mem_append.mp ht with z | z
  ·exact fr t z
  ·rw[V.ref.inj (List.mem_singleton.mp z)]
   exact ne.symm
theorem jl.done{H H':Hp}{L:Addr}{f:Nat→List Int→Prop}{i:Nat}(h:jl H L f i H'):∃(us:List V) (rows:List (List Int)),rows.length=i∧az H H'∧H' L=some (.lst us)∧Rows H' us rows∧∀j row,rows[j]? = some row→f j row:=by
 obtain⟨us,rows,a,b,c,d,e,_⟩:=h.ex
 exact⟨us,rows,a,b,c,d,e⟩
theorem pw{H H':Hp}{d:Addr}{o o':HO}(e:H d=some o)(g:az (upd H d o') H'):az H (upd H' d o):=fun b u hb=>by
 by_cases z:b=d
 ·subst z
  rw[ae,← hb,e]
 ·rw[au z]
  exact g b u (by rw[au z];exact hb)
theorem oG{H:Hp}{d b:Addr}{o u:HO}{kvs:List (List Key×V)}(e:H d=some (.dT kvs))(hb:H b=some u)(n:∀k,u≠.dT k):upd H d o b=some u:=by
 rw[au]
 ·exact hb
 ·intro z
  rw[z,e] at hb
  exact n _ (yt hb).symm
theorem uR{c:TT}{ta tb:TS}{D:dk}{σ:St}{H:Hp}(h:∀A:TS,A=ta→uY c A tb D σ H):uY c ta tb D σ H:=h ta rfl
theorem mS{pns kvs:List (List Key×V)}{own:Nat→List Int}{ks:List (List Key×V)}{i:Nat}{kv:List Key×V}(h:ks[i]? = some kv):hZ pns kvs own (ks.take (i+1))=hZ pns kvs own (ks.take i)+mxC pns kvs own (ka kv.1 0).toNat (ka kv.1 1).toNat:=by
 rw[aP h]
 unfold hZ
 rw[yg,yL]
 simp
structure PrI(F:Hp)(L:Addr)(kvs:List (List Key×V))(i:Nat)(H':Hp):Prop where
 ex:∃us,az F H'∧H' L=some (.lst us)∧L2.qm H' us ((kvs.take i).map prK)
theorem PrI.start{F:Hp}{L:Addr}{kvs:List (List Key×V)}(hL:F L=none):PrI F L kvs 0 (upd F L (.lst [])) :=
 ⟨[],ah hL _,ae,by rw[yla];exact .nil⟩
theorem PrI.same{F H':Hp}{L:Addr}{kvs:List (List Key×V)}{i:Nat}(h:PrI F L kvs i H'):az F H':=by
 obtain⟨_,g,_⟩:=h.ex
 exact g
theorem j9{H H':Hp}(g:eO H H'){us:List V}{kvs:List (List Key×V)}(h:L2.qm H us kvs):L2.qm H' us kvs:=by
 refine Paired.mapP h fun _ _ z1_=>?_
 obtain⟨t,b,e,q1,q2⟩:=z1_
 exact⟨t,b,e,g _ _ q1,g _ _ q2⟩
theorem PrI.step{F H':Hp}{L b t:Addr}{kvs:List (List Key×V)}{i:Nat}{h d p:Int}{v:V}(I:PrI F L kvs i H')(hL:F L=none)(hk:kvs[i]? = some (kk h d p,v))(hi:i≤900)(hb:H' b=none)(ht:upd H' b (.tup [.int h,.int d]) t=none) :
  ∃xs,upd (upd H' b (.tup [.int h,.int d])) t (.tup [.ref b,.bl true]) L=some (.lst xs)∧xs.length<sizeLine∧PrI F L kvs (i+1) (upd (upd (upd H' b (.tup [.int h,.int d])) t (.tup [.ref b,.bl true])) L (.lst (xs++[.ref t]))):=by
 obtain⟨us,g,e,hP⟩:=I.ex
 have g1:=ah hb (.tup [.int h,.int d])
 have g2:=ah ht (.tup [.ref b,.bl true])
 have hl:=Paired.length hP
 rw[ya,yr] at hl
 have G:=g1.trans g2
 refine⟨us,G _ _ e,aE (by lia),us++[.ref t],aJ hL (g.trans G) _,ae,?_⟩
 rw[aP hk,yg]
 refine j9 (bc (G _ _ e)) ?_
 exact aU (j9 (aC G) hP) ⟨t,b,rfl,ae,g2 _ _ ae⟩
end My
namespace My
open PySem L2
theorem Rows.frz{H:Hp}{us:List V}{rows:List (List Int)}{nd:Addr}{kvs:List (List Key×V)}(hR:Rows H us rows)(en:H nd=some (.dT kvs))(o:HO):Rows (upd H nd o) us rows :=
 hR.off fun z=>by
  obtain⟨row,e⟩:=hR.tracked z
  rw[en] at e
  cases e
theorem kS{kvs:List (List Key×V)}(ai:cJ kvs)(h d p:Int):(bD kvs (kk h d p)).getD (.int 0)=.int (nO kvs h d p):=by
 unfold nO
 exact nU ai _
end My
namespace My
open PySem L2
noncomputable def InR(n D P:Nat)(q:Prt):Prop:=∃h d p:Nat,kk q.h q.d q.p=kk h d p∧h<n∧d<D∧p<P
end My
namespace My
open PySem L2
end My
namespace My
open PySem L2
end My
namespace My
open PySem L2
end My
namespace My
open PySem L2
end My
namespace My
open PySem L2
theorem As{α:Type}(k:List Key)(f:α→List Prt):∀xs:List α,pAt k (xs.flatMap f)=(xs.map fun x=>pAt k (f x)).sum
 | []=>rfl
 | x::xs=>by rw[yca,vm,As k f xs,yi,yC]
theorem uS(k:List Key)(h:Int)(d:Nat)(ps:List Pst)(t:Int):pAt k (eX h d ps t)=pAt k (byH h ps d t):=by
 have e1:eX h d ps t=(bh 0 d).flatMap fun x=>(bL ps).map fun p=>⟨h,x,p,hrV ps p*t⟩:=by
  unfold eX spr
  rw[List.map_flatMap]
  refine congrArg (fun f=>List.flatMap f (bh 0 d)) (funext fun x=>?_)
  rw[yW]
  rfl
 have e2:byH h ps d t=(bL ps).flatMap fun p=>(bh 0 d).map fun x=>⟨h,x,p,hrV ps p*t⟩:=by
  unfold byH byI spr bL
  refine congrArg (fun f=>List.flatMap f (bh 1 ps.length)) (funext fun p=>?_)
  generalize bh 0 d=xs
  induction xs with
  | nil=>rfl
  | cons x xs ih=>rw[yca,ih];rfl
 rw[e1,e2,As,As]
 unfold pAt
 simp only[yW]
 exact ro (fun x p=>if kk h x p=k then hrV ps p*t else 0) (bL ps) (bh 0 d)
noncomputable def rC(ℓ:Lin):(List Key→Int)×Int:=(fun k=>pAt k ℓ.ps,ℓ.b)
theorem rP(d n:Nat)(ps:List Pst){s:Sp4}(hc:s.k=4→0≤s.c):(dn d n ps s).map rC=(bG d n ps s).map rC:=by
 unfold dn
 by_cases k4:s.k=4
 ·rw[if_pos k4,gm _ _ _ _ (hc k4),jQ k4]
 ·rw[if_neg k4]
  by_cases k5:s.k=5
  ·rw[if_pos k5,lL k5]
   simp only[yi,yua]
   unfold rC
   simp only[uS]
  ·rw[if_neg k5]
noncomputable def cC(sums:List (List Lin))(u:Tri):Option Lin:=if 0≤u.1∧0≤u.2.1 then (sums[u.1.toNat]?).bind fun ls=>ls[u.2.1.toNat]? else none
noncomputable def okU(sums:List (List Lin))(u:Tri):Bool:=(cC sums u).isSome&&decide (1≤u.2.2)
noncomputable def mH:Lin:=⟨[],0⟩
noncomputable def usL(sums:List (List Lin))(us:List Tri):List (Lin×Int):=us.map fun u=>((cC sums u).getD mH,u.2.2)
noncomputable def pS(sums:List (List Lin))(us:List Tri)(pns:List (List Key×V))(own:Nat→List Int)(n D:Nat):Bool:=us.all (okU sums)&&decide (dP pns (bn (usL sums us)) own n D<cE (usL sums us))
noncomputable def kd(sums:List (List Lin))(us:List Tri)(pns:List (List Key×V))(own:Nat→List Int)(n D:Nat):Bool:=us.all (okU sums)&&(decide (us≠[])&&decide (dP pns (bn (usL sums us)) own n D<cE (usL sums us)))
noncomputable def lH(n D P:Nat)(ls:List Lin):Prop:=ls.length≤40∧∀ℓ∈ls,ℓ.ps.length≤100∧∀q∈ℓ.ps,InR n D P q
theorem ki{n D P:Nat}{q:Prt}(h0:0≤q.h)(h1:q.h<(n:Int))(d0:0≤q.d)(d1:q.d<(D:Int))(p0:0≤q.p)(p1:q.p<(P:Int)):InR n D P q :=
 ⟨q.h.toNat,q.d.toNat,q.p.toNat,by rw[show((q.h.toNat:Nat):Int)=q.h by lia,show((q.d.toNat:Nat):Int)=q.d by lia,show((q.p.toNat:Nat):Int)=q.p by lia],by lia,by lia,by lia⟩
theorem ja{n D P:Nat}{ℓ:Lin}(l:ℓ.ps.length≤100)(h:∀q∈ℓ.ps,InR n D P q):lH n D P [ℓ]:=⟨by simp,fun _ z=>by rw[List.mem_singleton.mp z];exact⟨l,h⟩⟩
theorem gy{h c:Int}{n D P:Nat}{ds ps:List Int}(h0:0≤h)(h1:h<(n:Int))(hd:∀x∈ds,0≤x∧x<(D:Int))(hp:∀x∈ps,0≤x∧x<(P:Int)){q:Prt}(hq:q∈spr h ds ps c):InR n D P q:=by
 obtain⟨z1,z2,z3,_⟩:=fY hq
 have:=hd _ z2
 have:=hp _ z3
 exact ki (by lia) (by lia) (by lia) (by lia) (by lia) (by lia)
theorem l7{a b:Nat}(h:a≤6)(g:b≤6):a*b≤100:=yu (yba h g) (by decide)
theorem jW{d:Int}{n:Nat}{ps:List Pst}{s:Sp4}(ok:gT d n ps.length s)(d1:1≤d)(d2:d≤6)(p:ps.length≤6)(n8:n≤8):lH n d.toNat (ps.length+1) (bG d.toNat n ps s):=by
 have k6:=ok.k6
 have al:=cB ps
 have hf:=(qf ok d1 d2 p n8).1
 have hd:∀m,∀x∈dsN m d.toNat,0≤x∧x<(d.toNat:Int):=fun m x hx=>qZ hx
 have dl:∀m,(dsN m d.toNat).length≤6:=fun m=>by have:=iy m d.toNat;lia
 have hp:∀x∈bL ps,0≤x∧x<((ps.length+1:Nat):Int):=fun x hx=>by have:=cU hx;lia
 obtain hk | hk | hk | hk | hk | hk | hk:s.k=0∨s.k=1∨s.k=2∨s.k=3∨s.k=4∨s.k=5∨s.k=6:=by lia
 ·rw[mw hk]
  obtain⟨a0,a1,_,_⟩:=ok.w hk
  have P0:=ok.P0
  refine ja ?_ fun q hq=>?_
  ·show(ca n s.a (1+s.b % (ps.length:Int))).length≤100
   rw[jP]
   lia
  ·have hq':q∈ca n s.a (1+s.b % (ps.length:Int)):=hq
   unfold ca at hq'
   obtain⟨i,hi,rfl⟩:=yk.mp hq'
   have:=yp.mp hi
   have m1:=yA s.b (b:=(ps.length:Int)) (by lia)
   have m2:=yw s.b (b:=(ps.length:Int)) (by lia)
   exact ki (by show(0:Int)≤(i:Int);lia) (by show(i:Int)<n;lia) a0 (by show s.a<_;lia) (by show 0≤1+s.b % (ps.length:Int);lia) (by show 1+s.b % (ps.length:Int)<_;lia)
 ·rw[mj hk]
  obtain⟨a0,a1⟩:=ok.h (by lia)
  exact ja (by show(spr _ _ _ _).length≤100;rw[b6];exact l7 (dl _) (by lia)) fun q hq=>gy a0 a1 (hd _) hp hq
 ·rw[ln hk]
  obtain⟨a0,a1⟩:=ok.h (by lia)
  exact ja (by show(spr _ _ _ _).length≤100;rw[b6];exact l7 (dl _) (by lia)) fun q hq=>gy a0 a1 (hd _) hp hq
 ·rw[mC hk] at hf ⊢
  obtain⟨a0,a1⟩:=ok.h (by lia)
  refine⟨hf,fun ℓ hℓ=>?_⟩
  unfold ia at hℓ
  obtain⟨x,hx,rfl⟩:=yk.mp hℓ
  exact⟨by show(spr _ _ _ _).length≤100;rw[b6];exact l7 (by simp) (by lia),fun q hq=>gy a0 a1 (fun y hy=>by rw[List.mem_singleton.mp hy];exact hd _ _ hx) hp hq⟩
 ·rw[jQ hk] at hf ⊢
  obtain⟨a0,a1⟩:=ok.h (by lia)
  obtain⟨c0,c1⟩:=ok.c4 hk
  refine⟨hf,fun ℓ hℓ=>?_⟩
  unfold cg at hℓ
  obtain⟨i,hi,rfl⟩:=yk.mp hℓ
  have hi':=yp.mp hi
  have nl:=qY ps
  exact⟨by show(spr _ _ _ _).length≤100;rw[b6,upL];exact l7 (by lia) (by lia),fun q hq=>gy a0 a1 (fun y hy=>by have:=cU hy;lia) (fun y hy=>by have:=kY.mp hy;lia) hq⟩
 ·rw[lL hk]
  obtain⟨a0,a1⟩:=ok.h (by lia)
  have key:∀c b:Int,(⟨byH s.a ps d.toNat c,b⟩:Lin).ps.length≤100∧∀q∈(⟨byH s.a ps d.toNat c,b⟩:Lin).ps,InR n d.toNat (ps.length+1) q:=fun c b=>by
   refine⟨?_,fun q hq=>?_⟩
   ·show(byH s.a ps d.toNat c).length≤100
    unfold byH byI
    refine yu (nA (B:=6) (fun x=>?_) _) ?_
    ·rw[b6,upL]
     show d.toNat*1≤6
     lia
    ·rw[upL]
     lia
   ·have hq':q∈byH s.a ps d.toNat c:=hq
    unfold byH byI at hq'
    obtain⟨y,hy,hq2⟩:=yza.mp hq'
    have hy':=cU hy
    exact gy a0 a1 (fun y hy=>by have:=cU hy;lia) (fun z hz=>by rw[List.mem_singleton.mp hz];lia) hq2
  refine⟨by simp,fun ℓ hℓ=>?_⟩
  rcases List.mem_cons.mp hℓ with rfl | hℓ
  ·exact key _ _
  ·rw[List.mem_singleton.mp hℓ]
   exact key _ _
 ·rw[lR hk] at hf ⊢
  obtain⟨a0,a1⟩:=ok.h (by lia)
  obtain⟨b0,b1,_⟩:=ok.o hk
  refine⟨hf,fun ℓ hℓ=>?_⟩
  unfold c6 at hℓ
  obtain⟨x,hx,rfl⟩:=yk.mp hℓ
  obtain⟨⟨x0,x1⟩,x2,x3⟩:=i7.mp hx
  refine⟨by show 2≤100;decide,fun q hq=>?_⟩
  have hq':q∈[(⟨s.a,x.1,x.2,-1⟩:Prt),⟨s.b,x.1,x.2,-1⟩]:=hq
  rcases List.mem_cons.mp hq' with z | z
  ·rw[z]
   exact ki a0 a1 x0 x1 (by show 0≤x.2;lia) (by show x.2<_;lia)
  ·rw[List.mem_singleton.mp z]
   exact ki b0 b1 x0 x1 (by show 0≤x.2;lia) (by show x.2<_;lia)
theorem uK{d:Int}{n:Nat}{ps:List Pst}{s:Sp4}(ok:gT d n ps.length s)(d1:1≤d)(d2:d≤6)(p:ps.length≤6)(n8:n≤8):(dn d.toNat n ps s).length≤40∧∀ℓ∈dn d.toNat n ps s,ℓ.ps.length≤100:=by
 have h:=jW ok d1 d2 p n8
 unfold dn
 by_cases k4:s.k=4
 ·rw[if_pos k4,gm _ _ _ _ (ok.c4 k4).1,← jQ (n:=n) k4]
  exact⟨h.1,fun ℓ hℓ=>(h.2 ℓ hℓ).1⟩
 ·rw[if_neg k4]
  by_cases k5:s.k=5
  ·rw[if_pos k5]
   have key:∀c:Int,(eX s.a d.toNat ps c).length≤100:=fun c=>by
    unfold eX
    rw[ya,b6,upL,cB]
    exact l7 (by lia) p
   refine⟨by simp,fun ℓ hℓ=>?_⟩
   rcases List.mem_cons.mp hℓ with rfl | hℓ
   ·exact key _
   ·rw[List.mem_singleton.mp hℓ]
    exact key _
  ·rw[if_neg k5]
   exact⟨h.1,fun ℓ hℓ=>(h.2 ℓ hℓ).1⟩
theorem sf{sums:List (List Lin)}{u:Tri}{ℓ:Lin}(h:cC sums u=some ℓ):∃ls∈sums,ℓ∈ls:=by
 unfold cC at h
 split at h
 ·cases e:sums[u.1.toNat]? with
  | none=>rw[e] at h;cases h
  | some ls =>
   rw[e] at h
   exact⟨ls,yc e,yc (show ls[u.2.1.toNat]? = some ℓ from h)⟩
 ·cases h
theorem AY{n D P:Nat}{sums:List (List Lin)}(h:∀ls∈sums,lH n D P ls)(us:List Tri):cp n D P (bn (usL sums us)):=by
 refine cp.lines cp.nil fun l hl q hq=>?_
 obtain⟨u,_,rfl⟩:=yk.mp hl
 cases e:cC sums u with
 | none =>
  have hq':q∈((cC sums u).getD mH).ps:=hq
  rw[e] at hq'
  cases hq'
 | some ℓ =>
  have hq':q∈((cC sums u).getD mH).ps:=hq
  rw[e] at hq'
  obtain⟨ls,h1,h2⟩:=sf e
  exact((h ls h1).2 ℓ h2).2 q hq'
theorem jI{sums:List (List Lin)}(h:∀ls∈sums,∀ℓ∈ls,ℓ.ps.length≤100):∀us:List Tri,bq (usL sums us)≤us.length*100
 | []=>yq _
 | u::us=>by
  have ih:=jI h us
  have e:bq (usL sums (u::us))=((cC sums u).getD mH).ps.length+bq (usL sums us):=by
   unfold bq usL
   rw[yi,yi,yC]
  have h1:((cC sums u).getD mH).ps.length≤100:=by
   cases e:cC sums u with
   | none=>exact yq _
   | some ℓ =>
    obtain⟨ls,h1,h2⟩:=sf e
    exact h ls h1 ℓ h2
  rw[e,yD,yya]
  lia
end My
namespace My
open PySem L2
noncomputable def rg(us:List Tri):Prop:=us.length≤9∧∀u∈us,-(2 ^ 40)<u.2.2∧u.2.2<2 ^ 40
theorem u8{sums:List (List Lin)}{us:List Tri}(h:rg us):∀l∈usL sums us,-(2 ^ 40)<l.2∧l.2<2 ^ 40:=fun l hl=>by
 obtain⟨u,hu,rfl⟩:=yk.mp hl
 exact h.2 u hu
noncomputable def E9(H:Hp)(v:V)(l:Lin×Int):Prop:=∃t u,v=.ref t∧H t=some (.tup [.ref u,.int l.2])∧mh H (.ref u) l.1
noncomputable abbrev zd(H:Hp):List V→List (Lin×Int)→Prop:=Paired (E9 H)
theorem mh.mono{H H':Hp}(g:az H H'){v:V}{ℓ:Lin}(h:mh H v ℓ):mh H' v ℓ:=by
 obtain⟨t,l,ts,e,q,r,z⟩:=h
 exact⟨t,l,ts,e,g _ _ q,g _ _ r,z.mono (aC g)⟩
noncomputable def Ci(H:Hp)(v:V)(ls:List Lin):Prop:=∃t us,v=.ref t∧H t=some (.lst us)∧mn H us ls
noncomputable abbrev mL(H:Hp):List V→List (List Lin)→Prop:=Paired (Ci H)
theorem mL.mono{H H':Hp}(g:az H H'){us:List V}{lls:List (List Lin)}(h:mL H us lls):mL H' us lls:=by
 refine Paired.mapP h fun _ _ z2_=>?_
 obtain⟨t,us,e,q,r⟩:=z2_
 exact⟨t,us,e,g _ _ q,mn.mono g r⟩
theorem Paired.at{α β:Type}{F:α→β→Prop}:∀{xs:List α} {ys:List β} {i:Nat} {y:β},Paired F xs ys→ys[i]? = some y→∃x,xs[i]? = some x∧F x y
 | _,_,_,_,.nil,h=>by simp at h
 | _,_,0,_,.cons a _,h=>⟨_,rfl,by cases h;exact a⟩
 | _,_,i+1,_,.cons _ r,h=>by
  obtain⟨x,e,f⟩:=Paired.at r (i:=i) (by simpa using h)
  exact⟨x,by simpa using e,f⟩
theorem lO{sums:List (List Lin)}{r l t:Int}{ls:List Lin}(r0:0≤r)(hr:sums[r.toNat]? = some ls)(l0:0≤l):cC sums (r,l,t)=ls[l.toNat]?:=by
 unfold cC
 rw[if_pos ⟨r0,l0⟩]
 show(sums[r.toNat]?).bind _=_
 rw[hr]
 rfl
theorem vZ{sums:List (List Lin)}{r l t:Int}(h:¬(0≤r∧0≤l)):cC sums (r,l,t)=none:=by
 unfold cC
 rw[if_neg h]
theorem zp{sums:List (List Lin)}{r l t:Int}(h:(sums.length:Int)≤r):cC sums (r,l,t)=none:=by
 unfold cC
 split
 ·show(sums[r.toNat]?).bind _=_
  rw[yxa (by lia)]
  rfl
 ·rfl
theorem vv{sums:List (List Lin)}{u:Tri}(h:okU sums u=true):0≤u.1∧u.1<sums.length∧0≤u.2.1∧1≤u.2.2∧∃ls ℓ,sums[u.1.toNat]? = some ls∧ls[u.2.1.toNat]? = some ℓ∧cC sums u=some ℓ:=by
 unfold okU at h
 rw[yI,decide_eq_true_eq] at h
 obtain⟨h,h1⟩:=h
 obtain⟨ℓ,e⟩:=Option.isSome_iff_exists.mp h
 have e':=e
 unfold cC at e
 split at e
 ·rename_i z
  cases er:sums[u.1.toNat]? with
  | none=>rw[er] at e;cases e
  | some ls =>
   rw[er] at e
   have hl:=(List.getElem?_eq_some_iff.mp er).1
   exact⟨z.1,by lia,z.2,h1,ls,ℓ,rfl,e,e'⟩
 ·cases e
structure PaG(H:Hp)(L:Addr)(ls:List (Lin×Int))(i:Nat)(H':Hp):Prop where
 ex:∃us:List V,az H H'∧H' L=some (.lst us)∧Prs H' us (ls.take i)
theorem PaG.start{H:Hp}{L:Addr}{ls:List (Lin×Int)}(hL:H L=none):PaG H L ls 0 (upd H L (.lst [])):=⟨[],ah hL _,ae,by rw[yla];exact .nil⟩
theorem PaG.same{H H':Hp}{L:Addr}{ls:List (Lin×Int)}{i:Nat}(h:PaG H L ls i H'):az H H':=by
 obtain⟨_,g,_⟩:=h.ex
 exact g
theorem PaG.step{H H':Hp}{L t u:Addr}{ls:List (Lin×Int)}{i:Nat}{l:Lin×Int}(h:PaG H L ls i H')(hL:H L=none)(hi:i≤900)(hl:ls[i]? = some l)(hv:mq H' (.ref u) l.1)(ht:H' t=none) :
  ∃xs,upd H' t (.tup [.ref u,.int l.2]) L=some (.lst xs)∧xs.length<sizeLine∧PaG H L ls (i+1) (upd (upd H' t (.tup [.ref u,.int l.2])) L (.lst (xs++[.ref t]))):=by
 obtain⟨us,g,e,hP⟩:=h.ex
 have hul:=Paired.length hP
 rw[yr] at hul
 have gt:=ah ht (.tup [.ref u,.int l.2])
 refine⟨us,gt _ _ e,aE (by lia),us++[.ref t],aJ hL (g.trans gt) _,ae,?_⟩
 rw[aP hl]
 exact Prs.mono (bc (gt _ _ e)) (aU (hP.mono (aC gt)) ⟨t,u,rfl,ae,hv.mono (aC gt)⟩)
noncomputable def ji(f:Nat→Nat→Int)(D i j:Nat):Int:=((cls i D).map fun c=>f c.1 c.2).sum+((List.range j).map fun d=>f i d).sum
theorem mv(n D:Nat):cls (n+1) D=cls n D++(List.range D).map fun d=>(n,d):=by
 unfold cls
 rw[yO,yga]
 simp
theorem pK(f:Nat→Nat→Int)(D i j:Nat):ji f D i (j+1)=ji f D i j+f i j:=by
 unfold ji
 rw[yO,yg,yL]
 simp
 lia
theorem rA(f:Nat→Nat→Int)(D i:Nat):ji f D (i+1) 0=ji f D i D:=by
 unfold ji
 rw[mv,yg,yL,yW]
 show _+((List.range D).map fun d=>f i d).sum+0=_
 lia
theorem tj(pns kvs:List (List Key×V))(own:Nat→List Int)(n D:Nat):ji (mxC pns kvs own) D n 0=dP pns kvs own n D:=by
 unfold ji dP
 show _+0=_
 lia
noncomputable def Gi(H:Hp)(v:V)(p:Int×Int):Prop:=∃a,v=.ref a∧H a=some (.tup [.int p.1,.int p.2])
noncomputable abbrev sH(H:Hp):List V→List (Int×Int)→Prop:=Paired (Gi H)
theorem sH.tmono{H H':Hp}(g:eO H H'){us:List V}{ts:List (Int×Int)}(h:sH H us ts):sH H' us ts:=by
 refine Paired.mapP h fun _ _ z5_=>?_
 obtain⟨a,e,q⟩:=z5_
 exact⟨a,e,g _ _ q⟩
structure iN(H:Hp)(L:Addr)(lls:List (List Lin))(i:Nat)(H':Hp):Prop where
 ex:∃us:List V,az H H'∧H' L=some (.lst us)∧Paired (fun v ls=>∃t ul,v=V.ref t∧t≠L∧H' t=some (.lst ul)∧Paired (wd L H H') ul ls) us (lls.take i)
theorem iN.start{H:Hp}{L:Addr}{lls:List (List Lin)}(hL:H L=none):iN H L lls 0 (upd H L (.lst [])):=⟨[],ah hL _,ae,by rw[yla];exact .nil⟩
theorem iN.same{H H':Hp}{L:Addr}{lls:List (List Lin)}{i:Nat}(h:iN H L lls i H'):az H H':=by
 obtain⟨_,g,_⟩:=h.ex
 exact g
theorem iN.step{H H' H2:Hp}{L r:Addr}{lls:List (List Lin)}{i:Nat}{ls:List Lin}{ul:List V}(h:iN H L lls i H')(hL:H L=none)(hi:i≤900)(hl:lls[i]? = some ls)(g2:az H' H2)(hr:H' r=none)(er:H2 r=some (.lst ul))(hu:j2 H' H2 ul ls) :
  ∃xs,H2 L=some (.lst xs)∧xs.length<sizeLine∧iN H L lls (i+1) (upd H2 L (.lst (xs++[.ref r]))):=by
 obtain⟨us,g,e,hT⟩:=h.ex
 have hul:=Paired.length hT
 rw[yr] at hul
 have eL:=g2 _ _ e
 have tu:=bc (o:=.lst (us++[.ref r])) eL
 refine⟨us,eL,aE (by lia),us++[.ref r],aJ hL (g.trans g2) _,ae,?_⟩
 rw[aP hl]
 refine aU (Paired.mapP hT fun _ _ ⟨t,ul,e,n,q,z⟩=>⟨t,ul,e,n,by rw[au n];exact g2 _ _ q,Paired.mapP z fun _ _ ⟨t',l',ts',e',q',r',z',n',f'⟩=>⟨t',l',ts',e',tu _ _ (g2 _ _ q'),by rw[au n'];exact g2 _ _ r',(z'.mono (aC g2)).mono tu,n',f'⟩⟩) ?_
 refine⟨r,ul,rfl,(ay e hr).symm,by rw[au (ay e hr).symm];exact er,Paired.mapP hu fun _ _ zz_=>?_⟩
 obtain⟨t',l',ts',e',q',r',z',f'⟩:=zz_
 have n':l'≠L:=(ay e f').symm
 exact⟨t',l',ts',e',tu _ _ q',by rw[au n'];exact r',z'.mono tu,n',g.free f'⟩
theorem iN.done{H H':Hp}{L:Addr}{lls:List (List Lin)}(h:iN H L lls lls.length H'):∃us:List V,az H H'∧H' L=some (.lst us)∧mL H' us lls:=by
 obtain⟨us,g,e,hT⟩:=h.ex
 rw[yo] at hT
 refine⟨us,g,e,Paired.mapP hT fun _ _ z6_=>?_⟩
 obtain⟨t,ul,e,_,q,z⟩:=z6_
 refine⟨t,ul,e,q,Paired.mapP z fun _ _ z7_=>?_⟩
 obtain⟨t',l',ts',e',q',r',z',_,_⟩:=z7_
 exact⟨t',l',ts',e',q',r',z'⟩
end My
namespace My
open PySem L2
noncomputable def Cf(f:Nat→Nat→Int)(D i:Nat):Int:=ji f D i 0
end My
namespace L2
open PySem PySem.Spec PyProof.Rows
noncomputable def FB(K:PySem.W.Frag):R2:=fun x y H Q=>∃b,y=.ref b∧SqL K H b []∧((x=.non∧Q (.bl false) H)∨∃a xs,x=.ref a∧SqL K H a xs∧Q (.bl (decide (xs=[]))) H)
theorem jt{X:Cx}{k:Nat}(hr:ce k X.A):OpR X (compareOp .Eq) (FB X.K):=by
 intro pins s σ H x y v u Q I rx ry h
 obtain⟨b,rfl,hb,h⟩:=h
 cases ry
 have hu:=hr.units
 obtain⟨its',ri',pl',_⟩:=I.list hb
 rcases h with ⟨rfl,q⟩ | ⟨a,xs,rfl,ha,q⟩
 ·cases rx
  exact SeqAt.RcAt.none_list pl'.isList (by lia) _ _ _ _ ⟨.bl _,H,I,rfl,q⟩
 ·cases rx
  by_cases z:xs=[]
  ·subst z
   rw[decide_eq_true rfl] at q
   have h1:=(jg I (n:=0) (A:=X.A) (ds:=[]) (es:=[]) ⟨[],ha,.nil⟩ ⟨[],hb,.nil⟩ (fun _ i d e h=>by simp at h) (by lia)).1
   rw[dZ] at h1
   exact h1 _ _ _ _ ⟨.bl _,H,I,rfl,q⟩
  ·rw[decide_eq_false z] at q
   obtain⟨its,ri,pl,_⟩:=I.list ha
   have l1:=ri.length
   have l2:=ri'.length
   have l3:0<xs.length:=List.length_pos_iff.mpr z
   have l4:its'.length=0:=l2.symm
   exact SeqAt.RcAt.lists_lengths pl.isList pl'.isList (by simp only[yh,bne_iff_ne,ne_eq];lia) (by lia) _ _ _ _ ⟨.bl _,H,I,rfl,q⟩
end L2
namespace L2
open PySem PySem.Spec PyProof.Rows
noncomputable def wq(kvs:List (List Key×V)):Prop:=∀kv∈kvs,(∃ns,kv.1=kN ns)∧∃i,kv.2=.int i
noncomputable def DH(H:Hp)(v:V)(kvs:List (List Key×V)):Prop:=∃d,v=.ref d∧H d=some (.dT kvs)∧wq kvs
noncomputable abbrev dg(H:Hp):List V→List (List (List Key×V))→Prop:=Paired (DH H)
section
variable{X:Cx}{pins:List (Addr×Obj)}{σ:St}{H:Hp}{s:Shared}
end
noncomputable def E6(K:PySem.W.Frag):R2:=fun x y H Q=>∃a b xs,x=.ref a∧y=.ref b∧SqL K H a xs∧SqL K H b []∧Q (.bl (!decide (xs=[]))) H
theorem Bh{X:Cx}{k:Nat}(hr:ce k X.A):OpR X (compareOp .NotEq) (E6 X.K):=by
 intro pins s σ H x y v u Q I rx ry h
 obtain⟨a,b,xs,rfl,rfl,ha,hb,q⟩:=h
 cases rx
 cases ry
 have hu:=hr.units
 obtain⟨its',ri',pl',_⟩:=I.list hb
 by_cases z:xs=[]
 ·subst z
  rw[decide_eq_true rfl] at q
  have h1:=(jg I (n:=0) (A:=X.A) (ds:=[]) (es:=[]) ⟨[],ha,.nil⟩ ⟨[],hb,.nil⟩ (fun _ i d e h=>by simp at h) (by lia)).2
  rw[dZ] at h1
  exact h1 _ _ _ _ ⟨.bl _,H,I,rfl,q⟩
 ·rw[decide_eq_false z] at q
  obtain⟨its,ri,pl,_⟩:=I.list ha
  have l1:=ri.length
  have l2:=ri'.length
  have l3:0<xs.length:=List.length_pos_iff.mpr z
  have l4:its'.length=0:=l2.symm
  exact SeqAt.RcNeAt.lists_lengths pl.isList pl'.isList (by simp only[yh,bne_iff_ne,ne_eq];lia) (by lia) _ _ _ _ ⟨.bl _,H,I,rfl,q⟩
noncomputable def CN(K:PySem.W.Frag):R2:=fun x y H Q=>∃a b xs,x=.ref a∧y=.ref b∧SqL K H a xs∧SqL K H b xs∧(∀v∈xs,∃c,v=.ref c)∧Q (.bl false) H
theorem Af{X:Cx}{k:Nat}(hr:ce k X.A):OpR X (compareOp .NotEq) (CN X.K):=by
 intro pins s σ H x y v u Q I rx ry h
 obtain⟨a,b,xs,rfl,rfl,ha,hb,hx,q⟩:=h
 cases rx
 cases ry
 have hu:=hr.units
 obtain⟨its,ri,pl,_⟩:=I.list ha
 obtain⟨its',ri',pl',_⟩:=I.list hb
 have l1:=ri.length
 have l2:=ri'.length
 have hsz:its.toArray.size=its'.toArray.size:=by rw[yh,yh];lia
 have go:∀j (h1':j<its.toArray.size) (h2':j<its'.toArray.size),SeqAt.EqAt X.A.in1 s its.toArray[j] its'.toArray[j] ((fun _=>true) j):=fun j h1' h2'=>by
  rw[yh] at h1' h2'
  have hj1:xs[j]? = some xs[j]:=yb (by lia)
  obtain⟨c,ec⟩:=hx xs[j] (yQ _)
  obtain⟨u',hu',ru'⟩:=ri.get hj1
  obtain⟨v',hv',rv'⟩:=ri'.get hj1
  have eu:its.toArray[j]=u':=by
   have:its[j]? = some its[j]:=yb h1'
   rw[this] at hu'; simpa using yt hu'
  have ev:its'.toArray[j]=v':=by
   have:its'[j]? = some its'[j]:=yb h2'
   rw[this] at hv'; simpa using yt hv'
  rw[ec] at ru' rv'
  cases ru'
  cases rv'
  rw[eu,ev]
  exact SeqAt.EqAt.same _
 have r2:=SeqAt.RcNeAt.lists (e:=fun _=>true) pl.isList pl'.isList hsz (by lia:X.A.units<cLine) go
 have e0:((List.range its.toArray.size).all fun _=>true)=true:=by rw[yG];intros;rfl
 rw[e0] at r2
 exact r2 _ _ _ _ ⟨.bl _,H,I,rfl,q⟩
end L2
namespace L2
open PySem PySem.Spec PyProof.Rows
noncomputable def Itv(K:PySem.W.Frag)(a:Addr)(n:Nat):It :=
 ⟨fun i H=>∃xs x,SqL K H a xs∧xs.length=n∧i<n∧xs[n-1-i]? = some x,fun i H x H'=>H'=H∧∀xs,SqL K H a xs→xs[n-1-i]? = some x,fun i _=>n≤i⟩
theorem rq{P:Program}{w:World}{K:PySem.W.Frag}{tg:Expr}(a it:Addr)(n:Nat):ly P w K tg (Itv K a n) [it] it (fun i h=>i≤n∧h.IsRevIter it a ((n:Int)-1-(i:Int))) where
 mem:=by simp
 obj:=fun i h st b hb=>by
  have e:b=it:=by simpa using hb
  subst e
  obtain⟨_,o,e,c,d⟩:=st
  exact⟨o,e,fun v z=>by rw[d] at z;cases z⟩
 keep:=fun i h h' st k=>⟨st.1,st.2.at fun o e=>k it (by simp) o e⟩
 item:=by
  intro X hP hw hK hc i pins s σ H E I hf st hg
  subst hP hw hK
  obtain⟨xs,x,hq,hn,hi,hx⟩:=hg
  obtain⟨its,rv,p,hz⟩:=I.list hq
  obtain⟨u,hu,ru⟩:=rv.get hx
  obtain⟨f0,f1,f2,f3,f4,f5⟩:=hf it (by simp)
  have e1:(n:Int)-1-(i:Int)=((n-1-i:Nat):Int):=by omega
  have st1:=st.2
  rw[e1] at st1
  refine wpAny_pyNext_rev_item st1 p.isList (x:=u) (by simpa using hu) fun h' st' sb=>?_
  have I1:Inv X pins σ H { s with heap:=h' }:=I.turned (t':=s.toks) (fun b o hb e=>(sb.2 b hb).trans e) f0 f1 f3 f4 f5
  have e2:((n-1-i:Nat):Int)-1=(n:Int)-1-((i+1:Nat):Int):=by lia
  rw[e2] at st'
  obtain⟨o,e,c,d⟩:=id st'
  exact⟨u,rfl,lD (s:={ s with heap:=h' }) e c d (by decide) ⟨x,H,I1,ru,⟨rfl,fun ys hy=>by rw[I.list_inj hy hq];exact hx⟩,⟨hi,st'⟩,fun b hb=>(hf b hb).1⟩⟩
 done:=by
  intro X hP hw hK hc i pins s σ H E I hf st hg
  subst hP hw hK
  obtain⟨f0,f1,f2,f3,f4,f5⟩:=hf it (by simp)
  have hg:n≤i:=hg
  have e1:(n:Int)-1-(i:Int) = -1:=by have:=st.1;lia
  have st1:=st.2
  rw[e1] at st1
  exact wpAny_pyNext_rev_end (I.ok.hd hc) st1 fun h' eb=>⟨rfl,I.turned (t':=s.toks) (fun b o hb e=>eb b o hb e) f0 f1 f3 f4 f5⟩
 self:=fun _ _ _ _ _ st h=>wpAny_pyIter_revIter st.2 h
theorem mr{K:PySem.W.Frag}{a:Addr}{xs:List V}{σ:St}{H:Hp}{DN:St→Hp→Prop}{B:(St→Hp→Prop)→V→St→Hp→Prop}(Pv:Nat→St→Hp→Prop)(h0:Pv 0 σ H)
  (hl:∀i σ H,i≤xs.length→Pv i σ H→SqL K H a xs)
  (hs:∀i x σ H,xs.reverse[i]? = some x→Pv i σ H→B (Pv (i+1)) x σ H) (hd:∀σ H,Pv xs.length σ H→DN σ H) :
  ∃W:Nat→Nat→St→Hp→Prop,(∃m,W 0 m σ H)∧∀i m σ H,W i m σ H →
   ((Itv K a xs.length).stop i H∧DN σ H)∨((Itv K a xs.length).go i H∧∃N:St→Hp→Prop,(∀σ' H',N σ' H'→∃m',m'<m∧W (i+1) m' σ' H')∧∀x H',(Itv K a xs.length).yld i H x H'→B N x σ H'):=by
 refine⟨fun i m σ H=>m=xs.length-i∧i≤xs.length∧Pv i σ H,⟨xs.length,by simp,yq _,h0⟩,?_⟩
 rintro i m σ H ⟨rfl,hi,p⟩
 have q1:=hl i σ H hi p
 by_cases hlt:i<xs.length
 ·have hlt2:xs.length-1-i<xs.length:=by omega
  refine .inr ⟨⟨xs,xs[xs.length-1-i],q1,rfl,hlt,yb hlt2⟩,Pv (i+1),fun σ' H' p'=>⟨xs.length-(i+1),by omega,rfl,hlt,p'⟩,fun x H' y=>?_⟩
  obtain⟨e,hx⟩:=y
  subst e
  exact hs i x σ _ (by rw[List.getElem?_reverse hlt];exact hx xs q1) p
 ·have e:i=xs.length:=by lia
  subst e
  exact .inl ⟨yd _,hd σ H p⟩
noncomputable def B4(K:PySem.W.Frag)(te:TE):TI:=fun σ H R=>te σ H fun x H1=>∃a xs,x=.ref a∧SqL K H1 a xs∧R (Itv K a xs.length) H1
theorem sT{X:Cx}{tg e:Expr}{te:TE}{p pos:Pos}(hg:Gl X "reversed")(hm:X.mg "reversed" = none)(he:PE X e te)(hs:starEach [e] X.env=[(false,eval e X.env)]:=by rfl) :
  PI X tg (.Call (.Name "reversed" p) [e] [] pos) (B4 X.K te):=by
 intro pins s σ H R I h
 refine Call_ (eF I hg hm boot_reversed (PyProof.Rows.callWith_type1 ?_ hs rfl))
 rw[hs]
 refine Calls.spliced_cons (thn (he pins s σ H _ I h) fun v s1 z1_=>?_)
 obtain⟨x,H1,I1,rx,q1⟩:=z1_
 refine Calls.spliced_nil ?_
 obtain⟨a,xs,rfl,hq,q⟩:=q1
 cases rx
 obtain⟨its,rv,pl,hz⟩:=I1.list hq
 have hlen:=rv.length
 have hsz:its.toArray.size=xs.length:=by rw[yh];lia
 refine call_reversed_list pl.isList ?_
 rw[hsz]
 refine wpAny_pyIter_revIter (l:=a) (i:=(xs.length:Int)-1) ⟨_,Heap.get?_push_size _ rfl,rfl,rfl⟩ ?_
 refine⟨s1.heap.objs.size,[s1.heap.objs.size],_,_,H1,rfl,I1.kept (t':=s1.toks) fun b o e=>Heap.get?_push_of_some _ e,rq a _ xs.length,⟨yq _,⟨_,Heap.get?_push_size _ rfl,rfl,by simp[revObj]⟩⟩,fun b hb=>?_,q⟩
 have e:b=s1.heap.objs.size:=by simpa using hb
 subst e
 exact I1.fpOk (yd _) (I1.hok.fresh (yd _))
end L2
namespace My
open PySem L2
noncomputable abbrev Pns:=List (List Key×V)
inductive Stp where
 | part (h d:Int)
 | sum (us:List Tri)
 | oth (s:Str)
noncomputable def fB(H:Hp)(v:V):Stp→Prop
 | .part h d=>∃t,v=.ref t∧H t=some (.tup [.str "part",.int h,.int d])
 | .sum us=>∃t ut uv,v=.ref t∧H t=some (.tup [.str "sum",.ref ut])∧H ut=some (.tup uv)∧eG H uv us
 | .oth s=>∃t vs,v=.ref t∧H t=some (.tup (.str s::vs))∧V.str s≠.str "part" ∧ V.str s≠.str "sum"
theorem fB.tmono{H H':Hp}(g:eO H H'){v:V}:∀{st:Stp},fB H v st→fB H' v st
 | .part _ _,⟨t,e,q⟩=>⟨t,e,g _ _ q⟩
 | .sum _,⟨t,ut,uv,e,q,r,z⟩=>⟨t,ut,uv,e,g _ _ q,g _ _ r,eG.tmono g z⟩
 | .oth _,⟨t,vs,e,q,r⟩=>⟨t,vs,e,g _ _ q,r⟩
noncomputable abbrev dW(H:Hp):List V→List Stp→Prop:=Paired (fB H)
theorem dW.tmono{H H':Hp}(g:eO H H'){us:List V}{sts:List Stp}(h:dW H us sts):dW H' us sts:=Paired.mapP h fun _ _=>fB.tmono g
theorem fB.rf{H:Hp}{v:V}:∀{st:Stp},fB H v st→∃c,v=.ref c
 | .part _ _,⟨t,e,_⟩=>⟨t,e⟩
 | .sum _,⟨t,_,_,e,_⟩=>⟨t,e⟩
 | .oth _,⟨t,_,e,_⟩=>⟨t,e⟩
theorem dW.refs{H:Hp}{us:List V}{sts:List Stp}(h:dW H us sts):∀v∈us,∃c,v=.ref c:=by
 induction h with
 | nil=>intro v hv;cases hv
 | cons a _ ih =>
  intro w hw
  rcases List.mem_cons.mp hw with rfl | hw
  ·exact a.rf
  ·exact ih w hw
noncomputable def dz(n D:Nat)(pns:Pns)(h d:Int):Bool:=(decide (0≤h)&&decide (h<(n:Int)))&&((decide (0≤d)&&decide (d<(D:Int))) && !(bD pns (k2 h d)).isSome)
noncomputable def e9(pns:Pns)(ow:List Int)(h d:Int):List Pns:=ow.reverse.map fun v=>bC pns (k2 h d) (.int v)
structure Ctx where
 E:List Tri→Pns→Bool
 own:Nat→List Int
 n:Nat
 D:Nat
noncomputable def ej(c:Ctx)(pns:Pns):Stp→Bool
 | .part h d=>dz c.n c.D pns h d
 | .sum us=>c.E us pns
 | .oth _=>false
noncomputable def og(c:Ctx)(pns:Pns):Stp→List Pns
 | .part h d=>e9 pns (c.own h.toNat) h d
 | _=>[]
noncomputable def ic(c:Ctx)(cs:List Pns)(st:Stp):Option (List Pns):=match cs.getLast? with
 | none=>none
 | some pns=>if ej c pns st=true then some (cs.dropLast++og c pns st) else none
noncomputable def cL(c:Ctx)(sts:List Stp):Option (List Pns):=sts.foldl (fun o st=>o.bind fun cs=>ic c cs st) (some [[]])
theorem m5(c:Ctx)(sts:List Stp)(st:Stp):cL c (sts++[st])=(cL c sts).bind fun cs=>ic c cs st:=by
 unfold cL
 rw[yqa]
 rfl
theorem j7(c:Ctx):∀sts:List Stp,sts.foldl (fun(o:Option (List Pns)) st=>o.bind fun cs=>ic c cs st) none=none
 | []=>rfl
 | _::sts=>j7 c sts
theorem mz{c:Ctx}{sts:List Stp}{i:Nat}(h:cL c (sts.take i)=none):cL c sts=none:=by
 have e:sts=sts.take i++sts.drop i:=(yMa ..).symm
 rw[e]
 unfold cL at h ⊢
 rw[yqa,h]
 exact j7 c _
theorem jh{c:Ctx}{cs:List Pns}{pns:Pns}{st:Stp}:ic c (cs++[pns]) st=if ej c pns st=true then some (cs++og c pns st) else none:=by
 unfold ic
 rw[List.getLast?_append]
 show(if ej c pns st=true then some ((cs++[pns]).dropLast++og c pns st) else none)=_
 rw[yUa]
noncomputable def dh(n D k:Nat)(cs:List Pns):Prop:=cs.length≤1+9*k∧∀p∈cs,cF n D 0 p∧p.length≤k
theorem dh.init{n D:Nat}:dh n D 0 [[]]:=⟨by show 1≤1+9*0;decide,fun p hp=>by rw[List.mem_singleton.mp hp];exact⟨cF.nil,yd _⟩⟩
theorem kI{n D:Nat}{pns:Pns}{h d:Int}(z:dz n D pns h d=true):0≤h∧h<(n:Int)∧0≤d∧d<(D:Int)∧bD pns (k2 h d)=none:=by
 unfold dz at z
 simp only[yI,decide_eq_true_eq,yGa] at z
 obtain⟨⟨a,b⟩,⟨c,d⟩,e⟩:=z
 refine⟨a,b,c,d,?_⟩
 cases hv:bD pns (k2 h _) with
 | none=>rfl
 | some v=>rw[hv] at e;cases e
theorem dh.step{c:Ctx}{k:Nat}{cs:List Pns}{pns:Pns}{st:Stp}(o:dh c.n c.D k (cs++[pns]))(hw:∀h,h<c.n→(c.own h).length≤9)(z:ej c pns st=true):dh c.n c.D (k+1) (cs++og c pns st):=by
 obtain⟨o1,o2⟩:=o
 rw[yf,yJ] at o1
 have hp:=o2 pns (yH _ (List.mem_singleton.mpr rfl))
 have old:∀p∈cs,cF c.n c.D 0 p∧p.length≤k+1:=fun p h=>⟨(o2 p (yU _ h)).1,ydb (o2 p (yU _ h)).2⟩
 cases st with
 | part h d =>
  obtain⟨h0,h1,d0,d1,hv⟩:=kI (show dz c.n c.D pns h d=true from z)
  have hl:=hw h.toNat (by lia)
  refine⟨?_,fun p hm=>?_⟩
  ·show(cs++e9 pns (c.own h.toNat) h d).length≤_
   unfold e9
   rw[yf,ya,yda]
   lia
  ·rcases List.mem_append.mp hm with y | y
   ·exact old p y
   ·have y:p∈e9 pns (c.own h.toNat) h d:=y
    unfold e9 at y
    obtain⟨v,_,rfl⟩:=yk.mp y
    have e:k2 h d=k2 ((h.toNat:Nat):Int) ((d.toNat:Nat):Int):=by rw[yN h0,yN d0]
    refine⟨by rw[e];exact hp.1.put (by lia) (by lia) v,?_⟩
    have:=cb pns (k2 h d) (.int v)
    have:=hp.2
    lia
 | sum us =>
  refine⟨?_,fun p hm=>?_⟩
  ·show(cs++[]).length≤_
   rw[yy]
   lia
  ·have hm:p∈cs++[]:=hm
   rw[yy] at hm
   exact old p hm
 | oth s =>
  have z:false=true:=z
  cases z
theorem cF.plain{n D P:Nat}{pns:Pns}(o:cF n D P pns):wq pns:=fun kv m=>by
 refine⟨?_,tN o.ky o.ai kv m⟩
 obtain⟨h,d,e,_⟩:=o.inb kv m
 exact⟨[(h:Int),(d:Int)],e⟩
theorem dg.mono{H H':Hp}(g:az H H'){us:List V}{cs:List Pns}(h:dg H us cs):dg H' us cs:=by
 refine Paired.mapP h fun _ _ z1_=>?_
 obtain⟨d,e,q,r⟩:=z1_
 exact⟨d,e,g _ _ q,r⟩
theorem dg.off{H:Hp}{L:Addr}{xs:List V}{o:HO}(hL:H L=some (.lst xs)){us:List V}{cs:List Pns}(h:dg H us cs):dg (upd H L o) us cs:=by
 refine Paired.mapP h fun _ _ z2_=>?_
 obtain⟨d,e,q,r⟩:=z2_
 exact⟨d,e,by rw[au (fun z=>by rw[z,hL] at q;cases q)];exact q,r⟩
theorem Paired.app{α β:Type}{F:α→β→Prop}:∀{xs:List α} {ys:List β} {xs':List α} {ys':List β},Paired F xs ys→Paired F xs' ys'→Paired F (xs++xs') (ys++ys')
 | _,_,_,_,.nil,h=>h
 | _,_,_,_,.cons a r,h=>.cons a (Paired.app r h)
theorem Paired.split{α β:Type}{F:α→β→Prop}:∀{ys:List β} {xs:List α} {y:β},Paired F xs (ys++[y])→∃xs' x,xs=xs'++[x]∧Paired F xs' ys∧F x y
 | [],_,y,h=>by
  cases h with
  | cons a r=>cases r;exact⟨[],_,rfl,.nil,a⟩
 | z::ys,_,y,h=>by
  cases h with
  | cons a r =>
   obtain⟨xs',x,e,p,f⟩:=Paired.split r
   exact⟨_::xs',x,by rw[e];rfl,.cons a p,f⟩
theorem kA{α:Type}(cs:List α):cs=[]∨∃cs' p,cs=cs'++[p]:=by
 by_cases z:cs=[]
 ·exact .inl z
 ·exact .inr ⟨cs.dropLast,cs.getLast z,(List.dropLast_concat_getLast z).symm⟩
structure LfI(H:Hp)(L:Addr)(cs:List Pns)(H':Hp):Prop where
 ex:∃us:List V,az H H'∧H' L=some (.lst us)∧dg H' us cs
theorem LfI.same{H H':Hp}{L:Addr}{cs:List Pns}(h:LfI H L cs H'):az H H':=by
 obtain⟨_,g,_⟩:=h.ex
 exact g
theorem LfI.mono{H H' H2:Hp}{L:Addr}{cs:List Pns}(h:LfI H L cs H')(g:az H' H2):LfI H L cs H2:=by
 obtain⟨us,g0,e,d⟩:=h.ex
 exact⟨us,g0.trans g,g _ _ e,dg.mono g d⟩
theorem LfI.put{H H':Hp}{L:Addr}{cs cs':List Pns}{us':List V}(h:LfI H L cs H')(hL:H L=none)(d:dg H' us' cs'):LfI H L cs' (upd H' L (.lst us')):=by
 obtain⟨us,g0,e,_⟩:=h.ex
 exact⟨us',aJ hL g0 _,ae,dg.off e d⟩
theorem xP{α:Type}(xs:List α)(x:α):atI (xs++[x]) (-1)=some x:=by
 unfold atI ixN
 rw[if_neg (by decide),if_pos (by rw[yf,yJ];lia)]
 show(xs++[x])[(-1+((xs++[x]).length:Int)).toNat]? = some x
 rw[yf,yJ,show(-1+((xs.length+1:Nat):Int)).toNat=xs.length by lia,yaa (yd _)]
 simp
noncomputable def ke:Stp→Prop
 | .sum us=>rg us
 | _=>True
noncomputable def gS(sums:List (List Lin))(hs:List Int)(ps:List Pst)(d:Int):Ctx:=⟨fun us pns=>pS sums us pns (fun h=>ch (hs[h]?.getD 0) ps) hs.length d.toNat,fun h=>ch (hs[h]?.getD 0) ps,hs.length,d.toNat⟩
theorem kh{H:Hp}{v:V}{h d:Int}(s:fB H v (.part h d)):∃t,v=.ref t∧H t=some (.tup [.str "part",.int h,.int d]):=s
theorem mV{H:Hp}{v:V}{us:List Tri}(s:fB H v (.sum us)):∃t ut uv,v=.ref t∧H t=some (.tup [.str "sum",.ref ut])∧H ut=some (.tup uv)∧eG H uv us:=s
theorem A9{H:Hp}{v:V}{s:Str}(h:fB H v (.oth s)):∃t vs,v=.ref t∧H t=some (.tup (.str s::vs))∧V.str s≠.str "part" ∧ V.str s≠.str "sum" := h
noncomputable def rD:Option (List Pns)→Bool
 | some []=>true
 | _=>false
end My
namespace My
open PySem L2
theorem dh.mono{n D k j:Nat}{cs:List Pns}(h:dh n D k cs)(kj:k≤j):dh n D j cs:=⟨by have:=h.1;lia,fun p hp=>⟨(h.2 p hp).1,yu (h.2 p hp).2 kj⟩⟩
theorem at0{α:Type}(v:α)(vs:List α):atI (v::vs) 0=some v:=by
 unfold atI ixN
 rw[if_pos (by decide),if_pos (by rw[yD];lia)]
 rfl
theorem cF.plain2{n D P:Nat}{pns:Pns}(o:cF n D P pns){h d:Int}(h0:0≤h)(h1:h<(n:Int))(d0:0≤d)(d1:d<(D:Int))(v:Int):cF n D P (bC pns (k2 h d) (.int v)):=by
 have e:k2 h d=k2 ((h.toNat:Nat):Int) ((d.toNat:Nat):Int):=by rw[yN h0,yN d0]
 rw[e]
 exact o.put (by lia) (by lia) v
theorem vp{H:Hp}{p p1 t:Addr}{a b c:Int}(h1:H p=none)(h2:upd H p (.tup [.int a,.int b,.int c]) p1=none)(h3:upd (upd H p (.tup [.int a,.int b,.int c])) p1 (.tup [.ref p]) t=none) :
  az H (upd (upd (upd H p (.tup [.int a,.int b,.int c])) p1 (.tup [.ref p])) t (.tup [.str "sum",.ref p1]))∧fB (upd (upd (upd H p (.tup [.int a,.int b,.int c])) p1 (.tup [.ref p])) t (.tup [.str "sum",.ref p1])) (.ref t) (.sum [(a,b,c)]):=by
 have g1:=ah h1 (.tup [.int a,.int b,.int c])
 have g2:=ah h2 (.tup [.ref p])
 have g3:=ah h3 (.tup [.str "sum",.ref p1])
 exact⟨g1.trans (g2.trans g3),t,p1,[.ref p],rfl,ae,g3 _ _ ae,.cons ⟨p,rfl,(g2.trans g3) _ _ ae⟩ .nil⟩
theorem Bk{a b c:Int}(h0:-1000≤c)(h1:c≤1000):rg [(a,b,c)]:=⟨by show 1≤9;decide,fun u hu=>by rw[List.mem_singleton.mp hu];exact⟨by show -(2 ^ 40)<c;lia,by show c<2 ^ 40;lia⟩⟩
structure DuI(H:Hp)(L:Addr)(fr:List (Int×Int))(H':Hp):Prop where
 ex:∃us:List V,az H H'∧H' L=some (.lst us)∧sH H' us fr
theorem DuI.start{H:Hp}{L:Addr}(hL:H L=none):DuI H L [] (upd H L (.lst [])):=⟨[],ah hL _,ae,.nil⟩
theorem DuI.same{H H':Hp}{L:Addr}{fr:List (Int×Int)}(h:DuI H L fr H'):az H H':=by
 obtain⟨_,g,_⟩:=h.ex
 exact g
theorem DuI.mono{H H' H2:Hp}{L:Addr}{fr:List (Int×Int)}(h:DuI H L fr H')(g2:az H' H2):DuI H L fr H2:=by
 obtain⟨us,g,e,d⟩:=h.ex
 exact⟨us,g.trans g2,g2 _ _ e,d.tmono (aC g2)⟩
theorem DuI.step{H H':Hp}{L t:Addr}{fr:List (Int×Int)}{a b:Int}(h:DuI H L fr H')(hL:H L=none)(hl:fr.length≤900)(ht:H' t=none) :
  ∃xs,upd H' t (.tup [.int a,.int b]) L=some (.lst xs)∧xs.length<sizeLine∧DuI H L (fr++[(a,b)]) (upd (upd H' t (.tup [.int a,.int b])) L (.lst (xs++[.ref t]))):=by
 obtain⟨us,g,e,d⟩:=h.ex
 have hul:=Paired.length d
 have gt:=ah ht (.tup [.int a,.int b])
 refine⟨us,gt _ _ e,aE (by lia),us++[.ref t],aJ hL (g.trans gt) _,ae,?_⟩
 exact sH.tmono (bc (gt _ _ e)) (aU (d.tmono (aC gt)) ⟨t,rfl,ae⟩)
noncomputable def Frs(H:Hp)(us:List V):Prop:=∀d,V.ref d∈us→H d=none
noncomputable def FrL(H:Hp)(L:Addr)(H':Hp):Prop:=∃us,H' L=some (.lst us)∧Frs H us
theorem Frs.snoc{H:Hp}{us:List V}{p:Addr}(h:Frs H us)(hp:H p=none):Frs H (us++[.ref p]):=fun d z=>by
 rcases List.mem_append.mp z with y | y
 ·exact h d y
 ·rw[V.ref.inj (List.mem_singleton.mp y)];exact hp
theorem Frs.app{H:Hp}{us vs:List V}(h:Frs H us)(g:Frs H vs):Frs H (us++vs):=fun d z=>by
 rcases List.mem_append.mp z with y | y
 ·exact h d y
 ·exact g d y
theorem Frs.back{H H':Hp}{us:List V}(h:Frs H' us)(g:az H H'):Frs H us:=fun d z=>g.free (h d z)
end My
namespace My
open PySem L2
end My
namespace My
open PySem L2
theorem si{n D:Nat}(f:Nat×Nat→Int){c0:Nat×Nat}(h:c0∈cls n D):((cls n D).map fun c=>if c=c0 then f c else 0).sum=f c0:=by
 rw[lP _ (ywb h),yi,yC,if_pos rfl]
 have:(((cls n D).erase c0).map fun c=>if c=c0 then f c else 0).sum=0:=gH _ fun c hc=>if_neg fun z=>gM.not_mem_erase (z ▸ hc)
 lia
theorem jF{n D P:Nat}(rows:List (List Int)):∀{qs:List Prt},(∀q∈qs,InR n D P q)→((cls n D).map fun c=>pAt (kk c.1 c.2 (val rows c.1 c.2)) qs).sum=tot rows qs
 | [],_=>by
  rw[gH]
  ·rfl
  ·intro c _;rfl
 | q::qs,h=>by
  have ih:=jF rows (qs:=qs) fun x hx=>h x (ym _ hx)
  obtain⟨a,b,p,e,h1,h2,h3⟩:=h q (yv ..)
  obtain⟨e1,e2,e3⟩:=iF e
  have e4:((cls n D).map fun c=>pAt (kk c.1 c.2 (val rows c.1 c.2)) (q::qs)).sum=((cls n D).map fun c=>if c=(a,b) then (if val rows a b=p then q.n else 0) else 0).sum+((cls n D).map fun c=>pAt (kk c.1 c.2 (val rows c.1 c.2)) qs).sum:=by
   rw[← x5]
   refine jZ fun c _=>?_
   have e5:pAt (kk c.1 c.2 (val rows c.1 c.2)) (q::qs)=(if kk q.h q.d q.p=kk c.1 c.2 (val rows c.1 c.2) then q.n else 0)+pAt (kk c.1 c.2 (val rows c.1 c.2)) qs:=by
    unfold pAt
    rw[yi,yC]
   rw[e5,e]
   congr 1
   by_cases z:c=(a,b)
   ·rw[if_pos z,z]
    by_cases y:val rows a b=p
    ·rw[if_pos y,if_pos (by rw[y])]
    ·rw[if_neg y,if_neg (fun u=>y (iF u).2.2.symm)]
   ·rw[if_neg z,if_neg (fun u=>z (by
     obtain⟨u1,u2,_⟩:=iF u
     exact Prod.ext (by show c.1=a;lia) (by show c.2=b;lia)))]
  have e6:tot rows (q::qs)=(if val rows a b=p then q.n else 0)+tot rows qs:=by
   unfold tot
   rw[yi,yC,e1,e2,e3,ye,ye]
  rw[e4,si (fun _=>if val rows a b=p then q.n else 0) (gx.mpr ⟨h1,h2⟩),ih,e6]
theorem uT{lls:List (List Lin)}{r l:Int}{ℓ:Lin}(h:cC lls (r,l,1)=some ℓ)(pns:Pns)(own:Nat→List Int)(n D:Nat):kd lls [(r,l,1)] pns own n D=decide (dP pns (bn [(ℓ,1)]) own n D<ℓ.b):=by
 have e1:usL lls [(r,l,1)]=[(ℓ,1)]:=by
  show [((cC lls (r,l,1)).getD mH,(1:Int))]=_
  rw[h]
  rfl
 have e2:okU lls (r,l,1)=true:=by
  unfold okU
  rw[h]
  rfl
 unfold kd
 rw[e1,yZa,e2,List.all_nil,show decide ([((r,l,1):Tri)]≠[])=true from decide_eq_true (by simp)]
 show(true&&(true&&decide (_<cE [(ℓ,1)])))=_
 rw[yja,yja,show cE [(ℓ,1)]=ℓ.b by unfold cE;simp]
end My
namespace My
open PySem L2
noncomputable def prd:List Nat→Nat
 | []=>1
 | b::bs=>b*prd bs
theorem o8:∀(as bs:List Nat),prd (as++bs)=prd as*prd bs
 | [],bs=>by show prd bs=1*prd bs;lia
 | a::as,bs=>by
  show a*prd (as++bs)=a*prd as*prd bs
  rw[o8 as bs,Nat.mul_assoc]
noncomputable def bfs(own:Nat→List Int)(os:List (Nat×Nat)):List Nat:=os.map fun c=>(own c.1).length
end My
namespace My
open PySem L2
end My
namespace My
open PySem L2
theorem qP{n:Nat}(h:n≤1000000):n<sizeLine:=yE h (by decide)
theorem vL{n:Nat}(h:n≤1000000):n≤sizeLine:=yNa (qP h)
noncomputable def ze(rows:List (List Int))(D:Nat):Nat:=prd (bfs (fun h=>rows[h]?.getD []) (cls rows.length D))
noncomputable def jA(rows:List (List Int))(D i j:Nat):Nat:=prd (bfs (fun h=>rows[h]?.getD []) (cls i D))*(rows[i]?.getD []).length ^ j
theorem oy(b:Nat):∀n,prd (List.replicate n b)=b ^ n
 | 0=>rfl
 | n+1=>by
  show b*prd (List.replicate n b)=b ^ (n+1)
  rw[oy b n,yhb,Nat.mul_comm]
theorem pE(rows:List (List Int))(D i j:Nat):jA rows D i (j+1)=jA rows D i j*(rows[i]?.getD []).length:=by
 unfold jA
 rw[yhb,Nat.mul_assoc]
theorem rX(rows:List (List Int))(D i:Nat):jA rows D i D=jA rows D (i+1) 0:=by
 unfold jA bfs
 rw[mv,yg,o8,yW]
 have e:((List.range D).map ((fun c:Nat×Nat=>(rows[c.1]?.getD []).length) ∘ fun d=>(i,d)))=List.replicate D (rows[i]?.getD []).length:=by
  rw[List.eq_replicate_iff]
  refine⟨by rw[ya,yx],fun b hb=>?_⟩
  obtain⟨d,_,rfl⟩:=yk.mp hb
  rfl
 rw[e,oy,Nat.pow_zero,yGb]
theorem sB(rows:List (List Int))(D:Nat):jA rows D rows.length 0=ze rows D:=by
 unfold jA ze
 rw[Nat.pow_zero,yGb]
end My
namespace L2
open PySem PySem.Spec PyProof.Rows
end L2
namespace My
open PySem L2
noncomputable def NoC(lls:List (List Lin))(rows:List (List Int))(D:Nat)(p:Pns)(i j:Nat):Prop:=∀(i' j':Nat) ls ℓ,(i'<i∨(i'=i∧j'<j))→lls[i']? = some ls→ls[j']? = some ℓ→kd lls [((i':Int),(j':Int),1)] p (fun h=>rows[h]?.getD []) rows.length D=false
noncomputable def NoR(lls:List (List Lin))(rows:List (List Int))(D:Nat)(p:Pns)(i:Nat):Prop:=NoC lls rows D p i 0
theorem NoR.start{lls:List (List Lin)}{rows:List (List Int)}{D:Nat}{p:Pns}:NoR lls rows D p 0:=fun i' j' ls ℓ h=>by
 rcases h with h | ⟨_,h⟩
 ·exact absurd h (yea _)
 ·exact absurd h (yea _)
theorem NoC.next{lls:List (List Lin)}{rows:List (List Int)}{D:Nat}{p:Pns}{i j:Nat}(h:NoC lls rows D p i j)(hn:kd lls [((i:Int),(j:Int),1)] p (fun h=>rows[h]?.getD []) rows.length D=false):NoC lls rows D p i (j+1):=fun i' j' ls ℓ z e1 e2=>by
 rcases z with z | ⟨rfl,z⟩
 ·exact h i' j' ls ℓ (.inl z) e1 e2
 ·rcases yDb j' j with y | y
  ·exact h i' j' ls ℓ (.inr ⟨rfl,y⟩) e1 e2
  ·have:j'=j:=by lia
   rw[this]
   exact hn
theorem NoC.row{lls:List (List Lin)}{rows:List (List Int)}{D:Nat}{p:Pns}{i:Nat}{ls:List Lin}(h:NoC lls rows D p i ls.length)(hl:lls[i]? = some ls):NoR lls rows D p (i+1):=fun i' j' ls' ℓ z e1 e2=>by
 rcases z with z | ⟨_,z⟩
 ·rcases yDb i' i with y | y
  ·exact h i' j' ls' ℓ (.inl y) e1 e2
  ·have:i'=i:=by lia
   subst this
   rw[hl] at e1
   cases e1
   exact h i' j' ls ℓ (.inr ⟨rfl,(List.getElem?_eq_some_iff.mp e2).1⟩) hl e2
 ·exact absurd z (yea _)
theorem NoR.all{lls:List (List Lin)}{rows:List (List Int)}{D:Nat}{p:Pns}(h:NoR lls rows D p lls.length):∀(i j:Nat) ls ℓ,lls[i]? = some ls→ls[j]? = some ℓ→kd lls [((i:Int),(j:Int),1)] p (fun h=>rows[h]?.getD []) rows.length D=false:=fun i j ls ℓ e1 e2=>h i j ls ℓ (.inl (List.getElem?_eq_some_iff.mp e1).1) e1 e2
theorem uz{lls:List (List Lin)}{rows:List (List Int)}{D:Nat}{p:Pns}{i j:Nat}{ls:List Lin}{ℓ:Lin}(h1:lls[i]? = some ls)(h2:ls[j]? = some ℓ):decide (dP p (bn [(ℓ,1)]) (fun h=>rows[h]?.getD []) rows.length D<cE [(ℓ,1)])=kd lls [((i:Int),(j:Int),1)] p (fun h=>rows[h]?.getD []) rows.length D:=by
 have hl:cC lls ((i:Int),(j:Int),1)=some ℓ:=by
  rw[lO (by lia) (by rw[ye];exact h1) (by lia),ye]
  exact h2
 rw[uT hl,show cE [(ℓ,1)]=ℓ.b by unfold cE;simp]
end My
namespace My
open PySem L2
section
variable{H H' H2:Hp}{Lc Lm Lp:Addr}{cs cs' met:List Pns}{sts:List Stp}
end
theorem nT{rows:List (List Int)}{sums:List (List Lin)}(h:∀ls∈sums,∀ℓ∈ls,ℓ.b≤tot rows ℓ.ps):gI rows sums=[]:=by
 unfold gI c8
 rw[ymb]
 intro i hi
 have hi:=yp.mp hi
 rw[yj,yb hi,yoa,yz]
 unfold df
 rw[ymb]
 intro j hj
 have hj:=yp.mp hj
 unfold eM at hj ⊢
 unfold fJ
 rw[ya] at hj
 rw[yj,yb hj,yoa]
 have:=h _ (yQ hi) _ (yQ hj)
 show(if 0<_-_ then _ else _)=_
 rw[if_neg (by lia)]
end My
namespace L2
open PySem PySem.Spec PyProof.Rows
section
variable{P:Program}{w:World}{κ:Type}[DecidableEq κ]{kn:HeapKind P w κ}{d:Addr}{A:Around}{E:Value→Shared→Prop}{s:Shared}
end
section
variable{X:Cx}
end
end L2
namespace My
open PySem L2
section
variable{H H' H2:Hp}{l L:Addr}{p:Pns}{i j D:Nat}{v:Int}
end
section
variable{H H' H2:Hp}{L:Addr}{sts:List Stp}{i:Nat}{v:V}{st st2:Stp}
end
theorem wO{n P:Nat}{D:Nat}{q:Prt}(h:InR n D P q):0≤q.h∧q.h<(n:Int)∧0≤q.d∧q.d<(D:Int):=by
 obtain⟨a,b,p,e,h1,h2,_⟩:=h
 obtain⟨e1,e2,_⟩:=iF e
 lia
end My
namespace My
open PySem L2
noncomputable def Agr(rows:List (List Int))(p:Pns):Prop:=∀(h d:Nat) (v:V),bD p (k2 h d)=some v→v=.int (val rows h d)
theorem Agr.nil{rows:List (List Int)}:Agr rows []:=fun h d v z=>by cases z
theorem lB{α:Type}(f:α→Int)(t:Int):∀xs:List α,(xs.map fun x=>f x*t).sum=(xs.map f).sum*t
 | []=>by show(0:Int)=0*t;lia
 | x::xs=>by rw[yi,yi,yC,yC,lB f t xs,Int.add_mul]
theorem qz{rows:List (List Int)}{p:Pns}{own:Nat→List Int}{n D P:Nat}{ls:List (Lin×Int)}(ha:Agr rows p)(ho:∀h d,h<n→d<D→val rows h d∈own h)(hq:∀l∈ls,∀q∈l.1.ps,InR n D P q):(ls.map fun l=>tot rows l.1.ps*l.2).sum≤dP p (bn ls) own n D:=by
 have e:(ls.map fun l=>tot rows l.1.ps*l.2).sum=((cls n D).map fun c=>(ls.map fun l=>pAt (kk c.1 c.2 (val rows c.1 c.2)) l.1.ps*l.2).sum).sum:=by
  rw[ro (fun(c:Nat×Nat) (l:Lin×Int)=>pAt (kk c.1 c.2 (val rows c.1 c.2)) l.1.ps*l.2) ls (cls n D)]
  refine jZ fun l hl=>?_
  rw[lB (fun c:Nat×Nat=>pAt (kk c.1 c.2 (val rows c.1 c.2)) l.1.ps) l.2,jF rows (hq l hl)]
 rw[e]
 unfold dP
 refine mR fun c hc=>?_
 obtain⟨h1,h2⟩:=gx.mp hc
 have e2:(ls.map fun l=>pAt (kk c.1 c.2 (val rows c.1 c.2)) l.1.ps*l.2).sum=nO (bn ls) c.1 c.2 (val rows c.1 c.2):=by
  unfold nO bn
  rw[mE]
  show _=(0:Int)+_
  lia
 rw[e2]
 unfold mxC
 refine AK (yk.mpr ⟨val rows c.1 c.2,?_,rfl⟩)
 unfold jz
 cases z:bD p (k2 (c.1:Int) c.2) with
 | none=>exact ho _ _ h1 h2
 | some v =>
  rw[ha c.1 c.2 v z]
  exact List.mem_singleton.mpr rfl
noncomputable def gR(rows:List (List Int))(ls:List Lin):Prop:=∀ℓ∈ls,ℓ.b≤tot rows ℓ.ps
theorem qK{sums:List (List Lin)}{u:Tri}{ℓ:Lin}(h:cC sums u=some ℓ):∃ls∈sums,ℓ∈ls:=by
 unfold cC at h
 split at h
 ·cases z:sums[u.1.toNat]? with
  | none=>rw[z] at h;cases h
  | some ls =>
   rw[z] at h
   exact⟨ls,yc z,yc h⟩
 ·cases h
theorem uq{sums:List (List Lin)}{rows:List (List Int)}{us:List Tri}{p:Pns}{own:Nat→List Int}{n D P:Nat}(hk:∀ls∈sums,gR rows ls)(hf:∀ls∈sums,∀ℓ∈ls,∀q∈ℓ.ps,InR n D P q)(ho:∀h d,h<n→d<D→val rows h d∈own h)(he:pS sums us p own n D=true):¬ Agr rows p:=fun ha=>by
 unfold pS at he
 rw[yI,yG] at he
 obtain⟨h1,h2⟩:=he
 have h2:=of_decide_eq_true h2
 have hu:∀l∈usL sums us,(∃ls∈sums,l.1∈ls)∧1≤l.2:=fun l hl=>by
  obtain⟨u,hu,rfl⟩:=yk.mp hl
  have h3:=h1 u hu
  unfold okU at h3
  rw[yI] at h3
  obtain⟨ℓ,hℓ⟩:=Option.isSome_iff_exists.mp h3.1
  refine⟨?_,of_decide_eq_true h3.2⟩
  show ∃ls∈sums,(cC sums u).getD mH∈ls
  rw[hℓ]
  exact qK hℓ
 have h4:=qz (own:=own) (ls:=usL sums us) ha ho (fun l hl q hq=>by
  obtain⟨⟨ls,h5,h6⟩,_⟩:=hu l hl
  exact hf ls h5 l.1 h6 q hq)
 have h5:cE (usL sums us)≤((usL sums us).map fun l=>tot rows l.1.ps*l.2).sum:=by
  unfold cE
  refine mR fun l hl=>?_
  obtain⟨⟨ls,h5,h6⟩,h7⟩:=hu l hl
  exact Int.mul_le_mul_of_nonneg_right (hk ls h5 l.1 h6) (by lia)
 lia
open Classical in
noncomputable def cP(rows:List (List Int))(cs:List Pns):Nat:=(cs.filter fun p=>decide (Agr rows p)).length
theorem eY(rows:List (List Int))(as bs:List Pns):cP rows (as++bs)=cP rows as+cP rows bs:=by
 unfold cP
 rw[yM,yf]
theorem fZ{rows:List (List Int)}{p:Pns}(h:Agr rows p):cP rows [p]=1:=by
 unfold cP
 rw[yT (by simpa using h)]
 rfl
theorem fm{rows:List (List Int)}{p:Pns}(h:¬ Agr rows p):cP rows [p]=0:=by
 unfold cP
 rw[yS (by simpa using h)]
 rfl
theorem ix{rows:List (List Int)}{p:Pns}{h d:Nat}{z:Int}(hv:bD p (k2 (h:Int) d)=none):Agr rows (bC p (k2 h d) (.int z))↔Agr rows p∧z=val rows h d:=by
 constructor
 ·intro a
  refine⟨fun h' d' v e=>?_,?_⟩
  ·refine a h' d' v ?_
   rw[cY]
   by_cases y:k2 (h':Int) d'=k2 h d
   ·rw[y,hv] at e
    cases e
   ·rw[if_neg y];exact e
  ·have:=a h d (.int z) (by rw[cY,if_pos rfl])
   injection this
 ·rintro⟨a,rfl⟩ h' d' v e
  rw[cY] at e
  by_cases y:k2 (h':Int) d'=k2 h d
  ·rw[if_pos y] at e
   obtain⟨e1,e2⟩:=sP y
   have e1:h'=h:=by lia
   have e2:d'=d:=by lia
   subst e1 e2
   exact(yt e).symm
  ·rw[if_neg y] at e
   exact a h' d' v e
theorem pL{rows:List (List Int)}{p:Pns}{h d:Nat}(hv:bD p (k2 (h:Int) d)=none):∀{ow:List Int},ow.Nodup→val rows h d∈ow→cP rows (ow.map fun z=>bC p (k2 h d) (.int z))=cP rows [p]:=by
 intro ow nd hm
 have none:∀{ow:List Int},val rows h d∉ow→cP rows (ow.map fun z=>bC p (k2 h d) (.int z))=0:=by
  intro ow
  induction ow with
  | nil=>intro _;rfl
  | cons z ow ih =>
   intro hm
   rw[yi,show(bC p (k2 h d) (.int z)::ow.map fun z=>bC p (k2 h d) (.int z))=[bC p (k2 h d) (.int z)]++ow.map fun z=>bC p (k2 h d) (.int z) from rfl,eY,ih (fun y=>hm (ym _ y)),fm (fun y=>hm (by rw[← ((ix hv).mp y).2];exact yv ..))]
 by_cases a:Agr rows p
 ·rw[fZ a]
  induction ow with
  | nil=>cases hm
  | cons z ow ih =>
   obtain⟨n1,n2⟩:=yP.mp nd
   rw[yi,show(bC p (k2 h d) (.int z)::ow.map fun z=>bC p (k2 h d) (.int z))=[bC p (k2 h d) (.int z)]++ow.map fun z=>bC p (k2 h d) (.int z) from rfl,eY]
   by_cases y:z=val rows h d
   ·rw[fZ ((ix hv).mpr ⟨a,y⟩),none (by rw[← y];exact n1)]
   ·rw[fm (fun w=>y ((ix hv).mp w).2),ih n2 (by
     rcases List.mem_cons.mp hm with w | w
     ·exact absurd w.symm y
     ·exact w)]
 ·rw[fm a]
  clear hm nd
  induction ow with
  | nil=>rfl
  | cons z ow ih =>
   rw[yi,show(bC p (k2 h d) (.int z)::ow.map fun z=>bC p (k2 h d) (.int z))=[bC p (k2 h d) (.int z)]++ow.map fun z=>bC p (k2 h d) (.int z) from rfl,eY,ih,fm (fun w=>a ((ix hv).mp w).1)]
theorem pV{c:Ctx}{rows:List (List Int)}(hE:∀us p,c.E us p=true→¬ Agr rows p)(ho:∀h d,h<c.n→d<c.D→val rows h d∈c.own h)(hn:∀h,h<c.n→(c.own h).Nodup){p:Pns}{st:Stp}(hs:ej c p st=true):cP rows (og c p st)=cP rows [p]:=by
 cases st with
 | part h d =>
  obtain⟨h0,h1,d0,d1,hv⟩:=kI (show dz c.n c.D p h d=true from hs)
  obtain⟨h',rfl⟩:∃h':Nat,h=h':=⟨h.toNat,by lia⟩
  obtain⟨d',rfl⟩:∃d':Nat,d=d':=⟨d.toNat,by lia⟩
  show cP rows ((c.own ((h':Nat):Int).toNat).reverse.map fun z=>bC p (k2 h' d') (.int z))=_
  rw[ye]
  exact pL hv ((List.Perm.nodup_iff (List.reverse_perm _)).mpr (hn h' (by lia))) (List.mem_reverse.mpr (ho h' d' (by lia) (by lia)))
 | sum us =>
  show cP rows []=_
  rw[fm (hE us p hs)]
  rfl
 | oth s=>cases hs
theorem lX{c:Ctx}{rows:List (List Int)}(hE:∀us p,c.E us p=true→¬ Agr rows p)(ho:∀h d,h<c.n→d<c.D→val rows h d∈c.own h)(hn:∀h,h<c.n→(c.own h).Nodup):∀(sts:List Stp) (o:Option (List Pns)),(∀cs,o=some cs→cP rows cs=1)→∀cs,sts.foldl (fun o st=>o.bind fun cs=>ic c cs st) o=some cs→cP rows cs=1
 | [],o,h,cs,e=>h cs e
 | st::sts,o,h,cs,e=>by
  refine lX hE ho hn sts _ (fun cs1 e1=>?_) cs e
  cases o with
  | none=>cases e1
  | some cs0 =>
   have e1:ic c cs0 st=some cs1:=e1
   rcases kA cs0 with rfl | ⟨cs',p,rfl⟩
   ·cases e1
   ·rw[jh] at e1
    by_cases z:ej c p st=true
    ·rw[if_pos z] at e1
     cases e1
     have h0:=h _ rfl
     rw[eY] at h0 ⊢
     rw[pV hE ho hn z]
     exact h0
    ·rw[if_neg z] at e1
     cases e1
theorem sO{c:Ctx}{rows:List (List Int)}(hE:∀us p,c.E us p=true→¬ Agr rows p)(ho:∀h d,h<c.n→d<c.D→val rows h d∈c.own h)(hn:∀h,h<c.n→(c.own h).Nodup){sts:List Stp}{cs:List Pns}(e:cL c sts=some cs):cP rows cs=1:=lX hE ho hn sts _ (fun cs e=>by cases e;exact fZ Agr.nil) cs e
theorem kW{rows:List (List Int)}{ls:List Lin}{qs:List (Int×Int)}(e:ls.map (fun ℓ=>(tot rows ℓ.ps,ℓ.b))=qs)(h:∀q∈qs,q.2≤q.1):gR rows ls:=fun ℓ hℓ=>by
 have:=h (tot rows ℓ.ps,ℓ.b) (by rw[← e];exact yk.mpr ⟨ℓ,hℓ,rfl⟩)
 exact this
theorem iZ{rows:List (List Int)}{ℓ:Lin}(h:ℓ.b≤tot rows ℓ.ps):gR rows [ℓ]:=fun m hm=>by rw[List.mem_singleton.mp hm];exact h
section
variable{rows:List (List Int)}{ps:List Pst}{row:List Int}{h:Nat}{s c:Int}{n:Nat}
theorem vG(hr:rows[h]? = some row)(hv:∀x∈row,0≤x∧x≤(ps.length:Int))(hc:(wkN row s.toNat:Int)≤c):gR rows (bG row.length n ps ⟨1,h,s,c⟩):=by
 rw[mj rfl]
 refine iZ ?_
 show -c≤tot rows (spr h (dsN s.toNat row.length) (bL ps) (-1))
 rw[qX hr hv]
 lia
theorem tw(hr:rows[h]? = some row)(hv:∀x∈row,0≤x∧x≤(ps.length:Int))(hc:c≤(wkN row s.toNat:Int)):gR rows (bG row.length n ps ⟨2,h,s,c⟩):=by
 rw[ln rfl]
 refine iZ ?_
 show c≤tot rows (spr h (dsN s.toNat row.length) (bL ps) 1)
 rw[qX hr hv]
 lia
theorem tU(hr:rows[h]? = some row)(hv:∀x∈row,0≤x∧x≤(ps.length:Int))(ho:∀i,i<row.length→s.toNat.testBit i=true→row[i]?.getD 0=0):gR rows (bG row.length n ps ⟨3,h,s,c⟩):=by
 rw[mC rfl]
 refine kW (qW hr hv) fun q hq=>?_
 unfold At at hq
 obtain⟨x,hx,rfl⟩:=yk.mp hq
 unfold dsN at hx
 obtain⟨i,hi,rfl⟩:=yk.mp hx
 obtain⟨h1,h2⟩:=List.mem_filter.mp hi
 show(0:Int)≤0-(if 0<row[((i:Nat):Int).toNat]?.getD 0 then 1 else 0)
 rw[ye,ho i (yp.mp h1) h2,if_neg (by decide)]
 decide
theorem ug(hr:rows[h]? = some row)(hv:∀x∈row,0≤x∧x≤(ps.length:Int))(hc:(gU (at_ (row.map (nk ps))) row.length:Int)≤c):gR rows (bG row.length n ps ⟨4,h,s,c⟩):=by
 rw[jQ rfl]
 have c0:0≤c:=by lia
 refine kW (nq hr rfl hv c0) fun q hq=>?_
 have h1:=l8 (bs:=row.map (nk ps)) c0
 rw[ya,decide_eq_true hc,yOa,yG] at h1
 exact of_decide_eq_true (h1 q hq)
theorem tm(hr:rows[h]? = some row)(hv:∀x∈row,0≤x∧x≤(ps.length:Int))(hs:s≤hrN ps row)(hc:hrN ps row≤c):gR rows (bG row.length n ps ⟨5,h,s,c⟩):=by
 rw[lL rfl]
 intro ℓ hℓ
 rcases List.mem_cons.mp hℓ with rfl | hℓ
 ·show s≤tot rows (byH h ps row.length 1)
  rw[qF 1 hr hv]
  lia
 ·rw[List.mem_singleton.mp hℓ]
  show -c≤tot rows (byH h ps row.length (-1))
  rw[qF (-1) hr hv]
  lia
theorem tR{o D:Nat}(hn:∀i,i<D→¬(0<val rows h i∧val rows h i=val rows o i)):gR rows (bG D n ps ⟨6,h,o,c⟩):=by
 rw[lR rfl]
 refine kW (qG rows h o (-1) (-1) ps.length D) fun q hq=>?_
 unfold zR at hq
 obtain⟨x,hx,rfl⟩:=yk.mp hq
 obtain⟨⟨x0,x1⟩,x2,x3⟩:=i7.mp hx
 have:=hn x.1.toNat (by lia)
 show(-1:Int)≤-1*(if val rows o x.1.toNat=x.2 then 1 else 0)-(if val rows h x.1.toNat=x.2 then 1 else 0)
 by_cases y:val rows o x.1.toNat=x.2
 ·by_cases w:val rows h x.1.toNat=x.2
  ·exact absurd ⟨by lia,w.trans y.symm⟩ this
  ·rw[if_pos y,if_neg w];decide
 ·rw[if_neg y]
  split <;> decide
theorem vk{d:Nat}(hc:c≤(kE rows d (1+s % (ps.length:Int)):Int)){D:Nat}:gR rows (bG D rows.length ps ⟨0,d,s,c⟩):=by
 rw[mw rfl]
 refine iZ ?_
 show c≤tot rows (ca rows.length d (1+s % (ps.length:Int)))
 rw[qL]
 exact hc
end
noncomputable def fz(row:List Int):Nat→Nat
 | 0=>0
 | k+1=>fz row k+if (decide (row.length≤k)||decide (row[k]?.getD 0=0))=true then 2 ^ k else 0
theorem oR(row:List Int):∀k,fz row k<2 ^ k
 | 0=>by show 0<1;decide
 | k+1=>by
  have ih:=oR row k
  show fz row k+_<2 ^ (k+1)
  rw[yhb]
  split <;> lia
theorem lj(row:List Int):∀k i,(fz row k).testBit i=true→(row.length≤i∨row[i]?.getD 0=0)
 | 0,i,h=>by
  rw[show fz row 0=0 from rfl,Nat.zero_testBit] at h
  cases h
 | k+1,i,h=>by
  have ih:=lj row k i
  have hlt:=oR row k
  rw[show fz row (k+1)=fz row k+(if (decide (row.length≤k)||decide (row[k]?.getD 0=0))=true then 2 ^ k else 0) from rfl] at h
  by_cases z:(decide (row.length≤k)||decide (row[k]?.getD 0=0))=true
  ·rw[if_pos z,Nat.add_comm] at h
   by_cases y:i=k
   ·subst y
    simpa using z
   ·rcases yDb i k with w | w
    ·rw[Nat.testBit_two_pow_add_gt w] at h
     exact ih h
    ·have:2 ^ k+fz row k<2 ^ i:=by
      have:2 ^ (k+1)≤2 ^ i:=yRa (by decide) (by lia)
      rw[yhb] at this
      lia
     rw[ysb this] at h
     cases h
  ·rw[if_neg z,Nat.add_zero] at h
   exact ih h
end My
namespace My
open PySem L2
theorem sd(h:Int)(ps:List Pst):(ch h ps).Nodup:=by
 unfold ch chI
 rw[yP]
 refine⟨fun z=>?_,?_⟩
 ·obtain⟨j,_,e⟩:=yk.mp z
  lia
 ·exact ybb _ (fun a b (e:a≠b) z=>e (by lia)) (List.Nodup.sublist (List.filter_sublist ..) yKa)
theorem vq{d:Int}{hs:List Int}{ps:List Pst}{rows:List (List Int)}(h:cz d hs ps rows=true):rows.length=hs.length∧(∀row∈rows,(row.length:Int)=d)∧∀i j:Nat,i<hs.length→(j:Int)<d→val rows i j∈ch (hs[i]?.getD 0) ps:=by
 unfold cz at h
 rw[yI,decide_eq_true_eq,yG] at h
 obtain⟨h1,h2⟩:=h
 have key:∀i (hi:i<rows.length),(rows[i].length:Int)=d∧∀v∈rows[i],v∈ch (hs[i]?.getD 0) ps:=fun i hi=>by
  have h3:=h2 i (yp.mpr hi)
  unfold ju du at h3
  rw[yb hi,yz,yI,decide_eq_true_eq,yG] at h3
  exact⟨h3.1,fun v hv=>of_decide_eq_true (h3.2 v hv)⟩
 refine⟨h1,fun row hr=>?_,fun i j hi hj=>?_⟩
 ·obtain⟨i,hi,rfl⟩:=List.mem_iff_getElem.mp hr
  exact(key i hi).1
 ·have hi':i<rows.length:=by lia
  obtain⟨h4,h5⟩:=key i hi'
  have hj':j<rows[i].length:=by lia
  refine h5 _ ?_
  unfold val
  rw[yb hi',yz,yb hj',yz]
  exact yQ hj'
end My
namespace My
open PySem L2
noncomputable def kU(rows:List (List Int))(pns:Pns)(i:Nat):Prop:=∀(j:Nat) (k:List Key) (v:V),j<i→pns[j]? = some (k,v)→∀h d:Nat,k=k2 h d→v=.int (val rows h d)
theorem kU.start{rows:List (List Int)}{pns:Pns}:kU rows pns 0:=fun j k v z=>absurd z (yea _)
theorem kU.next{rows:List (List Int)}{pns:Pns}{i h d:Nat}(a:kU rows pns i)(e:pns[i]? = some (k2 h d,.int (val rows h d))):kU rows pns (i+1):=fun j k v hj e1 h' d' ek=>by
 by_cases z:j<i
 ·exact a j k v z e1 h' d' ek
 ·have:j=i:=by lia
  subst this
  rw[e] at e1
  cases e1
  obtain⟨y1,y2⟩:=sP ek
  rw[show h'=h by lia,show d'=d by lia]
theorem kU.done{rows:List (List Int)}{pns:Pns}(a:kU rows pns pns.length):Agr rows pns:=fun h d v e=>by
 obtain⟨j,hj,e1⟩:=List.mem_iff_getElem.mp (kC e)
 exact a j (k2 h d) v hj (by rw[yb hj,e1]) h d rfl
theorem uj{rows:List (List Int)}{pns:Pns}{i h d:Nat}{v:V}(ky:iw pns)(e:pns[i]? = some (k2 h d,v))(hv:v≠.int (val rows h d)):¬ Agr rows pns:=fun a=>hv (a h d v (kT ky e))
structure SwH(H:Hp)(Lc Lp:Addr)(cs:List Pns)(sts:List Stp)(H':Hp):Prop where
 g:az H H'
 c:∃us,H' Lc=some (.lst us)∧dg H' us cs
 p:∃up,H' Lp=some (.lst up)∧dW H' up sts
section
variable{H H' H2:Hp}{Lc Lp:Addr}{cs cs':List Pns}{sts:List Stp}
theorem SwH.mono(h:SwH H Lc Lp cs sts H')(g:az H' H2):SwH H Lc Lp cs sts H2:=by
 obtain⟨us,c1,c2⟩:=h.c
 obtain⟨up,p1,p2⟩:=h.p
 exact⟨h.g.trans g,⟨us,g _ _ c1,dg.mono g c2⟩,⟨up,g _ _ p1,dW.tmono (aC g) p2⟩⟩
theorem SwH.setC(h:SwH H Lc Lp cs sts H')(hL:H Lc=none)(n2:Lp≠Lc){us':List V}(d:dg H' us' cs'):SwH H Lc Lp cs' sts (upd H' Lc (.lst us')):=by
 obtain⟨us,c1,c2⟩:=h.c
 obtain⟨up,p1,p2⟩:=h.p
 exact⟨aJ hL h.g _,⟨us',ae,dg.off c1 d⟩,⟨up,by rw[au n2];exact p1,dW.tmono (bc c1) p2⟩⟩
theorem SwH.setP(h:SwH H Lc Lp cs sts H')(hL:H Lp=none)(n1:Lc≠Lp){us':List V}{sts':List Stp}(d:dW H' us' sts'):SwH H Lc Lp cs sts' (upd H' Lp (.lst us')):=by
 obtain⟨us,c1,c2⟩:=h.c
 obtain⟨up,p1,p2⟩:=h.p
 exact⟨aJ hL h.g _,⟨us,by rw[au n1];exact c1,dg.off p1 c2⟩,⟨us',ae,dW.tmono (bc p1) d⟩⟩
end
theorem dh.drop{n D k:Nat}{cs:List Pns}{p:Pns}(o:dh n D k (cs++[p])):dh n D (k+1) cs:=by
 obtain⟨o1,o2⟩:=o
 rw[yf,yJ] at o1
 exact⟨by lia,fun q hq=>⟨(o2 q (yU _ hq)).1,ydb (o2 q (yU _ hq)).2⟩⟩
theorem dh.kids{n D k h d:Nat}{cs:List Pns}{p:Pns}{ow:List Int}(o:dh n D k (cs++[p]))(hh:h<n)(hd:d<D)(hl:ow.length≤9):dh n D (k+1) (cs++ow.map fun v=>bC p (k2 h d) (.int v)):=by
 obtain⟨o1,o2⟩:=o
 rw[yf,yJ] at o1
 have hp:=o2 p (yH _ (List.mem_singleton.mpr rfl))
 refine⟨by rw[yf,ya];lia,fun q hq=>?_⟩
 rcases List.mem_append.mp hq with z | z
 ·exact⟨(o2 q (yU _ z)).1,ydb (o2 q (yU _ z)).2⟩
 ·obtain⟨v,_,rfl⟩:=yk.mp z
  refine⟨hp.1.put hh hd v,?_⟩
  have:=cb p (k2 h d) (.int v)
  have:=hp.2
  lia
noncomputable def zW(n D:Nat):Stp→Prop
 | .part h d=>∃h' d':Nat,h=h'∧d=d'∧h'<n∧d'<D
 | .sum _=>True
 | .oth _=>False
noncomputable def mW(n D:Nat)(H:Hp)(v:V):Prop:=∃st,fB H v st∧ke st∧zW n D st
structure FcI(H:Hp)(L:Addr)(n D:Nat)(p:Pns)(H':Hp):Prop where
 ex:∃fs:List (Nat×Nat),DuI H L (fs.map fun c=>((c.1:Int),(c.2:Int))) H'∧(∀c∈fs,c.1<n∧c.2<D∧bD p (k2 c.1 c.2)=none)
structure UsI(H:Hp)(L:Addr)(i:Nat)(H':Hp):Prop where
 ex:∃us:List Tri,fL H L us H'∧us.length=i∧∀u∈us,-(2 ^ 40)<u.2.2∧u.2.2<2 ^ 40
theorem vX{H H':Hp}{d:Addr}{ob:Obj}{u:HO}(g:az (upd H d (.frz ob u)) H')(e:H d=some u):az H (upd H' d u):=fun b o hb=>by
 by_cases z:b=d
 ·subst z
  rw[ae,← e]
  exact hb
 ·rw[au z]
  exact g b o (by rw[au z];exact hb)
theorem FcI.same{H H':Hp}{L:Addr}{n D:Nat}{p:Pns}(h:FcI H L n D p H'):az H H':=by
 obtain⟨_,d,_⟩:=h.ex
 exact d.same
theorem FcI.mono{H H' H2:Hp}{L:Addr}{n D:Nat}{p:Pns}(h:FcI H L n D p H')(g:az H' H2):FcI H L n D p H2:=by
 obtain⟨fs,d,a⟩:=h.ex
 exact⟨fs,d.mono g,a⟩
theorem FcI.step{H H':Hp}{L t:Addr}{n D:Nat}{p:Pns}{h d:Nat}{us:List V}(f:FcI H L n D p H')(hL:H L=none)(ht:H' t=none)(eL:H' L=some (.lst us))(hl:us.length≤900)(hh:h<n)(hd:d<D)(hv:bD p (k2 h d)=none) :
  upd H' t (.tup [.int (h:Int),.int (d:Int)]) L=some (.lst us)∧us.length<sizeLine∧FcI H L n D p (upd (upd H' t (.tup [.int (h:Int),.int (d:Int)])) L (.lst (us++[.ref t]))):=by
 obtain⟨fs,dI,a⟩:=f.ex
 obtain⟨us',_,e',hD⟩:=dI.ex
 rw[eL] at e'
 cases e'
 have hlen:=Paired.length hD
 rw[ya] at hlen
 obtain⟨xs,e1,e2,e3⟩:=dI.step (a:=h) (b:=d) hL (by rw[ya];lia) ht
 have gt:=ah ht (.tup [.int (h:Int),.int (d:Int)])
 have e4:=gt _ _ eL
 rw[e4] at e1
 cases e1
 refine⟨e4,e2,fs++[(h,d)],by rw[yg];exact e3,fun c hc=>?_⟩
 rcases List.mem_append.mp hc with z | z
 ·exact a c z
 ·rw[List.mem_singleton.mp z];exact⟨hh,hd,hv⟩
theorem UsI.same{H H':Hp}{L:Addr}{i:Nat}(h:UsI H L i H'):az H H':=by
 obtain⟨_,d,_⟩:=h.ex
 exact d.same
theorem Ce{x z:Int}(h0:0≤z)(h1:z<4):∃w:Int,atI [V.int 1,.int 1,.int 3,.int (10 ^ Int.toNat 9)] z=some (.int w)∧0<w∧w≤1000000000:=by
 obtain rfl | rfl | rfl | rfl:z=0∨z=1∨z=2∨z=3:=by lia
 ·exact⟨_,rfl,by decide,by decide⟩
 ·exact⟨_,rfl,by decide,by decide⟩
 ·exact⟨_,rfl,by decide,by decide⟩
 ·exact⟨_,rfl,by decide,by decide⟩
theorem UsI.step{H H' H2:Hp}{L t:Addr}{i:Nat}{a b c:Int}(h:UsI H L i H')(hL:H L=none)(hi:i≤900)(g:az H' H2)(ht:H2 t=none)(c0:-(2 ^ 40)<c)(c1:c<2 ^ 40) :
  ∃xs,upd H2 t (.tup [.int a,.int b,.int c]) L=some (.lst xs)∧xs.length<sizeLine∧UsI H L (i+1) (upd (upd H2 t (.tup [.int a,.int b,.int c])) L (.lst (xs++[.ref t]))):=by
 obtain⟨us,tI,ui,hus⟩:=h.ex
 obtain⟨uu,g0,eL,hT⟩:=tI.ex
 have hl:=Paired.length hT
 have gt:=g.trans (ah ht (.tup [.int a,.int b,.int c]))
 refine⟨uu,gt _ _ eL,aE (by lia),us++[(a,b,c)],⟨_,aJ hL (g0.trans gt) _,ae,eG.tmono (bc (gt _ _ eL)) (aU (eG.tmono (aC gt) hT) ⟨t,rfl,ae⟩)⟩,by rw[yf,ui];rfl,fun u hu=>?_⟩
 rcases List.mem_append.mp hu with z | z
 ·exact hus u z
 ·rw[List.mem_singleton.mp z];exact⟨c0,c1⟩
theorem lh(f:Nat→Bool):∀k,gU f k≤k
 | 0=>yd _
 | k+1=>by
  have h1:=lh f k
  have h2:=(kG f (k+1)).1
  show max (gU f k) (dQ f (k+1))≤k+1
  lia
theorem sj{h x:Int}{ps:List Pst}(m:x∈ch h ps):0≤x∧x≤(ps.length:Int):=by
 unfold ch chI at m
 rcases List.mem_cons.mp m with z | z
 ·lia
 ·obtain⟨j,hj,rfl⟩:=yk.mp z
  have:=yp.mp (List.mem_filter.mp hj).1
  lia
theorem qk(xs:List V){d:Int}(hd:0≤d)(h1:d≤xs.length):js xs none (some d)=xs.take d.toNat:=by
 obtain⟨k,rfl⟩:∃k:Nat,d=k:=⟨d.toNat,by lia⟩
 have h:=t8 xs 0 k (by lia)
 rw[yna] at h
 have e:js xs none (some (k:Int))=js xs (some ((0:Nat):Int)) (some (k:Int)):=rfl
 rw[e,h,List.drop_zero,ye]
theorem Paired.take{α β:Type}{F:α→β→Prop}:∀{xs:List α} {ys:List β} (n:Nat),Paired F xs ys→Paired F (xs.take n) (ys.take n)
 | _,_,0,_=>.nil
 | _,_,_+1,.nil=>.nil
 | _,_,n+1,.cons a r=>.cons a (Paired.take n r)
theorem u5{rows:List (List Int)}{c:Ctx}{sts:List Stp}(h:∀cs,cL c sts=some cs→cP rows cs=1):rD (cL c sts)=false:=by
 cases e:cL c sts with
 | none=>rfl
 | some cs =>
  have:=h cs e
  cases cs with
  | nil=>cases this
  | cons _ _=>rfl
theorem pY{rows:List (List Int)}{cs:List Pns}{i:Nat}{p:Pns}(h:cs[i]? = some p):cP rows (cs.take (i+1))=cP rows (cs.take i)+cP rows [p]:=by
 rw[aP h,eY]
end My
namespace My
open PySem L2
theorem xV0{v:V}{s:St}{H:Hp}{Q:VK}:pB 0 (some v::s) H Q=Q v H:=by
 unfold pB
 refine propext ⟨?_,fun h=>⟨v,rfl,h⟩⟩
 rintro⟨w,e,h⟩
 cases e
 exact h
theorem xVS{i:Nat}{x:Option V}{s:St}{H:Hp}{Q:VK}:pB (i+1) (x::s) H Q=pB i s H Q:=rfl
theorem E7{i:Int}{P:Int→Prop}:(∃j,V.int i=V.int j∧P j)=P i:=by
 refine propext (Iff.intro ?_ ?_)
 ·rintro⟨_,e,h⟩
  cases e
  exact h
 ·intro h
  exact⟨i,rfl,h⟩
theorem xBl{i:Bool}{P:Bool→Prop}:(∃j,V.bl i=V.bl j∧P j)=P i:=by
 refine propext (Iff.intro ?_ ?_)
 ·rintro⟨_,e,h⟩
  cases e
  exact h
 ·intro h
  exact⟨i,rfl,h⟩
theorem Fu{i:Addr}{P:Addr→Prop}:(∃j,V.ref i=V.ref j∧P j)=P i:=by
 refine propext (Iff.intro ?_ ?_)
 ·rintro⟨_,e,h⟩
  cases e
  exact h
 ·intro h
  exact⟨i,rfl,h⟩
theorem xI0{g:Int→Int→V}{i j:Int}{H:Hp}{Q:VK}:rI0 g (.int i) (.int j) H Q=Q (g i j) H:=by
 refine propext (Iff.intro ?_ ?_)
 ·rintro⟨_,_,e,f,h⟩
  cases e
  cases f
  exact h
 ·intro h
  exact⟨i,j,rfl,rfl,h⟩
theorem xI{C:Int→Int→Prop}{g:Int→Int→V}{i j:Int}{H:Hp}{Q:VK}:rI C g (.int i) (.int j) H Q=(C i j∧Q (g i j) H):=by
 refine propext (Iff.intro ?_ ?_)
 ·rintro⟨_,_,e,f,h⟩
  cases e
  cases f
  exact h
 ·intro h
  exact⟨i,j,rfl,rfl,h⟩
theorem xU{g:Int→V}{i:Int}{H:Hp}{Q:VK}:rU g (.int i) H Q=Q (g i) H:=by
 refine propext (Iff.intro ?_ ?_)
 ·rintro⟨_,e,h⟩
  cases e
  exact h
 ·intro h
  exact⟨i,rfl,h⟩
theorem FW{K:PySem.W.Frag}{p:Addr}{i:Int}{H:Hp}{Q:VK}:tT K (.ref p) (.int i) H Q = ∃xs,SqL K H p xs∧∃v,atI xs i=some v∧Q v H:=by
 refine propext (Iff.intro ?_ ?_)
 ·rintro⟨_,xs,_,v,e,f,a,b,h⟩
  cases e
  cases f
  exact⟨xs,a,v,b,h⟩
 ·rintro⟨xs,a,v,b,h⟩
  exact⟨p,xs,i,v,rfl,rfl,a,b,h⟩
theorem EO{K:PySem.W.Frag}{p:Addr}{i:Int}{H:Hp}{Q:VK}:tG K (.ref p) (.int i) H Q = ∃xs,SqT K H p xs∧∃v,atI xs i=some v∧Q v H:=by
 refine propext (Iff.intro ?_ ?_)
 ·rintro⟨_,xs,_,v,e,f,a,b,h⟩
  cases e
  cases f
  exact⟨xs,a,v,b,h⟩
 ·rintro⟨xs,a,v,b,h⟩
  exact⟨p,xs,i,v,rfl,rfl,a,b,h⟩
theorem EZ{K:PySem.W.Frag}{a:Addr}{lo hi:Option Int}{H:Hp}{Q:VK}:xa K (.ref a) lo hi H Q = ∃xs,SqL K H a xs∧∀p,H p=none→Q (.ref p) (upd H p (.lst (js xs lo hi))):=by
 refine propext (Iff.intro ?_ ?_)
 ·rintro⟨_,xs,e,h⟩
  cases e
  exact⟨xs,h⟩
 ·rintro⟨xs,h⟩
  exact⟨a,xs,rfl,h⟩
theorem Ek{a b:Addr}{H:Hp}{Q:VK}:AD (.ref a) (.ref b) H Q = ∃xs,H a=some (.lst xs)∧∃zs,H b=some (.lst zs)∧xs.length+zs.length≤sizeLine∧∀p,H p=none→Q (.ref p) (upd H p (.lst (xs++zs))):=by
 refine propext (Iff.intro ?_ ?_)
 ·rintro⟨_,_,xs,zs,e,f,h1,h2⟩
  cases e
  cases f
  exact⟨xs,h1,zs,h2⟩
 ·rintro⟨xs,h1,zs,h2⟩
  exact⟨a,b,xs,zs,rfl,rfl,h1,h2⟩
theorem Do{K:PySem.W.Frag}{p:Addr}{H:Hp}{Q:VK}:zl K [.ref p] H Q = ∃ys,(SqL K H p ys∨SqT K H p ys)∧Q (.int ys.length) H:=by
 refine propext (Iff.intro ?_ ?_)
 ·rintro⟨_,xs,e,h⟩
  cases e
  exact⟨xs,h⟩
 ·rintro⟨xs,h⟩
  exact⟨p,xs,rfl,h⟩
theorem DF{K:PySem.W.Frag}{n:Nat}{t:TGs}{a:Addr}{σ:St}{H:Hp}{Q:St→Hp→Prop}:uy K n t (.ref a) σ H Q = ∃xs,SqT K H a xs∧xs.length=n∧t xs σ H Q:=by
 refine propext (Iff.intro ?_ ?_)
 ·rintro⟨_,xs,e,h⟩
  cases e
  exact⟨xs,h⟩
 ·rintro⟨xs,h⟩
  exact⟨a,xs,rfl,h⟩
theorem Cj{p:Addr}{k:Int}{v:V}{H:Hp}{Q:Hp→Prop}:wr (.ref p) (.int k) v H Q = ∃xs,H p=some (.lst xs)∧∃j,ixN xs.length k=some j∧Q (upd H p (.lst (xs.set j v))):=by
 refine propext (Iff.intro ?_ ?_)
 ·rintro⟨_,xs,_,j,e,f,a,b,h⟩
  cases e
  cases f
  exact⟨xs,a,j,b,h⟩
 ·rintro⟨xs,a,j,b,h⟩
  exact⟨p,xs,k,j,rfl,rfl,a,b,h⟩
theorem F0{l:Addr}{y:V}{H:Hp}{Q:VK}:kr (.ref l) [y] H Q = ∃xs,H l=some (.lst xs)∧xs.length<sizeLine∧Q .non (upd H l (.lst (xs++[y]))):=by
 refine propext (Iff.intro ?_ ?_)
 ·rintro⟨_,xs,_,e,f,h⟩
  cases e
  cases f
  exact⟨xs,h⟩
 ·rintro⟨xs,h⟩
  exact⟨l,xs,y,rfl,rfl,h⟩
theorem Ef{i j:Int}{H:Hp}{Q:VK}:rEq (.int i) (.int j) H Q=Q (.bl (decide (i=j))) H:=by
 unfold rEq
 have e:decide (V.int i=V.int j)=decide (i=j):=decide_eq_decide.mpr ⟨fun h=>by cases h;rfl,fun h=>by rw[h]⟩
 rw[e]
 exact propext ⟨fun h=>h.2,fun h=>⟨rfl,h⟩⟩
theorem Fy{i j:Int}{H:Hp}{Q:VK}:rNe (.int i) (.int j) H Q=Q (.bl (!decide (i=j))) H:=by
 unfold rNe
 have e:decide (V.int i=V.int j)=decide (i=j):=decide_eq_decide.mpr ⟨fun h=>by cases h;rfl,fun h=>by rw[h]⟩
 rw[e]
 exact propext ⟨fun h=>h.2,fun h=>⟨rfl,h⟩⟩
theorem Dh{p:Prop}[Decidable p]{a b:Prop}:(if decide p=true then a else b)=if p then a else b:=by
 by_cases h:p
 ·rw[if_pos h,if_pos (decide_eq_true h)]
 ·rw[if_neg h,if_neg (fun z=>h (of_decide_eq_true z))]
theorem Cb{K:PySem.W.Frag}{f:Str}{x:Addr}{H:Hp}{P:V→Prop}:(∃a C dx fs v,V.ref x=V.ref a∧H a=some (.ins C dx fs)∧Cls K C∧bw K C f∧fs.lookup f=some v∧P v) = ∃C dx fs,H x=some (.ins C dx fs)∧Cls K C∧bw K C f∧∃v,fs.lookup f=some v∧P v:=by
 refine propext (Iff.intro ?_ ?_)
 ·rintro⟨_,C,dx,fs,v,e,h1,h2,h3,h4,h5⟩
  cases e
  exact⟨C,dx,fs,h1,h2,h3,v,h4,h5⟩
 ·rintro⟨C,dx,fs,h1,h2,h3,v,h4,h5⟩
  exact⟨x,C,dx,fs,v,rfl,h1,h2,h3,h4,h5⟩
theorem BX{α:Sort _}{x:Addr}{P:Addr→α→Prop}:(∃a b,V.ref x=V.ref a∧P a b) = ∃b,P x b:=by
 refine propext (Iff.intro ?_ ?_)
 ·rintro⟨_,b,e,h⟩
  cases e
  exact⟨b,h⟩
 ·rintro⟨b,h⟩
  exact⟨x,b,rfl,h⟩
theorem B9{α β:Sort _}{x:Addr}{P:Addr→α→β→Prop}:(∃a b c,V.ref x=V.ref a∧P a b c) = ∃b c,P x b c:=by
 refine propext (Iff.intro ?_ ?_)
 ·rintro⟨_,b,c,e,h⟩
  cases e
  exact⟨b,c,h⟩
 ·rintro⟨b,c,h⟩
  exact⟨x,b,c,rfl,h⟩
theorem BJ{α β γ:Sort _}{x:Addr}{P:Addr→α→β→γ→Prop}:(∃a b c d,V.ref x=V.ref a∧P a b c d) = ∃b c d,P x b c d:=by
 refine propext (Iff.intro ?_ ?_)
 ·rintro⟨_,b,c,d,e,h⟩
  cases e
  exact⟨b,c,d,h⟩
 ·rintro⟨b,c,d,h⟩
  exact⟨x,b,c,d,rfl,h⟩
end My
namespace My
open PySem L2
noncomputable def tvr:Nat→St→(V→Prop)→Prop
 | 0,some v::_,P=>P v
 | i+1,_::s,P=>tvr i s P
 | _,_,_=>False
theorem BH{v:V}{s:St}{P:V→Prop}:tvr 0 (some v::s) P=P v:=rfl
theorem BD{i:Nat}{x:Option V}{s:St}{P:V→Prop}:tvr (i+1) (x::s) P=tvr i s P:=rfl
theorem sZ:∀{i:Nat} {σ:St} {P:V→Prop},tvr i σ P→∃v,σ[i]? = some (some v)∧P v
 | 0,some v::_,P,h=>⟨v,rfl,h⟩
 | 0,none::_,_,h=>h.elim
 | 0,[],_,h=>h.elim
 | i+1,[],_,h=>h.elim
 | i+1,_::s,P,h=>sZ (i:=i) (σ:=s) h
noncomputable def vV(i:Nat):TE:=fun σ H Q=>tvr i σ fun v=>Q v H
section
variable{X:Cx}
theorem vd(i:Nat){x:Str}{pos:Pos}(hN:X.N[i]? = some x:=by rfl)(hv:Vis X.env.scope x:=by first | exact Or.inl rfl | exact Or.inr (Or.inl rfl) | exact Or.inr (Or.inr rfl))(hd:(x == ("__debug__":Str))=false:=by decide)
  (hcd:(x == ("__classdict__":Str))=false:=by decide):PE X (.Name x pos) (vV i):=fun pins s σ H Q I h=>xL hN hv hd hcd pins s σ H Q I (sZ h)
end
end My
namespace My
open PySem L2
class FrA where
 J:It
 g:TG
 tb:TS
 D:dk
 σ:St
 H:Hp
noncomputable def FrB[a:FrA]:Prop:=match a with
 | ⟨J,g,tb,D,σ,H1⟩=>∃W:Nat→Nat→St→Hp→Prop,(∃m,W 0 m σ H1)∧∀i m σ H,W i m σ H →
  (J.stop i H∧D.nx σ H)∨(J.go i H∧∃N:St→Hp→Prop,(∀σ' H',N σ' H'→∃m',m'<m∧W (i+1) m' σ' H')∧∀x H',J.yld i H x H'→g x σ H' fun σ2 H2=>tb { D with nx:=N,ct:=N,bk:=D.nx } σ2 H2)
theorem EJ{wi:TI}{g:TG}{tb:TS}{D:dk}{σ:St}{H:Hp}:tX wi g tb D σ H=wi σ H fun J H1=>@FrB ⟨J,g,tb,D,σ,H1⟩:=rfl
class BlA where
 g:TG
 tt:TT
 te:TE
 J:It
 D:Addr
 H:Hp
 Q:VK
noncomputable def BlB[a:BlA](τ:St):Prop:=match a with
 | ⟨g,tt,te,J,D,H1,Q⟩=>∃W:Nat→Nat→St→Hp→Prop,(∃m,W 0 m τ (upd H1 D (.lst [])))∧∀i m σ' H',W i m σ' H' →
  (J.stop i H'∧Q (.ref D) H')∨(J.go i H'∧∃N:St→Hp→Prop,(∀σ2 H2,N σ2 H2→∃m',m'<m∧W (i+1) m' σ2 H2)∧∀x H2,J.yld i H' x H2 →
   g x σ' H2 fun σ2 H3=>tt σ2 H3 fun b H4=>if b=true then te σ2 H4 fun v H5=>∃xs,H5 D=some (.lst xs)∧xs.length<sizeLine∧N σ2 (upd H5 D (.lst (xs++[v]))) else N σ2 H4)
theorem DS{k:Nat}{fr:List Nat}{g:TG}{tt:TT}{te:TE}{J:It}{σ:St}{H1:Hp}{Q:VK}:AE k fr g tt te J σ H1 Q = ∀D,H1 D=none→@BlB ⟨g,tt,te,J,D,H1,Q⟩ (ez k fr σ):=rfl
end My
namespace L2
open PySem PySem.Spec PyProof.Rows HT
section
variable{prog:Program}{w:World}{A:Around}{E:Value→Shared→Prop}{s:Shared}
end
section
variable{X:Cx}
end
end L2
namespace L2
open PySem PySem.Spec PyProof.Rows
section
variable{prog:Program}{w:World}{A:Around}{E:Value→Shared→Prop}{h:Heap}{g:Array GenState}{d:Drawn}{t:Nat}{os:OsState}
variable{nm q:Str}{C N:Addr}{bs bm bmB:List Value}{hdct:Bool}{sn:List Str}{sub:List Value}{ab:Bool}{col:Option Bool}{dd:Option Addr}{k0 k1 k2 k3 k5:Option Value}{B newId initId:String}
end
section
variable{X:Cx}{CX:CXT}{k:Nat}{f C:Addr}{fd:FuncData}{ps:List Str}{sp:Sp}{E:XK}{x:Str}{p pos:Pos}{e:Expr}{es:List Expr}{t:TA}
end
section
variable{X:Cx}{pins:List (Addr×Obj)}{σ:St}{H:Hp}{s:Shared}{E:Value→Shared→Prop}{Q:Value→Shared→Prop}{a C f:Addr}{x y:Str}{us:List Value}
end
end L2
namespace L2
open PySem PySem.Spec PyProof.Rows Builtin Builtin.ObjectAttr
section
variable{prog:Program}{w:World}{A:Around}{E:Value→Shared→Prop}{h:Heap}{g:Array GenState}{d:Drawn}{t:Nat}{os:OsState}
variable{nm q:Str}{C N x:Addr}{bs bm bmB:List Value}{sn:List Str}{sub:List Value}{ab:Bool}{col:Option Bool}{dd:Option Addr}{k0 k1 k2 k3 k5:Option Value}{B newId sa owner:String}
 {mN mA:Str→Option Value} {name:Str} {v:Value} {K:PySem.W.Frag}
end
end L2
namespace L2
open PySem PySem.Spec PyProof.Rows
section
variable{X:Cx}{pins:List (Addr×Obj)}{σ:St}{H:Hp}{s:Shared}{E:Value→Shared→Prop}{a C fI:Addr}{yn f:Str}
end
section
variable{K:PySem.W.Frag}{prog:Program}{w:World}{A:Around}{E:Value→Shared→Prop}{h:Heap}{g:Array GenState}{d:Drawn}{t:Nat}{os:OsState}{a C dx:Addr}{o:Obj}{f:Str}{v:Value}{mA:Str→Option Value}
end
section
variable{X:Cx}{e:Expr}{ta:TE}{f:Str}{pos:Pos}
end
end L2
namespace My
open PySem L2
end My
set_option maxHeartbeats 4000000
namespace My
open PySem L2
noncomputable def top(i:Nat):Stmt:=PySem.Challenge.pw_rotaward_k35_whole_no_paper_for_what_can.main.body.getD i (.Pass ⟨0,0,0,0⟩)
noncomputable abbrev zE:Stmt:=top 2
noncomputable abbrev Aj:Stmt:=top 3
noncomputable abbrev zF:Stmt:=top 4
noncomputable abbrev m4:Stmt:=top 5
noncomputable abbrev zw:Stmt:=top 6
noncomputable abbrev xq:Stmt:=top 8
noncomputable abbrev zG:Stmt:=top 9
noncomputable abbrev xC:Stmt:=top 10
noncomputable abbrev A8:Stmt:=br (top 15) 0
noncomputable abbrev xc:Stmt:=br (top 15) 1
noncomputable abbrev Am:Stmt:=br (top 15) 2
noncomputable abbrev wK:Stmt:=br (top 16) 0
noncomputable abbrev xm:Stmt:=br (top 16) 1
noncomputable abbrev xh:Stmt:=br (top 16) 2
noncomputable abbrev Aa:Stmt:=br (top 17) 0
noncomputable abbrev w6:Stmt:=br (top 17) 1
noncomputable abbrev xl:Stmt:=br (top 17) 2
noncomputable abbrev AT:Stmt:=br (top 18) 0
noncomputable abbrev y3:Stmt:=br (top 18) 1
noncomputable abbrev zx:Stmt:=br (top 18) 2
noncomputable abbrev AJ:Stmt:=br (top 18) 3
noncomputable abbrev w8:Stmt:=br (top 19) 0
noncomputable abbrev wU:Stmt:=br (top 19) 1
noncomputable abbrev xj:Stmt:=br (top 19) 2
noncomputable abbrev zX:Stmt:=top 20
noncomputable abbrev xG:Stmt:=top 21
noncomputable abbrev Aw:Stmt:=top 22
noncomputable abbrev zc:Stmt:=top 23
noncomputable abbrev Bc:Stmt:=top 24
noncomputable abbrev AN:Stmt:=top 25
noncomputable abbrev xt:Stmt:=top 26
noncomputable abbrev wY:Stmt:=top 27
noncomputable abbrev nJ:Stmt:=top 30
noncomputable abbrev AA:Stmt:=top 31
noncomputable abbrev mO:Stmt:=top 32
noncomputable abbrev zr:Stmt:=top 33
noncomputable abbrev Ac:Stmt:=top 34
noncomputable abbrev xR:Stmt:=top 35
noncomputable abbrev AZ:Stmt:=top 36
noncomputable abbrev zD:Stmt:=br (top 38) 0
noncomputable abbrev zt:Stmt:=br (top 38) 1
noncomputable abbrev AS:Stmt:=br (top 38) 2
noncomputable abbrev zP:Stmt:=top 39
noncomputable abbrev zZ:Stmt:=top 40
noncomputable abbrev xJ:Stmt:=top 41
noncomputable abbrev wJ:Stmt:=top 50
noncomputable abbrev Bf:Stmt:=top 51
noncomputable abbrev AH:Stmt:=top 52
noncomputable abbrev Au:Stmt:=top 53
noncomputable abbrev Br:Stmt:=br (top 56) 0
noncomputable abbrev wX:Stmt:=top 57
noncomputable abbrev AO:Stmt:=top 58
noncomputable abbrev xz:Stmt:=top 59
noncomputable abbrev zT_:Stmt:=br (top 61) 0
noncomputable abbrev AB:Stmt:=br (top 61) 1
noncomputable abbrev Ap:Stmt:=br (top 61) 2
noncomputable abbrev wV:Stmt:=top 62
noncomputable abbrev zg:Stmt:=br (top 67) 0
noncomputable abbrev xW:Stmt:=br (top 67) 1
noncomputable abbrev xT:Stmt:=br (top 67) 2
noncomputable abbrev xX:Stmt:=br (top 67) 3
noncomputable abbrev xb:Stmt:=top 68
noncomputable abbrev Av:Stmt:=top 69
noncomputable abbrev wW:Stmt:=top 70
noncomputable abbrev AL:Stmt:=top 71
noncomputable abbrev xf:Stmt:=top 72
noncomputable abbrev zN:Stmt:=top 74
noncomputable abbrev zf:Stmt:=top 75
noncomputable abbrev AF:Stmt:=top 76
noncomputable abbrev Bl:Stmt:=top 77
noncomputable abbrev xE:Stmt:=top 78
noncomputable abbrev xH:Stmt:=top 79
noncomputable abbrev xS:Stmt:=top 80
noncomputable abbrev zn:Stmt:=top 81
noncomputable abbrev zb:Stmt:=top 82
noncomputable abbrev y6:Stmt:=top 83
noncomputable abbrev Bt:Stmt:=top 84
noncomputable abbrev wN:Stmt:=top 85
noncomputable abbrev xM:Stmt:=top 86
noncomputable abbrev AV:Stmt:=top 87
noncomputable abbrev x9:Stmt:=top 88
noncomputable abbrev zU:Stmt:=top 89
noncomputable abbrev xD:Stmt:=top 90
noncomputable abbrev zQ:Stmt:=top 91
noncomputable abbrev xZ:Stmt:=top 92
noncomputable abbrev sR:Stmt:=top 93
structure Cs where
 (a b c d e f g h i j:Addr)
structure Txt(K:PySem.W.Frag)(mg:Str→Option Value)(ζ:Cs):Prop where
 all:mg "all" = none
 bool:mg "bool" = none
 dict:mg "dict" = none
 enumerate:mg "enumerate" = none
 int:mg "int" = none
 isinstance:mg "isinstance" = none
 len:mg "len" = none
 list:mg "list" = none
 max:mg "max" = none
 min:mg "min" = none
 range:mg "range" = none
 reversed:mg "reversed" = none
 str:mg "str" = none
 sum:mg "sum" = none
 tuple:mg "tuple" = none
 g_MOST_DAYS:∃tk,mg "MOST_DAYS" = some (.int 31 tk)
 g_MOST_HANDS:∃tk,mg "MOST_HANDS" = some (.int 8 tk)
 g_MOST_MANY:∃tk,mg "MOST_MANY" = some (.int 99 tk)
 g_MOST_POSTS:∃tk,mg "MOST_POSTS" = some (.int 6 tk)
 g_MOST_RULES:∃tk,mg "MOST_RULES" = some (.int 120 tk)
 cl_Ward:Cls K ζ.a
 n_Ward_days:bw K ζ.a "days"
 n_Ward_hands:bw K ζ.a "hands"
 n_Ward_posts:bw K ζ.a "posts"
 cl_Terms:Cls K ζ.b
 n_Terms_ward:bw K ζ.b "ward"
 n_Terms_rules:bw K ζ.b "rules"
 n_Terms_sums:bw K ζ.b "sums"
 cl_Want:Cls K ζ.c
 n_Want_day:bw K ζ.c "day"
 n_Want_post:bw K ζ.c "post"
 n_Want_many:bw K ζ.c "many"
 cl_Most:Cls K ζ.d
 n_Most_hand:bw K ζ.d "hand"
 n_Most_days:bw K ζ.d "days"
 n_Most_many:bw K ζ.d "many"
 cl_Least:Cls K ζ.e
 n_Least_hand:bw K ζ.e "hand"
 n_Least_days:bw K ζ.e "days"
 n_Least_many:bw K ζ.e "many"
 cl_Hours:Cls K ζ.f
 n_Hours_hand:bw K ζ.f "hand"
 n_Hours_least:bw K ζ.f "least"
 n_Hours_most:bw K ζ.f "most"
 cl_Away:Cls K ζ.g
 n_Away_hand:bw K ζ.g "hand"
 n_Away_days:bw K ζ.g "days"
 cl_Apart:Cls K ζ.h
 n_Apart_hand:bw K ζ.h "hand"
 n_Apart_other:bw K ζ.h "other"
 cl_Nights:Cls K ζ.i
 n_Nights_hand:bw K ζ.i "hand"
 n_Nights_many:bw K ζ.i "many"
 x_NoTable:uL K mg "NoTable" ζ.j
section
variable{P:Program}{w:World}{K:PySem.W.Frag}{mg:Str→Option Value}{base:Heap}
local macro_rules | `(vd $a)=>`(@vd _ $a _ _ rfl (by first | exact Or.inl rfl | exact Or.inr (Or.inl rfl) | exact Or.inr (Or.inr rfl)) (by decide) (by decide)) | `(aa $a $b)=>`(@aa _ _ _ _ _ $a $b rfl) | `(aj $a $b)=>`(@aj _ _ _ _ _ $a $b) | `(av $a $b $c)=>`(@av _ _ _ _ _ _ _ _ $a $b $c) | `(ak $a)=>`(@ak _ _ _ $a) | `(am (i:=$a) $b $c $d)=>`(@am _ _ $a _ $b $c $d (by first | exact .inl rfl | exact .inr rfl | assumption)) | `(aw $a $b $c $d)=>`(@aw _ _ _ _ _ _ _ _ _ _ $a $b $c $d (by decide) rfl rfl) | `(aB $a)=>`(@aB _ _ _ _ $a) | `(aD (i:=$a) $b $c $d $e)=>`(@aD _ _ $a _ _ _ _ $b $c $d $e rfl (by first | exact .inl rfl | exact .inr rfl | assumption)) | `(aM $a $b $c $d)=>`(@aM _ _ _ _ _ _ _ $a $b $c $d) | `(aH $a)=>`(@aH $a _ (by decide) (by decide)) | `(aA $a $b)=>`(@aA _ _ _ _ _ $a $b rfl) | `(aG $a $b $c $d)=>`(@aG _ _ _ _ _ _ _ _ $a $b $c $d) | `(aO $a $b)=>`(@aO _ _ _ _ _ $a $b) | `(aF $a $b $c $d $e)=>`(@aF _ _ _ _ _ _ _ _ _ $a $b $c $d $e (by decide) (by decide) rfl rfl) | `(aK $a)=>`(@aK _ _ _ _ _ $a) | `(aL (K:=$a) $b)=>`(@aL _ $a $b) | `(bi $a $b $c $d $e)=>`(@bi _ _ _ _ _ _ _ _ $a $b $c $d $e (by intro _;rfl)) | `(bb $a $b $c)=>`(@bb _ _ _ _ _ _ _ _ $a $b $c) | `(aW $a)=>`(@aW _ _ _ _ $a) | `(bf $a)=>`(@bf _ _ _ _ $a) | `(bN $a $b $c)=>`(@bN _ _ _ _ _ _ _ _ $a $b $c) | `(bP $a $b)=>`(@bP _ _ _ _ _ _ _ $a $b) | `(aZ $a $b $c)=>`(@aZ _ _ _ _ _ _ $a $b $c rfl) | `(aY $a $b $c $d $e)=>`(@aY _ _ _ _ _ _ _ _ _ $a $b $c $d $e (by decide) (by decide) rfl rfl) | `(bR (n:=$a) $b $c)=>`(@bR _ _ _ _ _ $a $b $c rfl rfl) | `(bx $a $b $c $d)=>`(@bx _ _ _ _ _ _ _ _ _ _ _ _ _ _ $a $b $c $d rfl rfl rfl) | `(bJ $a)=>`(@bJ _ _ _ _ $a rfl) | `(cG $a $b)=>`(@cG _ _ _ _ _ _ $a $b) | `(cH $a $b $c $d $e $f)=>`(@cH _ _ _ _ _ _ _ _ _ _ _ _ $a $b $c $d $e $f rfl rfl rfl rfl rfl) | `(ck $a)=>`(@ck _ _ _ _ _ $a) | `(cM $a)=>`(@cM _ _ $a) | `(bX (K:=$a) $b)=>`(@bX _ $a $b) | `(bV $a $b $c $d $e)=>`(@bV _ _ _ _ _ _ _ _ _ _ _ _ $a $b $c $d $e (by with_unfolding_all rfl)) | `(b8 $a $b $c $d)=>`(@b8 _ _ _ _ _ _ _ _ $a $b $c $d) | `(cw $a)=>`(@cw _ _ _ $a (by intro _;rfl)) | `(cf $a)=>`(@cf _ _ _ $a) | `(bY (K:=$a) $b)=>`(@bY _ $a $b) | `(cK $a $b)=>`(@cK _ _ _ _ $a $b) | `(cx $a $b $c $d)=>`(@cx _ _ _ _ _ _ _ _ _ _ _ $a $b $c $d (by decide) rfl rfl) | `(bT $a $b $c)=>`(@bT _ _ _ _ _ _ _ _ $a $b $c rfl) | `(ie $a $b)=>`(@ie _ _ _ _ _ _ _ $a $b) | `(eC $a)=>`(@eC _ _ _ _ $a) | `(eJ $a)=>`(@eJ _ _ _ _ $a) | `(bW (K:=$a) $b)=>`(@bW _ $a $b) | `(dE $a $b)=>`(@dE _ _ _ _ _ $a $b) | `(fo (K:=$a) $b $c $d)=>`(@fo _ $a _ _ _ _ $b $c $d) | `(fc (K:=$a) (n:=$b) $c $d $e)=>`(@fc _ $a _ _ _ $b _ $c $d $e rfl rfl) | `(gQ $a $b)=>`(@gQ _ _ _ _ _ _ _ $a $b) | `(fb $a)=>`(@fb _ _ _ _ $a) | `(cQ $a)=>`(@cQ _ $a) | `(eT $a $b)=>`(@eT _ _ _ _ $a $b (by decide)) | `(eW $a $b $c $d $e)=>`(@eW _ _ _ _ _ _ _ _ _ $a $b $c $d $e) | `(jt $a)=>`(@jt _ _ $a) | `(i8 $a $b)=>`(@i8 _ _ _ _ _ _ $a $b rfl rfl rfl)
local macro_rules | `(tactic| lk)=>`(tactic| try simp only[zk,Cd,BY,uY,ww,wF,tOp,tUn,pB,tC,rI0,rI,rU,rEq,rNe,L2.start,uQ,oJ,rV,tB,tCB,wn,BI,tT,tG,BZ,Ca,tOr,Cz,wv,Ch,oB,Cy,wb,BF,kz,nP,tIf,Ck,Cg,su,ez,vP,Cx.comp,List.replicate_one,List.replicate_zero,yz,tBM,Cn,zl,oY,vS,sr,Az,AM,CA,CG,BE,dk.gone,Fh,DL,vO,xk,qw,rK,Cv,vB,wI,uy,wk,Cq,EM,wr,AD,uP,tSl,oh,wz,xa,kr,xy,wu,CC,fA,Cx.nox,Cx.wish,yi,yua,yD,yQa,Nat.reduceAdd,Nat.reduceSub,List.reduceReplicate,List.cons_append,List.nil_append,yy,ykb,ylb,List.set_cons_zero,List.set_cons_succ,Option.some.injEq,V.int.injEq,V.bl.injEq,V.ref.injEq,V.str.injEq,V.ty.injEq,ypb,and_true,true_and,and_assoc,exists_eq_left,exists_eq_left',exists_eq_right,exists_eq,exists_eq',exists_and_left,exists_const,decide_eq_true_eq,u9,uw,uN,r6,yGa,yib,decide_eq_false_iff_not,if_true,if_false,yDa,reduceIte,vg,AX,tH,vf,uc,qJ,vC,rE,p8,t9,ue,tK,tS,tY,vA,vc,Bool.not_true,Bool.not_false,not_true_eq_false,Bool.true_eq_false,Fx,we,vB,oO,Fs,vT,qV,Ei,BQ,Ew,rIn,Gc,qQ,sN,vW,vY,o7,CF,Fa,ud,iDT,wt,qv,qh,Bv,DA,EN,B4,Fc,B8,↓Ef,↓Fy,↓Dh,↓Cb,↓BX,↓B9,↓BJ,↓EJ,↓DS,vV,↓BH,↓BD,↓xV0,↓xVS,↓E7,↓xBl,↓Fu,↓xI0,↓xI,↓xU,↓FW,↓EO,↓EZ,↓Ek,↓Do,↓DF,↓Cj,↓F0])
inductive uB(K:PySem.W.Frag)(ζ:Cs)(vs:List V)(H:Hp)(Q:VK)(E:XK):Prop
 | mk (x:Addr) (d:Int) (hs:List Int) (ps:List Pst) (y:Int) (_:vs=[.ref x,.int y]) (_:aX ζ.a H x d hs ps) (_:Q (.bl (decide (0≤y)&&decide (y<d))) H):uB K ζ vs H Q E
theorem DX:ax ["ward","day"] ["ward","day"] (ao xG):=⟨rfl,rfl,rfl,k!,rfl,k!,k!⟩
theorem Dr{ζ:Cs}{f:Addr}{fd:FuncData}(F:Fun K "has_day" "has_day" xG f fd)(T:Txt K mg ζ) :aT P w K mg base CX0 1 f fd ["ward","day"] (uB K ζ):=by
 refine F.ok DX (fun vs H Q E h=>?_) (fun cdv A outer s H vs Q E hr h=>?_)
 ·cases h;subst_vars;rfl
 ·obtain⟨x,d,hs,ps,y,rfl,hW,q⟩:=h
  refine⟨_,(ak (aB (bV b9 cV ag (vd 1) (aO (vd 0) rfl)))),?_⟩
  obtain⟨dx,ha,pa,ts,h1,h2,h3,h4⟩:=hW.ex
  lk
  by_cases y0:0≤y
  ·rw[if_pos y0]
   rw[decide_eq_true y0,yja] at q
   exact⟨_,_,_,h1,T.cl_Ward,T.n_Ward_days,_,cN _ _ _,d,rfl,q⟩
  ·rw[if_neg y0]
   rw[decide_eq_false y0] at q
   exact q
inductive Bj(K:PySem.W.Frag)(ζ:Cs)(vs:List V)(H:Hp)(Q:VK)(E:XK):Prop
 | mk (x:Addr) (d:Int) (hs:List Int) (ps:List Pst) (y:Int) (_:vs=[.ref x,.int y]) (_:aX ζ.a H x d hs ps) (_:1≤y) (_:y≤ps.length) (_:Q (.bl true) H):Bj K ζ vs H Q E
theorem Dz:ax ["ward","post"] ["ward","post"] (ao Aw):=⟨rfl,rfl,rfl,k!,rfl,k!,k!⟩
theorem CV{ζ:Cs}{f:Addr}{fd:FuncData}(F:Fun K "has_post" "has_post" Aw f fd)(T:Txt K mg ζ) :aT P w K mg base CX0 1 f fd ["ward","post"] (Bj K ζ):=by
 refine F.ok Dz (fun vs H Q E h=>?_) (fun cdv A outer s H vs Q E hr h=>?_)
 ·cases h;subst_vars;rfl
 ·obtain⟨x,d,hs,ps,y,rfl,hW,y0,y1,q⟩:=h
  refine⟨_,(ak (aB (bV b9 b9 ag (vd 1) (aF (aL (K:=K) rfl) (by rfl) T.len PySem.boot_len (aa (aO (vd 0) rfl) af))))),?_⟩
  obtain⟨dx,ha,pa,ts,h1,h2,h3,h4⟩:=hW.ex
  have hl:=h4.len
  lk
  rw[if_pos y0]
  refine⟨_,_,_,h1,T.cl_Ward,T.n_Ward_posts,_,eZ _ _ _,_,rfl,_,.inr (SqT.of h3),?_⟩
  rw[decide_eq_true (show y≤(ts.length:Int) by lia)]
  exact q
inductive zP_(K:PySem.W.Frag)(ζ:Cs)(vs:List V)(H:Hp)(Q:VK)(E:XK):Prop
 | mk (m:Int) (_:vs=[.int m]) (_:Q (.bl (isM m)) H):zP_ K ζ vs H Q E
theorem E4:ax ["many"] ["many"] (ao zc):=⟨rfl,rfl,rfl,k!,rfl,k!,k!⟩
theorem FM{ζ:Cs}{f:Addr}{fd:FuncData}(F:Fun K "is_many" "is_many" zc f fd)(T:Txt K mg ζ) :aT P w K mg base CX0 1 f fd ["many"] (zP_ K ζ):=by
 refine F.ok E4 (fun vs H Q E h=>?_) (fun cdv A outer s H vs Q E hr h=>?_)
 ·cases h;subst_vars;rfl
 ·obtain⟨m,rfl,q⟩:=h
  refine⟨_,(ak (aB (bV b9 b9 ag (vd 0) (eT rfl T.g_MOST_MANY)))),?_⟩
  lk
  unfold isM at q
  by_cases e:0≤m
  ·rw[if_pos e]
   rw[decide_eq_true e,yja] at q
   exact q
  ·rw[if_neg e]
   rw[decide_eq_false e,yka] at q
   exact q
inductive zA(K:PySem.W.Frag)(ζ:Cs)(vs:List V)(H:Hp)(Q:VK)(E:XK):Prop
 | mk (x dx y:Addr) (dd p m d:Int) (hs:List Int) (ps:List Pst) (_:vs=[.ref x,.ref y]) (_:H x=some (.ins ζ.c dx (wf3 dd p m))) (_:aX ζ.a H y d hs ps) (_:0≤dd) (_:dd<d) (_:1≤p) (_:p≤ps.length) (_:isM m=true) (_:Q (.bl true) H):zA K ζ vs H Q E
theorem Fz:ax ["self","ward"] ["self","ward"] (ao xc):=⟨rfl,rfl,rfl,k!,rfl,k!,k!⟩
theorem FS{ζ:Cs}{f:Addr}{fd:FuncData}(F:Fun K "fits" "Want.fits" xc f fd)(T:Txt K mg ζ)(zao_:Cal P w K mg base "has_day" ["ward","day"] 1 (uB K ζ))(zdi_:Cal P w K mg base "has_post" ["ward","post"] 1 (Bj K ζ))(zl_:Cal P w K mg base "is_many" ["many"] 1 (zP_ K ζ)):aT P w K mg base CX0 2 f fd ["self","ward"] (zA K ζ):=by
 refine F.ok Fz (fun vs H Q E h=>?_) (fun cdv A outer s H vs Q E hr h=>?_)
 ·cases h;subst_vars;rfl
 ·obtain⟨x,dx,y,dd,p,m,d,hs,ps,rfl,hx,hW,a1,a2,a3,a4,a5,q⟩:=h
  refine⟨_,(ak (aB (bP (aw zao_ (hr.mono (by decide)) rfl (aa (vd 1) (aa (aO (vd 0) rfl) af))) (bP (aw zdi_ (hr.mono (by decide)) rfl (aa (vd 1) (aa (aO (vd 0) rfl) af))) (ck (aw zl_ (hr.mono (by decide)) rfl (aa (aO (vd 0) rfl) af))))))),?_⟩
  lk
  refine⟨_,_,_,hx,T.cl_Want,T.n_Want_day,_,kM _ _ _,y,d,hs,ps,dd,rfl,hW,_,rfl,?_⟩
  rw[show(decide (0≤dd)&&decide (dd<d))=true by rw[decide_eq_true a1,decide_eq_true a2];rfl,if_pos rfl]
  refine⟨_,_,_,hx,T.cl_Want,T.n_Want_post,_,lv _ _ _,y,d,hs,ps,p,rfl,hW,a3,a4,true,rfl,?_⟩
  rw[if_pos rfl]
  refine⟨_,_,_,hx,T.cl_Want,T.n_Want_many,_,lw _ _ _,m,rfl,?_⟩
  rw[a5]
  exact q
inductive zn_(K:PySem.W.Frag)(ζ:Cs)(vs:List V)(H:Hp)(Q:VK)(E:XK):Prop
 | mk (x:Addr) (d:Int) (hs:List Int) (ps:List Pst) (h:Int) (_:vs=[.ref x,.int h]) (_:aX ζ.a H x d hs ps) (_:Q (.bl (dU hs h)) H):zn_ K ζ vs H Q E
theorem Ge:ax ["ward","hand"] ["ward","hand"] (ao zX):=⟨rfl,rfl,rfl,k!,rfl,k!,k!⟩
theorem CM{ζ:Cs}{f:Addr}{fd:FuncData}(F:Fun K "has_hand" "has_hand" zX f fd)(T:Txt K mg ζ) :aT P w K mg base CX0 1 f fd ["ward","hand"] (zn_ K ζ):=by
 refine F.ok Ge (fun vs H Q E h=>?_) (fun cdv A outer s H vs Q E hr h=>?_)
 ·cases h;subst_vars;rfl
 ·obtain⟨x,d,hs,ps,h,rfl,hW,q⟩:=h
  refine⟨_,(ak (aB (bV b9 cV ag (vd 1) (aF (aL (K:=K) rfl) (by rfl) T.len PySem.boot_len (aa (aO (vd 0) rfl) af))))),?_⟩
  obtain⟨dx,ha,pa,ts,h1,h2,h3,h4⟩:=hW.ex
  lk
  unfold dU at q
  by_cases e:0≤h
  ·rw[if_pos e]
   refine⟨_,_,_,h1,T.cl_Ward,T.n_Ward_hands,_,eV _ _ _,_,rfl,_,.inr (SqT.of h2),?_⟩
   rw[decide_eq_true e,yja] at q
   rw[ya]
   exact q
  ·rw[if_neg e]
   rw[decide_eq_false e,yka] at q
   exact q
inductive qC(K:PySem.W.Frag)(ζ:Cs)(vs:List V)(H:Hp)(Q:VK)(E:XK):Prop
 | mk (s:Int) (_:vs=[.int s]) (_:0≤s) (_:s<2147483648) (_:Q (.bl true) H):qC K ζ vs H Q E
theorem EK:ax ["days"] ["days"] (ao Bc):=⟨rfl,rfl,rfl,k!,rfl,k!,k!⟩
theorem CS{ζ:Cs}{f:Addr}{fd:FuncData}(F:Fun K "is_days" "is_days" Bc f fd)(T:Txt K mg ζ) :aT P w K mg base CX0 1 f fd ["days"] (qC K ζ):=by
 refine F.ok EK (fun vs H Q E h=>?_) (fun cdv A outer s H vs Q E hr h=>?_)
 ·cases h;subst_vars;rfl
 ·obtain⟨s,rfl,s0,s1,q⟩:=h
  refine⟨_,(ak (aB (bV b9 cV ag (vd 0) (av dj ag ag)))),?_⟩
  lk
  rw[if_pos s0]
  refine⟨⟨by decide,by decide,by decide⟩,?_⟩
  rw[decide_eq_true (show s<(2:Int) ^ Int.toNat 31 by rw[show(2:Int) ^ Int.toNat 31=2147483648 by decide];exact s1)]
  exact q
inductive AC(K:PySem.W.Frag)(ζ:Cs)(vs:List V)(H:Hp)(Q:VK)(E:XK):Prop
 | mk (x dx y:Addr) (h s m d:Int) (hs:List Int) (ps:List Pst) (_:vs=[.ref x,.ref y]) (_:H x=some (.ins ζ.d dx (mf3 h s m))) (_:aX ζ.a H y d hs ps) (_:dU hs h=true) (_:0≤s) (_:s<2147483648) (_:-1≤m) (_:m≤99) (_:Q (.bl true) H):AC K ζ vs H Q E
theorem Ec:ax ["self","ward"] ["self","ward"] (ao xm):=⟨rfl,rfl,rfl,k!,rfl,k!,k!⟩
theorem Dj{ζ:Cs}{f:Addr}{fd:FuncData}(F:Fun K "fits" "Most.fits" xm f fd)(T:Txt K mg ζ)(zb_:Cal P w K mg base "has_hand" ["ward","hand"] 1 (zn_ K ζ))(zv_:Cal P w K mg base "is_days" ["days"] 1 (qC K ζ))(zl_:Cal P w K mg base "is_many" ["many"] 1 (zP_ K ζ)):aT P w K mg base CX0 2 f fd ["self","ward"] (AC K ζ):=by
 refine F.ok Ec (fun vs H Q E h=>?_) (fun cdv A outer s H vs Q E hr h=>?_)
 ·cases h;subst_vars;rfl
 ·obtain⟨x,dx,y,h,s',m,d,hs,ps,rfl,hx,hW,a1,a2,a3,m0,m1,q⟩:=h
  refine⟨_,(ak (aB (bP (aw zb_ (hr.mono (by decide)) rfl (aa (vd 1) (aa (aO (vd 0) rfl) af))) (bP (aw zv_ (hr.mono (by decide)) rfl (aa (aO (vd 0) rfl) af)) (ck (Cr (aw zl_ (hr.mono (by decide)) rfl (aa (aO (vd 0) rfl) af)) (ck (b8 bH (aO (vd 0) rfl) (cG b7 ag) (aH _))))))))),?_⟩
  lk
  refine⟨_,_,_,hx,T.cl_Most,T.n_Most_hand,_,dq _ _ _,y,d,hs,ps,h,rfl,hW,_,rfl,?_⟩
  rw[a1,if_pos rfl]
  refine⟨_,_,_,hx,T.cl_Most,T.n_Most_days,_,fX _ _ _,s',rfl,a2,a3,?_⟩
  refine⟨true,rfl,?_⟩
  rw[if_pos rfl]
  refine⟨_,_,_,hx,T.cl_Most,T.n_Most_many,_,eP _ _ _,m,rfl,_,rfl,?_⟩
  by_cases e:isM m=true
  ·rw[if_pos e]
   exact q
  ·rw[if_neg e]
   have em:m = -1:=by
    unfold isM at e
    by_cases e0:0≤m
    ·rw[decide_eq_true e0,decide_eq_true m1] at e
     exact absurd rfl e
    ·lia
   subst em
   exact⟨_,_,_,hx,T.cl_Most,T.n_Most_many,_,eP _ _ _,rfl,q⟩
inductive zK(K:PySem.W.Frag)(ζ:Cs)(vs:List V)(H:Hp)(Q:VK)(E:XK):Prop
 | mk (x dx y:Addr) (h s m d:Int) (hs:List Int) (ps:List Pst) (_:vs=[.ref x,.ref y]) (_:H x=some (.ins ζ.e dx (mf3 h s m))) (_:aX ζ.a H y d hs ps) (_:dU hs h=true) (_:0≤s) (_:s<2147483648) (_:0≤m) (_:m≤99) (_:Q (.bl true) H):zK K ζ vs H Q E
theorem Dp:ax ["self","ward"] ["self","ward"] (ao w6):=⟨rfl,rfl,rfl,k!,rfl,k!,k!⟩
theorem EU{ζ:Cs}{f:Addr}{fd:FuncData}(F:Fun K "fits" "Least.fits" w6 f fd)(T:Txt K mg ζ)(zb_:Cal P w K mg base "has_hand" ["ward","hand"] 1 (zn_ K ζ))(zv_:Cal P w K mg base "is_days" ["days"] 1 (qC K ζ))(zl_:Cal P w K mg base "is_many" ["many"] 1 (zP_ K ζ)):aT P w K mg base CX0 2 f fd ["self","ward"] (zK K ζ):=by
 refine F.ok Dp (fun vs H Q E h=>?_) (fun cdv A outer s H vs Q E hr h=>?_)
 ·cases h;subst_vars;rfl
 ·obtain⟨x,dx,y,h,s',m,d,hs,ps,rfl,hx,hW,a1,a2,a3,m0,m1,q⟩:=h
  refine⟨_,(ak (aB (bP (aw zb_ (hr.mono (by decide)) rfl (aa (vd 1) (aa (aO (vd 0) rfl) af))) (bP (aw zv_ (hr.mono (by decide)) rfl (aa (aO (vd 0) rfl) af)) (ck (aw zl_ (hr.mono (by decide)) rfl (aa (aO (vd 0) rfl) af))))))),?_⟩
  lk
  refine⟨_,_,_,hx,T.cl_Least,T.n_Least_hand,_,dq _ _ _,y,d,hs,ps,h,rfl,hW,_,rfl,?_⟩
  rw[a1,if_pos rfl]
  refine⟨_,_,_,hx,T.cl_Least,T.n_Least_days,_,fX _ _ _,s',rfl,a2,a3,?_⟩
  refine⟨true,rfl,?_⟩
  rw[if_pos rfl]
  refine⟨_,_,_,hx,T.cl_Least,T.n_Least_many,_,eP _ _ _,m,rfl,?_⟩
  rw[show isM m=true by unfold isM;rw[decide_eq_true m0,decide_eq_true m1];rfl]
  exact q
inductive Ai(K:PySem.W.Frag)(ζ:Cs)(vs:List V)(H:Hp)(Q:VK)(E:XK):Prop
 | mk (x dx y:Addr) (h s d:Int) (hs:List Int) (ps:List Pst) (_:vs=[.ref x,.ref y]) (_:H x=some (.ins ζ.g dx (af2 h s))) (_:aX ζ.a H y d hs ps) (_:dU hs h=true) (_:0≤s) (_:s<2147483648) (_:Q (.bl true) H):Ai K ζ vs H Q E
theorem Em:ax ["self","ward"] ["self","ward"] (ao wU):=⟨rfl,rfl,rfl,k!,rfl,k!,k!⟩
theorem CO{ζ:Cs}{f:Addr}{fd:FuncData}(F:Fun K "fits" "Away.fits" wU f fd)(T:Txt K mg ζ)(zb_:Cal P w K mg base "has_hand" ["ward","hand"] 1 (zn_ K ζ))(zv_:Cal P w K mg base "is_days" ["days"] 1 (qC K ζ)):aT P w K mg base CX0 2 f fd ["self","ward"] (Ai K ζ):=by
 refine F.ok Em (fun vs H Q E h=>?_) (fun cdv A outer s H vs Q E hr h=>?_)
 ·cases h;subst_vars;rfl
 ·obtain⟨x,dx,y,h,s',d,hs,ps,rfl,hx,hW,a1,a2,a3,q⟩:=h
  refine⟨_,(ak (aB (bP (aw zb_ (hr.mono (by decide)) rfl (aa (vd 1) (aa (aO (vd 0) rfl) af))) (ck (aw zv_ (hr.mono (by decide)) rfl (aa (aO (vd 0) rfl) af)))))),?_⟩
  lk
  refine⟨_,_,_,hx,T.cl_Away,T.n_Away_hand,_,jo _ _,y,d,hs,ps,h,rfl,hW,_,rfl,?_⟩
  rw[a1,if_pos rfl]
  exact⟨_,_,_,hx,T.cl_Away,T.n_Away_days,_,lY _ _,s',rfl,a2,a3,q⟩
inductive xN(K:PySem.W.Frag)(ζ:Cs)(vs:List V)(H:Hp)(Q:VK)(E:XK):Prop
 | mk (x dx y:Addr) (h m d:Int) (hs:List Int) (ps:List Pst) (_:vs=[.ref x,.ref y]) (_:H x=some (.ins ζ.i dx (hm h m))) (_:aX ζ.a H y d hs ps) (_:Q (.bl (dU hs h&&isM m)) H):xN K ζ vs H Q E
theorem FN:ax ["self","ward"] ["self","ward"] (ao AB):=⟨rfl,rfl,rfl,k!,rfl,k!,k!⟩
theorem Ev{ζ:Cs}{f:Addr}{fd:FuncData}(F:Fun K "fits" "Nights.fits" AB f fd)(T:Txt K mg ζ)(zb_:Cal P w K mg base "has_hand" ["ward","hand"] 1 (zn_ K ζ))(zl_:Cal P w K mg base "is_many" ["many"] 1 (zP_ K ζ)):aT P w K mg base CX0 2 f fd ["self","ward"] (xN K ζ):=by
 refine F.ok FN (fun vs H Q E h=>?_) (fun cdv A outer s H vs Q E hr h=>?_)
 ·cases h;subst_vars;rfl
 ·obtain⟨x,dx,y,h,m,d,hs,ps,rfl,hx,hW,q⟩:=h
  refine⟨_,(ak (aB (bP (aw zb_ (hr.mono (by decide)) rfl (aa (vd 1) (aa (aO (vd 0) rfl) af))) (ck (aw zl_ (hr.mono (by decide)) rfl (aa (aO (vd 0) rfl) af)))))),?_⟩
  lk
  refine⟨_,_,_,hx,T.cl_Nights,T.n_Nights_hand,_,kL _ _,y,d,hs,ps,h,rfl,hW,_,rfl,?_⟩
  cases e:dU hs h
  ·rw[if_neg yl]
   rw[e] at q
   exact q
  ·rw[if_pos rfl]
   rw[e] at q
   exact⟨_,_,_,hx,T.cl_Nights,T.n_Nights_many,_,iC _ _,m,rfl,q⟩
inductive xn(K:PySem.W.Frag)(ζ:Cs)(vs:List V)(H:Hp)(Q:VK)(E:XK):Prop
 | mk (x dx y:Addr) (h l m d:Int) (hs:List Int) (ps:List Pst) (_:vs=[.ref x,.ref y]) (_:H x=some (.ins ζ.f dx (qf3 h l m))) (_:aX ζ.a H y d hs ps) (_:dU hs h=true) (_:0≤l) (_:l≤100000000000) (_:-1≤m) (_:m≤100000000000) (_:Q (.bl true) H):xn K ζ vs H Q E
theorem EL:ax ["self","ward"] ["self","ward"] (ao y3):=⟨rfl,rfl,rfl,k!,rfl,k!,k!⟩
theorem Dx{ζ:Cs}{f:Addr}{fd:FuncData}(F:Fun K "fits" "Hours.fits" y3 f fd)(T:Txt K mg ζ)(zb_:Cal P w K mg base "has_hand" ["ward","hand"] 1 (zn_ K ζ)):aT P w K mg base CX0 2 f fd ["self","ward"] (xn K ζ):=by
 refine F.ok EL (fun vs H Q E h=>?_) (fun cdv A outer s H vs Q E hr h=>?_)
 ·cases h;subst_vars;rfl
 ·obtain⟨x,dx,y,h,l,m,d,hs,ps,rfl,hx,hW,a1,a2,a3,m0,m1,q⟩:=h
  refine⟨_,(ak (aB (bP (aw zb_ (hr.mono (by decide)) rfl (aa (vd 1) (aa (aO (vd 0) rfl) af))) (bP (bV b9 b9 ag (aO (vd 0) rfl) (av dj ag ag)) (ck (bV b9 b9 (cG b7 ag) (aO (vd 0) rfl) (av dj ag ag))))))),?_⟩
  lk
  refine⟨_,_,_,hx,T.cl_Hours,T.n_Hours_hand,_,jm _ _ _,y,d,hs,ps,h,rfl,hW,_,rfl,?_⟩
  rw[a1,if_pos rfl]
  refine⟨_,_,_,hx,T.cl_Hours,T.n_Hours_least,_,jV _ _ _,l,rfl,?_⟩
  rw[if_pos a2]
  refine⟨⟨by decide,by decide,by decide⟩,l,rfl,?_⟩
  rw[show(10:Int) ^ Int.toNat 11=100000000000 by decide,if_pos a3]
  refine⟨_,_,_,hx,T.cl_Hours,T.n_Hours_most,_,lT _ _ _,m,rfl,?_⟩
  rw[if_pos m0]
  refine⟨⟨by decide,by decide,by decide⟩,m,rfl,?_⟩
  rw[decide_eq_true m1]
  exact q
inductive AW(K:PySem.W.Frag)(ζ:Cs)(vs:List V)(H:Hp)(Q:VK)(E:XK):Prop
 | mk (y:Addr) (d:Int) (hs:List Int) (ps:List Pst) (h o:Int) (_:vs=[.ref y,.int h,.int o]) (_:aX ζ.a H y d hs ps) (_:dU hs h=true) (_:dU hs o=true) (_:h≠o) (_:Q (.bl true) H):AW K ζ vs H Q E
theorem D8:ax ["ward","hand","other"] ["ward","hand","other"] (ao zP):=⟨rfl,rfl,rfl,k!,rfl,k!,k!⟩
theorem Fi{ζ:Cs}{f:Addr}{fd:FuncData}(F:Fun K "are_two_hands" "are_two_hands" zP f fd)(T:Txt K mg ζ)(zb_:Cal P w K mg base "has_hand" ["ward","hand"] 1 (zn_ K ζ)):aT P w K mg base CX0 2 f fd ["ward","hand","other"] (AW K ζ):=by
 refine F.ok D8 (fun vs H Q E h=>?_) (fun cdv A outer s H vs Q E hr h=>?_)
 ·cases h;subst_vars;rfl
 ·obtain⟨y,d,hs,ps,h,o,rfl,hW,k1,k2,k3,q⟩:=h
  refine⟨_,(ak (aB (bP (aw zb_ (hr.mono (by decide)) rfl (aa (vd 0) (aa (vd 1) af))) (bP (aw zb_ (hr.mono (by decide)) rfl (aa (vd 0) (aa (vd 2) af))) (ck (b8 mJ (vd 1) (vd 2) (aH _))))))),?_⟩
  lk
  refine⟨y,d,hs,ps,h,rfl,hW,_,rfl,?_⟩
  rw[k1,if_pos rfl]
  refine⟨y,d,hs,ps,o,rfl,hW,_,rfl,?_⟩
  rw[k2,if_pos rfl,decide_eq_false k3]
  exact q
inductive y8(K:PySem.W.Frag)(ζ:Cs)(vs:List V)(H:Hp)(Q:VK)(E:XK):Prop
 | mk (x dx y:Addr) (h o d:Int) (hs:List Int) (ps:List Pst) (_:vs=[.ref x,.ref y]) (_:H x=some (.ins ζ.h dx (ho h o))) (_:aX ζ.a H y d hs ps) (_:dU hs h=true) (_:dU hs o=true) (_:h≠o) (_:Q (.bl true) H):y8 K ζ vs H Q E
theorem Ff:ax ["self","ward"] ["self","ward"] (ao zt):=⟨rfl,rfl,rfl,k!,rfl,k!,k!⟩
theorem CJ{ζ:Cs}{f:Addr}{fd:FuncData}(F:Fun K "fits" "Apart.fits" zt f fd)(T:Txt K mg ζ)(zax_:Cal P w K mg base "are_two_hands" ["ward","hand","other"] 2 (AW K ζ)):aT P w K mg base CX0 3 f fd ["self","ward"] (y8 K ζ):=by
 refine F.ok Ff (fun vs H Q E h=>?_) (fun cdv A outer s H vs Q E hr h=>?_)
 ·cases h;subst_vars;rfl
 ·obtain⟨x,dx,y,h,o,d,hs,ps,rfl,hx,hW,k1,k2,k3,q⟩:=h
  refine⟨_,(ak (aB (aw zax_ (hr.mono (by decide)) rfl (aa (vd 1) (aa (aO (vd 0) rfl) (aa (aO (vd 0) rfl) af)))))),?_⟩
  lk
  exact⟨_,_,_,hx,T.cl_Apart,T.n_Apart_hand,_,kg _ _,_,_,_,hx,T.cl_Apart,T.n_Apart_other,_,lQ _ _,y,d,hs,ps,h,o,rfl,hW,k1,k2,k3,q⟩
inductive xO(K:PySem.W.Frag)(ζ:Cs)(vs:List V)(H:Hp)(Q:VK)(E:XK):Prop
 | mk (y a:Addr) (d:Int) (hs:List Int) (ps:List Pst) (us:List V) (ss:List Sp4) (_:vs=[.ref y,.ref a]) (_:aX ζ.a H y d hs ps) (_:H a=some (.lst us)) (_:lb (bO ζ.c ζ.d ζ.e ζ.g ζ.i ζ.f ζ.h) ps.length H us ss) (_:(∀s∈ss,gT d hs.length ps.length s)) (_:ss.length≤120) (_:∀H',az H H'→Q .non H'):xO K ζ vs H Q E
theorem xu:ax ["ward","rules","number","rule"] ["ward","rules"] (ao wX):=⟨rfl,rfl,rfl,k!,rfl,k!,k!⟩
theorem Ed{ζ:Cs}{f:Addr}{fd:FuncData}(F:Fun K "need_rules" "need_rules" wX f fd)(T:Txt K mg ζ)(zcN_:c5 P w K mg base ζ.c "fits" ["self","ward"] 2 (zA K ζ))(zcO_:c5 P w K mg base ζ.d "fits" ["self","ward"] 2 (AC K ζ))(zcc_:c5 P w K mg base ζ.e "fits" ["self","ward"] 2 (zK K ζ))(zcP_:c5 P w K mg base ζ.g "fits" ["self","ward"] 2 (Ai K ζ))(zbn_:c5 P w K mg base ζ.i "fits" ["self","ward"] 2 (xN K ζ))(zcd_:c5 P w K mg base ζ.f "fits" ["self","ward"] 2 (xn K ζ))(zce_:c5 P w K mg base ζ.h "fits" ["self","ward"] 3 (y8 K ζ)):aT P w K mg base CX0 4 f fd ["ward","rules"] (xO K ζ):=by
 refine F.ok xu (fun vs H Q E h=>?_) (fun cdv A outer s H vs Q E hr h=>?_)
 ·cases h;subst_vars;rfl
 ·obtain⟨y,a,d,hs,ps,us,ss,rfl,hW,ha,hU,ok,h120,q⟩:=h
  refine⟨_,(ak (bi PassesOwn.never rfl (bT rfl T.enumerate (vd 1)) (bR (n:=2) rfl (aA (am (i:=2) xu.nd rfl (Or.inl rfl)) (aA (am (i:=3) xu.nd rfl (Or.inl rfl)) bt)))
   (ak (bb (PW.pt (ie (aG o5 (vd 2) (eT rfl T.g_MOST_RULES) (aH _)) (eC (eJ (cw (cK (bx zcN_ (hr.mono (by decide)) (vd 3) (aa (vd 0) af)) (cK (bx zcO_ (hr.mono (by decide)) (vd 3) (aa (vd 0) af)) (cK (bx zcc_ (hr.mono (by decide)) (vd 3) (aa (vd 0) af)) (cK (bx zcP_ (hr.mono (by decide)) (vd 3) (aa (vd 0) af)) (cK (bx zbn_ (hr.mono (by decide)) (vd 3) (aa (vd 0) af)) (cK (bx zcd_ (hr.mono (by decide)) (vd 3) (aa (vd 0) af)) (bx zce_ (hr.mono (by decide)) (vd 3) (aa (vd 0) af))))))))))))) (ak fT) aN)))),?_⟩
  have hul:=Paired.length hU
  refine bv fun B1 b1=>?_
  lk
  refine⟨⟨_,SqL.of ha⟩,bS (xs:=us) (fun i σ H'=>az H H'∧∃v2 v3,σ=[some (.ref y),some (.ref a),v2,v3]) ⟨az.refl _,none,none,rfl⟩ (fun i σ H' _ hh=>SqL.of (hh.1 _ _ ha)) ?_ ?_⟩
  ·rintro i v σ H' tt hx ⟨g,v2,v3,rfl⟩ htt
   obtain⟨s,hsp,x,dx,rfl,qx⟩:=Paired.get' hU hx
   have okS:=ok s (yc hsp)
   have hi:=(List.getElem?_eq_some_iff.mp hsp).1
   rw[yna]
   have gt:=ah htt (.tup [.int (i:Int),.ref x])
   have et:=ae (H:=H') (a:=tt) (o:=.tup [.int (i:Int),.ref x])
   generalize upd H' tt (.tup [.int (i:Int),.ref x])=H2 at gt et ⊢
   have gg:=g.trans gt
   have qx2:=gg _ _ qx
   have hW2:=hW.mono gg
   lk
   refine⟨_,SqT.of et,rfl,_,_,rfl,_,_,rfl,rfl,?_⟩
   rw[b1]
   lk
   rw[if_neg (by lia)]
   have k6:=okS.k6
   obtain hk | hk | hk | hk | hk | hk | hk:s.k=0∨s.k=1∨s.k=2∨s.k=3∨s.k=4∨s.k=5∨s.k=6:=by lia
   ·have e:=vR hk qx2
    obtain⟨a1,a2,a3,a4⟩:=okS.w hk
    have p1:=yA s.b (b:=(ps.length:Int)) (by have:=okS.P0;lia)
    have p2:=yw s.b (b:=(ps.length:Int)) (by have:=okS.P0;lia)
    exact .inl ⟨_,_,e,rM _ _ _ k! k! k!,x,dx,y,_,_,_,d,hs,ps,rfl,e,hW2,a1,a2,by lia,by lia,qi a3 a4,true,rfl,by rw[if_neg (by decide)];exact gg⟩
   ·have e:=vN hk qx2
    obtain⟨a1,a2⟩:=okS.h (by lia)
    obtain⟨b1,b2⟩:=okS.b (by lia)
    obtain⟨c1,c2⟩:=okS.c1 hk
    exact .inr (.inl ⟨_,_,e,k9 _ _ _ k! k! k!,x,dx,y,_,_,_,d,hs,ps,rfl,e,hW2,fQ a1 a2,b1,b2,c1,c2,true,rfl,by rw[if_neg (by decide)];exact gg⟩)
   ·have e:=wl hk qx2
    obtain⟨a1,a2⟩:=okS.h (by lia)
    obtain⟨b1,b2⟩:=okS.b (by lia)
    obtain⟨c1,c2⟩:=okS.c2 hk
    exact .inr (.inr (.inl ⟨_,_,e,k9 _ _ _ k! k! k!,x,dx,y,_,_,_,d,hs,ps,rfl,e,hW2,fQ a1 a2,b1,b2,c1,c2,true,rfl,by rw[if_neg (by decide)];exact gg⟩))
   ·have e:=vM hk qx2
    obtain⟨a1,a2⟩:=okS.h (by lia)
    obtain⟨b1,b2⟩:=okS.b (by lia)
    exact .inr (.inr (.inr (.inl ⟨_,_,e,sY _ _ k! k!,x,dx,y,_,_,d,hs,ps,rfl,e,hW2,fQ a1 a2,b1,b2,true,rfl,by rw[if_neg (by decide)];exact gg⟩)))
   ·have e:=wx hk qx2
    obtain⟨a1,a2⟩:=okS.h (by lia)
    obtain⟨c1,c2⟩:=okS.c4 hk
    exact .inr (.inr (.inr (.inr (.inl ⟨_,_,e,wE _ _ k! k!,x,dx,y,_,_,d,hs,ps,rfl,e,hW2,_,rfl,by rw[fQ a1 a2,qi c1 c2,if_neg (by decide)];exact gg⟩))))
   ·have e:=wC hk qx2
    obtain⟨a1,a2⟩:=okS.h (by lia)
    obtain⟨b1,b2,c1,c2⟩:=okS.q hk
    exact .inr (.inr (.inr (.inr (.inr (.inl ⟨_,_,e,ku _ _ _ k! k! k!,x,dx,y,_,_,_,d,hs,ps,rfl,e,hW2,fQ a1 a2,b1,b2,c1,c2,true,rfl,by rw[if_neg (by decide)];exact gg⟩)))))
   ·have e:=wo hk qx2
    obtain⟨a1,a2⟩:=okS.h (by lia)
    obtain⟨b1,b2,b3⟩:=okS.o hk
    exact .inr (.inr (.inr (.inr (.inr (.inr ⟨_,_,e,vQ _ _ k! k!,x,dx,y,_,_,d,hs,ps,rfl,e,hW2,fQ a1 a2,fQ b1 b2,b3,true,rfl,by rw[if_neg (by decide)];exact gg⟩)))))
  rintro σ H' ⟨g,v2,v3,rfl⟩
  lk
  exact q H' g
inductive xQ(K:PySem.W.Frag)(ζ:Cs)(vs:List V)(H:Hp)(Q:VK)(E:XK):Prop
 | mk (x dx y:Addr) (dd p m d:Int) (hs:List Int) (ps:List Pst) (_:vs=[.ref x,.ref y]) (_:H x=some (.ins ζ.c dx (wf3 dd p m))) (_:aX ζ.a H y d hs ps) (_:hs.length≤8) (_:∀r us H',az H H'→H r=none→H' r=some (.lst us)→dG H' us [⟨ca hs.length dd p,m⟩]→Q (.ref r) H'):xQ K ζ vs H Q E
theorem Cp:ax ["self","ward","parts"] ["self","ward"] (ao Am):=⟨rfl,rfl,rfl,k!,rfl,k!,k!⟩
theorem FV{ζ:Cs}{f:Addr}{fd:FuncData}(F:Fun K "lines" "Want.lines" Am f fd)(T:Txt K mg ζ) :aT P w K mg base CX0 1 f fd ["self","ward"] (xQ K ζ):=by
 refine F.ok Cp (fun vs H Q E h=>?_) (fun cdv A outer s H vs Q E hr h=>?_)
 ·cases h;subst_vars;rfl
 ·obtain⟨x,dx,y,dd,p,m,d,hs,ps,rfl,hx,hW,hl8,q⟩:=h
  refine⟨_,(aj (c7 (i:=2) Cp.nd rfl rfl (own:=["hand"]) (fnames:=["self"]) (fr:=[0]) (N':=["hand","self"]) ⟨rfl,rfl,rfl,rfl,rfl,rfl,rfl⟩ rfl (aZ rfl T.range (aa (aF (aL (K:=K) rfl) (by rfl) T.len PySem.boot_len (aa (aO (vd 1) rfl) af)) af)) (fun s0 H0 fp0 C0=>⟨(am (i:=0) (by show(["hand","self"]:List Str).Nodup;decide +kernel) rfl (Or.inl rfl)),bB,(aK (aa (vd 0) (aa (fo (K:=K) rfl (vd 1) rfl) (aa (fo (K:=K) rfl (vd 1) rfl) (aa ag af)))))⟩))
  (ak (aB (aW (aa (aK (aa (aY (bW (K:=K) rfl) (by rfl) T.tuple PyProof.Rows.boot_tuple (aa (vd 2) af)) (aa (aO (vd 0) rfl) af))) af))))),?_⟩
  obtain⟨dy,ha,pa,ts0,h1,h2,h3,h4⟩:=hW.ex
  refine ap fun U1 u1=>?_
  lk
  refine⟨_,_,_,h1,T.cl_Ward,T.n_Ward_hands,_,eV _ _ _,_,rfl,_,.inr (SqT.of h2),by lia,by rw[ya];omega,fun D hD=>aV (fun i σ H'=>∃(us:List V) (v0:Option V),az H H'∧H' D=some (.lst us)∧cI H' us (ca i dd p)∧σ=[v0,some (.ref x)]) ⟨[],none,ah hD _,ae,.nil,rfl⟩ ?_ ?_⟩
  ·rintro i σ H' hi ⟨us,v0,g,e,hP,rfl⟩
   rw[ya,ye] at hi
   rw[show(0+(i:Int))=i by lia]
   have hul:=Paired.length hP
   rw[show(ca i dd p).length=i by unfold ca;rw[ya,yx]] at hul
   lk
   refine⟨_,_,_,g _ _ hx,T.cl_Want,T.n_Want_day,_,kM _ _ _,_,_,_,g _ _ hx,T.cl_Want,T.n_Want_post,_,lv _ _ _,by decide,fun t ht=>?_⟩
   have gt:=ah ht (.tup [.int (i:Int),.int dd,.int p,.int 1])
   refine⟨us,gt _ _ e,aE (by lia),aJ hD (g.trans gt) _,_,ae,?_⟩
   rw[fS]
   exact cI.mono (bc (gt _ _ e)) (aU (hP.mono (aC gt)) ⟨t,rfl,ae⟩)
  rintro σ H1 ⟨us,v0,g1,e1,hP1,rfl⟩
  lk
  rw[ya,ye] at hP1
  rw[u1];clear u1
  lk
  refine⟨_,SqL.of e1,fun l hl=>?_⟩
  have g2:=ah hl (.tup us)
  refine⟨_,_,_,(g1.trans g2) _ _ hx,T.cl_Want,T.n_Want_many,_,lw _ _ _,by decide,fun u hu=>⟨by decide,fun r hr=>?_⟩⟩
  have g3:=ah hu (.tup [.ref l,.int m])
  have g4:=ah hr (.lst [.ref u])
  exact q r _ _ (g1.trans (g2.trans (g3.trans g4))) ((g1.trans (g2.trans g3)).free hr) ae (.cons ⟨u,l,us,rfl,g4 _ _ ae,(g3.trans g4) _ _ ae,hP1.mono (aC (g2.trans (g3.trans g4)))⟩ .nil)
inductive zK_(K:PySem.W.Frag)(ζ:Cs)(vs:List V)(H:Hp)(Q:VK)(E:XK):Prop
 | mk (a b:Addr) (h n:Int) (ds ps:List Int) (_:vs=[.int h,.ref a,.ref b,.int n]) (_:H a=some (.lst (ds.map V.int))) (_:H b=some (.lst (ps.map V.int))) (_:ds.length≤100) (_:ps.length≤8) (_:∀t ts H',az H H'→H' t=some (.tup ts)→cI H' ts (spr h ds ps n)→Q (.ref t) H'):zK_ K ζ vs H Q E
theorem zH:ax ["hand","days","posts","number","parts","day"] ["hand","days","posts","number"] (ao wY):=⟨rfl,rfl,rfl,k!,rfl,k!,k!⟩
theorem Ga{ζ:Cs}{f:Addr}{fd:FuncData}(F:Fun K "spread" "spread" wY f fd)(T:Txt K mg ζ) :aT P w K mg base CX0 1 f fd ["hand","days","posts","number"] (zK_ K ζ):=by
 refine F.ok zH (fun vs H Q E h=>?_) (fun cdv A outer s H vs Q E hr h=>?_)
 ·cases h;subst_vars;rfl
 ·obtain⟨a,b,h,n,ds,ps,rfl,hA,hB,hd,hp,q⟩:=h
  refine⟨_,(aj (aD (i:=4) zH.nd rfl (Or.inl rfl) (aW af))
  (aj (bi PassesOwn.never rfl (bf (vd 1)) (am (i:=5) zH.nd rfl (Or.inr rfl))
   (ak (bJ (cH PySem.F.plainAttrs_list PySem.F.slot_list_extend PySem.F.type_list_extend gX (vd 4) (aa (bj (own:=["post"]) (fnames:=["hand","number","day"]) (fr:=[0,3,5]) (N':=["post","hand","number","day"]) ⟨rfl,rfl,rfl,rfl,rfl,rfl,rfl⟩ rfl (bf (vd 2)) (fun s0 H0 fp0 C0=>⟨(am (i:=0) (by show(["post","hand","number","day"]:List Str).Nodup;decide +kernel) rfl (Or.inl rfl)),bB,(aK (aa (vd 1) (aa (vd 3) (aa (vd 0) (aa (vd 2) af)))))⟩)) af)))))
  (ak (aB (aY (bW (K:=K) rfl) (by rfl) T.tuple PyProof.Rows.boot_tuple (aa (vd 4) af)))))),?_⟩
  refine ap fun U1 u1=>?_
  lk
  refine⟨yq _,fun p hp0=>?_⟩
  have g0:=ah hp0 (.lst [])
  rw[u1];clear u1
  refine ap fun U1 u1=>bv fun B1 b1=>?_
  lk
  refine⟨⟨_,SqL.of (g0 _ _ hA)⟩,aQ (xs:=ds.map V.int) (fun i σ H'=>∃(ts:List V) (v:Option V),az H H'∧H' p=some (.lst ts)∧cI H' ts (spr h (ds.take i) ps n)∧σ=[some (.int h),some (.ref a),some (.ref b),some (.int n),some (.ref p),v]) ⟨[],none,g0,ae,.nil,rfl⟩ (fun i σ H' _ ⟨_,_,g,_⟩=>SqL.of (g _ _ hA)) ?_ ?_⟩
  ·rintro i x σ H' hx ⟨ts,v,g,e,hP,rfl⟩
   rw[yj] at hx
   obtain⟨d,hd',rfl⟩:=Option.map_eq_some_iff.mp hx
   have hi:i<ds.length:=(List.getElem?_eq_some_iff.mp hd').1
   have htl:=Paired.length hP
   rw[b6,yr] at htl
   have hb1:min i ds.length*ps.length≤100*8:=yba (by lia) hp
   rw[b1]
   lk
   refine⟨.inl ⟨rfl,_,SqL.of e⟩,⟨_,SqL.of (g _ _ hB)⟩,fun D hD=>aQ (xs:=ps.map V.int) (fun j σ H2=>∃(us:List V) (v2:Option V),az H' H2∧H2 D=some (.lst us)∧cI H2 us ((ps.take j).map fun q=>⟨h,d,q,n⟩)∧σ=[v2,some (.int h),some (.int n),some (.int d)]) ⟨[],none,ah hD _,ae,.nil,rfl⟩ (fun j σ H2 _ ⟨_,_,g2,_⟩=>SqL.of (g2 _ _ (g _ _ hB))) ?_ ?_⟩
   ·rintro j y σ H2 hy ⟨us,v2,g2,e2,hU,rfl⟩
    rw[yj] at hy
    obtain⟨z,hz,rfl⟩:=Option.map_eq_some_iff.mp hy
    have hul:=Paired.length hU
    rw[ya,yr] at hul
    lk
    refine⟨by decide,fun t ht=>?_⟩
    have g3:=ah ht (.tup [.int h,.int d,.int z,.int n])
    refine⟨us,g3 _ _ e2,aE (by lia),aJ hD (g2.trans g3) _,us++[.ref t],ae,?_⟩
    rw[aP hz,yg]
    exact cI.mono (bc (g3 _ _ e2)) (aU (hU.mono (aC g3)) ⟨t,rfl,ae⟩)
   ·rintro σ H2 ⟨us,v2,g2,e2,hU,rfl⟩
    lk
    rw[ywa (by rw[ya];exact yd _)] at hU
    have hul:=Paired.length hU
    rw[ya] at hul
    have e':=g2 _ _ e
    lk
    refine⟨ts,e',us,e2,dC (by lia),aJ hp0 (g.trans g2) _,ts++us,ae,?_⟩
    rw[aP hd',jq]
    exact cI.mono (bc e') (fP (hP.mono (aC g2)) hU)
  ·rintro σ H' ⟨ts,v,g,e,hP,rfl⟩
   lk
   rw[u1];clear u1
   lk
   refine⟨_,SqL.of e,fun l hl=>?_⟩
   rw[ya,yo] at hP
   exact q l ts _ (g.trans (ah hl _)) ae (hP.mono (aC (ah hl _)))
inductive uA(K:PySem.W.Frag)(ζ:Cs)(vs:List V)(H:Hp)(Q:VK)(E:XK):Prop
 | mk (h n:Int) (_:vs=[.int h,.int n]) (_:Q (.bl (cv h n)) H):uA K ζ vs H Q E
theorem D4:ax ["have","need"] ["have","need"] (ao zG):=⟨rfl,rfl,rfl,k!,rfl,k!,k!⟩
theorem DG{ζ:Cs}{f:Addr}{fd:FuncData}(F:Fun K "covers" "covers" zG f fd)(T:Txt K mg ζ) :aT P w K mg base CX0 1 f fd ["have","need"] (uA K ζ):=by
 refine F.ok D4 (fun vs H Q E h=>?_) (fun cdv A outer s H vs Q E hr h=>?_)
 ·cases h;subst_vars;rfl
 ·obtain⟨h,n,rfl,q⟩:=h
  refine⟨_,(ak (aB (b8 bH (av gP (vd 0) (vd 1)) (vd 1) (aH _)))),?_⟩
  lk
  exact q
inductive Bg(K:PySem.W.Frag)(ζ:Cs)(vs:List V)(H:Hp)(Q:VK)(E:XK):Prop
 | mk (n:Int) (_:vs=[.int n]) (_:0≤n) (_:n<2 ^ 40) (_:∀r H',New H H' r ((pl n).map V.int)→Q (.ref r) H'):Bg K ζ vs H Q E
theorem Ds:ax ["number"] ["number"] (ao xq):=⟨rfl,rfl,rfl,k!,rfl,k!,k!⟩
theorem EF{ζ:Cs}{f:Addr}{fd:FuncData}(F:Fun K "members" "members" xq f fd)(T:Txt K mg ζ)(zaN_:Cal P w K mg base "covers" ["have","need"] 1 (uA K ζ)):aT P w K mg base CX0 2 f fd ["number"] (Bg K ζ):=by
 refine F.ok Ds (fun vs H Q E h=>?_) (fun cdv A outer s H vs Q E hr h=>?_)
 ·cases h;subst_vars;rfl
 ·obtain⟨n,rfl,n0,n1,q⟩:=h
  refine⟨_,(ak (aB (bj (own:=["place"]) (fnames:=["number"]) (fr:=[0]) (N':=["place","number"]) ⟨rfl,rfl,rfl,rfl,rfl,rfl,rfl⟩ rfl (aZ rfl T.range (aa (mY PySem.F.plainAttrs_int PySem.F.slot_int_bit_length PySem.F.type_int_bit_length pZ (vd 0)) af)) (fun s0 H0 fp0 C0=>⟨(am (i:=0) (by show(["place","number"]:List Str).Nodup;decide +kernel) rfl (Or.inl rfl)),(cf (cw (aw zaN_ (hr.mono (by decide)) rfl (aa (vd 1) (aa (av je ag (vd 0)) af))))),(vd 0)⟩)))),?_⟩
  lk
  obtain⟨b1,b2⟩:=tV n0 n1
  refine⟨rfl,by lia,by omega,fun D hD=>aV (fun i σ H'=>(∃v,σ=[v,some (.int n)])∧H'=upd H D (.lst (((plN n.toNat i).map fun j:Nat=>(j:Int)).map V.int))) ⟨⟨none,rfl⟩,rfl⟩ ?_ ?_⟩
  ·rintro i σ H' hi ⟨⟨v,rfl⟩,rfl⟩
   lk
   have et:(0+(i:Int)).toNat=i:=by lia
   rw[et]
   refine⟨⟨by lia,by lia,by decide⟩,n,_,rfl,?_⟩
   rw[show cv n (1*2 ^ i)=n.toNat.testBit i from vH n0 i]
   lk
   have hs:=rk n.toNat i
   split
   ·rename_i hb
    rw[if_pos hb] at hs
    have hl:=vb n.toNat i
    refine⟨_,ae,by simp only[ya];exact aE (by lia),?_⟩
    rw[bK,hs]
    simp
   ·rename_i hb
    rw[if_neg hb,yy] at hs
    first | (rw[hs];done) | (rw[hs];exact⟨⟨_,rfl⟩,rfl⟩)
  ·rintro σ H' ⟨_,rfl⟩
   lk
   refine q D _ ⟨ah hD _,hD,?_⟩
   rw[ae,ye,lN b2 b1]
   rfl
inductive Ba(K:PySem.W.Frag)(ζ:Cs)(vs:List V)(H:Hp)(Q:VK)(E:XK):Prop
 | mk (m:Int) (_:vs=[.int m]) (_:0≤m) (_:m≤1000) (_:Q (.int (2 ^ m.toNat-1)) H):Ba K ζ vs H Q E
theorem Fq:ax ["many"] ["many"] (ao xC):=⟨rfl,rfl,rfl,k!,rfl,k!,k!⟩
theorem ER{ζ:Cs}{f:Addr}{fd:FuncData}(F:Fun K "first_days" "first_days" xC f fd)(T:Txt K mg ζ) :aT P w K mg base CX0 1 f fd ["many"] (Ba K ζ):=by
 refine F.ok Fq (fun vs H Q E h=>?_) (fun cdv A outer s H vs Q E hr h=>?_)
 ·cases h;subst_vars;rfl
 ·obtain⟨m,rfl,m0,m1,q⟩:=h
  refine⟨_,(ak (aB (av b4 (av je ag (vd 0)) ag))),?_⟩
  lk
  refine⟨⟨m0,by lia,by decide⟩,?_⟩
  rw[Int.one_mul]
  exact q
inductive sW(K:PySem.W.Frag)(ζ:Cs)(vs:List V)(H:Hp)(Q:VK)(E:XK):Prop
 | mk (x:Addr) (d:Int) (hs:List Int) (ps:List Pst) (s:Nat) (_:vs=[.ref x,.int s]) (_:aX ζ.a H x d hs ps) (_:0≤d) (_:d≤31) (_:s<2147483648) (_:∀r H',New H H' r ((dsN s d.toNat).map V.int)→Q (.ref r) H'):sW K ζ vs H Q E
theorem ES:ax ["ward","days"] ["ward","days"] (ao AN):=⟨rfl,rfl,rfl,k!,rfl,k!,k!⟩
theorem Eu{ζ:Cs}{f:Addr}{fd:FuncData}(F:Fun K "days_of" "days_of" AN f fd)(T:Txt K mg ζ)(zdC_:Cal P w K mg base "members" ["number"] 2 (Bg K ζ))(zcf_:Cal P w K mg base "first_days" ["many"] 1 (Ba K ζ)):aT P w K mg base CX0 3 f fd ["ward","days"] (sW K ζ):=by
 refine F.ok ES (fun vs H Q E h=>?_) (fun cdv A outer s H vs Q E hr h=>?_)
 ·cases h;subst_vars;rfl
 ·obtain⟨x,d,hs,ps,s,rfl,hW,d0,d31,s1,q⟩:=h
  refine⟨_,(ak (aB (aw zdC_ (hr.mono (by decide)) rfl (aa (av gP (vd 1) (aw zcf_ (hr.mono (by decide)) rfl (aa (aO (vd 0) rfl) af))) af)))),?_⟩
  obtain⟨dx,ha,pa,ts,h1,h2,h3,h4⟩:=hW.ex
  lk
  refine⟨_,_,_,h1,T.cl_Ward,T.n_Ward_days,_,cN _ _ _,d,rfl,d0,by lia,?_⟩
  lk
  rw[sx]
  exact⟨_,rfl,yY _,p5 s1,fun r H' hN=>q r H' (by rw[← zY (days:=s) (d:=d.toNat) (by lia)];exact hN)⟩
inductive zp_(K:PySem.W.Frag)(ζ:Cs)(vs:List V)(H:Hp)(Q:VK)(E:XK):Prop
 | mk (x:Addr) (d:Int) (hs:List Int) (ps:List Pst) (_:vs=[.ref x]) (_:aX ζ.a H x d hs ps) (_:ps.length≤6) (_:∀r H',New H H' r ((bL ps).map V.int)→Q (.ref r) H'):zp_ K ζ vs H Q E
theorem Dd:ax ["ward"] ["ward"] (ao xt):=⟨rfl,rfl,rfl,k!,rfl,k!,k!⟩
theorem Fn{ζ:Cs}{f:Addr}{fd:FuncData}(F:Fun K "all_posts" "all_posts" xt f fd)(T:Txt K mg ζ) :aT P w K mg base CX0 1 f fd ["ward"] (zp_ K ζ):=by
 refine F.ok Dd (fun vs H Q E h=>?_) (fun cdv A outer s H vs Q E hr h=>?_)
 ·cases h;subst_vars;rfl
 ·obtain⟨x,d,hs,ps,rfl,hW,hl,q⟩:=h
  refine⟨_,(ak (aB (aY (eS rfl) (by rfl) T.list PyProof.Rows.boot_list (aa (aY dM (by rfl) T.range PyProof.Rows.boot_range (aa ag (aa (av aR (aF (aL (K:=K) rfl) (by rfl) T.len PySem.boot_len (aa (aO (vd 0) rfl) af)) ag) af))) af)))),?_⟩
  obtain⟨dx,ha,pa,ts,h1,h2,h3,h4⟩:=hW.ex
  have hlen:=h4.len
  lk
  refine⟨_,_,_,h1,T.cl_Ward,T.n_Ward_posts,_,eZ _ _ _,_,rfl,_,.inr (SqT.of h3),fun p hp=>?_⟩
  refine⟨_,_,ae,by decide,by decide,by lia,by lia,fun l hl=>?_⟩
  have e:((ts.length:Int)+1-1).toNat=ps.length:=by lia
  rw[e]
  exact q l _ ⟨(ah hp _).trans (ah hl _),(ah hp _).free hl,ae⟩
inductive wL(K:PySem.W.Frag)(ζ:Cs)(vs:List V)(H:Hp)(Q:VK)(E:XK):Prop
 | mk (x dx y:Addr) (h m d:Int) (s:Nat) (hs:List Int) (ps:List Pst) (_:vs=[.ref x,.ref y]) (_:H x=some (.ins ζ.d dx (mf3 h s m))) (_:aX ζ.a H y d hs ps) (_:Ok d hs ps) (_:s<2147483648) (_:∀r us H',az H H'→H r=none→H' r=some (.lst us)→dG H' us [⟨spr h (dsN s d.toNat) (bL ps) (-1),-m⟩]→Q (.ref r) H'):wL K ζ vs H Q E
theorem DP:ax ["self","ward"] ["self","ward"] (ao xh):=⟨rfl,rfl,rfl,k!,rfl,k!,k!⟩
theorem DJ{ζ:Cs}{f:Addr}{fd:FuncData}(F:Fun K "lines" "Most.lines" xh f fd)(T:Txt K mg ζ)(zk_:Cal P w K mg base "spread" ["hand","days","posts","number"] 1 (zK_ K ζ))(zw_:Cal P w K mg base "days_of" ["ward","days"] 3 (sW K ζ))(zc_:Cal P w K mg base "all_posts" ["ward"] 1 (zp_ K ζ)):aT P w K mg base CX0 4 f fd ["self","ward"] (wL K ζ):=by
 refine F.ok DP (fun vs H Q E h=>?_) (fun cdv A outer s H vs Q E hr h=>?_)
 ·cases h;subst_vars;rfl
 ·obtain⟨x,dx,y,h,m,d,s',hs,ps,rfl,hx,hW,ok,s1,q⟩:=h
  refine⟨_,(ak (aB (aW (aa (aK (aa (aw zk_ (hr.mono (by decide)) rfl (aa (aO (vd 0) rfl) (aa (aw zw_ (hr.mono (by decide)) rfl (aa (vd 1) (aa (aO (vd 0) rfl) af))) (aa (aw zc_ (hr.mono (by decide)) rfl (aa (vd 1) af)) (aa (cG b7 ag) af))))) (aa (cG b7 (aO (vd 0) rfl)) af))) af)))),?_⟩
  have od1:=ok.d1
  have od2:=ok.d2
  have opl:=ok.pl
  have hdl:=iy s' d.toNat
  have hal:=cB ps
  lk
  refine⟨_,_,_,hx,T.cl_Most,T.n_Most_hand,_,dq _ _ _,_,_,_,hx,T.cl_Most,T.n_Most_days,_,fX _ _ _,y,d,hs,ps,s',rfl,hW,by lia,by omega,s1,fun r0 H1 ⟨g1,f1,e1⟩=>?_⟩
  refine⟨y,d,hs,ps,rfl,hW.mono g1,opl,fun b2 H2 ⟨g2,f2,e2⟩=>?_⟩
  refine⟨r0,b2,h,(-1),dsN s' d.toNat,bL ps,rfl,g2 _ _ e1,e2,by lia,by lia,fun t ts H3 g3 et hts=>?_⟩
  have gA:=g1.trans (g2.trans g3)
  refine⟨_,_,_,gA _ _ hx,T.cl_Most,T.n_Most_many,_,eP _ _ _,?_⟩
  refine⟨m,rfl,by decide,fun u hu=>⟨by decide,fun r hr=>?_⟩⟩
  have g4:=ah hu (.tup [.ref t,.int (-m)])
  have g5:=ah hr (.lst [.ref u])
  exact q r _ _ (gA.trans (g4.trans g5)) ((gA.trans g4).free hr) ae (.cons ⟨u,t,ts,rfl,g5 _ _ ae,(g4.trans g5) _ _ et,hts.mono (aC (g4.trans g5))⟩ .nil)
inductive Bo(K:PySem.W.Frag)(ζ:Cs)(vs:List V)(H:Hp)(Q:VK)(E:XK):Prop
 | mk (x dx y:Addr) (h m d:Int) (s:Nat) (hs:List Int) (ps:List Pst) (_:vs=[.ref x,.ref y]) (_:H x=some (.ins ζ.e dx (mf3 h s m))) (_:aX ζ.a H y d hs ps) (_:Ok d hs ps) (_:s<2147483648) (_:∀r us H',az H H'→H r=none→H' r=some (.lst us)→dG H' us [⟨spr h (dsN s d.toNat) (bL ps) (1),m⟩]→Q (.ref r) H'):Bo K ζ vs H Q E
theorem FA:ax ["self","ward"] ["self","ward"] (ao xl):=⟨rfl,rfl,rfl,k!,rfl,k!,k!⟩
theorem EA{ζ:Cs}{f:Addr}{fd:FuncData}(F:Fun K "lines" "Least.lines" xl f fd)(T:Txt K mg ζ)(zk_:Cal P w K mg base "spread" ["hand","days","posts","number"] 1 (zK_ K ζ))(zw_:Cal P w K mg base "days_of" ["ward","days"] 3 (sW K ζ))(zc_:Cal P w K mg base "all_posts" ["ward"] 1 (zp_ K ζ)):aT P w K mg base CX0 4 f fd ["self","ward"] (Bo K ζ):=by
 refine F.ok FA (fun vs H Q E h=>?_) (fun cdv A outer s H vs Q E hr h=>?_)
 ·cases h;subst_vars;rfl
 ·obtain⟨x,dx,y,h,m,d,s',hs,ps,rfl,hx,hW,ok,s1,q⟩:=h
  refine⟨_,(ak (aB (aW (aa (aK (aa (aw zk_ (hr.mono (by decide)) rfl (aa (aO (vd 0) rfl) (aa (aw zw_ (hr.mono (by decide)) rfl (aa (vd 1) (aa (aO (vd 0) rfl) af))) (aa (aw zc_ (hr.mono (by decide)) rfl (aa (vd 1) af)) (aa ag af))))) (aa (aO (vd 0) rfl) af))) af)))),?_⟩
  have od1:=ok.d1
  have od2:=ok.d2
  have opl:=ok.pl
  have hdl:=iy s' d.toNat
  have hal:=cB ps
  lk
  refine⟨_,_,_,hx,T.cl_Least,T.n_Least_hand,_,dq _ _ _,_,_,_,hx,T.cl_Least,T.n_Least_days,_,fX _ _ _,y,d,hs,ps,s',rfl,hW,by lia,by omega,s1,fun r0 H1 ⟨g1,f1,e1⟩=>?_⟩
  refine⟨y,d,hs,ps,rfl,hW.mono g1,opl,fun b2 H2 ⟨g2,f2,e2⟩=>?_⟩
  refine⟨r0,b2,h,(1),dsN s' d.toNat,bL ps,rfl,g2 _ _ e1,e2,by lia,by lia,fun t ts H3 g3 et hts=>?_⟩
  have gA:=g1.trans (g2.trans g3)
  refine⟨_,_,_,gA _ _ hx,T.cl_Least,T.n_Least_many,_,eP _ _ _,?_⟩
  refine⟨by decide,fun u hu=>⟨by decide,fun r hr=>?_⟩⟩
  have g4:=ah hu (.tup [.ref t,.int (m)])
  have g5:=ah hr (.lst [.ref u])
  exact q r _ _ (gA.trans (g4.trans g5)) ((gA.trans g4).free hr) ae (.cons ⟨u,t,ts,rfl,g5 _ _ ae,(g4.trans g5) _ _ et,hts.mono (aC (g4.trans g5))⟩ .nil)
inductive AQ(K:PySem.W.Frag)(ζ:Cs)(vs:List V)(H:Hp)(Q:VK)(E:XK):Prop
 | mk (x dx y:Addr) (h d:Int) (s:Nat) (hs:List Int) (ps:List Pst) (_:vs=[.ref x,.ref y]) (_:H x=some (.ins ζ.g dx (af2 h s))) (_:aX ζ.a H y d hs ps) (_:Ok d hs ps) (_:s<2147483648) (_:∀r us H',az H H'→H r=none→H' r=some (.lst us)→dG H' us (ia h ps s d.toNat)→Q (.ref r) H'):AQ K ζ vs H Q E
theorem Dv:ax ["self","ward"] ["self","ward"] (ao xj):=⟨rfl,rfl,rfl,k!,rfl,k!,k!⟩
theorem Ep{ζ:Cs}{f:Addr}{fd:FuncData}(F:Fun K "lines" "Away.lines" xj f fd)(T:Txt K mg ζ)(zk_:Cal P w K mg base "spread" ["hand","days","posts","number"] 1 (zK_ K ζ))(zw_:Cal P w K mg base "days_of" ["ward","days"] 3 (sW K ζ))(zc_:Cal P w K mg base "all_posts" ["ward"] 1 (zp_ K ζ)):aT P w K mg base CX0 4 f fd ["self","ward"] (AQ K ζ):=by
 refine F.ok Dv (fun vs H Q E h=>?_) (fun cdv A outer s H vs Q E hr h=>?_)
 ·cases h;subst_vars;rfl
 ·obtain⟨x,dx,y,h,d,s',hs,ps,rfl,hx,hW,ok,s1,q⟩:=h
  refine⟨_,(ak (aB (bj (own:=["day"]) (fnames:=["self","ward"]) (fr:=[0,1]) (N':=["day","self","ward"]) ⟨rfl,rfl,rfl,rfl,rfl,rfl,rfl⟩ rfl (bf (aw zw_ (hr.mono (by decide)) rfl (aa (vd 1) (aa (aO (vd 0) rfl) af)))) (fun s0 H0 fp0 C0=>⟨(am (i:=0) (by show(["day","self","ward"]:List Str).Nodup;decide +kernel) rfl (Or.inl rfl)),bB,(aK (aa (aw zk_ (hr.mono (by decide)) rfl (aa (fo (K:=K) rfl (vd 1) rfl) (aa (aW (aa (vd 0) af)) (aa (aw zc_ (hr.mono (by decide)) rfl (aa (vd 2) af)) (aa (cG b7 ag) af))))) (aa ag af)))⟩)))),?_⟩
  have od1:=ok.d1
  have od2:=ok.d2
  have opl:=ok.pl
  have hdl:(dsN s' d.toNat).length≤31:=by
   unfold dsN
   rw[ya]
   exact yu (yK _ _) (by rw[yx];lia)
  lk
  refine⟨_,_,_,hx,T.cl_Away,T.n_Away_days,_,lY _ _,y,d,hs,ps,s',rfl,hW,by lia,by omega,s1,fun r0 H1 ⟨g1,f1,e1⟩=>?_⟩
  lk
  refine⟨⟨_,SqL.of e1⟩,fun D hD=>aQ (xs:=(dsN s' d.toNat).map V.int) (fun i σ H'=>∃(us:List V) (v0:Option V),az H1 H'∧H' D=some (.lst us)∧dG H' us (((dsN s' d.toNat).take i).map fun x=>⟨spr h [x] (bL ps) (-1),0⟩)∧σ=[v0,some (.ref x),some (.ref y)]) ⟨[],none,ah hD _,ae,.nil,rfl⟩ (fun i σ H' _ ⟨_,_,g,_⟩=>SqL.of (g _ _ e1)) ?_ ?_⟩
  ·rintro i v σ H' hv ⟨us,v0,g,e,hL,rfl⟩
   obtain⟨z,hz,rfl⟩:=fk hv
   have hul:=Paired.length hL
   rw[ya,yr] at hul
   have ga:=g1.trans g
   lk
   refine⟨_,_,_,ga _ _ hx,T.cl_Away,T.n_Away_hand,_,jo _ _,by decide,fun l hl=>?_⟩
   have gl:=ah hl (.lst [.int z])
   refine⟨y,d,hs,ps,rfl,hW.mono (ga.trans gl),opl,fun b2 H2 ⟨g2,f2,e2⟩=>?_⟩
   have hal:=cB ps
   refine⟨l,b2,h,-1,[z],bL ps,rfl,g2 _ _ ae,e2,by simp,by lia,fun t ts H3 g3 et hts=>⟨by decide,fun u hu=>?_⟩⟩
   have gu:=ah hu (.tup [.ref t,.int 0])
   have g5:=(gl.trans (g2.trans g3)).trans gu
   refine⟨us,g5 _ _ e,aE (by lia),aJ hD (g.trans g5) _,_,ae,?_⟩
   rw[aP hz,yg]
   exact dG.mono (bc (g5 _ _ e)) (aU (hL.mono (aC g5)) ⟨u,t,ts,rfl,ae,gu _ _ et,hts.mono (aC gu)⟩)
  rintro σ H' ⟨us,v0,g,e,hL,rfl⟩
  lk
  rw[ya,yo] at hL
  exact q D us H' (g1.trans g) (g1.free hD) e hL
inductive za(K_:PySem.W.Frag)(ζ:Cs)(vs:List V)(H:Hp)(Q:VK)(E:XK):Prop
 | mk (x:Addr) (d:Int) (hs:List Int) (ps:List Pst) (j:Nat) (_:vs=[.ref x,.int j]) (_:aX ζ.a H x d hs ps) (_:j≤ps.length) (_:Q (.bl (ngt ps j)) H):za K_ ζ vs H Q E
theorem Ej:ax ["self","post"] ["self","post"] (ao xX):=⟨rfl,rfl,rfl,k!,rfl,k!,k!⟩
theorem Fw{ζ:Cs}{f:Addr}{fd:FuncData}(F:Fun K "is_night" "Ward.is_night" xX f fd)(T:Txt K mg ζ) :aT P w K mg base CX0 1 f fd ["self","post"] (za K ζ):=by
 refine F.ok Ej (fun vs H Q E h=>?_) (fun cdv A outer s H vs Q E hr h=>?_)
 ·cases h;subst_vars;rfl
 ·obtain⟨x,d,hs,ps,j,rfl,hW,hj,q⟩:=h
  refine⟨_,(ak (aB (bP (b8 mJ (vd 1) ag (aH _)) (ck (b8 bH (aM ba (aM ba (aO (vd 0) rfl) (av b4 (vd 1) ag) (fun _ _=>rfl)) ag (fun _ _=>rfl)) ag (aH _)))))),?_⟩
  obtain⟨dx,ha,pa,ts,h1,h2,h3,h4⟩:=hW.ex
  lk
  cases j with
  | zero =>
   rw[if_neg (by simp)]
   exact q
  | succ k =>
   rw[if_pos (by omega)]
   have hk:k<ps.length:=by lia
   obtain⟨t,e1,ht⟩:=h4.get (yb hk)
   refine⟨_,_,_,h1,T.cl_Ward,T.n_Ward_posts,_,eZ _ _ _,_,rfl,_,SqT.of h3,_,by rw[show((k+1:Nat):Int)-1=(k:Nat) by lia];exact bg e1,_,rfl,_,SqT.of ht,_,rfl,rfl,?_⟩
   have e:ngt ps (k+1)=decide (ps[k].2.2=1):=by simp[ngt,hk]
   rw[e] at q
   rw[r6]
   exact q
inductive zU_(K:PySem.W.Frag)(ζ:Cs)(vs:List V)(H:Hp)(Q:VK)(E:XK):Prop
 | mk (x:Addr) (d:Int) (hs:List Int) (ps:List Pst) (_:vs=[.ref x]) (_:aX ζ.a H x d hs ps) (_:ps.length≤6) (_:∀r H',New H H' r ((np ps).map V.int)→Q (.ref r) H'):zU_ K ζ vs H Q E
theorem EY:ax ["ward"] ["ward"] (ao wV):=⟨rfl,rfl,rfl,k!,rfl,k!,k!⟩
theorem Ee{ζ:Cs}{f:Addr}{fd:FuncData}(F:Fun K "posts_by_night" "posts_by_night" wV f fd)(T:Txt K mg ζ)(zc_:Cal P w K mg base "all_posts" ["ward"] 1 (zp_ K ζ))(zaz_:c5 P w K mg base ζ.a "is_night" ["self","post"] 1 (za K ζ)):aT P w K mg base CX0 2 f fd ["ward"] (zU_ K ζ):=by
 refine F.ok EY (fun vs H Q E h=>?_) (fun cdv A outer s H vs Q E hr h=>?_)
 ·cases h;subst_vars;rfl
 ·obtain⟨x,d,hs,ps,rfl,hW,hl,q⟩:=h
  refine⟨_,(ak (aB (bj (own:=["post"]) (fnames:=["ward"]) (fr:=[0]) (N':=["post","ward"]) ⟨rfl,rfl,rfl,rfl,rfl,rfl,rfl⟩ rfl (bf (aw zc_ (hr.mono (by decide)) rfl (aa (vd 0) af))) (fun s0 H0 fp0 C0=>⟨(am (i:=0) (by show(["post","ward"]:List Str).Nodup;decide +kernel) rfl (Or.inl rfl)),(cf (cw (bx zaz_ (hr.mono (by decide)) (vd 1) (aa (vd 0) af)))),(vd 0)⟩)))),?_⟩
  lk
  refine⟨x,d,hs,ps,rfl,hW,hl,fun r H1 ⟨g1,f1,e1⟩=>?_⟩
  have hal:(bL ps).length=ps.length:=by unfold bL bh;simp
  lk
  refine⟨⟨_,SqL.of e1⟩,fun D hD=>aQ (xs:=(bL ps).map V.int) (fun i σ H'=>az H1 H'∧H' D=some (.lst ((npI ps i).map V.int))∧∃v,σ=[v,some (.ref x)]) ⟨ah hD _,ae,none,rfl⟩ (fun i σ H' _ hh=>SqL.of (hh.1 _ _ e1)) ?_ ?_⟩
  ·rintro i v σ H' hx ⟨g,e,v1,rfl⟩
   have hi:i<ps.length:=by
    have:=(List.getElem?_eq_some_iff.mp hx).1
    rw[ya] at this
    lia
   have ev:v=.int ((i+1:Nat):Int):=by
    rw[yj,bL,bh,yj,yVa hi] at hx
    cases hx
    show V.int (1+(i:Int))=V.int ((i+1:Nat):Int)
    congr 1
    lia
   subst ev
   have ga:=g1.trans g
   obtain⟨dx,ha,pa,ts,h1,h2,h3,h4⟩:=(hW.mono ga).ex
   have hnl:=oS ps i
   lk
   refine⟨_,_,h1,qO _ _ _ k! k! k!,x,d,hs,ps,i+1,rfl,hW.mono ga,by lia,_,rfl,?_⟩
   rw[qM]
   split
   ·rename_i hn
    refine⟨_,e,aE (by rw[ya];lia),aJ hD g _,?_⟩
    rw[ae,yg,show(1+(i:Int))=((i+1:Nat):Int) by lia]
    rfl
   ·rename_i hn
    rw[yy]
    exact⟨g,e⟩
  ·rintro σ H' ⟨g,e,v1,rfl⟩
   lk
   rw[ya,hal] at e
   exact q D H' ⟨g1.trans g,g1.free hD,e⟩
inductive wH(K:PySem.W.Frag)(ζ:Cs)(vs:List V)(H:Hp)(Q:VK)(E:XK):Prop
 | mk (x dx y:Addr) (h m d:Int) (hs:List Int) (ps:List Pst) (_:vs=[.ref x,.ref y]) (_:H x=some (.ins ζ.i dx (hm h m))) (_:aX ζ.a H y d hs ps) (_:Ok d hs ps) (_:0≤m) (_:m≤99) (_:∀r us H',az H H'→H r=none→H' r=some (.lst us)→dG H' us (cg h m d (np ps))→Q (.ref r) H'):wH K ζ vs H Q E
theorem zx_:ax ["self","ward","nights","laid","first","row"] ["self","ward"] (ao Ap):=⟨rfl,rfl,rfl,k!,rfl,k!,k!⟩
theorem FZ{ζ:Cs}{f:Addr}{fd:FuncData}(F:Fun K "lines" "Nights.lines" Ap f fd)(T:Txt K mg ζ)(zaj_:Cal P w K mg base "posts_by_night" ["ward"] 2 (zU_ K ζ))(zk_:Cal P w K mg base "spread" ["hand","days","posts","number"] 1 (zK_ K ζ)):aT P w K mg base CX0 3 f fd ["self","ward"] (wH K ζ):=by
 refine F.ok zx_ (fun vs H Q E h=>?_) (fun cdv A outer s H vs Q E hr h=>?_)
 ·cases h;subst_vars;rfl
 ·obtain⟨x,dx,y,h,m,d,hs,ps,rfl,hx,hW,ok,m0,m9,q⟩:=h
  refine⟨_,(aj (aD (i:=2) zx_.nd rfl (Or.inl rfl) (aw zaj_ (hr.mono (by decide)) rfl (aa (vd 1) af)))
  (aj (aD (i:=3) zx_.nd rfl (Or.inl rfl) (aW af))
  (aj (bi PassesOwn.never rfl (aZ rfl T.range (aa (av b4 (aO (vd 1) rfl) (aO (vd 0) rfl)) af)) (am (i:=4) zx_.nd rfl (Or.inl rfl))
   (aj (aD (i:=5) zx_.nd rfl (Or.inl rfl) (aY (eS rfl) (by rfl) T.list PyProof.Rows.boot_list (aa (aY dM (by rfl) T.range PyProof.Rows.boot_range (aa (vd 4) (aa (av aR (av aR (vd 4) (aO (vd 0) rfl)) ag) af))) af)))
    (ak (bJ (cH PySem.F.plainAttrs_list PySem.F.slot_list_append PySem.F.type_list_append bI (vd 3) (aa (aK (aa (aw zk_ (hr.mono (by decide)) rfl (aa (aO (vd 0) rfl) (aa (vd 5) (aa (vd 2) (aa (cG b7 ag) af))))) (aa (cG b7 (aO (vd 0) rfl)) af))) af))))))
  (ak (aB (vd 3)))))),?_⟩
  refine ap fun U1 u1=>?_
  lk
  refine⟨y,d,hs,ps,rfl,hW,ok.pl,fun b H1 ⟨g1,f1,e1⟩=>?_⟩
  rw[u1];clear u1
  refine ap fun U1 u1=>?_
  lk
  refine⟨yq _,fun p hp=>?_⟩
  rw[u1];clear u1
  refine ap fun U1 u1=>bv fun B1 b1=>?_
  lk
  have g2:=ah hp (.lst [])
  have ga:=g1.trans g2
  have od1:=ok.d1
  have od2:=ok.d2
  obtain⟨dy,ha,pa,ts0,h1,h2,h3,h4⟩:=hW.ex
  refine⟨_,_,_,ga _ _ h1,T.cl_Ward,T.n_Ward_days,_,cN _ _ _,_,_,_,ga _ _ hx,T.cl_Nights,T.n_Nights_many,_,iC _ _,d,rfl,m,rfl,by lia,by lia,aV (fun i σ H'=>∃(us:List V) (v4 v5:Option V),az H H'∧H' b=some (.lst ((np ps).map V.int))∧H' p=some (.lst us)∧dG H' us ((cg h m d (np ps)).take i)∧σ=[some (.ref x),some (.ref y),some (.ref b),some (.ref p),v4,v5]) ⟨[],none,none,ga,g2 _ _ e1,ae,.nil,rfl⟩ ?_ ?_⟩
  ·rintro i σ H' hi ⟨us,v4,v5,g,eb,ep,hL,rfl⟩
   rw[show(0+(i:Int))=i by lia]
   have hul:=Paired.length hL
   have hnl:(np ps).length≤6:=yu (oS _ _) ok.pl
   rw[yr] at hul
   rw[b1]
   refine ap fun U2 u2=>?_
   lk
   refine⟨_,_,_,g _ _ hx,T.cl_Nights,T.n_Nights_many,_,iC _ _,m,rfl,fun q0 hq0=>⟨_,_,ae,by lia,by lia,by lia,by lia,fun l hl=>?_⟩⟩
   rw[show((i:Int)+m+1-i).toNat=(m+1).toNat by congr 1;lia]
   have g3:=(ah hq0 (.rng i ((i:Int)+m+1))).trans (ah hl (.lst ((bh i (m+1).toNat).map V.int)))
   have gl:(bh i (m+1).toNat).length=(m+1).toNat:=by unfold bh;rw[ya,yx]
   rw[u2];clear u2
   lk
   refine⟨.inl ⟨rfl,_,SqL.of (g3 _ _ ep)⟩,_,_,_,g3 _ _ (g _ _ hx),T.cl_Nights,T.n_Nights_hand,_,kL _ _,l,b,h,-1,_,_,rfl,ae,g3 _ _ eb,by lia,by lia,fun t ts H4 g4 et hts=>?_⟩
   have g5:=g3.trans g4
   refine⟨_,_,_,g5 _ _ (g _ _ hx),T.cl_Nights,T.n_Nights_many,_,iC _ _,m,rfl,by decide,fun u hu=>?_⟩
   have g6:=ah hu (.tup [.ref t,.int (-m)])
   have g7:=g5.trans g6
   have nb:b≠p:=fun z=>by rw[z] at e1;rw[e1] at hp;cases hp
   refine⟨us,g7 _ _ ep,aE (by lia),aJ (g1.free hp) (g.trans g7) _,by rw[au nb];exact g7 _ _ eb,us++[.ref u],ae,?_⟩
   have eL:(cg h m d (np ps))[i]? = some ⟨spr h (bh i (m+1).toNat) (np ps) (-1),-m⟩:=by
    unfold cg
    rw[yj,yVa hi]
    rfl
   rw[aP eL]
   exact dG.mono (bc (g7 _ _ ep)) (aU (hL.mono (aC g7)) ⟨u,t,ts,rfl,ae,g6 _ _ et,hts.mono (aC g6)⟩)
  ·rintro σ H' ⟨us,v4,v5,g,eb,ep,hL,rfl⟩
   lk
   rw[u1];clear u1
   lk
   rw[ywa (by unfold cg;rw[ya,yx];exact yd _)] at hL
   exact q p us H' g (g1.free hp) ep hL
inductive Bp(K_:PySem.W.Frag)(ζ:Cs)(vs:List V)(H:Hp)(Q:VK)(E:XK):Prop
 | mk (x:Addr) (d:Int) (hs:List Int) (ps:List Pst) (j:Nat) (_:vs=[.ref x,.int j]) (_:aX ζ.a H x d hs ps) (_:j≤ps.length) (_:Q (.int (hrs ps j)) H):Bp K_ ζ vs H Q E
theorem Dg:ax ["self","post"] ["self","post"] (ao xT):=⟨rfl,rfl,rfl,k!,rfl,k!,k!⟩
theorem DW{ζ:Cs}{f:Addr}{fd:FuncData}(F:Fun K "hours" "Ward.hours" xT f fd)(T:Txt K mg ζ) :aT P w K mg base CX0 1 f fd ["self","post"] (Bp K ζ):=by
 refine F.ok Dg (fun vs H Q E h=>?_) (fun cdv A outer s H vs Q E hr h=>?_)
 ·cases h;subst_vars;rfl
 ·obtain⟨x,d,hs,ps,j,rfl,hW,hj,q⟩:=h
  refine⟨_,(aj (bb (aG bH (vd 1) ag (aH _)) (ak (aB ag)) aN)
  (ak (aB (aM ba (aM ba (aO (vd 0) rfl) (av b4 (vd 1) ag) (fun _ _=>rfl)) ag (fun _ _=>rfl))))),?_⟩
  obtain⟨dx,ha,pa,ts,h1,h2,h3,h4⟩:=hW.ex
  lk
  cases j with
  | zero =>
   rw[if_pos (by simp)]
   exact q
  | succ k =>
   rw[if_neg (by omega)]
   have hk:k<ps.length:=by lia
   obtain⟨t,e1,ht⟩:=h4.get (yb hk)
   refine⟨_,_,_,h1,T.cl_Ward,T.n_Ward_posts,_,eZ _ _ _,_,rfl,_,SqT.of h3,_,by rw[show((k+1:Nat):Int)-1=(k:Nat) by lia];exact bg e1,_,rfl,_,SqT.of ht,_,rfl,?_⟩
   have e:hrs ps (k+1)=ps[k].2.1:=by simp[hrs,hk]
   rw[e] at q
   exact q
inductive zV_(K:PySem.W.Frag)(ζ:Cs)(vs:List V)(H:Hp)(Q:VK)(E:XK):Prop
 | mk (x dx y:Addr) (h l m d n:Int) (hs:List Int) (ps:List Pst) (_:vs=[.ref x,.ref y,.int n]) (_:H x=some (.ins ζ.f dx (qf3 h l m))) (_:aX ζ.a H y d hs ps) (_:Ok d hs ps) (_:-1≤n) (_:n≤1) (_:∀t ts H',az H H'→H' t=some (.tup ts)→cI H' ts (byH h ps d.toNat n)→Q (.ref t) H'):zV_ K ζ vs H Q E
theorem zC_:ax ["self","ward","times","parts","post"] ["self","ward","times"] (ao AJ):=⟨rfl,rfl,rfl,k!,rfl,k!,k!⟩
theorem CU{ζ:Cs}{f:Addr}{fd:FuncData}(F:Fun K "by_hours" "Hours.by_hours" AJ f fd)(T:Txt K mg ζ)(zc_:Cal P w K mg base "all_posts" ["ward"] 1 (zp_ K ζ))(zk_:Cal P w K mg base "spread" ["hand","days","posts","number"] 1 (zK_ K ζ))(zcg_:c5 P w K mg base ζ.a "hours" ["self","post"] 1 (Bp K ζ)):aT P w K mg base CX0 2 f fd ["self","ward","times"] (zV_ K ζ):=by
 refine F.ok zC_ (fun vs H Q E h=>?_) (fun cdv A outer s H vs Q E hr h=>?_)
 ·cases h;subst_vars;rfl
 ·obtain⟨x,dx,y,h,l,m,d,n,hs,ps,rfl,hx,hW,ok,n0,n1,q⟩:=h
  refine⟨_,(aj (aD (i:=3) zC_.nd rfl (Or.inl rfl) (aK af))
  (aj (bi PassesOwn.never rfl (bf (aw zc_ (hr.mono (by decide)) rfl (aa (vd 1) af))) (am (i:=4) zC_.nd rfl (Or.inl rfl))
   (ak (aD (i:=3) zC_.nd rfl (Or.inl rfl) (av vJ (vd 3) (aw zk_ (hr.mono (by decide)) rfl (aa (aO (vd 0) rfl) (aa (aY (c9 rfl) (by rfl) T.list PyProof.Rows.boot_list (aa (aY cW (by rfl) T.range PyProof.Rows.boot_range (aa (aO (vd 1) rfl) af)) af)) (aa (aW (aa (vd 4) af)) (aa (av cj (bx zcg_ (hr.mono (by decide)) (vd 1) (aa (vd 4) af)) (vd 2)) af)))))))))
  (ak (aB (vd 3))))),?_⟩
  have od1:=ok.d1
  have od2:=ok.d2
  have opl:=ok.pl
  have hal:=cB ps
  refine ap fun U1 u1=>?_
  lk
  refine⟨yq _,fun p0 hp0=>?_⟩
  have g0:=ah hp0 (.tup [])
  rw[u1];clear u1
  refine ap fun U1 u1=>bv fun B1 b1=>?_
  lk
  refine⟨y,d,hs,ps,rfl,hW.mono g0,opl,fun b2 H2 ⟨g2,f2,e2⟩=>?_⟩
  have g02:=g0.trans g2
  lk
  refine⟨⟨_,SqL.of e2⟩,aQ (xs:=(bL ps).map V.int) (fun i σ H'=>∃(t:Addr) (ts:List V) (v4:Option V),az H2 H'∧H' t=some (.tup ts)∧cI H' ts (byI h ps d.toNat n i)∧σ=[some (.ref x),some (.ref y),some (.int n),some (.ref t),v4]) ⟨p0,[],none,az.refl _,g2 _ _ ae,.nil,rfl⟩ (fun i σ H' _ ⟨_,_,_,g,_⟩=>SqL.of (g _ _ e2)) ?_ ?_⟩
  ·rintro i v σ H' hv ⟨t,ts,v4,g,e,hP,rfl⟩
   obtain⟨z,hz,rfl⟩:=fk hv
   have hi:i<ps.length:=by have:=(List.getElem?_eq_some_iff.mp hz).1;lia
   have hzv:z=1+(i:Int):=by
    unfold bL bh at hz
    rw[yj,yVa hi] at hz
    exact(yt hz).symm
   subst hzv
   have htl:=Paired.length hP
   rw[oE] at htl
   have hb1:i*d.toNat≤6*31:=yba (by lia) (by lia)
   have ga:=g02.trans g
   rw[b1]
   lk
   have hWa:=hW.mono ga
   obtain⟨dy,ha,pa,ts0,h1,h2,h3,h4⟩:=hWa.ex
   refine⟨_,_,_,ga _ _ hx,T.cl_Hours,T.n_Hours_hand,_,jm _ _ _,_,_,_,h1,T.cl_Ward,T.n_Ward_days,_,cN _ _ _,d,rfl,fun c1 hc1=>⟨d,ae,by lia,by lia,fun c2 hc2=>⟨by decide,fun c3 hc3=>?_⟩⟩⟩
   have w1:=ah hc1 (.rng 0 d)
   have w2:=ah hc2 (.lst (((List.range d.toNat).map fun i:Nat=>(i:Int)).map V.int))
   have w3:=ah hc3 (.lst [.int (1+(i:Int))])
   have w:=w1.trans (w2.trans w3)
   refine⟨_,_,w _ _ h1,qO _ _ _ k! k! k!,y,d,hs,ps,i+1,(by rw[show(1+(i:Int))=((i+1:Nat):Int) by lia]),hWa.mono w,by lia,?_⟩
   have hb:=rh ok.p (i+1)
   refine⟨_,rfl,by unfold vz;omega,c2,c3,h,hrs ps (i+1)*n,bh 0 d.toNat,[1+(i:Int)],rfl,?_,ae,by rw[ee];lia,by simp,fun t2 ts2 H3 g3 e3 P3=>?_⟩
   ·rw[show bh 0 d.toNat=(List.range d.toNat).map fun i:Nat=>(i:Int) by unfold bh;exact yR fun k _=>by lia]
    exact w3 _ _ ae
   have wg:=w.trans g3
   have hl2:=Paired.length P3
   rw[b6,ee] at hl2
   refine⟨t2,rfl,ts,wg _ _ e,ts2,e3,dC (by simp only[yJ,yGb] at hl2;lia),fun t' H4 g4 e4=>⟨g.trans (wg.trans g4),t',_,e4,?_,rfl⟩⟩
   rw[mi]
   refine fP (hP.mono (aC (wg.trans g4))) ?_
   rw[show hrV ps (1+(i:Int))=hrs ps (i+1) by unfold hrV;rw[show(1+(i:Int)).toNat=i+1 by lia]]
   exact P3.mono (aC g4)
  ·rintro σ H' ⟨t,ts,v4,g,e,hP,rfl⟩
   lk
   rw[u1];clear u1
   lk
   rw[ya,cB] at hP
   exact q t ts H' (g02.trans g) e hP
inductive xp(K:PySem.W.Frag)(ζ:Cs)(vs:List V)(H:Hp)(Q:VK)(E:XK):Prop
 | mk (x dx y:Addr) (h l m d:Int) (hs:List Int) (ps:List Pst) (_:vs=[.ref x,.ref y]) (_:H x=some (.ins ζ.f dx (qf3 h l m))) (_:aX ζ.a H y d hs ps) (_:Ok d hs ps) (_:∀r us H',az H H'→H r=none→H' r=some (.lst us)→dG H' us [⟨byH h ps d.toNat 1,l⟩,⟨byH h ps d.toNat (-1),-m⟩]→Q (.ref r) H'):xp K ζ vs H Q E
theorem DC:ax ["self","ward"] ["self","ward"] (ao zx):=⟨rfl,rfl,rfl,k!,rfl,k!,k!⟩
theorem DI{ζ:Cs}{f:Addr}{fd:FuncData}(F:Fun K "lines" "Hours.lines" zx f fd)(T:Txt K mg ζ)(zF_:c5 P w K mg base ζ.f "by_hours" ["self","ward","times"] 2 (zV_ K ζ)):aT P w K mg base CX0 3 f fd ["self","ward"] (xp K ζ):=by
 refine F.ok DC (fun vs H Q E h=>?_) (fun cdv A outer s H vs Q E hr h=>?_)
 ·cases h;subst_vars;rfl
 ·obtain⟨x,dx,y,h,l,m,d,hs,ps,rfl,hx,hW,ok,q⟩:=h
  refine⟨_,(ak (aB (aW (aa (aK (aa (bx zF_ (hr.mono (by decide)) (vd 0) (aa (vd 1) (aa ag af))) (aa (aO (vd 0) rfl) af))) (aa (aK (aa (bx zF_ (hr.mono (by decide)) (vd 0) (aa (vd 1) (aa (cG b7 ag) af))) (aa (cG b7 (aO (vd 0) rfl)) af))) af))))),?_⟩
  lk
  refine⟨_,_,hx,ku _ _ _ k! k! k!,x,dx,y,h,l,m,d,1,hs,ps,rfl,hx,hW,ok,by decide,by decide,fun t1 ts1 H1 g1 e1 P1=>?_⟩
  refine⟨_,_,_,g1 _ _ hx,T.cl_Hours,T.n_Hours_least,_,jV _ _ _,by decide,fun u1 hu1=>?_⟩
  have s1:=ah hu1 (.tup [.ref t1,.int l])
  have gA:=g1.trans s1
  refine⟨_,_,gA _ _ hx,ku _ _ _ k! k! k!,x,dx,y,h,l,m,d,-1,hs,ps,rfl,gA _ _ hx,hW.mono gA,ok,by decide,by decide,fun t2 ts2 H2 g2 e2 P2=>?_⟩
  have gB:=gA.trans g2
  refine⟨_,_,_,gB _ _ hx,T.cl_Hours,T.n_Hours_most,_,lT _ _ _,m,rfl,by decide,fun u2 hu2=>⟨by decide,fun r hr=>?_⟩⟩
  have s2:=ah hu2 (.tup [.ref t2,.int (-m)])
  have s3:=ah hr (.lst [.ref u1,.ref u2])
  have s23:=s2.trans s3
  exact q r _ _ (gB.trans s23) ((gB.trans s2).free hr) ae (.cons ⟨u1,t1,ts1,rfl,(g2.trans s23) _ _ ae,(s1.trans (g2.trans s23)) _ _ e1,P1.mono (aC (s1.trans (g2.trans s23)))⟩ (.cons ⟨u2,t2,ts2,rfl,s3 _ _ ae,s23 _ _ e2,P2.mono (aC s23)⟩ .nil))
inductive wS(K:PySem.W.Frag)(ζ:Cs)(vs:List V)(H:Hp)(Q:VK)(E:XK):Prop
 | mk (t:Addr) (h o n:Int) (q:Int×Int) (_:vs=[.int h,.int o,.ref t,.int n]) (_:H t=some (.tup [.int q.1,.int q.2])) (_:∀u ts H',az H H'→H' u=some (.tup ts)→cI H' ts [⟨h,q.1,q.2,-1⟩,⟨o,q.1,q.2,n⟩]→Q (.ref u) H'):wS K ζ vs H Q E
theorem Fp:ax ["hand","other","place","number"] ["hand","other","place","number"] (ao xJ):=⟨rfl,rfl,rfl,k!,rfl,k!,k!⟩
theorem CK{ζ:Cs}{f:Addr}{fd:FuncData}(F:Fun K "two_parts" "two_parts" xJ f fd)(T:Txt K mg ζ) :aT P w K mg base CX0 1 f fd ["hand","other","place","number"] (wS K ζ):=by
 refine F.ok Fp (fun vs H Q E h=>?_) (fun cdv A outer s H vs Q E hr h=>?_)
 ·cases h;subst_vars;rfl
 ·obtain⟨t,h,o,n,c,rfl,ht,q⟩:=h
  refine⟨_,(ak (aB (aK (aa (aK (aa (vd 0) (aa (aM ba (vd 2) ag (fun _ _=>rfl)) (aa (aM ba (vd 2) ag (fun _ _=>rfl)) (aa (cG b7 ag) af))))) (aa (aK (aa (vd 1) (aa (aM ba (vd 2) ag (fun _ _=>rfl)) (aa (aM ba (vd 2) ag (fun _ _=>rfl)) (aa (vd 3) af))))) af))))),?_⟩
  lk
  refine⟨_,SqT.of ht,.int c.1,rfl,_,SqT.of ht,.int c.2,rfl,by decide,fun p1 hp1=>?_⟩
  have g1:=ah hp1 (.tup [.int h,.int c.1,.int c.2,.int (-1)])
  refine⟨_,SqT.of (g1 _ _ ht),.int c.1,rfl,_,SqT.of (g1 _ _ ht),.int c.2,rfl,by decide,fun p2 hp2=>⟨by decide,fun p3 hp3=>?_⟩⟩
  have g2:=ah hp2 (.tup [.int o,.int c.1,.int c.2,.int n])
  have g3:=ah hp3 (.tup [.ref p1,.ref p2])
  exact q p3 _ _ (g1.trans (g2.trans g3)) ae (.cons ⟨p1,rfl,(g2.trans g3) _ _ ae⟩ (.cons ⟨p2,rfl,g3 _ _ ae⟩ .nil))
inductive zm(K:PySem.W.Frag)(ζ:Cs)(vs:List V)(H:Hp)(Q:VK)(E:XK):Prop
 | mk (y:Addr) (d:Int) (hs:List Int) (ps:List Pst) (_:vs=[.ref y]) (_:aX ζ.a H y d hs ps) (_:Ok d hs ps) (_:∀r ts H',az H H'→H r=none→H' r=some (.lst ts)→cD H' ts (gj ps.length d.toNat)→Q (.ref r) H'):zm K ζ vs H Q E
theorem AG:ax ["ward","told","day"] ["ward"] (ao zZ):=⟨rfl,rfl,rfl,k!,rfl,k!,k!⟩
theorem Fl{ζ:Cs}{f:Addr}{fd:FuncData}(F:Fun K "places" "places" zZ f fd)(T:Txt K mg ζ)(zc_:Cal P w K mg base "all_posts" ["ward"] 1 (zp_ K ζ)):aT P w K mg base CX0 2 f fd ["ward"] (zm K ζ):=by
 refine F.ok AG (fun vs H Q E h=>?_) (fun cdv A outer s H vs Q E hr h=>?_)
 ·cases h;subst_vars;rfl
 ·obtain⟨y,d,hs,ps,rfl,hW,ok,q⟩:=h
  refine⟨_,(aj (aD (i:=1) AG.nd rfl (Or.inl rfl) (aW af))
  (aj (bi PassesOwn.never rfl (aZ rfl T.range (aa (aO (vd 0) rfl) af)) (am (i:=2) AG.nd rfl (Or.inr rfl))
   (ak (bJ (cH PySem.F.plainAttrs_list PySem.F.slot_list_extend PySem.F.type_list_extend gX (vd 1) (aa (bj (own:=["post"]) (fnames:=["day"]) (fr:=[2]) (N':=["post","day"]) ⟨rfl,rfl,rfl,rfl,rfl,rfl,rfl⟩ rfl (bf (aw zc_ (hr.mono (by decide)) rfl (aa (vd 0) af))) (fun s0 H0 fp0 C0=>⟨(am (i:=0) (by show(["post","day"]:List Str).Nodup;decide +kernel) rfl (Or.inl rfl)),bB,(aK (aa (vd 1) (aa (vd 0) af)))⟩)) af)))))
  (ak (aB (vd 1))))),?_⟩
  have od1:=ok.d1
  have od2:=ok.d2
  have opl:=ok.pl
  refine ap fun U1 u1=>?_
  lk
  refine⟨yq _,fun p hp=>?_⟩
  have g0:=ah hp (.lst [])
  rw[u1];clear u1
  obtain⟨dy,ha,pa,ts0,h1,h2,h3,h4⟩:=hW.ex
  refine ap fun U1 u1=>bv fun B1 b1=>?_
  lk
  refine⟨_,_,_,g0 _ _ h1,T.cl_Ward,T.n_Ward_days,_,cN _ _ _,d,rfl,by lia,by lia,aV (fun i σ H'=>∃(ts:List V) (v2:Option V),az H H'∧H' p=some (.lst ts)∧cD H' ts (gj ps.length i)∧σ=[some (.ref y),some (.ref p),v2]) ⟨[],none,g0,ae,.nil,rfl⟩ ?_ ?_⟩
  ·rintro i σ H' hi ⟨ts,v2,g,e,hC,rfl⟩
   rw[show(0+(i:Int))=i by lia]
   have htl:=hC.len
   have hcl:(gj ps.length i).length≤186:=by rw[eU];exact yba (show i≤31 by lia) opl
   rw[b1]
   lk
   refine⟨.inl ⟨rfl,_,SqL.of e⟩,y,d,hs,ps,rfl,hW.mono g,opl,fun l H1 ⟨g1,f1,e1⟩=>?_⟩
   have hal:(bL ps).length=ps.length:=cB ps
   lk
   refine⟨⟨_,SqL.of e1⟩,fun D hD=>aQ (xs:=(bL ps).map V.int) (fun j σ H2=>∃(us:List V) (v0:Option V),az H1 H2∧H2 D=some (.lst us)∧cD H2 us (((bL ps).take j).map fun p=>((i:Int),p))∧σ=[v0,some (.int i)]) ⟨[],none,ah hD _,ae,.nil,rfl⟩ (fun j σ H2 _ ⟨_,_,g,_⟩=>SqL.of (g _ _ e1)) ?_ ?_⟩
   ·rintro j v σ H2 hv ⟨us,v0,g2,e2,hU,rfl⟩
    rw[yj] at hv
    obtain⟨z,hz,rfl⟩:=Option.map_eq_some_iff.mp hv
    have hul:=hU.len
    rw[ya,yr] at hul
    lk
    refine⟨by decide,fun t ht=>?_⟩
    have gt:=ah ht (.tup [.int (i:Int),.int z])
    refine⟨us,gt _ _ e2,aE (by lia),aJ hD (g2.trans gt) _,_,ae,?_⟩
    rw[aP hz,yg]
    exact cD.tmono (bc (gt _ _ e2)) (cD.snoc (hU.mono gt) ⟨t,rfl,ae⟩)
   rintro σ H2 ⟨us,v0,g2,e2,hU,rfl⟩
   lk
   rw[ya,yo] at hU
   have g12:=g1.trans g2
   have hul:=hU.len
   rw[ya] at hul
   lk
   refine⟨ts,g12 _ _ e,us,e2,dC (by lia),aJ hp (g.trans g12) _,_,ae,?_⟩
   rw[gY]
   exact cD.tmono (bc (g12 _ _ e)) (fP (hC.mono g12) hU)
  rintro σ H' ⟨ts,v2,g,e,hC,rfl⟩
  lk
  rw[u1];clear u1
  lk
  exact q p ts H' g hp e hC
inductive A7(K:PySem.W.Frag)(ζ:Cs)(vs:List V)(H:Hp)(Q:VK)(E:XK):Prop
 | mk (x dx y:Addr) (h o d:Int) (hs:List Int) (ps:List Pst) (_:vs=[.ref x,.ref y]) (_:H x=some (.ins ζ.h dx (ho h o))) (_:aX ζ.a H y d hs ps) (_:Ok d hs ps) (_:∀r us H',az H H'→H r=none→H' r=some (.lst us)→dG H' us (c6 h o (-1) (-1) ps.length d.toNat)→Q (.ref r) H'):A7 K ζ vs H Q E
theorem En:ax ["self","ward"] ["self","ward"] (ao AS):=⟨rfl,rfl,rfl,k!,rfl,k!,k!⟩
theorem CZ{ζ:Cs}{f:Addr}{fd:FuncData}(F:Fun K "lines" "Apart.lines" AS f fd)(T:Txt K mg ζ)(zcQ_:Cal P w K mg base "two_parts" ["hand","other","place","number"] 1 (wS K ζ))(zer_:Cal P w K mg base "places" ["ward"] 2 (zm K ζ)):aT P w K mg base CX0 3 f fd ["self","ward"] (A7 K ζ):=by
 refine F.ok En (fun vs H Q E h=>?_) (fun cdv A outer s H vs Q E hr h=>?_)
 ·cases h;subst_vars;rfl
 ·obtain⟨x,dx,y,h,o,d,hs,ps,rfl,hx,hW,ok,q⟩:=h
  refine⟨_,(ak (aB (bj (own:=["place"]) (fnames:=["self"]) (fr:=[0]) (N':=["place","self"]) ⟨rfl,rfl,rfl,rfl,rfl,rfl,rfl⟩ rfl (bf (aw zer_ (hr.mono (by decide)) rfl (aa (vd 1) af))) (fun s0 H0 fp0 C0=>⟨(am (i:=0) (by show(["place","self"]:List Str).Nodup;decide +kernel) rfl (Or.inl rfl)),bB,(aK (aa (aw zcQ_ (hr.mono (by decide)) rfl (aa (fo (K:=K) rfl (vd 1) rfl) (aa (fo (K:=K) rfl (vd 1) rfl) (aa (vd 0) (aa (cG b7 ag) af))))) (aa (cG b7 ag) af)))⟩)))),?_⟩
  have od1:=ok.d1
  have od2:=ok.d2
  have opl:=ok.pl
  have hcl:(gj ps.length d.toNat).length≤186:=by rw[eU];exact yba (show d.toNat≤31 by lia) opl
  lk
  refine⟨y,d,hs,ps,rfl,hW,ok,fun p ts H1 g1 hp e1 C1=>?_⟩
  have htl:=C1.len
  lk
  refine⟨⟨_,SqL.of e1⟩,fun D hD=>aQ (xs:=ts) (fun i σ H'=>∃(us:List V) (v0:Option V),az H1 H'∧H' D=some (.lst us)∧dG H' us (((gj ps.length d.toNat).take i).map (ms h o (-1) (-1)))∧σ=[v0,some (.ref x)]) ⟨[],none,ah hD _,ae,.nil,rfl⟩ (fun i σ H' _ ⟨_,_,g,_⟩=>SqL.of (g _ _ e1)) ?_ ?_⟩
  ·rintro i v σ H' hv ⟨us,v0,g,e,hL,rfl⟩
   obtain⟨qc,hqc,tc,rfl,htc⟩:=C1.get' hv
   have hul:=Paired.length hL
   rw[ya,yr] at hul
   have ga:=g1.trans g
   lk
   refine⟨_,_,_,ga _ _ hx,T.cl_Apart,T.n_Apart_hand,_,kg _ _,_,_,_,ga _ _ hx,T.cl_Apart,T.n_Apart_other,_,lQ _ _,tc,h,o,-1,qc,rfl,g _ _ htc,fun t ts2 H2 g2 et hts=>⟨by decide,fun u hu=>?_⟩⟩
   have gu:=ah hu (.tup [.ref t,.int (-1)])
   have g3:=g2.trans gu
   refine⟨us,g3 _ _ e,aE (by lia),aJ hD (g.trans g3) _,_,ae,?_⟩
   rw[aP hqc,yg]
   exact dG.mono (bc (g3 _ _ e)) (aU (hL.mono (aC g3)) ⟨u,t,ts2,rfl,ae,gu _ _ et,hts.mono (aC gu)⟩)
  rintro σ H' ⟨us,v0,g,e,hL,rfl⟩
  lk
  rw[htl,yo] at hL
  exact q D us H' (g1.trans g) (g1.free hD) e hL
inductive zW_(K:PySem.W.Frag)(ζ:Cs)(vs:List V)(H:Hp)(Q:VK)(E:XK):Prop
 | mk (x dx y a:Addr) (d:Int) (hs:List Int) (ps:List Pst) (us:List V) (ss:List Sp4) (_:vs=[.ref x,.ref y,.ref a]) (_:H x=some (.ins ζ.b dx [])) (_:aX ζ.a H y d hs ps) (_:Ok d hs ps) (_:H a=some (.lst us)) (_:lb (bO ζ.c ζ.d ζ.e ζ.g ζ.i ζ.f ζ.h) ps.length H us ss) (_:(∀s∈ss,gT d hs.length ps.length s)) (_:ss.length≤120) (_:∀H',(∀c o,H c=some o→c≠x→H' c=some o)→cy ζ.b ζ.a H' x d hs ps (ss.map (bG d.toNat hs.length ps))→Q .non H'):zW_ K ζ vs H Q E
theorem FX:ax ["self","ward","rules"] ["self","ward","rules"] (ao Br):=⟨rfl,rfl,rfl,k!,rfl,k!,k!⟩
theorem FQ{ζ:Cs}{f:Addr}{fd:FuncData}(F:Fun K "__init__" "Terms.__init__" Br f fd)(T:Txt K mg ζ)(zci_:Cal P w K mg base "need_rules" ["ward","rules"] 4 (xO K ζ))(zcj_:c5 P w K mg base ζ.c "lines" ["self","ward"] 1 (xQ K ζ))(zck_:c5 P w K mg base ζ.d "lines" ["self","ward"] 4 (wL K ζ))(zbt_:c5 P w K mg base ζ.e "lines" ["self","ward"] 4 (Bo K ζ))(zcl_:c5 P w K mg base ζ.g "lines" ["self","ward"] 4 (AQ K ζ))(zaR_:c5 P w K mg base ζ.i "lines" ["self","ward"] 3 (wH K ζ))(zbu_:c5 P w K mg base ζ.f "lines" ["self","ward"] 3 (xp K ζ))(zbv_:c5 P w K mg base ζ.h "lines" ["self","ward"] 3 (A7 K ζ)):aT P w K mg base CX0 5 f fd ["self","ward","rules"] (zW_ K ζ):=by
 refine F.ok FX (fun vs H Q E h=>?_) (fun cdv A outer s H vs Q E hr h=>?_)
 ·cases h;subst_vars;rfl
 ·obtain⟨x,dx,y,a,d,hs,ps,us,ss,rfl,hx,hW,okw,ha,hU,ok,h120,q⟩:=h
  refine⟨_,(aj (bJ (aw zci_ (hr.mono (by decide)) rfl (aa (vd 1) (aa (vd 2) af))))
  (aj (bN (vd 0) (vd 1) rfl)
  (aj (bN (vd 0) (aY (bW (K:=K) rfl) (by rfl) T.tuple PyProof.Rows.boot_tuple (aa (vd 2) af)) rfl)
  (ak (bN (vd 0) (aY (bW (K:=K) rfl) (by rfl) T.tuple PyProof.Rows.boot_tuple (aa (bj (own:=["rule"]) (fnames:=["ward"]) (fr:=[1]) (N':=["rule","ward"]) ⟨rfl,rfl,rfl,rfl,rfl,rfl,rfl⟩ rfl (bf (vd 2)) (fun s0 H0 fp0 C0=>⟨(am (i:=0) (by show(["rule","ward"]:List Str).Nodup;decide +kernel) rfl (Or.inl rfl)),bB,(aY (bW (K:=K) rfl) (by rfl) T.tuple PyProof.Rows.boot_tuple (aa (cK (bx zcj_ (hr.mono (by decide)) (vd 0) (aa (vd 1) af)) (cK (bx zck_ (hr.mono (by decide)) (vd 0) (aa (vd 1) af)) (cK (bx zbt_ (hr.mono (by decide)) (vd 0) (aa (vd 1) af)) (cK (bx zcl_ (hr.mono (by decide)) (vd 0) (aa (vd 1) af)) (cK (bx zaR_ (hr.mono (by decide)) (vd 0) (aa (vd 1) af)) (cK (bx zbu_ (hr.mono (by decide)) (vd 0) (aa (vd 1) af)) (bx zbv_ (hr.mono (by decide)) (vd 0) (aa (vd 1) af)))))))) af))⟩)) af)) rfl))))),?_⟩
  have hul:=Paired.length hU
  refine ap fun U1 u1=>?_
  lk
  refine⟨y,a,d,hs,ps,us,ss,rfl,hW,ha,hU,ok,h120,fun H1 g1=>?_⟩
  rw[u1];clear u1
  lk
  have hx1:=g1 _ _ hx
  have ha1:=g1 _ _ ha
  have hW1:=hW.mono g1
  have hU1:=lb.mono g1 hU
  have nax:a≠x:=fun z=>by rw[z,hx1] at ha1;cases ha1
  refine⟨_,_,_,hx1,T.cl_Terms,T.n_Terms_ward,by decide,us,SqL.of (by rw[au nax];exact ha1),fun l hl=>?_⟩
  have nlx:l≠x:=fun z=>by rw[z,ae] at hl;cases hl
  have hl1:H1 l=none:=by rw[au nlx] at hl;exact hl
  refine⟨ζ.b,dx,bA "ward" (.ref y) [],by rw[au nlx.symm,ae],T.cl_Terms,T.n_Terms_rules,yE (aS _ _ _) (by show 1<1000;decide),?_⟩
  have fr4:∀c o,H1 c=some o→c≠x→upd (upd (upd H1 x (.ins ζ.b dx (bA "ward" (.ref y) []))) l (.tup us)) x (.ins ζ.b dx (bA "rules" (.ref l) (bA "ward" (.ref y) []))) c=some o:=fun c o e n=>by
   rw[au n,au (ay e hl1),au n]
   exact e
  have ex4:=ae (H:=upd (upd H1 x (.ins ζ.b dx (bA "ward" (.ref y) []))) l (.tup us)) (a:=x) (o:=.ins ζ.b dx (bA "rules" (.ref l) (bA "ward" (.ref y) [])))
  have el4:upd (upd (upd H1 x (.ins ζ.b dx (bA "ward" (.ref y) []))) l (.tup us)) x (.ins ζ.b dx (bA "rules" (.ref l) (bA "ward" (.ref y) []))) l=some (.tup us):=by rw[au nlx,ae]
  generalize upd (upd (upd H1 x (.ins ζ.b dx (bA "ward" (.ref y) []))) l (.tup us)) x (.ins ζ.b dx (bA "rules" (.ref l) (bA "ward" (.ref y) [])))=H4 at fr4 ex4 el4 ⊢
  have nx:∀{c:Addr} {C:Addr} {dd:Addr} {fs:List (Str×V)},H1 c=some (.ins C dd fs)→fs≠[]→c≠x:=fun e n z=>by rw[z,hx1] at e;cases e;exact n rfl
  have ha4:=fr4 _ _ ha1 nax
  refine⟨⟨_,SqL.of ha4⟩,fun D hD=>aQ (xs:=us) (fun i σ H'=>jC H4 D (ss.map (bG d.toNat hs.length ps)) i H'∧∃v0,σ=[v0,some (.ref y)]) ⟨jC.start hD,none,rfl⟩ (fun i σ H' _ hh=>SqL.of (hh.1.same _ _ ha4)) ?_ ?_⟩
  ·rintro i v σ H' hv ⟨sI,v0,rfl⟩
   obtain⟨s,hsp,xr,dr,rfl,qx⟩:=Paired.get' hU1 hv
   have okS:=ok s (yc hsp)
   have hi:=(List.getElem?_eq_some_iff.mp hsp).1
   have qx2:=sI.same _ _ (fr4 _ _ qx (nx qx (pR _ _)))
   have hW2:aX ζ.a H' y d hs ps:=by
    obtain⟨dw,wa,pa,ts,w1,w2,w3,w4⟩:=hW1.ex
    have f5:∀c xs,H1 c=some (.tup xs)→H' c=some (.tup xs):=fun c xs e=>sI.same _ _ (fr4 _ _ e fun z=>by rw[z,hx1] at e;cases e)
    exact⟨dw,wa,pa,ts,sI.same _ _ (fr4 _ _ w1 (nx w1 (fun z=>by have:=cN d wa pa;rw[z] at this;cases this))),f5 _ _ w2,f5 _ _ w3,bQ.tmono f5 w4⟩
   have lr:(ss.map (bG d.toNat hs.length ps))[i]? = some (bG d.toNat hs.length ps s):=by rw[yj,hsp];rfl
   have fin:∀(p:Addr) (ul:List V) (H5:Hp),az H' H5→H5 p=some (.lst ul)→dG H5 ul (bG d.toNat hs.length ps s)→∃q,V.ref p=V.ref q∧∃x4,SqL K H5 q x4∧∀l,H5 l=none→∃xs,upd H5 l (.tup x4) D=some (.lst xs)∧xs.length<sizeLine∧jC H4 D (ss.map (bG d.toNat hs.length ps)) (i+1) (upd (upd H5 l (.tup x4)) D (.lst (xs++[.ref l]))):=fun p ul H5 g5 ep hL=>⟨p,rfl,ul,SqL.of ep,fun l hl=>sI.step hD (by lia) g5 lr hl hL⟩
   have dd:=yN (show 0≤d by have:=okw.d1;lia)
   have k6:=okS.k6
   lk
   obtain hk | hk | hk | hk | hk | hk | hk:s.k=0∨s.k=1∨s.k=2∨s.k=3∨s.k=4∨s.k=5∨s.k=6:=by lia
   ·have e:=vR hk qx2
    rw[mw hk] at fin
    exact .inl ⟨_,_,e,rM _ _ _ k! k! k!,xr,dr,y,_,_,_,d,hs,ps,rfl,e,hW2,okw.hl,fun r ul H5 g5 _ er hL=>fin r ul H5 g5 er hL⟩
   ·have e:=vN hk qx2
    obtain⟨b1,b2⟩:=okS.b (by lia)
    rw[mj hk] at fin
    exact .inr (.inl ⟨_,_,e,k9 _ _ _ k! k! k!,xr,dr,y,_,_,d,s.b.toNat,hs,ps,rfl,by rw[yN b1];exact e,hW2,okw,by lia,fun r ul H5 g5 _ er hL=>fin r ul H5 g5 er hL⟩)
   ·have e:=wl hk qx2
    obtain⟨b1,b2⟩:=okS.b (by lia)
    rw[ln hk] at fin
    exact .inr (.inr (.inl ⟨_,_,e,k9 _ _ _ k! k! k!,xr,dr,y,_,_,d,s.b.toNat,hs,ps,rfl,by rw[yN b1];exact e,hW2,okw,by lia,fun r ul H5 g5 _ er hL=>fin r ul H5 g5 er hL⟩))
   ·have e:=vM hk qx2
    obtain⟨b1,b2⟩:=okS.b (by lia)
    rw[mC hk] at fin
    exact .inr (.inr (.inr (.inl ⟨_,_,e,sY _ _ k! k!,xr,dr,y,_,d,s.b.toNat,hs,ps,rfl,by rw[yN b1];exact e,hW2,okw,by lia,fun r ul H5 g5 _ er hL=>fin r ul H5 g5 er hL⟩)))
   ·have e:=wx hk qx2
    obtain⟨c1,c2⟩:=okS.c4 hk
    rw[jQ hk,dd] at fin
    exact .inr (.inr (.inr (.inr (.inl ⟨_,_,e,wE _ _ k! k!,xr,dr,y,_,_,d,hs,ps,rfl,e,hW2,okw,c1,c2,fun r ul H5 g5 _ er hL=>fin r ul H5 g5 er hL⟩))))
   ·have e:=wC hk qx2
    rw[lL hk] at fin
    exact .inr (.inr (.inr (.inr (.inr (.inl ⟨_,_,e,ku _ _ _ k! k! k!,xr,dr,y,_,_,_,d,hs,ps,rfl,e,hW2,okw,fun r ul H5 g5 _ er hL=>fin r ul H5 g5 er hL⟩)))))
   ·have e:=wo hk qx2
    rw[lR hk] at fin
    exact .inr (.inr (.inr (.inr (.inr (.inr ⟨_,_,e,vQ _ _ k! k!,xr,dr,y,_,_,d,hs,ps,rfl,e,hW2,okw,fun r ul H5 g5 _ er hL=>fin r ul H5 g5 er hL⟩)))))
  rintro σ H6 ⟨sI,v0,rfl⟩
  lk
  obtain⟨vs,g6,e6,hS6⟩:=sI.ex
  rw[hul,ywa (by rw[ya];exact yd _)] at hS6
  refine⟨_,SqL.of e6,fun l2 hl2=>?_⟩
  have gl2:=ah hl2 (.tup vs)
  have g7:=g6.trans gl2
  have nl2x:l2≠x:=(ay (g6 _ _ ex4) hl2).symm
  refine⟨ζ.b,dx,_,g7 _ _ ex4,T.cl_Terms,T.n_Terms_sums,yE (yu (aS _ _ _) (yha (aS _ _ _))) (by show 2<1000;decide),?_⟩
  have f8:∀c o,H1 c=some o→c≠x→upd (upd H6 l2 (.tup vs)) x (.ins ζ.b dx (bA "sums" (.ref l2) (bA "rules" (.ref l) (bA "ward" (.ref y) [])))) c=some o:=fun c o e n=>by
   rw[au n]
   exact g7 _ _ (fr4 _ _ e n)
  have f9:∀c xs,H1 c=some (.tup xs)→upd (upd H6 l2 (.tup vs)) x (.ins ζ.b dx (bA "sums" (.ref l2) (bA "rules" (.ref l) (bA "ward" (.ref y) [])))) c=some (.tup xs):=fun c xs e=>f8 _ _ e fun z=>by rw[z,hx1] at e;cases e
  refine q _ (fun c o e n=>f8 _ _ (g1 _ _ e) n) ⟨dx,y,l,l2,us,vs,ae,?_,by rw[au nlx];exact g7 _ _ el4,by rw[au nl2x];exact ae,?_⟩
  ·obtain⟨dw,wa,pa,ts,w1,w2,w3,w4⟩:=hW1.ex
   exact⟨dw,wa,pa,ts,f8 _ _ w1 (nx w1 (fun z=>by have:=cN d wa pa;rw[z] at this;cases this)),f9 _ _ w2,f9 _ _ w3,bQ.tmono f9 w4⟩
  ·exact iT.tmono (lC fun xs z=>by rw[g7 _ _ ex4] at z;cases z) (iT.tmono (aC gl2) hS6)
inductive Ag(K:PySem.W.Frag)(ζ:Cs)(vs:List V)(H:Hp)(Q:VK)(E:XK):Prop
 | mk (x pd:Addr) (h d D:Int) (hs:List Int) (ps:List Pst) (pns:List (List Key×V)) (_:vs=[.ref x,.ref pd,.int h,.int d]) (_:aX ζ.a H x D hs ps) (_:1≤D) (_:H pd=some (.dT pns)) (_:∀H',az H H'→Q (.bl (dz hs.length D.toNat pns h d)) H'):Ag K ζ vs H Q E
theorem FR:ax ["ward","pins","hand","day"] ["ward","pins","hand","day"] (ao Ac):=⟨rfl,rfl,rfl,k!,rfl,k!,k!⟩
theorem DR{ζ:Cs}{f:Addr}{fd:FuncData}(F:Fun K "is_free" "is_free" Ac f fd)(T:Txt K mg ζ)(zb_:Cal P w K mg base "has_hand" ["ward","hand"] 1 (zn_ K ζ))(zao_:Cal P w K mg base "has_day" ["ward","day"] 1 (uB K ζ)):aT P w K mg base CX0 2 f fd ["ward","pins","hand","day"] (Ag K ζ):=by
 refine F.ok FR (fun vs H Q E h=>?_) (fun cdv A outer s H vs Q E hr h=>?_)
 ·cases h;subst_vars;rfl
 ·obtain⟨x,pd,h,d,D,hs,ps,pns,rfl,hW,D1,ep,q⟩:=h
  refine⟨_,(ak (aB (bP (aw zb_ (hr.mono (by decide)) rfl (aa (vd 0) (aa (vd 2) af))) (bP (aw zao_ (hr.mono (by decide)) rfl (aa (vd 0) (aa (vd 3) af))) (ck (Be (jO (cM hr) (aK (aa (vd 2) (aa (vd 3) af))) (vd 1)))))))),?_⟩
  lk
  refine⟨x,D,hs,ps,h,rfl,hW,_,rfl,?_⟩
  have hq:∀H',az H H'→Q (.bl (dU hs h&&((decide (0≤d)&&decide (d<D)) && !(bD pns (k2 h d)).isSome))) H':=fun H' g=>by
   have e:dz hs.length D.toNat pns h d=(dU hs h&&((decide (0≤d)&&decide (d<D)) && !(bD pns (k2 h d)).isSome)):=by
    unfold dz dU
    rw[yN (by lia)]
   rw[← e]
   exact q H' g
  cases z:dU hs h with
  | false =>
   rw[if_neg (by decide)]
   have h1:=hq H (az.refl _)
   rw[z] at h1
   exact h1
  | true =>
   rw[if_pos rfl]
   refine⟨x,D,hs,ps,d,rfl,hW,_,rfl,?_⟩
   cases z2:(decide (0≤d)&&decide (d<D)) with
   | false =>
    rw[if_neg (by decide)]
    have h1:=hq H (az.refl _)
    rw[z,z2] at h1
    exact h1
   | true =>
    rw[if_pos rfl]
    refine⟨by decide,fun p hp=>?_⟩
    have gp:=ah hp (.tup [.int h,.int d])
    refine⟨_,dS.t (k:=k2 h d) (gp _ _ ep) ae,?_⟩
    have h1:=hq _ gp
    rw[z,z2] at h1
    exact h1
inductive zJ(K:PySem.W.Frag)(ζ:Cs)(vs:List V)(H:Hp)(Q:VK)(E:XK):Prop
 | mk (a:Addr) (us:List V) (ls:List (Lin×Int)) (_:vs=[.ref a]) (_:H a=some (.lst us)) (_:Prs H us ls) (_:(∀l∈ls,-(2 ^ 40)<l.2∧l.2<2 ^ 40)) (_:bq ls≤900) (_:∀t d H',az H H'→H d=none→H' t=some (.tup [.ref d,.int (cE ls)])→H' d=some (.dT (bn ls))→Q (.ref t) H'):zJ K ζ vs H Q E
theorem zs_:ax ["pairs","numbers","bound","line","times","hand","day","post","number"] ["pairs"] (ao zF):=⟨rfl,rfl,rfl,k!,rfl,k!,k!⟩
theorem E2{ζ:Cs}{f:Addr}{fd:FuncData}(F:Fun K "summed" "summed" zF f fd)(T:Txt K mg ζ) :aT P w K mg base CX0 1 f fd ["pairs"] (zJ K ζ):=by
 refine F.ok zs_ (fun vs H Q E h=>?_) (fun cdv A outer s H vs Q E hr h=>?_)
 ·cases h;subst_vars;rfl
 ·obtain⟨a,us,ls,rfl,hA,hP,ht,hn,q⟩:=h
  refine⟨_,(aj (aD (i:=1) zs_.nd rfl (Or.inl rfl) fV)
  (aj (aD (i:=2) zs_.nd rfl (Or.inl rfl) ag)
  (aj (bi PassesOwn.never rfl (bf (vd 0)) (bR (n:=2) rfl (aA (am (i:=3) zs_.nd rfl (Or.inl rfl)) (aA (am (i:=4) zs_.nd rfl (Or.inl rfl)) bt)))
   (aj (aD (i:=2) zs_.nd rfl (Or.inl rfl) (av aR (vd 2) (av cj (aM ba (vd 3) ag (fun _ _=>rfl)) (vd 4))))
    (ak (bi PassesOwn.never rfl (k8 (aM ba (vd 3) ag (fun _ _=>rfl))) (bR (n:=4) rfl (aA (am (i:=5) zs_.nd rfl (Or.inl rfl)) (aA (am (i:=6) zs_.nd rfl (Or.inl rfl)) (aA (am (i:=7) zs_.nd rfl (Or.inl rfl)) (aA (am (i:=8) zs_.nd rfl (Or.inl rfl)) bt)))))
     (ak (iB (cM hr) (vd 1) (aK (aa (vd 5) (aa (vd 6) (aa (vd 7) af)))) (av aR (eW (cM hr) (vd 1) (aK (aa (vd 5) (aa (vd 6) (aa (vd 7) af)))) ag ⟨rfl,rfl,rfl,rfl⟩) (av cj (vd 8) (vd 4))) rfl))))))
  (ak (aB (aK (aa (vd 1) (aa (vd 2) af)))))))),?_⟩
  refine ap fun U1 u1=>?_
  lk
  intro d hd
  have g0:=ah hd (.dT [])
  rw[u1];clear u1
  refine ap fun U1 u1=>?_
  lk
  rw[u1];clear u1
  refine ap fun U1 u1=>bv fun B1 b1=>?_
  lk
  have hul:=Paired.length hP
  refine⟨⟨_,SqL.of (g0 _ _ hA)⟩,aQ (xs:=us) (fun i σ H'=>∃(v3 v4 v5 v6 v7 v8:Option V),az H H'∧H' d=some (.dT (bn (ls.take i)))∧σ=[some (.ref a),some (.ref d),some (.int (cE (ls.take i))),v3,v4,v5,v6,v7,v8]) ⟨none,none,none,none,none,none,g0,ae,rfl⟩ (fun i σ H' _ ⟨_,_,_,_,_,_,g,_⟩=>SqL.of (g _ _ hA)) ?_ ?_⟩
  ·rintro i v σ H' hx ⟨v3,v4,v5,v6,v7,v8,g,e,rfl⟩
   obtain⟨l,hli,t,u,rfl,w1,tu,pt,ts,eu,w2,w3,w4⟩:=Paired.get' hP hx
   cases eu
   obtain⟨lt1,lt2⟩:=ht l (yc hli)
   have hlen:(bn (ls.take i)).length+l.1.ps.length≤900:=by
    have z1:(bn (ls.take i)).length≤0+bq (ls.take i):=fq
    have z2:bq (ls.take (i+1))=bq (ls.take i)+l.1.ps.length:=by
     rw[aP hli]
     unfold bq
     rw[yg,yL]
     simp
    have z3:bq (ls.take (i+1))≤bq ls:=by
     have:bq ls=bq (ls.take (i+1))+bq (ls.drop (i+1)):=by
      unfold bq
      rw[← yL,← yg,yMa]
     lia
    lia
   have hok:cJ (bn (ls.take i)):=gG dY
   lk
   refine⟨_,SqT.of (g _ _ w1),rfl,_,_,rfl,_,_,rfl,rfl,?_⟩
   rw[b1]
   refine ap fun U2 u2=>?_
   lk
   refine⟨_,SqT.of (g _ _ w2),.int l.1.b,rfl,_,rfl,.inr ⟨by lia,by lia⟩,?_⟩
   rw[u2];clear u2
   refine bv fun B2 b2=>?_
   lk
   refine⟨_,SqT.of (g _ _ w2),_,rfl,pt,rfl,⟨_,SqT.of (g _ _ w3)⟩,gv (xs:=ts) (fun j σ H2=>∃(v5 v6 v7 v8:Option V),az H H2∧H2 d=some (.dT ((l.1.ps.take j).foldl (cm l.2) (bn (ls.take i))))∧σ=[some (.ref a),some (.ref d),some (.int (cE (ls.take i)+l.1.b*l.2)),some (.ref u),some (.int l.2),v5,v6,v7,v8]) ⟨v5,v6,v7,v8,g,e,rfl⟩ (fun j σ H2 _ ⟨_,_,_,_,g2,_⟩=>SqT.of (g2 _ _ w3)) ?_ ?_⟩
   ·rintro j v σ H2 hx2 ⟨v5,v6,v7,v8,g2,e2,rfl⟩
    obtain⟨pq,hpq,tq,rfl,htq⟩:=Paired.get' w4 hx2
    have hj:j<l.1.ps.length:=(List.getElem?_eq_some_iff.mp hpq).1
    have hlj:((l.1.ps.take j).foldl (cm l.2) (bn (ls.take i))).length<901:=by
     have:((l.1.ps.take j).foldl (cm l.2) (bn (ls.take i))).length≤(bn (ls.take i)).length+(l.1.ps.take j).length:=fh
     rw[yr] at this
     lia
    have hokj:cJ ((l.1.ps.take j).foldl (cm l.2) (bn (ls.take i))):=gq hok
    have est:(l.1.ps.take (j+1)).foldl (cm l.2) (bn (ls.take i))=cm l.2 ((l.1.ps.take j).foldl (cm l.2) (bn (ls.take i))) pq:=by
     rw[aP hpq,yqa]
     rfl
    rw[est]
    generalize (l.1.ps.take j).foldl (cm l.2) (bn (ls.take i))=kvs at e2 hlj hokj
    lk
    refine⟨_,SqT.of (g2 _ _ htq),rfl,_,_,rfl,_,_,rfl,_,_,rfl,_,_,rfl,rfl,?_⟩
    rw[b2]
    lk
    refine⟨.inr ⟨_,.inl e2⟩,by decide,fun t1 ht1=>?_⟩
    have y1:=ah ht1 (.tup [.int pq.h,.int pq.d,.int pq.p])
    refine⟨_,dS.t (k:=kk pq.h pq.d pq.p) (y1 _ _ e2) ae,.inr ⟨by lia,by lia⟩,_,nU hokj _,by decide,fun t2 ht2=>?_⟩
    have y2:=y1.trans (ah ht2 (.tup [.int pq.h,.int pq.d,.int pq.p]))
    exact⟨_,lS.t (k:=kk pq.h pq.d pq.p) (y2 _ _ e2) ae (aE (by lia)),aJ hd (g2.trans y2) _,by rw[ae];rfl⟩
   ·rintro σ H2 ⟨v5,v6,v7,v8,g2,e2,rfl⟩
    rw[Paired.length w4,yo] at e2
    have e3:bn (ls.take (i+1))=l.1.ps.foldl (cm l.2) (bn (ls.take i)):=by
     unfold bn
     rw[aP hli,yqa]
     rfl
    have e4:cE (ls.take (i+1))=cE (ls.take i)+l.1.b*l.2:=by
     unfold cE
     rw[aP hli,yg,yL]
     simp
    rw[e3,e4]
    exact⟨g2,e2,_,_,_,_,_,_,rfl⟩
  rintro σ H' ⟨v3,v4,v5,v6,v7,v8,g,e,rfl⟩
  lk
  rw[hul,yo] at e ⊢
  rw[u1];clear u1
  lk
  refine⟨by decide,fun t ht'=>?_⟩
  have g1:=ah ht' (.tup [.ref d,.int (cE ls)])
  exact q t d _ (g.trans g1) hd ae (g1 _ _ e)
inductive zy_(K_:PySem.W.Frag)(ζ:Cs)(vs:List V)(H:Hp)(Q:VK)(E:XK):Prop
 | mk (x:Addr) (d:Int) (hs:List Int) (ps:List Pst) (i:Nat) (h:Int) (_:vs=[.ref x,.int i]) (_:aX ζ.a H x d hs ps) (_:hs[i]? = some h) (_:ps.length≤6) (_:∀r H',New H H' r ((ch h ps).map V.int)→Q (.ref r) H'):zy_ K_ ζ vs H Q E
theorem B5:ax ["self","hand","skills"] ["self","hand"] (ao xW):=⟨rfl,rfl,rfl,k!,rfl,k!,k!⟩
theorem D9{ζ:Cs}{f:Addr}{fd:FuncData}(F:Fun K "choices" "Ward.choices" xW f fd)(T:Txt K mg ζ)(zaN_:Cal P w K mg base "covers" ["have","need"] 1 (uA K ζ)):aT P w K mg base CX0 2 f fd ["self","hand"] (zy_ K ζ):=by
 refine F.ok B5 (fun vs H Q E h=>?_) (fun cdv A outer s H vs Q E hr h=>?_)
 ·cases h;subst_vars;rfl
 ·obtain⟨x,d,hs,ps,i,h,rfl,hW,hi,hl,q⟩:=h
  refine⟨_,(aj (aD (i:=2) B5.nd rfl (Or.inr rfl) (aM ba (aO (vd 0) rfl) (vd 1) (fun _ _=>rfl)))
  (ak (aB (av wG (aW (aa ag af)) (bj (own:=["number","post"]) (fnames:=["skills"]) (fr:=[2]) (N':=["number","post","skills"]) ⟨rfl,rfl,rfl,rfl,rfl,rfl,rfl⟩ rfl (kP rfl T.enumerate (aO (vd 0) rfl)) (fun s0 H0 fp0 C0=>⟨(fc (K:=K) (n:=2) rfl rfl (aA (am (i:=0) (by show(["number","post","skills"]:List Str).Nodup;decide +kernel) rfl (Or.inl rfl)) (aA (am (i:=1) (by show(["number","post","skills"]:List Str).Nodup;decide +kernel) rfl (Or.inl rfl)) bt))),(cf (cw (aw zaN_ (hr.mono (by decide)) rfl (aa (vd 2) (aa (aM (bX (K:=K) rfl) (vd 1) ag (fun _ _=>rfl)) af))))),(vd 0)⟩)))))),?_⟩
  obtain⟨dx,ha,pa,ts,h1,h2,h3,h4⟩:=hW.ex
  lk
  refine⟨_,_,_,h1,T.cl_Ward,T.n_Ward_hands,_,eV _ _ _,_,rfl,_,SqT.of h2,.int h,bg (by rw[yj,hi];rfl),by decide,fun p hp=>?_⟩
  have g1:=ah hp (.lst [.int 0])
  refine⟨_,_,_,g1 _ _ h1,T.cl_Ward,T.n_Ward_posts,_,eZ _ _ _,_,rfl,⟨_,SqT.of (g1 _ _ h3)⟩,fun D hD=>bS (S:=SqT K) (xs:=ts) (fun j σ H'=>az (upd H p (.lst [.int 0])) H'∧H' D=some (.lst ((chI h ps j).map V.int))∧∃v1 v2,σ=[v1,v2,some (.int h)]) ⟨ah hD _,ae,none,none,rfl⟩ (fun j σ H' _ hh=>SqT.of (hh.1 _ _ (g1 _ _ h3))) ?_ ?_⟩
  ·rintro j x σ H' t hx ⟨g,e,v1,v2,rfl⟩ ht
   obtain⟨qq,hq,t',rfl,ht'⟩:=h4.at' hx
   have hj:j<ps.length:=(List.getElem?_eq_some_iff.mp hq).1
   have g2:az H' (upd H' t (.tup [.int (((1+j:Nat)):Int),.ref t'])):=ah ht _
   lk
   refine⟨_,SqT.of ae,rfl,_,_,rfl,_,_,rfl,rfl,?_⟩
   lk
   refine⟨_,SqT.of (g2 _ _ (g _ _ (g1 _ _ ht'))),_,rfl,h,qq.1,rfl,?_⟩
   lk
   have hs':=mK h ps j
   rw[hq,yz] at hs'
   have hcl:=iz h ps j
   split
   ·rename_i hb
    rw[if_pos hb] at hs'
    refine⟨_,g2 _ _ e,aE (by simp only[ya];lia),fun b o hb=>?_,?_⟩
    ·have ne:b≠D:=fun z=>by subst z;rw[hD] at hb;cases hb
     rw[au ne]
     exact g2 _ _ (g _ _ hb)
    ·rw[ae,hs',yg,show((1+j:Nat):Int)=(j:Int)+1 by lia]
     first | done | rfl
   ·rename_i hb
    rw[if_neg hb,yy] at hs'
    exact⟨g.trans g2,by rw[hs'];exact g2 _ _ e⟩
  ·rintro σ H' ⟨g,e,v1,v2,rfl⟩
   lk
   have hcl:=iz h ps ps.length
   refine⟨_,g _ _ ae,_,e,dC (by simp only[ya,yD,yQa,h4.len];lia),fun r hr=>q r _ ⟨?_,?_,?_⟩⟩
   ·exact(g1.trans g).trans (ah hr _)
   ·exact(g1.trans g).free hr
   ·rw[ae,h4.len]
    rfl
inductive Al(K:PySem.W.Frag)(ζ:Cs)(vs:List V)(H:Hp)(Q:VK)(E:XK):Prop
 | mk (x pd nd:Addr) (d:Int) (hs:List Int) (ps:List Pst) (pns kvs:List (List Key×V)) (_:vs=[.ref x,.ref pd,.ref nd]) (_:aX ζ.a H x d hs ps) (_:Ok d hs ps) (_:H pd=some (.dT pns)) (_:H nd=some (.dT kvs)) (_:pd≠nd) (_:cJ pns) (_:cp hs.length d.toNat (ps.length+1) kvs) (_:kvs.length≤900) (_:∀H',az H H'→Q (.int (dP pns kvs (fun h=>ch (hs[h]?.getD 0) ps) hs.length d.toNat)) H'):Al K ζ vs H Q E
theorem m8:ax ["ward","pins","numbers","choices","reached","hand","day","values"] ["ward","pins","numbers"] (ao m4):=⟨rfl,rfl,rfl,k!,rfl,k!,k!⟩
theorem C5{ζ:Cs}{f:Addr}{fd:FuncData}(F:Fun K "best" "best" m4 f fd)(T:Txt K mg ζ)(zh_:c5 P w K mg base ζ.a "choices" ["self","hand"] 2 (zy_ K ζ)):aT P w K mg base CX0 3 f fd ["ward","pins","numbers"] (Al K ζ):=by
 refine F.ok m8 (fun vs H Q E h=>?_) (fun cdv A outer s H vs Q E hr h=>?_)
 ·cases h;subst_vars;rfl
 ·obtain⟨x,pd,nd,d,hs,ps,pns,kvs,rfl,hW,okw,hp,hn,npn,aip,ok,kl,q⟩:=h
  refine⟨_,(aj (c7 (i:=3) m8.nd rfl rfl (own:=["hand"]) (fnames:=["ward"]) (fr:=[0]) (N':=["hand","ward"]) ⟨rfl,rfl,rfl,rfl,rfl,rfl,rfl⟩ rfl (aZ rfl T.range (aa (aF (aL (K:=K) rfl) (by rfl) T.len PySem.boot_len (aa (aO (vd 0) rfl) af)) af)) (fun s0 H0 fp0 C0=>⟨(am (i:=0) (by show(["hand","ward"]:List Str).Nodup;decide +kernel) rfl (Or.inl rfl)),bB,(bx zh_ (hr.mono (by decide)) (vd 1) (aa (vd 0) af))⟩))
  (aj (aD (i:=4) m8.nd rfl (Or.inl rfl) ag)
  (aj (bi PassesOwn.never rfl (iP (aY (mQ rfl hr) (by rfl) T.dict PyProof.Rows.boot_dict (aa (bj (own:=["hand","day","post"]) (fnames:=[]) (fr:=[]) (N':=["hand","day","post"]) ⟨rfl,rfl,rfl,rfl,rfl,rfl,rfl⟩ rfl (iP (vd 2)) (fun s0 H0 fp0 C0=>⟨(fc (K:=K) (n:=3) rfl rfl (aA (am (i:=0) (by show(["hand","day","post"]:List Str).Nodup;decide +kernel) rfl (Or.inl rfl)) (aA (am (i:=1) (by show(["hand","day","post"]:List Str).Nodup;decide +kernel) rfl (Or.inl rfl)) (aA (am (i:=2) (by show(["hand","day","post"]:List Str).Nodup;decide +kernel) rfl (Or.inl rfl)) bt)))),bB,(aK (aa (aK (aa (vd 0) (aa (vd 1) af))) (aa dO af)))⟩)) af))) (bR (n:=2) rfl (aA (am (i:=5) m8.nd rfl (Or.inr rfl)) (aA (am (i:=6) m8.nd rfl (Or.inr rfl)) bt)))
   (ak (bb (PW.pt (gQ (iX b9 cV ag (vd 5) (aF (aL (K:=K) rfl) (by rfl) T.len PySem.boot_len (aa (vd 3) af))) (fb (iX b9 cV ag (vd 6) (aO (vd 0) rfl))))) (dE (aD (i:=7) m8.nd rfl (Or.inl rfl) (qR (nB (qD (cM hr) (aK (aa (vd 5) (aa (vd 6) af))) (vd 1))) (aW (aa (kZ (cM hr) (vd 1) (aK (aa (vd 5) (aa (vd 6) af))) (fun _ _=>rfl)) af)) (aM bM (vd 3) (vd 5) (fun _ _=>rfl))))
     (ak (aD (i:=4) m8.nd rfl (Or.inl rfl) (av aR (vd 4) (aF (kb rfl) (by rfl) T.max PyProof.Rows.boot_max (aa (bj (own:=["value"]) (fnames:=["numbers","hand","day"]) (fr:=[2,5,6]) (N':=["value","numbers","hand","day"]) ⟨rfl,rfl,rfl,rfl,rfl,rfl,rfl⟩ rfl (bf (vd 7)) (fun s0 H0 fp0 C0=>⟨(am (i:=0) (by show(["value","numbers","hand","day"]:List Str).Nodup;decide +kernel) rfl (Or.inl rfl)),bB,(eW (cM hr) (vd 1) (aK (aa (vd 2) (aa (vd 3) (aa (vd 0) af)))) ag ⟨rfl,rfl,rfl,rfl⟩)⟩)) af)))))) aN)))
  (gF (gF (ak (aB (vd 4)))))))),?_⟩
  obtain⟨dx,ha,pa,ts,h1,h2,h3,h4⟩:=hW.ex
  have hs8:=okw.hl
  have p6:=okw.pl
  refine ap fun U1 u1=>?_
  lk
  refine⟨_,_,_,h1,T.cl_Ward,T.n_Ward_hands,_,eV _ _ _,_,rfl,_,.inr (SqT.of h2),by rw[ya];lia,by rw[ya];lia,fun D hD=>aV (fun i σ H'=>jl H D (fun j row=>row=ch (hs[j]?.getD 0) ps) i H'∧∃v0,σ=[v0,some (.ref x)]) ⟨jl.start hD,none,rfl⟩ ?_ ?_⟩
  ·rintro i σ H' hi ⟨gf,v0,rfl⟩
   rw[show(0+(i:Int))=i by lia]
   rw[ya] at hi
   have hi':i<hs.length:=by lia
   lk
   refine⟨_,_,gf.same _ _ h1,rfl,x,d,hs,ps,i,hs[i],rfl,hW.mono gf.same,yb hi',p6,fun r H2 nw=>?_⟩
   exact gf.step hD (by lia) nw.1 nw.2.1 nw.2.2 (by rw[yb hi'];rfl)
  rintro σ H1 ⟨gf,v0,rfl⟩
  lk
  rw[ya] at gf
  obtain⟨us,rows,rl,g1,eD,hR,hrow⟩:=gf.done
  clear gf
  rw[u1];clear u1
  refine ap fun U1 u1=>?_
  lk
  rw[u1];clear u1
  refine ap fun U1 u1=>bv fun B1 b1=>?_
  lk
  have en1:=g1 _ _ hn
  refine⟨kvs,en1,fun ob D1 hD1=>hG (fun i σ H'=>PrI (upd H1 nd (.frz ob (.dT kvs))) D1 kvs i H'∧∃v0 v1 v2,σ=[v0,v1,v2]) ⟨PrI.start hD1,none,none,none,rfl⟩ (fun i σ H' _ hh=>hh.1.same _ _ ae) ?_ ?_⟩
  ·rintro i bk k v σ H' hk hb ⟨pI,v0,v1,v2,rfl⟩
   obtain⟨h,dd,p,e,c1,c2,c3⟩:=ok.inb _ (yc hk)
   have e:k=kk h dd p:=e
   subst e
   have hik:=(List.getElem?_eq_some_iff.mp hk).1
   lk
   refine⟨_,SqT.of hb,rfl,_,_,rfl,_,_,rfl,_,_,rfl,rfl,?_⟩
   lk
   refine⟨by decide,fun b hb2=>⟨by decide,fun t ht=>?_⟩⟩
   exact pI.step hD1 hk (by lia) hb2 ht
  rintro σ H2 ⟨pI,v0,v1,v2,rfl⟩
  lk
  obtain⟨us2,g2,eD1,hP2⟩:=pI.ex
  rw[yo] at hP2
  refine⟨us2,eD1,_,hP2,by rw[ya];lia,fun p hpp=>⟨_,ae,fun ob2=>?_⟩⟩
  rw[bK]
  show ∃W,_
  have np:nd≠p:=ay (g2 _ _ ae) hpp
  have prl:=uD kvs
  refine hG (kvs:=prD kvs) (fun i σ H'=>az (upd H2 p (.frz ob2 (.dT (prD kvs)))) H'∧∃v5 v6 v7,σ=[some (.ref x),some (.ref pd),some (.ref nd),some (.ref D),some (.int (hZ pns kvs (fun h=>ch (hs[h]?.getD 0) ps) ((prD kvs).take i))),v5,v6,v7]) ⟨az.refl _,none,none,none,rfl⟩ (fun i σ H' _ hh=>hh.1 _ _ ae) ?_ ?_
  ·rintro i bk k v σ H' hk hb ⟨g,v5,v6,v7,rfl⟩
   obtain⟨h,dd,e,c1,c2⟩:=ko ok _ (yc hk)
   have e:k=k2 h dd:=e
   subst e
   have hb:H' bk=some (.tup [.int h,.int dd]):=hb
   have G0:az (upd H1 nd (.frz ob (.dT kvs))) H':=g2.trans ((ah hpp _).trans g)
   have hx':=G0 _ _ (oG (o:=.frz ob (.dT kvs)) en1 (g1 _ _ h1) (fun k z=>by cases z))
   have hpd':H' pd=some (.dT pns):=G0 _ _ (by rw[au npn];exact g1 _ _ hp)
   have hnd':H' nd=some (.frz ob (.dT kvs)):=G0 _ _ ae
   have hD':=G0 _ _ (oG (o:=.frz ob (.dT kvs)) en1 eD (fun k z=>by cases z))
   have hR':=(hR.frz en1 (.frz ob (.dT kvs))).mono G0
   have hh:h<rows.length:=by lia
   obtain⟨t1,a1,q1⟩:=hR'.get (yb hh)
   rw[hrow h _ (yb hh)] at q1
   have hcl:=iK (hs[h]?.getD 0) ps
   have em:mxC pns kvs (fun h=>ch (hs[h]?.getD 0) ps) (ka (k2 h dd) 0).toNat (ka (k2 h dd) 1).toNat=mxL ((jz pns (ch (hs[h]?.getD 0) ps) h dd).map fun p=>nO kvs h dd p):=rfl
   rw[mS hk,em]
   have hc1:0<(ch (hs[h]?.getD 0) ps).length:=ygb _
   generalize ch (hs[h]?.getD 0) ps=ow at q1 hcl hc1 ⊢
   generalize hZ pns kvs (fun h=>ch (hs[h]?.getD 0) ps) ((prD kvs).take i)=s0
   lk
   refine⟨_,SqT.of hb,rfl,_,_,rfl,_,_,rfl,rfl,?_⟩
   rw[b1]
   refine uR fun A1 i1=>?_
   lk
   rw[if_pos (by lia)]
   refine⟨_,.inl (SqL.of hD'),?_⟩
   rw[if_pos (by rw[hR'.len];lia),if_pos (by lia)]
   refine⟨_,_,_,hx',T.cl_Ward,T.n_Ward_days,_,cN _ _ _,_,rfl,?_⟩
   rw[if_pos (by lia)]
   rw[i1];clear i1
   refine fO (fun σ H4=>az H' H4∧∃(L3:Addr) (own:List Int),H4 L3=some (.lst (own.map V.int))∧own=jz pns ow h dd∧0<own.length∧own.length≤9∧σ=[some (.ref x),some (.ref pd),some (.ref nd),some (.ref D),some (.int s0),some (.int h),some (.int dd),some (.ref L3)]) ?_ ?_
   ·lk
    refine⟨by decide,fun t2 ht2=>?_⟩
    have gt2:=ah ht2 (.tup [.int h,.int dd])
    refine⟨_,dS.t (k:=k2 h dd) (gt2 _ _ hpd') ae,?_⟩
    unfold jz
    cases ev:bD pns (k2 h dd) with
    | none =>
     rw[if_neg (by simp)]
     exact⟨_,SqL.of (gt2 _ _ hD'),_,bg a1,gt2,t1,ow,gt2 _ _ q1,rfl,hc1,by lia,rfl⟩
    | some v =>
     obtain⟨pv,rfl⟩:=aip _ v ev
     rw[if_pos (show(some (V.int pv)).isSome=true from rfl)]
     refine⟨by decide,fun t3 ht3=>?_⟩
     have gt3:=ah ht3 (.tup [.int h,.int dd])
     refine⟨.int pv,.inr ⟨pns,k2 h dd,t3,.inl ((gt2.trans gt3) _ _ hpd'),rfl,ae,ev.symm⟩,by decide,fun t4 ht4=>?_⟩
     exact⟨(gt2.trans gt3).trans (ah ht4 _),t4,[pv],ae,rfl,Nat.zero_lt_one,by show 1≤9;decide,rfl⟩
   rintro σ H4 ⟨g4,L3,own,eL,eo,o1,o9,rfl⟩
   lk
   rw[← eo]
   lk
   have hnd4:=g4 _ _ hnd'
   refine⟨⟨_,SqL.of eL⟩,fun D5 hD5=>aQ (xs:=own.map V.int) (fun j σ H5=>az H4 H5∧H5 D5=some (.lst (((own.take j).map fun p=>nO kvs h dd p).map V.int))∧∃v0,σ=[v0,some (.ref nd),some (.int h),some (.int dd)]) ⟨ah hD5 _,ae,none,rfl⟩ (fun j σ H5 _ hh=>SqL.of (hh.1 _ _ eL)) ?_ ?_⟩
   ·rintro j v σ H5 hx2 ⟨g5,e5,v0,rfl⟩
    obtain⟨z,hz,rfl⟩:=cX hx2
    have hj:=(List.getElem?_eq_some_iff.mp hz).1
    have hnd5:=g5 _ _ hnd4
    lk
    refine⟨.inr ⟨_,.inr ⟨_,hnd5⟩⟩,by decide,fun t6 ht6=>?_⟩
    have g6:=ah ht6 (.tup [.int h,.int dd,.int z])
    refine⟨_,.inr ⟨kvs,kk h dd z,t6,.inr ⟨ob,g6 _ _ hnd5⟩,rfl,ae,rfl⟩,_,g6 _ _ e5,aE (by rw[ya,ya,yr];lia),aJ hD5 (g5.trans g6) _,?_⟩
    rw[ae,kS ok.ai,aP hz,yg,yg]
    rfl
   rintro σ H5 ⟨g5,e5,v0,rfl⟩
   lk
   rw[ya,yo] at e5
   refine⟨_,SqL.of e5,by rw[ya];exact o1,fun M hM1 hM2=>⟨g.trans (g4.trans g5),?_⟩⟩
   rw[nH hM1 hM2]
  rintro σ H3 ⟨g3,v5,v6,v7,rfl⟩
  lk
  rw[u1];clear u1
  lk
  refine⟨p,ob2,prD kvs,g3 _ _ ae,fun _ _ z=>?_,nd,ob,kvs,?_,fun _ _ z=>?_,?_⟩
  ·have nz:p≠nd:=np.symm
   have z1:=g2 _ _ ((au nz).trans (g1 _ _ z))
   rw[hpp] at z1
   cases z1
  ·rw[au np]
   exact g3 _ _ (by rw[au np];exact g2 _ _ ae)
  ·rw[hn] at z
   cases z
  rw[yo,qH (own:=fun h=>ch (hs[h]?.getD 0) ps) ok fun h _=>ygb _]
  refine q _ (g1.trans (pw en1 (o':=.frz ob (.dT kvs)) fun b o hb=>?_))
  have hb2:=g2 _ _ hb
  have nb:b≠p:=ay hb2 hpp
  rw[au nb]
  exact g3 _ _ (by rw[au nb];exact hb2)
inductive xw(K:PySem.W.Frag)(ζ:Cs)(vs:List V)(H:Hp)(Q:VK)(E:XK):Prop
 | mk (x pd a:Addr) (d:Int) (hs:List Int) (ps:List Pst) (pns:List (List Key×V)) (us:List V) (ls:List (Lin×Int)) (_:vs=[.ref x,.ref pd,.ref a]) (_:aX ζ.a H x d hs ps) (_:Ok d hs ps) (_:H pd=some (.dT pns)) (_:cJ pns) (_:H a=some (.lst us)) (_:Prs H us ls) (_:(∀l∈ls,-(2 ^ 40)<l.2∧l.2<2 ^ 40)) (_:bq ls≤900) (_:cp hs.length d.toNat (ps.length+1) (bn ls)) (_:∀H',az H H'→Q (.bl (decide (dP pns (bn ls) (fun h=>ch (hs[h]?.getD 0) ps) hs.length d.toNat<cE ls))) H'):xw K ζ vs H Q E
theorem CD:ax ["ward","pins","pairs","added"] ["ward","pins","pairs"] (ao zw):=⟨rfl,rfl,rfl,k!,rfl,k!,k!⟩
theorem Ey{ζ:Cs}{f:Addr}{fd:FuncData}(F:Fun K "closes" "closes" zw f fd)(T:Txt K mg ζ)(zes_:Cal P w K mg base "summed" ["pairs"] 1 (zJ K ζ))(C_best:Cal P w K mg base "best" ["ward","pins","numbers"] 3 (Al K ζ)):aT P w K mg base CX0 4 f fd ["ward","pins","pairs"] (xw K ζ):=by
 refine F.ok CD (fun vs H Q E h=>?_) (fun cdv A outer s H vs Q E hr h=>?_)
 ·cases h;subst_vars;rfl
 ·obtain⟨x,pd,a,d,hs,ps,pns,us,ls,rfl,hW,okw,hp,aip,ha,hP,hb,hl,ok,q⟩:=h
  refine⟨_,(aj (aD (i:=3) CD.nd rfl (Or.inl rfl) (aw zes_ (hr.mono (by decide)) rfl (aa (vd 2) af)))
  (ak (aB (b8 cV (aw C_best (hr.mono (by decide)) rfl (aa (vd 0) (aa (vd 1) (aa (aM ba (vd 3) ag (fun _ _=>rfl)) af)))) (aM ba (vd 3) ag (fun _ _=>rfl)) (aH _))))),?_⟩
  refine ap fun U1 u1=>?_
  lk
  refine⟨a,us,ls,rfl,ha,hP,hb,hl,fun t d2 H1 g1 f1 et ed=>?_⟩
  rw[u1];clear u1
  lk
  have npd:pd≠d2:=ay hp f1
  have kl:(bn ls).length≤900:=by
   have z1:(bn ls).length≤0+bq ls:=fq
   lia
  refine⟨_,SqT.of et,_,rfl,x,pd,d2,d,hs,ps,pns,bn ls,rfl,hW.mono g1,okw,g1 _ _ hp,ed,npd,aip,ok,kl,fun H2 g2=>?_⟩
  exact⟨_,SqT.of (g2 _ _ et),.int (cE ls),rfl,_,rfl,_,rfl,q H2 (g1.trans g2)⟩
inductive wR(K:PySem.W.Frag)(ζ:Cs)(vs:List V)(H:Hp)(Q:VK)(E:XK):Prop
 | mk (x:Addr) (r l:Int) (d:Int) (hs:List Int) (ps:List Pst) (sums:List (List Lin)) (_:vs=[.ref x,.int r,.int l]) (_:cy ζ.b ζ.a H x d hs ps sums) (_:Q (.bl (cC sums (r,l,0)).isSome) H):wR K ζ vs H Q E
theorem FT:ax ["terms","rule","line"] ["terms","rule","line"] (ao AA):=⟨rfl,rfl,rfl,k!,rfl,k!,k!⟩
theorem FC{ζ:Cs}{f:Addr}{fd:FuncData}(F:Fun K "is_there" "is_there" AA f fd)(T:Txt K mg ζ) :aT P w K mg base CX0 1 f fd ["terms","rule","line"] (wR K ζ):=by
 refine F.ok FT (fun vs H Q E h=>?_) (fun cdv A outer s H vs Q E hr h=>?_)
 ·cases h;subst_vars;rfl
 ·obtain⟨x,r,l,d,hs,ps,sums,rfl,hT,q⟩:=h
  refine⟨_,(ak (aB (bP (bV b9 cV ag (vd 1) (aF (aL (K:=K) rfl) (by rfl) T.len PySem.boot_len (aa (aO (vd 0) rfl) af))) (ck (bV b9 cV ag (vd 2) (aF (aL (K:=K) rfl) (by rfl) T.len PySem.boot_len (aa (aM ba (aO (vd 0) rfl) (vd 1) (fun _ _=>rfl)) af))))))),?_⟩
  obtain⟨dx,y,rt,st,vr,vss,t1,t2,t3,t4,t5⟩:=hT.ex
  have hvl:=Paired.length t5
  lk
  by_cases r0:0≤r
  ·rw[if_pos r0]
   refine⟨_,_,_,t1,T.cl_Terms,T.n_Terms_sums,_,iD _ _ _,st,rfl,_,.inr (SqT.of t4),?_⟩
   by_cases r1:r<(vss.length:Int)
   ·rw[if_pos r1]
    have hr:r.toNat<sums.length:=by omega
    obtain⟨v,ev,tv,ul,rfl,q1,q2⟩:=Paired.at t5 (yb hr)
    by_cases l0:0≤l
    ·rw[if_pos l0]
     have ea:=bg ev
     rw[show((r.toNat:Nat):Int)=r by lia] at ea
     refine⟨_,_,_,t1,T.cl_Terms,T.n_Terms_sums,_,iD _ _ _,st,rfl,_,SqT.of t4,_,ea,tv,rfl,_,.inr (SqT.of q1),?_⟩
     rw[lO r0 (yb hr) l0] at q
     have hull:=Paired.length q2
     by_cases z:l<(ul.length:Int)
     ·rw[decide_eq_true z]
      rw[yb (by lia)] at q
      exact q
     ·rw[decide_eq_false z]
      rw[yxa (by lia)] at q
      exact q
    ·rw[if_neg l0]
     rw[vZ (fun z=>l0 z.2)] at q
     exact q
   ·rw[if_neg r1]
    rw[zp (by lia)] at q
    exact q
  ·rw[if_neg r0]
   rw[vZ (fun z=>r0 z.1)] at q
   exact q
inductive Bd(K:PySem.W.Frag)(ζ:Cs)(vs:List V)(H:Hp)(Q:VK)(E:XK):Prop
 | mk (x pd ut:Addr) (d:Int) (hs:List Int) (ps:List Pst) (sums:List (List Lin)) (pns:List (List Key×V)) (uv:List V) (us:List Tri) (_:vs=[.ref x,.ref pd,.ref ut]) (_:cy ζ.b ζ.a H x d hs ps sums) (_:Ok d hs ps) (_:H pd=some (.dT pns)) (_:cJ pns) (_:H ut=some (.tup uv)) (_:eG H uv us) (_:rg us) (_:(∀ls∈sums,lH hs.length d.toNat (ps.length+1) ls)) (_:∀H',az H H'→Q (.bl (pS sums us pns (fun h=>ch (hs[h]?.getD 0) ps) hs.length d.toNat)) H'):Bd K ζ vs H Q E
theorem E5:ax ["terms","pins","uses"] ["terms","pins","uses"] (ao nJ):=⟨rfl,rfl,rfl,k!,rfl,k!,k!⟩
theorem DD{ζ:Cs}{f:Addr}{fd:FuncData}(F:Fun K "ends" "ends" nJ f fd)(T:Txt K mg ζ)(zet_:Cal P w K mg base "closes" ["ward","pins","pairs"] 4 (xw K ζ))(zdl_:Cal P w K mg base "is_there" ["terms","rule","line"] 1 (wR K ζ)):aT P w K mg base CX0 5 f fd ["terms","pins","uses"] (Bd K ζ):=by
 refine F.ok E5 (fun vs H Q E h=>?_) (fun cdv A outer s H vs Q E hr h=>?_)
 ·cases h;subst_vars;rfl
 ·obtain⟨x,pd,ut,d,hs,ps,sums,pns,uv,us,rfl,hT,okw,hp,aip,eu,hU,uok,hf,q⟩:=h
  refine⟨_,(aj (bb (eJ (cw (aF (jf rfl) (by rfl) T.all PyProof.Rows.boot_all (aa (bj (own:=["rule","line","times"]) (fnames:=["terms"]) (fr:=[0]) (N':=["rule","line","times","terms"]) ⟨rfl,rfl,rfl,rfl,rfl,rfl,rfl⟩ rfl (k8 (vd 2)) (fun s0 H0 fp0 C0=>⟨(fc (K:=K) (n:=3) rfl rfl (aA (am (i:=0) (by show(["rule","line","times","terms"]:List Str).Nodup;decide +kernel) rfl (Or.inl rfl)) (aA (am (i:=1) (by show(["rule","line","times","terms"]:List Str).Nodup;decide +kernel) rfl (Or.inl rfl)) (aA (am (i:=2) (by show(["rule","line","times","terms"]:List Str).Nodup;decide +kernel) rfl (Or.inl rfl)) bt)))),bB,(bP (aw zdl_ (hr.mono (by decide)) rfl (aa (vd 3) (aa (vd 0) (aa (vd 1) af)))) (ck (b8 o5 (vd 2) ag (aH _))))⟩)) af)))) (ak (aB dO)) aN)
  (ak (aB (aw zet_ (hr.mono (by decide)) rfl (aa (aO (vd 0) rfl) (aa (vd 1) (aa (bj (own:=["rule","line","times"]) (fnames:=["terms"]) (fr:=[0]) (N':=["rule","line","times","terms"]) ⟨rfl,rfl,rfl,rfl,rfl,rfl,rfl⟩ rfl (k8 (vd 2)) (fun s0 H0 fp0 C0=>⟨(fc (K:=K) (n:=3) rfl rfl (aA (am (i:=0) (by show(["rule","line","times","terms"]:List Str).Nodup;decide +kernel) rfl (Or.inl rfl)) (aA (am (i:=1) (by show(["rule","line","times","terms"]:List Str).Nodup;decide +kernel) rfl (Or.inl rfl)) (aA (am (i:=2) (by show(["rule","line","times","terms"]:List Str).Nodup;decide +kernel) rfl (Or.inl rfl)) bt)))),bB,(aK (aa (aM (bX (K:=K) rfl) (aM (bX (K:=K) rfl) (fo (K:=K) rfl (vd 3) rfl) (vd 0) (fun _ _=>rfl)) (vd 1) (fun _ _=>rfl)) (aa (vd 2) af)))⟩)) af))))))),?_⟩
  refine ap fun U1 u1=>?_
  lk
  have hvl:=Paired.length hU
  refine⟨⟨_,SqT.of eu⟩,fun D hD=>gv (xs:=uv) (fun i σ H'=>az H H'∧H' D=some (.lst (((us.take i).map (okU sums)).map V.bl))∧∃v0 v1 v2,σ=[v0,v1,v2,some (.ref x)]) ⟨ah hD _,ae,none,none,none,rfl⟩ (fun i σ H' _ hh=>SqT.of (hh.1 _ _ eu)) ?_ ?_⟩
  ·rintro i v σ H' hx ⟨g,e,v0,v1,v2,rfl⟩
   obtain⟨u,hu,t,rfl,qt⟩:=Paired.get' hU hx
   have hi:=(List.getElem?_eq_some_iff.mp hu).1
   have u6:=uok.1
   lk
   refine⟨_,SqT.of (g _ _ qt),rfl,_,_,rfl,_,_,rfl,_,_,rfl,rfl,?_⟩
   refine⟨x,u.1,u.2.1,d,hs,ps,sums,rfl,hT.mono g,_,rfl,?_⟩
   have et:((us.take (i+1)).map (okU sums)).map V.bl=((us.take i).map (okU sums)).map V.bl++[V.bl (okU sums u)]:=by
    rw[aP hu,yg,yg]
    rfl
   have hl:(((us.take i).map (okU sums)).map V.bl).length<sizeLine:=aE (by rw[ya,ya,yr];lia)
   cases z:(cC sums (u.1,u.2.1,0)).isSome with
   | true =>
    rw[if_pos rfl]
    have eo:okU sums u=decide (1≤u.2.2):=by
     show((cC sums (u.1,u.2.1,0)).isSome&&_)=_
     rw[z]
     rfl
    exact⟨_,rfl,_,e,hl,aJ hD g _,by rw[ae,et,eo]⟩
   | false =>
    rw[if_neg (by decide)]
    have eo:okU sums u=false:=by
     show((cC sums (u.1,u.2.1,0)).isSome&&_)=_
     rw[z]
     rfl
    exact⟨_,e,hl,aJ hD g _,by rw[ae,et,eo]⟩
  rintro σ H1 ⟨g1,e1,v0,v1,v2,rfl⟩
  lk
  rw[hvl,yo] at e1
  refine⟨_,SqL.of e1,?_⟩
  have ea:(us.map (okU sums)).all id=us.all (okU sums):=by
   rw[yOa]
   rfl
  rw[ea]
  cases z:us.all (okU sums) with
  | false =>
   rw[if_pos rfl]
   have h1:=q H1 g1
   unfold pS at h1
   rw[z] at h1
   exact h1
  | true =>
  rw[if_neg (by decide)]
  rw[u1];clear u1
  obtain⟨dx,y,rt,st,vr,vss,t1,t2,t3,t4,t5⟩:=(hT.mono g1).ex
  lk
  refine⟨_,_,_,t1,T.cl_Terms,T.n_Terms_ward,_,gz _ _ _,⟨_,SqT.of (g1 _ _ eu)⟩,fun E hE=>gv (xs:=uv) (fun i σ H'=>PaG H1 E (usL sums us) i H'∧∃v0 v1 v2,σ=[v0,v1,v2,some (.ref x)]) ⟨PaG.start hE,none,none,none,rfl⟩ (fun i σ H' _ hh=>SqT.of ((g1.trans hh.1.same) _ _ eu)) ?_ ?_⟩
  ·rintro i v σ H' hx ⟨pg,v0,v1,v2,rfl⟩
   obtain⟨u,hu,t,rfl,qt⟩:=Paired.get' hU hx
   have hi:=(List.getElem?_eq_some_iff.mp hu).1
   have u6:=uok.1
   have g:=g1.trans pg.same
   have hok:okU sums u=true:=(yG.mp z) u (yc hu)
   obtain⟨r0,r1,l0,m1,ls,ℓ,er,el,en⟩:=vv hok
   obtain⟨v,ev,tv,ul,rfl,q1,q2⟩:=Paired.at t5 er
   obtain⟨w,ew,q3⟩:=Paired.at q2 el
   obtain⟨t',u',ts',rfl,w1,w2,w3⟩:=q3
   have ea:=bg ev
   rw[show((u.1.toNat:Nat):Int)=u.1 by lia] at ea
   have eb:=bg ew
   rw[show((u.2.1.toNat:Nat):Int)=u.2.1 by lia] at eb
   lk
   refine⟨_,SqT.of (g _ _ qt),rfl,_,_,rfl,_,_,rfl,_,_,rfl,rfl,?_⟩
   have h':=pg.same
   refine⟨_,_,_,h' _ _ t1,T.cl_Terms,T.n_Terms_sums,_,iD _ _ _,st,rfl,_,_,rfl,SqT.of (h' _ _ t4),_,ea,tv,rfl,_,_,rfl,SqT.of (h' _ _ q1),_,eb,by decide,fun p hp'=>?_⟩
   have hl:(usL sums us)[i]? = some (ℓ,u.2.2):=by
    unfold usL
    rw[yj,hu]
    show some ((cC sums u).getD mH,u.2.2)=_
    rw[en]
    rfl
   exact pg.step (l:=(ℓ,u.2.2)) hE (by lia) hl (mq.mono (aC h') ⟨t',u',ts',rfl,w1,w2,w3⟩) hp'
  rintro σ H2 ⟨pg,v0,v1,v2,rfl⟩
  lk
  obtain⟨up,g2,eE,hPr⟩:=pg.ex
  rw[hvl,show us.length=(usL sums us).length from (ya ..).symm,yo] at hPr
  refine⟨y,pd,E,d,hs,ps,pns,up,usL sums us,rfl,t2.mono g2,okw,(g1.trans g2) _ _ hp,aip,eE,hPr,u8 uok,?_,AY hf us,fun H3 g3=>?_⟩
  ·have h1:=jI (sums:=sums) (fun ls hls ℓ hℓ=>((hf ls hls).2 ℓ hℓ).1) us
   have h2:=uok.1
   lia
  ·have h1:=q H3 (g1.trans (g2.trans g3))
   unfold pS at h1
   rw[z,yja] at h1
   exact h1
inductive Ax(K:PySem.W.Frag)(ζ:Cs)(vs:List V)(H:Hp)(Q:VK)(E:XK):Prop
 | mk (x pd:Addr) (sv:V) (st:Stp) (d:Int) (hs:List Int) (ps:List Pst) (sums:List (List Lin)) (pns:List (List Key×V)) (_:vs=[.ref x,.ref pd,sv]) (_:cy ζ.b ζ.a H x d hs ps sums) (_:Ok d hs ps) (_:(∀ls∈sums,lH hs.length d.toNat (ps.length+1) ls)) (_:H pd=some (.dT pns)) (_:cJ pns) (_:fB H sv st) (_:ke st) (_:∀H',az H H'→Q (.bl (ej (gS sums hs ps d) pns st)) H'):Ax K ζ vs H Q E
theorem DZ:ax ["terms","pins","step"] ["terms","pins","step"] (ao zr):=⟨rfl,rfl,rfl,k!,rfl,k!,k!⟩
theorem FO{ζ:Cs}{f:Addr}{fd:FuncData}(F:Fun K "is_step" "is_step" zr f fd)(T:Txt K mg ζ)(zdH_:Cal P w K mg base "is_free" ["ward","pins","hand","day"] 2 (Ag K ζ))(C_ends:Cal P w K mg base "ends" ["terms","pins","uses"] 5 (Bd K ζ)):aT P w K mg base CX0 6 f fd ["terms","pins","step"] (Ax K ζ):=by
 refine F.ok DZ (fun vs H Q E h=>?_) (fun cdv A outer s H vs Q E hr h=>?_)
 ·cases h;subst_vars;rfl
 ·obtain⟨x,pd,sv,st,d,hs,ps,sums,pns,rfl,hT,okw,hf,ep,aip,hs0,hus,q⟩:=h
  refine⟨_,(aj (bb (aG bH (aM ba (vd 2) ag (fun _ _=>rfl)) e7 (aH _)) (ak (aB (aw zdH_ (hr.mono (by decide)) rfl (aa (aO (vd 0) rfl) (aa (vd 1) (aa (aM ba (vd 2) ag (fun _ _=>rfl)) (aa (aM ba (vd 2) ag (fun _ _=>rfl)) af))))))) aN)
  (ak (aB (bP (b8 bH (aM ba (vd 2) ag (fun _ _=>rfl)) e7 (aH _)) (ck (aw C_ends (hr.mono (by decide)) rfl (aa (vd 0) (aa (vd 1) (aa (aM ba (vd 2) ag (fun _ _=>rfl)) af))))))))),?_⟩
  obtain⟨t,rfl⟩:=hs0.rf
  refine ap fun U1 u1=>?_
  lk
  obtain⟨dx,y,rt,stt,vr,vss,t1,t2,t3,t4,t5⟩:=hT.ex
  cases st with
  | part h d' =>
   obtain⟨t0,e0,et⟩:=kh hs0
   cases e0
   refine⟨_,SqT.of et,_,rfl,rfl,?_⟩
   rw[if_pos rfl]
   exact⟨_,_,_,t1,T.cl_Terms,T.n_Terms_ward,_,gz _ _ _,_,SqT.of et,_,rfl,_,SqT.of et,_,rfl,y,pd,h,d',d,hs,ps,pns,rfl,t2,okw.d1,ep,q⟩
  | sum us =>
   obtain⟨t0,ut,uv,e0,et,eu,hU⟩:=mV hs0
   cases e0
   refine⟨_,SqT.of et,_,rfl,rfl,?_⟩
   rw[if_neg k!]
   rw[u1];clear u1
   lk
   refine⟨_,SqT.of et,_,rfl,rfl,?_⟩
   rw[if_pos rfl]
   exact⟨_,SqT.of et,_,rfl,x,pd,ut,d,hs,ps,sums,pns,uv,us,rfl,hT,okw,ep,aip,eu,hU,hus,hf,q⟩
  | oth s =>
   obtain⟨t0,vs,e0,et,n1,n2⟩:=A9 hs0
   cases e0
   refine⟨_,SqT.of et,_,at0 _ _,rfl,?_⟩
   rw[if_neg n1]
   rw[u1];clear u1
   lk
   refine⟨_,SqT.of et,_,at0 _ _,rfl,?_⟩
   rw[if_neg n2]
   exact q H (az.refl _)
inductive zM(K:PySem.W.Frag)(ζ:Cs)(vs:List V)(H:Hp)(Q:VK)(E:XK):Prop
 | mk (x pd:Addr) (h d D:Int) (hs:List Int) (ps:List Pst) (pns:List (List Key×V)) (_:vs=[.ref x,.ref pd,.int h,.int d]) (_:aX ζ.a H x D hs ps) (_:Ok D hs ps) (_:H pd=some (.dT pns)) (_:cF hs.length D.toNat 0 pns) (_:pns.length≤900) (_:0≤h) (_:h<(hs.length:Int)) (_:0≤d) (_:d<D) (_:∀r us H',az H H'→H r=none→H' r=some (.lst us)→dg H' us (e9 pns (ch (hs[h.toNat]?.getD 0) ps) h d)→Frs H us→Q (.ref r) H'):zM K ζ vs H Q E
theorem vE:ax ["ward","pins","hand","day","cases","value","case"] ["ward","pins","hand","day"] (ao xR):=⟨rfl,rfl,rfl,k!,rfl,k!,k!⟩
theorem EE{ζ:Cs}{f:Addr}{fd:FuncData}(F:Fun K "parted" "parted" xR f fd)(T:Txt K mg ζ)(zh_:c5 P w K mg base ζ.a "choices" ["self","hand"] 2 (zy_ K ζ)):aT P w K mg base CX0 3 f fd ["ward","pins","hand","day"] (zM K ζ):=by
 refine F.ok vE (fun vs H Q E h=>?_) (fun cdv A outer s H vs Q E hr h=>?_)
 ·cases h;subst_vars;rfl
 ·obtain⟨x,pd,h,d,D,hs,ps,pns,rfl,hW,okw,ep,pok,pl,h0,h1,d0,d1,q⟩:=h
  refine⟨_,(aj (aD (i:=4) vE.nd rfl (Or.inl rfl) (aW af))
  (aj (bi PassesOwn.never rfl (sT rfl T.reversed (bx zh_ (hr.mono (by decide)) (vd 0) (aa (vd 2) af))) (am (i:=5) vE.nd rfl (Or.inl rfl))
   (aj (aD (i:=6) vE.nd rfl (Or.inl rfl) (aY jk (by rfl) T.dict PyProof.Rows.boot_dict (aa (vd 1) af)))
    (aj (iB (cM hr) (vd 6) (aK (aa (vd 2) (aa (vd 3) af))) (vd 5) rfl)
    (ak (bJ (cH PySem.F.plainAttrs_list PySem.F.slot_list_append PySem.F.type_list_append bI (vd 4) (aa (vd 6) af)))))))
  (ak (aB (vd 4))))),?_⟩
  refine ap fun U1 u1=>?_
  lk
  refine⟨yq _,fun L hL=>?_⟩
  have g0:=ah hL (.lst [])
  rw[u1];clear u1
  refine ap fun U1 u1=>bv fun B1 b1=>?_
  lk
  obtain⟨dx,ha,pa,ts,w1,w2,w3,w4⟩:=hW.ex
  have hh:h.toNat<hs.length:=by lia
  have eh:hs[h.toNat]? = some hs[h.toNat]:=yb hh
  refine⟨_,_,g0 _ _ w1,rfl,x,D,hs,ps,h.toNat,hs[h.toNat],by rw[yN h0],hW.mono g0,eh,okw.pl,fun rc H1 nw=>⟨rc,rfl,_,SqL.of nw.2.2,?_⟩⟩
  obtain⟨g1,f1,e1⟩:=nw
  rw[eh,yz] at q
  have owl:(ch hs[h.toNat] ps).length≤9:=by
   have h2:=iK hs[h.toNat] ps
   have h3:=okw.pl
   lia
  generalize ch hs[h.toNat] ps=ow at e1 q owl
  have lf0:LfI H L [] H1:=⟨[],g0.trans g1,g1 _ _ ae,.nil⟩
  have nrc:rc≠L:=(ay (ae (H:=H) (a:=L) (o:=.lst [])) f1).symm
  refine mr (xs:=ow.map V.int) (fun i σ H'=>(LfI H L ((ow.reverse.take i).map fun v=>bC pns (k2 h d) (.int v)) H'∧H' rc=some (.lst (ow.map V.int))∧FrL H L H')∧∃v5 v6,σ=[some (.ref x),some (.ref pd),some (.int h),some (.int d),some (.ref L),v5,v6]) ⟨⟨lf0,e1,⟨[],g1 _ _ ae,fun d z=>by cases z⟩⟩,none,none,rfl⟩ (fun i σ H' _ hh=>SqL.of hh.1.2.1) ?_ ?_
  ·rintro i v σ H' hx ⟨⟨lf,er,fr⟩,v5,v6,rfl⟩
   rw[← List.map_reverse] at hx
   obtain⟨z,hz,rfl⟩:=cX hx
   have hi:=(List.getElem?_eq_some_iff.mp hz).1
   rw[yda] at hi
   rw[b1]
   refine ap fun U2 u2=>?_
   lk
   refine⟨pns,lf.same _ _ ep,pok.hash okw.hl (by have:=okw.d2;lia) _ _,fun p hp=>?_⟩
   rw[u2];clear u2
   refine ap fun U2 u2=>?_
   lk
   refine⟨by decide,fun pk hpk=>?_⟩
   have y1:=ah hp (.dT pns)
   have y2:=ah hpk (.tup [.int h,.int d])
   have ep2:=y2 _ _ (ae (H:=H') (a:=p) (o:=.dT pns))
   refine⟨_,lS.t (k:=k2 h d) ep2 ae (aE (by lia)),?_⟩
   have gN:az H' (upd (upd (upd H' p (.dT pns)) pk (.tup [.int h,.int d])) p (.dT (bC pns (k2 h d) (.int z)))):=aJ hp (y1.trans y2) _
   have epN:=ae (H:=upd (upd H' p (.dT pns)) pk (.tup [.int h,.int d])) (a:=p) (o:=.dT (bC pns (k2 h d) (.int z)))
   generalize upd (upd (upd H' p (.dT pns)) pk (.tup [.int h,.int d])) p (.dT (bC pns (k2 h d) (.int z)))=H3 at gN epN ⊢
   have lf3:=lf.mono gN
   obtain⟨us3,g3,eL3,hD3⟩:=lf3.ex
   have hl3:=Paired.length hD3
   rw[ya,yr,yda] at hl3
   rw[u2];clear u2
   lk
   refine⟨.inl ⟨rfl,_,SqL.of eL3⟩,_,eL3,aE (by lia),?_,?_,?_⟩
   ·rw[aP hz,yg]
    exact lf3.put hL (aU hD3 ⟨p,rfl,epN,(pok.plain2 h0 h1 d0 (by lia) z).plain⟩)
   ·rw[au nrc]
    exact gN _ _ er
   ·obtain⟨usf,ef,hf⟩:=fr
    have ef3:=gN _ _ ef
    rw[eL3] at ef3
    cases ef3
    exact⟨_,ae,hf.snoc (lf.same.free hp)⟩
  rintro σ H' ⟨⟨lf,er,fr⟩,v5,v6,rfl⟩
  lk
  rw[u1];clear u1
  lk
  obtain⟨us,g,eL,hD⟩:=lf.ex
  rw[ya,show ow.length=ow.reverse.length from (yda ..).symm,yo] at hD
  obtain⟨usf,ef,hf⟩:=fr
  rw[eL] at ef
  cases ef
  exact q L us H' g hL eL hD hf
inductive uH(K:PySem.W.Frag)(ζ:Cs)(vs:List V)(H:Hp)(Q:VK)(E:XK):Prop
 | mk (x pl:Addr) (d:Int) (hs:List Int) (ps:List Pst) (sums:List (List Lin)) (uv:List V) (sts:List Stp) (_:vs=[.ref x,.ref pl]) (_:cy ζ.b ζ.a H x d hs ps sums) (_:Ok d hs ps) (_:(∀ls∈sums,lH hs.length d.toNat (ps.length+1) ls)) (_:H pl=some (.lst uv)) (_:dW H uv sts) (_:(∀st∈sts,ke st)) (_:sts.length≤700) (_:(cL (gS sums hs ps d) sts=none→∀H',az H H'→Q .non H')) (_:∀cs,cL (gS sums hs ps d) sts=some cs→∀r us H',az H H'→H r=none→H' r=some (.lst us)→dg H' us cs→dh hs.length d.toNat 700 cs→Frs H us→Q (.ref r) H'):uH K ζ vs H Q E
theorem uV:ax ["terms","paper","cases","step","pins"] ["terms","paper"] (ao mO):=⟨rfl,rfl,rfl,k!,rfl,k!,k!⟩
theorem DK{ζ:Cs}{f:Addr}{fd:FuncData}(F:Fun K "left" "left" mO f fd)(T:Txt K mg ζ)(zdJ_:Cal P w K mg base "is_step" ["terms","pins","step"] 6 (Ax K ζ))(zeu_:Cal P w K mg base "parted" ["ward","pins","hand","day"] 3 (zM K ζ)):aT P w K mg base CX0 7 f fd ["terms","paper"] (uH K ζ):=by
 refine F.ok uV (fun vs H Q E h=>?_) (fun cdv A outer s H vs Q E hr h=>?_)
 ·cases h;subst_vars;rfl
 ·obtain⟨x,pl,d,hs,ps,sums,uv,sts,rfl,hT,okw,hf,epl,hSt,hus,s20,q1,q2⟩:=h
  refine⟨_,(aj (aD (i:=2) uV.nd rfl (Or.inl rfl) (aW (aa fV af)))
  (aj (bi PassesOwn.never rfl (bf (vd 1)) (am (i:=3) uV.nd rfl (Or.inl rfl))
   (aj (bb (PW.pt (ie (aG (jt hr) (vd 2) (aW af) (aH _)) (eC (eJ (cw (aw zdJ_ (hr.mono (by decide)) rfl (aa (vd 0) (aa (aM bM (vd 2) (cG b7 ag) (fun _ _=>rfl)) (aa (vd 3) af))))))))) (ak (aB fR)) aN)
    (aj (aD (i:=4) uV.nd rfl (Or.inl rfl) (mY PySem.F.plainAttrs_list PySem.F.slot_list_pop PySem.F.type_list_pop qT (vd 2)))
    (ak (bb (aG bH (aM ba (vd 3) ag (fun _ _=>rfl)) e7 (aH _)) (ak (bJ (cH PySem.F.plainAttrs_list PySem.F.slot_list_extend PySem.F.type_list_extend gX (vd 2) (aa (aw zeu_ (hr.mono (by decide)) rfl (aa (aO (vd 0) rfl) (aa (vd 4) (aa (aM ba (vd 3) ag (fun _ _=>rfl)) (aa (aM ba (vd 3) ag (fun _ _=>rfl)) af))))) af)))) aN)))))
  (ak (aB (vd 2))))),?_⟩
  refine ap fun U1 u1=>?_
  lk
  intro p hp
  refine⟨by decide,fun L hL=>?_⟩
  have y1:=ah hp (.dT [])
  have y2:=ah hL (.lst [.ref p])
  have hL0:=y1.free hL
  have lf:LfI H L [[]] (upd (upd H p (.dT [])) L (.lst [.ref p])):=⟨[.ref p],y1.trans y2,ae,.cons ⟨p,rfl,y2 _ _ ae,fun kv z=>by cases z⟩ .nil⟩
  have frl:FrL H L (upd (upd H p (.dT [])) L (.lst [.ref p])):=⟨_,ae,fun d z=>by rw[V.ref.inj (List.mem_singleton.mp z)];exact hp⟩
  generalize upd (upd H p (.dT [])) L (.lst [.ref p])=H1 at lf frl ⊢
  rw[u1];clear u1
  refine ap fun U1 u1=>bv fun B1 b1=>?_
  lk
  have hul:=Paired.length hSt
  refine⟨⟨_,SqL.of (lf.same _ _ epl)⟩,aQ (xs:=uv) (fun i σ H'=>(∃cs,cL (gS sums hs ps d) (sts.take i)=some cs∧LfI H L cs H'∧dh hs.length d.toNat i cs∧FrL H L H')∧∃v3 v4,σ=[some (.ref x),some (.ref pl),some (.ref L),v3,v4]) ⟨⟨[[]],rfl,lf,dh.init,frl⟩,none,none,rfl⟩ (fun i σ H' _ hh=>by obtain⟨⟨cs,_,lf,_⟩,_⟩:=hh;exact SqL.of (lf.same _ _ epl)) ?_ ?_⟩
  ·clear lf
   rintro i v σ H' hx ⟨⟨cs,hc,lf,cok,fr⟩,v3,v4,rfl⟩
   obtain⟨st,hst,hsv⟩:=Paired.get' hSt hx
   have hi:=(List.getElem?_eq_some_iff.mp hst).1
   have hsnoc:cL (gS sums hs ps d) (sts.take (i+1))=ic (gS sums hs ps d) cs st:=by
    rw[aP hst,m5,hc]
    rfl
   obtain⟨tv,rfl⟩:=hsv.rf
   rw[b1]
   refine ap fun U2 u2=>?_
   obtain⟨us,g,eL,hD⟩:=lf.ex
   obtain⟨usf,ef,hfr⟩:=fr
   rw[eL] at ef
   cases ef
   lk
   refine⟨yq _,fun e he=>?_⟩
   have ge:=ah he (.lst [])
   refine⟨e,rfl,SqL.of ae,.inr ⟨L,us,rfl,SqL.of (ge _ _ eL),_,rfl,?_⟩⟩
   replace g:=g.trans ge
   replace eL:=ge _ _ eL
   replace hD:=dg.mono ge hD
   replace lf:=lf.mono ge
   clear ge he
   generalize upd H' e (.lst [])=H2 at g eL hD lf ⊢
   rcases kA cs with rfl | ⟨cs',pns,rfl⟩
   ·cases hD
    rw[if_pos (by rw[decide_eq_true rfl])]
    exact q1 (mz (i:=i+1) hsnoc) H2 g
   obtain⟨us',w,rfl,hD',hw⟩:=Paired.split hD
   obtain⟨pd,rfl,epd,ppl⟩:=hw
   have hfr':Frs H us':=fun d z=>hfr d (yU _ z)
   rw[if_neg (by simp)]
   have pok:=cok.2 pns (yH _ (List.mem_singleton.mpr rfl))
   refine⟨_,SqL.of eL,_,xP _ _,x,pd,.ref tv,st,d,hs,ps,sums,pns,rfl,hT.mono g,okw,hf,epd,pok.1.ai,hsv.tmono (aC g),hus st (yc hst),fun H3 g3=>⟨_,rfl,?_⟩⟩
   rw[jh] at hsnoc
   cases z:ej (gS sums hs ps d) pns st with
   | false =>
    rw[if_pos rfl]
    rw[z,if_neg (by decide)] at hsnoc
    exact q1 (mz (i:=i+1) hsnoc) H3 (g.trans g3)
   | true =>
   rw[if_neg (by decide)]
   rw[z,if_pos rfl] at hsnoc
   have cok2:=cok.step (c:=gS sums hs ps d) (fun h _=>by have:=iK (hs[h]?.getD 0) ps;have:=okw.pl;show(ch (hs[h]?.getD 0) ps).length≤9;lia) z
   replace g:=g.trans g3
   replace eL:=g3 _ _ eL
   replace hD':=dg.mono g3 hD'
   replace epd:=g3 _ _ epd
   replace lf:=lf.mono g3
   rw[u2];clear u2
   refine ap fun U2 u2=>?_
   lk
   refine⟨.inl ⟨rfl,_,SqL.of eL⟩,L,us'++[.ref pd],.ref pd,rfl,rfl,eL,by simp,?_⟩
   rw[yUa]
   have lf2:=lf.put hL0 hD'
   have npL:pd≠L:=fun y=>by rw[y,eL] at epd;cases epd
   have epd2:upd H3 L (.lst us') pd=some (.dT pns):=by rw[au npL];exact epd
   have eL4':=ae (H:=H3) (a:=L) (o:=.lst us')
   generalize upd H3 L (.lst us')=H4 at lf2 epd2 eL4' ⊢
   have g4:=lf2.same
   have hT4:=hT.mono g4
   have hsv4:=hsv.tmono (aC g4)
   obtain⟨us4,_,eL4,hD4⟩:=lf2.ex
   rw[eL4'] at eL4
   cases eL4
   have eL4:=eL4'
   rw[u2];clear u2
   lk
   cases st with
   | part h d' =>
    obtain⟨t0,e0,et⟩:=kh hsv4
    cases e0
    obtain⟨dx,y,rt,stt,vr,vss,t1,t2,t3,t4,t5⟩:=hT4.ex
    obtain⟨f0,f1,f2,f3,fv⟩:=kI (show dz hs.length d.toNat pns h d'=true from z)
    refine⟨_,SqT.of et,_,rfl,rfl,?_⟩
    rw[if_pos rfl]
    refine⟨.inl ⟨rfl,_,SqL.of eL4⟩,_,_,_,t1,T.cl_Terms,T.n_Terms_ward,_,gz _ _ _,_,SqT.of et,_,rfl,_,SqT.of et,_,rfl,y,pd,h,d',d,hs,ps,pns,rfl,t2,okw,epd2,pok.1,by have:=pok.2;lia,f0,f1,f2,by lia,fun r ur H5 g5 hr er hDr hfu=>?_⟩
    have hl1:=Paired.length hD4
    have hl2:=Paired.length hDr
    have hl3:=cok2.1
    rw[yf,show(og (gS sums hs ps d) pns (.part h d')).length=ur.length from hl2.symm] at hl3
    refine⟨r,rfl,us',g5 _ _ eL4,ur,er,vL (by lia),_,hsnoc,(lf2.mono g5).put hL0 (Paired.app (dg.mono g5 hD4) hDr),cok2,_,ae,hfr'.app (hfu.back g4)⟩
   | sum us0 =>
    obtain⟨t0,ut,uv0,e0,et,eu,hU⟩:=mV hsv4
    cases e0
    refine⟨_,SqT.of et,_,rfl,rfl,?_⟩
    rw[if_neg k!]
    have e:cs'++og (gS sums hs ps d) pns (.sum us0)=cs':=yy _
    rw[e] at hsnoc cok2
    exact⟨cs',hsnoc,lf2,cok2,us',eL4,hfr'⟩
   | oth s =>
    have z:false=true:=z
    cases z
  clear lf
  rintro σ H' ⟨⟨cs,hc,lf,cok,fr⟩,v3,v4,rfl⟩
  lk
  rw[u1];clear u1
  lk
  rw[hul,yo] at hc
  obtain⟨us,g,eL,hD⟩:=lf.ex
  obtain⟨usf,ef,hfr⟩:=fr
  rw[eL] at ef
  cases ef
  exact q2 cs hc L us H' g hL0 eL hD (dh.mono cok (by lia)) hfr
inductive An(K_:PySem.W.Frag)(ζ:Cs)(vs:List V)(H:Hp)(Q:VK)(E:XK):Prop
 | mk (d:Int) (_:vs=[.int d]) (_:1≤d) (_:d≤31) (_:Q .non H):An K_ ζ vs H Q E
theorem Et:ax ["days"] ["days"] (ao xb):=⟨rfl,rfl,rfl,k!,rfl,k!,k!⟩
theorem C9{ζ:Cs}{f:Addr}{fd:FuncData}(F:Fun K "need_month" "need_month" xb f fd)(T:Txt K mg ζ) :aT P w K mg base CX0 1 f fd ["days"] (An K ζ):=by
 refine F.ok Et (fun vs H Q E h=>?_) (fun cdv A outer s H vs Q E hr h=>?_)
 ·cases h;subst_vars;rfl
 ·obtain⟨n,rfl,n0,n1,q⟩:=h
  refine⟨_,(ak (bb (PW.pt (ie (aG cV (vd 0) ag (aH _)) (eC (aG eQ (vd 0) (eT rfl T.g_MOST_DAYS) (aH _))))) (ak fT) aN)),?_⟩
  lk
  rw[if_neg (by lia),if_neg (by lia)]
  exact q
inductive vI(K_:PySem.W.Frag)(ζ:Cs)(vs:List V)(H:Hp)(Q:VK)(E:XK):Prop
 | mk (n:Int) (_:vs=[.int n]) (_:okH n) (_:Q (.bl true) H):vI K_ ζ vs H Q E
theorem Fk:ax ["number"] ["number"] (ao AL):=⟨rfl,rfl,rfl,k!,rfl,k!,k!⟩
theorem ED{ζ:Cs}{f:Addr}{fd:FuncData}(F:Fun K "is_skills" "is_skills" AL f fd)(T:Txt K mg ζ) :aT P w K mg base CX0 1 f fd ["number"] (vI K ζ):=by
 refine F.ok Fk (fun vs H Q E h=>?_) (fun cdv A outer s H vs Q E hr h=>?_)
 ·cases h;subst_vars;rfl
 ·obtain⟨n,rfl,hn,q⟩:=h
  refine⟨_,(ak (aB (bV b9 cV ag (vd 0) (av dj ag ag)))),?_⟩
  lk
  rw[if_pos hn.1]
  refine⟨⟨by decide,by decide,by decide⟩,?_⟩
  rw[show(2:Int) ^ Int.toNat 30=1073741824 by decide,decide_eq_true hn.2]
  exact q
inductive xA(K:PySem.W.Frag)(ζ:Cs)(vs:List V)(H:Hp)(Q:VK)(E:XK):Prop
 | mk (a:Addr) (hs:List Int) (_:vs=[.ref a]) (_:SqL K H a (hs.map V.int)) (_:(∀x∈hs,okH x)) (_:hs.length≤8) (_:∀H',az H H'→Q .non H'):xA K ζ vs H Q E
theorem zT:ax ["hands","number","skills"] ["hands"] (ao Av):=⟨rfl,rfl,rfl,k!,rfl,k!,k!⟩
theorem Fe{ζ:Cs}{f:Addr}{fd:FuncData}(F:Fun K "need_hands" "need_hands" Av f fd)(T:Txt K mg ζ)(zH_:Cal P w K mg base "is_skills" ["number"] 1 (vI K ζ)):aT P w K mg base CX0 2 f fd ["hands"] (xA K ζ):=by
 refine F.ok zT (fun vs H Q E h=>?_) (fun cdv A outer s H vs Q E hr h=>?_)
 ·cases h;subst_vars;rfl
 ·obtain⟨a,hs,rfl,hS,hh,hl,q⟩:=h
  refine⟨_,(ak (bi PassesOwn.never rfl (bT rfl T.enumerate (vd 0)) (bR (n:=2) rfl (aA (am (i:=1) zT.nd rfl (Or.inl rfl)) (aA (am (i:=2) zT.nd rfl (Or.inl rfl)) bt)))
   (ak (bb (PW.pt (ie (aG o5 (vd 1) (eT rfl T.g_MOST_HANDS) (aH _)) (eC (eJ (cw (aw zH_ (hr.mono (by decide)) rfl (aa (vd 2) af))))))) (ak fT) aN)))),?_⟩
  lk
  refine⟨⟨_,hS⟩,bS (xs:=hs.map V.int) (fun i σ H'=>az H H'∧∃v1 v2,σ=[some (.ref a),v1,v2]) ⟨az.refl H,none,none,rfl⟩ (fun i σ H' _ hh=>hh.1.seq hS) ?_ ?_⟩
  ·rintro i x σ H' t hx ⟨g,v1,v2,rfl⟩ ht
   rw[yj] at hx
   obtain⟨p,hpi,rfl⟩:=Option.map_eq_some_iff.mp hx
   have hi:i<hs.length:=(List.getElem?_eq_some_iff.mp hpi).1
   lk
   refine⟨_,SqT.of ae,rfl,_,_,rfl,_,_,rfl,rfl,?_⟩
   lk
   rw[if_neg (by lia)]
   refine⟨p,rfl,hh p (yc hpi),?_⟩
   lk
   first | exact⟨g.trans (ah ht _),_,_,rfl⟩ | exact⟨g.trans (ah ht _),_,rfl⟩ | exact g.trans (ah ht _)
  ·rintro σ H' ⟨g,_⟩
   lk
   exact q H' g
inductive Ao(K_:PySem.W.Frag)(ζ:Cs)(vs:List V)(H:Hp)(Q:VK)(E:XK):Prop
 | mk (t:Addr) (q:Pst) (_:vs=[.ref t]) (_:H t=some (.tup [.int q.1,.int q.2.1,.int q.2.2])) (_:okP q) (_:Q (.bl true) H):Ao K_ ζ vs H Q E
theorem Dw:ax ["post"] ["post"] (ao xf):=⟨rfl,rfl,rfl,k!,rfl,k!,k!⟩
theorem Dq{ζ:Cs}{f:Addr}{fd:FuncData}(F:Fun K "is_post" "is_post" xf f fd)(T:Txt K mg ζ)(zH_:Cal P w K mg base "is_skills" ["number"] 1 (vI K ζ)):aT P w K mg base CX0 2 f fd ["post"] (Ao K ζ):=by
 refine F.ok Dw (fun vs H Q E h=>?_) (fun cdv A outer s H vs Q E hr h=>?_)
 ·cases h;subst_vars;rfl
 ·obtain⟨t,p,rfl,ht,hp,q⟩:=h
  refine⟨_,(ak (aB (bP (aw zH_ (hr.mono (by decide)) rfl (aa (aM ba (vd 0) ag (fun _ _=>rfl)) af)) (bP (bV b9 b9 ag (aM ba (vd 0) ag (fun _ _=>rfl)) (av dj ag ag)) (ck (bV b9 b9 ag (aM ba (vd 0) ag (fun _ _=>rfl)) ag)))))),?_⟩
  lk
  refine⟨_,SqT.of ht,_,rfl,_,rfl,hp.1,?_⟩
  lk
  refine⟨_,SqT.of ht,_,rfl,?_⟩
  lk
  rw[if_pos hp.2.1.1]
  refine⟨⟨by decide,by decide,by decide⟩,?_⟩
  rw[show(10:Int) ^ Int.toNat 9=1000000000 by decide,if_pos hp.2.1.2]
  refine⟨_,SqT.of ht,_,rfl,?_⟩
  lk
  rw[if_pos hp.2.2.1,decide_eq_true hp.2.2.2]
  exact q
inductive wZ(K:PySem.W.Frag)(ζ:Cs)(vs:List V)(H:Hp)(Q:VK)(E:XK):Prop
 | mk (a:Addr) (ts:List V) (ps:List Pst) (_:vs=[.ref a]) (_:SqL K H a ts) (_:bQ H ts ps) (_:(∀q∈ps,okP q)) (_:ps.length≤6) (_:∀H',az H H'→Q .non H'):wZ K ζ vs H Q E
theorem BA:ax ["posts","number","post"] ["posts"] (ao wW):=⟨rfl,rfl,rfl,k!,rfl,k!,k!⟩
theorem C8{ζ:Cs}{f:Addr}{fd:FuncData}(F:Fun K "need_posts" "need_posts" wW f fd)(T:Txt K mg ζ)(zdK_:Cal P w K mg base "is_post" ["post"] 2 (Ao K ζ)):aT P w K mg base CX0 3 f fd ["posts"] (wZ K ζ):=by
 refine F.ok BA (fun vs H Q E h=>?_) (fun cdv A outer s H vs Q E hr h=>?_)
 ·cases h;subst_vars;rfl
 ·obtain⟨a,ts,ps,rfl,hS,hT,hp,hl,q⟩:=h
  refine⟨_,(ak (bi PassesOwn.never rfl (jv rfl T.enumerate (vd 0)) (bR (n:=2) rfl (aA (am (i:=1) BA.nd rfl (Or.inl rfl)) (aA (am (i:=2) BA.nd rfl (Or.inl rfl)) bt)))
   (ak (bb (PW.pt (ie (aG eQ (vd 1) (eT rfl T.g_MOST_POSTS) (aH _)) (eC (eJ (cw (aw zdK_ (hr.mono (by decide)) rfl (aa (vd 2) af))))))) (ak fT) aN)))),?_⟩
  lk
  refine⟨⟨_,hS⟩,bS (xs:=ts) (fun i σ H'=>az H H'∧∃v1 v2,σ=[some (.ref a),v1,v2]) ⟨az.refl H,none,none,rfl⟩ (fun i σ H' _ hh=>hh.1.seq hS) ?_ ?_⟩
  ·rintro i x σ H' t hx ⟨g,v1,v2,rfl⟩ ht
   obtain⟨p,hpi,t',rfl,ht'⟩:=hT.at' hx
   have hi:i<ps.length:=(List.getElem?_eq_some_iff.mp hpi).1
   have g2:=g.trans (ah ht (.tup [.int (((1+i:Nat)):Int),.ref t']))
   lk
   refine⟨_,SqT.of ae,rfl,_,_,rfl,_,_,rfl,rfl,?_⟩
   lk
   rw[if_neg (by lia)]
   refine⟨t',p,rfl,g2 _ _ ht',hp p (yc hpi),?_⟩
   lk
   first | exact⟨g2,_,_,rfl⟩ | exact⟨g2,_,rfl⟩ | exact g2
  ·rintro σ H' ⟨g,_⟩
   lk
   exact q H' g
inductive A6(K:PySem.W.Frag)(ζ:Cs)(vs:List V)(H:Hp)(Q:VK)(E:XK):Prop
 | mk (x dx a b:Addr) (d:Int) (hs:List Int) (ts:List V) (ps:List Pst) (_:vs=[.ref x,.int d,.ref a,.ref b]) (_:H x=some (.ins ζ.a dx [])) (_:SqL K H a (hs.map V.int)) (_:SqL K H b ts) (_:bQ H ts ps) (_:Ok d hs ps) (_:∀H',(∀c o,H c=some o→c≠x→H' c=some o)→aX ζ.a H' x d hs ps→Q .non H'):A6 K ζ vs H Q E
theorem Gd:ax ["self","days","hands","posts"] ["self","days","hands","posts"] (ao zg):=⟨rfl,rfl,rfl,k!,rfl,k!,k!⟩
theorem C6{ζ:Cs}{f:Addr}{fd:FuncData}(F:Fun K "__init__" "Ward.__init__" zg f fd)(T:Txt K mg ζ)(zcm_:Cal P w K mg base "need_month" ["days"] 1 (An K ζ))(zcn_:Cal P w K mg base "need_hands" ["hands"] 2 (xA K ζ))(zco_:Cal P w K mg base "need_posts" ["posts"] 3 (wZ K ζ)):aT P w K mg base CX0 4 f fd ["self","days","hands","posts"] (A6 K ζ):=by
 refine F.ok Gd (fun vs H Q E h=>?_) (fun cdv A outer s H vs Q E hr h=>?_)
 ·cases h;subst_vars;rfl
 ·obtain⟨x,dx,a,b,d,hs,ts,ps,rfl,hx,hA,hB,hT,ok,q⟩:=h
  refine⟨_,(aj (bJ (aw zcm_ (hr.mono (by decide)) rfl (aa (vd 1) af)))
  (aj (bJ (aw zcn_ (hr.mono (by decide)) rfl (aa (vd 2) af)))
  (aj (bJ (aw zco_ (hr.mono (by decide)) rfl (aa (vd 3) af)))
  (aj (bN (vd 0) (vd 1) rfl)
  (aj (bN (vd 0) (aY (bW (K:=K) rfl) (by rfl) T.tuple PyProof.Rows.boot_tuple (aa (vd 2) af)) rfl)
  (ak (bN (vd 0) (aY (bW (K:=K) rfl) (by rfl) T.tuple PyProof.Rows.boot_tuple (aa (vd 3) af)) rfl))))))),?_⟩
  lk
  refine⟨d,rfl,ok.d1,ok.d2,a,hs,rfl,hA,ok.h,ok.hl,fun H1 g1=>⟨b,ts,ps,rfl,g1.seq hB,hT.mono g1,ok.p,ok.pl,fun H2 g2=>?_⟩⟩
  have g:=g1.trans g2
  have hx2:=g _ _ hx
  lk
  refine⟨ζ.a,dx,[],hx2,T.cl_Ward,T.n_Ward_days,by decide,_,(g.seq hA).off (by intro ys z;rw[hx2] at z;cases z) (by intro v u z;rw[hx2] at z;cases z),fun l1 hl1=>?_⟩
  have n1:x≠l1:=fun z=>by rw[← z,ae] at hl1;cases hl1
  have e1:H2 l1=none:=by rw[au n1.symm] at hl1;exact hl1
  refine⟨ζ.a,dx,bA "days" (.int d) [],by rw[au n1,ae],T.cl_Ward,T.n_Ward_hands,yE (aS _ _ _) (by show 1<1000;decide),ts,?_,fun l2 hl2=>?_⟩
  ·refine SqL.off ((ah (by rw[au n1.symm];exact e1) _).seq ((g.seq hB).off ?_ ?_)) ?_ ?_
   ·intro ys z;rw[hx2] at z;cases z
   ·intro v u z;rw[hx2] at z;cases z
   ·intro ys z;rw[au n1,ae] at z;cases z
   ·intro v u z;rw[au n1,ae] at z;cases z
  have n2:x≠l2:=fun z=>by rw[← z,ae] at hl2;cases hl2
  have n3:l1≠l2:=fun z=>by rw[← z,au n1.symm,ae] at hl2;cases hl2
  have e2:H2 l2=none:=by rw[au n2.symm,au n3.symm,au n2.symm] at hl2;exact hl2
  refine⟨ζ.a,dx,bA "hands" (.ref l1) (bA "days" (.int d) []),by rw[au n2,ae],T.cl_Ward,T.n_Ward_posts,yE (yu (aS _ _ _) (yha (aS _ _ _))) (by show 2<1000;decide),?_⟩
  have fr:∀c o,H2 c=some o→c≠x→upd (upd (upd (upd (upd H2 x (.ins ζ.a dx (bA "days" (.int d) []))) l1 (.tup (hs.map V.int))) x (.ins ζ.a dx (bA "hands" (.ref l1) (bA "days" (.int d) [])))) l2 (.tup ts)) x (.ins ζ.a dx (wf d l1 l2)) c=some o:=fun c o hc ne=>by
   rw[au ne,au (ay hc e2),au ne,au (ay hc e1),au ne]
   exact hc
  refine q _ (fun c o hc ne=>fr c o (g _ _ hc) ne) ⟨dx,l1,l2,ts,ae,?_,?_,?_⟩
  ·rw[au n1.symm,au n3,au n1.symm,ae]
  ·rw[au n2.symm,ae]
  ·exact Paired.mapP hT fun v p ⟨t,e,ht⟩=>⟨t,e,fr _ _ (g _ _ ht) (fun z=>by subst z;rw[hx] at ht;cases ht)⟩
inductive zX_(K:PySem.W.Frag)(ζ:Cs)(vs:List V)(H:Hp)(Q:VK)(E:XK):Prop
 | mk (x dx:Addr) (h m:Int) (_:vs=[.ref x,.int h,.int m]) (_:H x=some (.ins ζ.h dx [])) (_:Q .non (upd H x (.ins ζ.h dx (ho h m)))):zX_ K ζ vs H Q E
theorem Di:ax ["self","hand","other"] ["self","hand","other"] (ao zD):=⟨rfl,rfl,rfl,k!,rfl,k!,k!⟩
theorem FF{ζ:Cs}{f:Addr}{fd:FuncData}(F:Fun K "__init__" "Apart.__init__" zD f fd)(T:Txt K mg ζ) :aT P w K mg base CX0 1 f fd ["self","hand","other"] (zX_ K ζ):=by
 refine F.ok Di (fun vs H Q E h=>?_) (fun cdv A outer s H vs Q E hr h=>?_)
 ·cases h;subst_vars;rfl
 ·obtain⟨x,dx,h,m,rfl,hx,q⟩:=h
  refine⟨_,(aj (bN (vd 0) (vd 1) rfl)
  (ak (bN (vd 0) (vd 2) rfl))),?_⟩
  lk
  refine⟨_,_,_,hx,T.cl_Apart,T.n_Apart_hand,by decide,?_⟩
  refine⟨_,_,_,ae,T.cl_Apart,T.n_Apart_other,yE (aS _ _ _) (by show 1<1000;decide),?_⟩
  rw[bK]
  exact q
inductive BB(K:PySem.W.Frag)(ζ:Cs)(vs:List V)(H:Hp)(Q:VK)(E:XK):Prop
 | mk (x dx:Addr) (d p m:Int) (_:vs=[.ref x,.int d,.int p,.int m]) (_:H x=some (.ins ζ.c dx [])) (_:Q .non (upd H x (.ins ζ.c dx (wf3 d p m)))):BB K ζ vs H Q E
theorem E8:ax ["self","day","post","many"] ["self","day","post","many"] (ao A8):=⟨rfl,rfl,rfl,k!,rfl,k!,k!⟩
theorem Eh{ζ:Cs}{f:Addr}{fd:FuncData}(F:Fun K "__init__" "Want.__init__" A8 f fd)(T:Txt K mg ζ) :aT P w K mg base CX0 1 f fd ["self","day","post","many"] (BB K ζ):=by
 refine F.ok E8 (fun vs H Q E h=>?_) (fun cdv A outer s H vs Q E hr h=>?_)
 ·cases h;subst_vars;rfl
 ·obtain⟨x,dx,d,p,m,rfl,hx,q⟩:=h
  refine⟨_,(aj (bN (vd 0) (vd 1) rfl)
  (aj (bN (vd 0) (vd 2) rfl)
  (ak (bN (vd 0) (vd 3) rfl)))),?_⟩
  lk
  refine⟨_,_,_,hx,T.cl_Want,T.n_Want_day,by decide,?_⟩
  refine⟨_,_,_,ae,T.cl_Want,T.n_Want_post,yE (aS _ _ _) (by show 1<1000;decide),?_⟩
  refine⟨_,_,_,ae,T.cl_Want,T.n_Want_many,yE (yu (aS _ _ _) (yha (aS _ _ _))) (by show 2<1000;decide),?_⟩
  rw[bK,bK]
  exact q
inductive zB(K:PySem.W.Frag)(ζ:Cs)(vs:List V)(H:Hp)(Q:VK)(E:XK):Prop
 | mk (x dx:Addr) (d p m:Int) (_:vs=[.ref x,.int d,.int p,.int m]) (_:H x=some (.ins ζ.d dx [])) (_:Q .non (upd H x (.ins ζ.d dx (mf3 d p m)))):zB K ζ vs H Q E
theorem FP:ax ["self","hand","days","many"] ["self","hand","days","many"] (ao wK):=⟨rfl,rfl,rfl,k!,rfl,k!,k!⟩
theorem El{ζ:Cs}{f:Addr}{fd:FuncData}(F:Fun K "__init__" "Most.__init__" wK f fd)(T:Txt K mg ζ) :aT P w K mg base CX0 1 f fd ["self","hand","days","many"] (zB K ζ):=by
 refine F.ok FP (fun vs H Q E h=>?_) (fun cdv A outer s H vs Q E hr h=>?_)
 ·cases h;subst_vars;rfl
 ·obtain⟨x,dx,d,p,m,rfl,hx,q⟩:=h
  refine⟨_,(aj (bN (vd 0) (vd 1) rfl)
  (aj (bN (vd 0) (vd 2) rfl)
  (ak (bN (vd 0) (vd 3) rfl)))),?_⟩
  lk
  refine⟨_,_,_,hx,T.cl_Most,T.n_Most_hand,by decide,?_⟩
  refine⟨_,_,_,ae,T.cl_Most,T.n_Most_days,yE (aS _ _ _) (by show 1<1000;decide),?_⟩
  refine⟨_,_,_,ae,T.cl_Most,T.n_Most_many,yE (yu (aS _ _ _) (yha (aS _ _ _))) (by show 2<1000;decide),?_⟩
  rw[bK,bK]
  exact q
inductive zY_(K:PySem.W.Frag)(ζ:Cs)(vs:List V)(H:Hp)(Q:VK)(E:XK):Prop
 | mk (x dx:Addr) (d p m:Int) (_:vs=[.ref x,.int d,.int p,.int m]) (_:H x=some (.ins ζ.e dx [])) (_:Q .non (upd H x (.ins ζ.e dx (mf3 d p m)))):zY_ K ζ vs H Q E
theorem C3:ax ["self","hand","days","many"] ["self","hand","days","many"] (ao Aa):=⟨rfl,rfl,rfl,k!,rfl,k!,k!⟩
theorem DQ{ζ:Cs}{f:Addr}{fd:FuncData}(F:Fun K "__init__" "Least.__init__" Aa f fd)(T:Txt K mg ζ) :aT P w K mg base CX0 1 f fd ["self","hand","days","many"] (zY_ K ζ):=by
 refine F.ok C3 (fun vs H Q E h=>?_) (fun cdv A outer s H vs Q E hr h=>?_)
 ·cases h;subst_vars;rfl
 ·obtain⟨x,dx,d,p,m,rfl,hx,q⟩:=h
  refine⟨_,(aj (bN (vd 0) (vd 1) rfl)
  (aj (bN (vd 0) (vd 2) rfl)
  (ak (bN (vd 0) (vd 3) rfl)))),?_⟩
  lk
  refine⟨_,_,_,hx,T.cl_Least,T.n_Least_hand,by decide,?_⟩
  refine⟨_,_,_,ae,T.cl_Least,T.n_Least_days,yE (aS _ _ _) (by show 1<1000;decide),?_⟩
  refine⟨_,_,_,ae,T.cl_Least,T.n_Least_many,yE (yu (aS _ _ _) (yha (aS _ _ _))) (by show 2<1000;decide),?_⟩
  rw[bK,bK]
  exact q
inductive xi(K:PySem.W.Frag)(ζ:Cs)(vs:List V)(H:Hp)(Q:VK)(E:XK):Prop
 | mk (x dx:Addr) (h s:Int) (_:vs=[.ref x,.int h,.int s]) (_:H x=some (.ins ζ.g dx [])) (_:Q .non (upd H x (.ins ζ.g dx (af2 h s)))):xi K ζ vs H Q E
theorem Fb:ax ["self","hand","days"] ["self","hand","days"] (ao w8):=⟨rfl,rfl,rfl,k!,rfl,k!,k!⟩
theorem C2{ζ:Cs}{f:Addr}{fd:FuncData}(F:Fun K "__init__" "Away.__init__" w8 f fd)(T:Txt K mg ζ) :aT P w K mg base CX0 1 f fd ["self","hand","days"] (xi K ζ):=by
 refine F.ok Fb (fun vs H Q E h=>?_) (fun cdv A outer s H vs Q E hr h=>?_)
 ·cases h;subst_vars;rfl
 ·obtain⟨x,dx,h,m,rfl,hx,q⟩:=h
  refine⟨_,(aj (bN (vd 0) (vd 1) rfl)
  (ak (bN (vd 0) (vd 2) rfl))),?_⟩
  lk
  refine⟨_,_,_,hx,T.cl_Away,T.n_Away_hand,by decide,?_⟩
  refine⟨_,_,_,ae,T.cl_Away,T.n_Away_days,yE (aS _ _ _) (by show 1<1000;decide),?_⟩
  rw[bK]
  exact q
inductive zL_(K:PySem.W.Frag)(ζ:Cs)(vs:List V)(H:Hp)(Q:VK)(E:XK):Prop
 | mk (x dx:Addr) (h m:Int) (_:vs=[.ref x,.int h,.int m]) (_:H x=some (.ins ζ.i dx [])) (_:Q .non (upd H x (.ins ζ.i dx (hm h m)))):zL_ K ζ vs H Q E
theorem DM:ax ["self","hand","many"] ["self","hand","many"] (ao zT_):=⟨rfl,rfl,rfl,k!,rfl,k!,k!⟩
theorem Dc{ζ:Cs}{f:Addr}{fd:FuncData}(F:Fun K "__init__" "Nights.__init__" zT_ f fd)(T:Txt K mg ζ) :aT P w K mg base CX0 1 f fd ["self","hand","many"] (zL_ K ζ):=by
 refine F.ok DM (fun vs H Q E h=>?_) (fun cdv A outer s H vs Q E hr h=>?_)
 ·cases h;subst_vars;rfl
 ·obtain⟨x,dx,h,m,rfl,hx,q⟩:=h
  refine⟨_,(aj (bN (vd 0) (vd 1) rfl)
  (ak (bN (vd 0) (vd 2) rfl))),?_⟩
  lk
  refine⟨_,_,_,hx,T.cl_Nights,T.n_Nights_hand,by decide,?_⟩
  refine⟨_,_,_,ae,T.cl_Nights,T.n_Nights_many,yE (aS _ _ _) (by show 1<1000;decide),?_⟩
  rw[bK]
  exact q
inductive zZ_(K:PySem.W.Frag)(ζ:Cs)(vs:List V)(H:Hp)(Q:VK)(E:XK):Prop
 | mk (x dx:Addr) (d p m:Int) (_:vs=[.ref x,.int d,.int p,.int m]) (_:H x=some (.ins ζ.f dx [])) (_:Q .non (upd H x (.ins ζ.f dx (qf3 d p m)))):zZ_ K ζ vs H Q E
theorem EB:ax ["self","hand","least","most"] ["self","hand","least","most"] (ao AT):=⟨rfl,rfl,rfl,k!,rfl,k!,k!⟩
theorem EG{ζ:Cs}{f:Addr}{fd:FuncData}(F:Fun K "__init__" "Hours.__init__" AT f fd)(T:Txt K mg ζ) :aT P w K mg base CX0 1 f fd ["self","hand","least","most"] (zZ_ K ζ):=by
 refine F.ok EB (fun vs H Q E h=>?_) (fun cdv A outer s H vs Q E hr h=>?_)
 ·cases h;subst_vars;rfl
 ·obtain⟨x,dx,d,p,m,rfl,hx,q⟩:=h
  refine⟨_,(aj (bN (vd 0) (vd 1) rfl)
  (aj (bN (vd 0) (vd 2) rfl)
  (ak (bN (vd 0) (vd 3) rfl)))),?_⟩
  lk
  refine⟨_,_,_,hx,T.cl_Hours,T.n_Hours_hand,by decide,?_⟩
  refine⟨_,_,_,ae,T.cl_Hours,T.n_Hours_least,yE (aS _ _ _) (by show 1<1000;decide),?_⟩
  refine⟨_,_,_,ae,T.cl_Hours,T.n_Hours_most,yE (yu (aS _ _ _) (yha (aS _ _ _))) (by show 2<1000;decide),?_⟩
  rw[bK,bK]
  exact q
inductive xY(K:PySem.W.Frag)(ζ:Cs)(vs:List V)(H:Hp)(Q:VK)(E:XK):Prop
 | mk (x t:Addr) (d:Int) (hs:List Int) (ps:List Pst) (i:Nat) (h:Int) (row:List Int) (_:vs=[.ref x,.int i,.ref t]) (_:aX ζ.a H x d hs ps) (_:hs[i]? = some h) (_:ps.length≤6) (_:H t=some (.lst (row.map V.int))) (_:row.length≤900) (_:∀H',az H H'→Q (.bl (du d h ps row)) H'):xY K ζ vs H Q E
theorem BP:ax ["ward","hand","row","choices"] ["ward","hand","row"] (ao Bf):=⟨rfl,rfl,rfl,k!,rfl,k!,k!⟩
theorem FY{ζ:Cs}{f:Addr}{fd:FuncData}(F:Fun K "is_row" "is_row" Bf f fd)(T:Txt K mg ζ)(zh_:c5 P w K mg base ζ.a "choices" ["self","hand"] 2 (zy_ K ζ)):aT P w K mg base CX0 3 f fd ["ward","hand","row"] (xY K ζ):=by
 refine F.ok BP (fun vs H Q E h=>?_) (fun cdv A outer s H vs Q E hr h=>?_)
 ·cases h;subst_vars;rfl
 ·obtain⟨x,t,d,hs,ps,i,h,row,rfl,hW,hi,hl,ht,hrl,q⟩:=h
  refine⟨_,(aj (bb (aG mJ (aF (aL (K:=K) rfl) (by rfl) T.len PySem.boot_len (aa (vd 2) af)) (aO (vd 0) rfl) (aH _)) (ak (aB dO)) aN)
  (aj (aD (i:=3) BP.nd rfl (Or.inr rfl) (bx zh_ (hr.mono (by decide)) (vd 0) (aa (vd 1) af)))
  (ak (aB (aF (jf rfl) (by rfl) T.all PyProof.Rows.boot_all (aa (bj (own:=["value"]) (fnames:=["choices"]) (fr:=[3]) (N':=["value","choices"]) ⟨rfl,rfl,rfl,rfl,rfl,rfl,rfl⟩ rfl (bf (vd 2)) (fun s0 H0 fp0 C0=>⟨(am (i:=0) (by show(["value","choices"]:List Str).Nodup;decide +kernel) rfl (Or.inl rfl)),bB,(b8 (oa (K:=K) rfl) (vd 0) (vd 1) (by with_unfolding_all rfl))⟩)) af)))))),?_⟩
  obtain⟨dx,ha,pa,ts,w1,w2,w3,w4⟩:=hW.ex
  lk
  refine⟨_,.inl (SqL.of ht),_,_,_,w1,T.cl_Ward,T.n_Ward_days,_,cN _ _ _,rfl,?_⟩
  lk
  split
  ·rename_i hne
   have e:du d h ps row=false:=by
    unfold du
    rw[decide_eq_false (by simpa using hne),yka]
   rw[e] at q
   exact q H (az.refl H)
  ·rename_i heq
   have hlen:(row.length:Int)=d:=by simpa using heq
   refine⟨_,_,w1,qO _ _ _ k! k! k!,x,d,hs,ps,i,h,rfl,hW,hi,hl,fun r H1 ⟨g1,f1,e1⟩=>?_⟩
   lk
   refine⟨⟨_,SqL.of (g1 _ _ ht)⟩,fun D hD=>aQ (xs:=row.map V.int) (fun j σ H'=>H'=upd H1 D (.lst (((row.take j).map fun v=>decide (v∈ch h ps)).map V.bl))∧∃v1,σ=[v1,some (.ref r)]) ⟨by simp,none,rfl⟩ (fun j σ H' _ hh=>by rw[hh.1];exact SqL.of ((ah hD _) _ _ (g1 _ _ ht))) ?_ ?_⟩
   ·rintro j v σ H' hx ⟨rfl,v1,rfl⟩
    rw[yj] at hx
    obtain⟨p,hpi,rfl⟩:=Option.map_eq_some_iff.mp hx
    have hj:j<row.length:=(List.getElem?_eq_some_iff.mp hpi).1
    have g2:=ah hD (.lst (((row.take j).map fun v=>decide (v∈ch h ps)).map V.bl))
    lk
    refine⟨_,.inl (SqL.of (g2 _ _ e1)),rfl,px _,_,ae,aE (by simp only[ya,yr];lia),?_⟩
    rw[bK,List.take_add_one,hpi,vn]
    simp
   ·rintro σ H' ⟨rfl,v1,rfl⟩
    lk
    rw[ya,yo]
    refine⟨row.map fun v=>decide (v∈ch h ps),SqL.of ae,?_⟩
    have e:du d h ps row=(row.map fun v=>decide (v∈ch h ps)).all id:=by
     unfold du
     rw[decide_eq_true hlen,yja,yOa]
     rfl
    rw[e] at q
    exact q _ (g1.trans (ah hD _))
inductive tD(K:PySem.W.Frag)(ζ:Cs)(vs:List V)(H:Hp)(Q:VK)(E:XK):Prop
 | mk (x r:Addr) (d:Int) (hs:List Int) (ps:List Pst) (us:List V) (rows:List (List Int)) (_:vs=[.ref x,.ref r]) (_:aX ζ.a H x d hs ps) (_:ps.length≤6) (_:hs.length≤8) (_:H r=some (.lst us)) (_:Rows H us rows) (_:(∀row∈rows,row.length≤900)) (_:∀H',az H H'→Q (.bl (cz d hs ps rows)) H'):tD K ζ vs H Q E
theorem FK:ax ["ward","rota"] ["ward","rota"] (ao wJ):=⟨rfl,rfl,rfl,k!,rfl,k!,k!⟩
theorem Eg{ζ:Cs}{f:Addr}{fd:FuncData}(F:Fun K "is_table" "is_table" wJ f fd)(T:Txt K mg ζ)(zeD_:Cal P w K mg base "is_row" ["ward","hand","row"] 3 (xY K ζ)):aT P w K mg base CX0 4 f fd ["ward","rota"] (tD K ζ):=by
 refine F.ok FK (fun vs H Q E h=>?_) (fun cdv A outer s H vs Q E hr h=>?_)
 ·cases h;subst_vars;rfl
 ·obtain⟨x,r,d,hs,ps,us,rows,rfl,hW,hl,h8,hr1,hR,hrl,q⟩:=h
  refine⟨_,(aj (bb (aG mJ (aF (aL (K:=K) rfl) (by rfl) T.len PySem.boot_len (aa (vd 1) af)) (aF (aL (K:=K) rfl) (by rfl) T.len PySem.boot_len (aa (aO (vd 0) rfl) af)) (aH _)) (ak (aB dO)) aN)
  (ak (aB (aF (jf rfl) (by rfl) T.all PyProof.Rows.boot_all (aa (bj (own:=["hand","row"]) (fnames:=["ward"]) (fr:=[0]) (N':=["hand","row","ward"]) ⟨rfl,rfl,rfl,rfl,rfl,rfl,rfl⟩ rfl (bT rfl T.enumerate (vd 1)) (fun s0 H0 fp0 C0=>⟨(fc (K:=K) (n:=2) rfl rfl (aA (am (i:=0) (by show(["hand","row","ward"]:List Str).Nodup;decide +kernel) rfl (Or.inl rfl)) (aA (am (i:=1) (by show(["hand","row","ward"]:List Str).Nodup;decide +kernel) rfl (Or.inl rfl)) bt))),bB,(aw zeD_ (hr.mono (by decide)) rfl (aa (vd 2) (aa (vd 0) (aa (vd 1) af))))⟩)) af))))),?_⟩
  obtain⟨dx,ha,pa,ts,w1,w2,w3,w4⟩:=hW.ex
  lk
  refine⟨_,.inl (SqL.of hr1),_,_,_,w1,T.cl_Ward,T.n_Ward_hands,_,eV _ _ _,_,rfl,_,.inr (SqT.of w2),?_⟩
  rw[ya,hR.len]
  split
  ·rename_i hne
   have e:cz d hs ps rows=false:=by
    unfold cz
    rw[decide_eq_false (by lia),yka]
   rw[e] at q
   exact q H (az.refl H)
  ·rename_i heq
   have hlen:rows.length=hs.length:=by lia
   have hul:=hR.len
   refine⟨⟨_,SqL.of hr1⟩,fun D hD=>bS (S:=SqL K) (xs:=us) (fun j σ H'=>az H H'∧H' D=some (.lst (((List.range j).map (ju d hs ps rows)).map V.bl))∧∃v1 v2,σ=[v1,v2,some (.ref x)]) ⟨ah hD _,ae,none,none,rfl⟩ (fun j σ H' _ hh=>SqL.of (hh.1 _ _ hr1)) ?_ ?_⟩
   ·rintro j v σ H' t hx ⟨g,e,v1,v2,rfl⟩ ht
    obtain⟨row,hrow,t',rfl,ht'⟩:=hR.at' hx
    have hj:j<rows.length:=(List.getElem?_eq_some_iff.mp hrow).1
    have hj':j<hs.length:=by lia
    have g2:az H' (upd H' t (.tup [.int (((0+j:Nat)):Int),.ref t'])):=ah ht _
    have eb:ju d hs ps rows j=du d hs[j] ps row:=by
     unfold ju
     rw[hrow,yb hj',yz,yz]
    lk
    refine⟨_,SqT.of ae,rfl,_,_,rfl,_,_,rfl,rfl,?_⟩
    lk
    refine⟨x,t',d,hs,ps,j,hs[j],row,by rw[show((0+j:Nat):Int)=(j:Int) by lia],hW.mono (g.trans g2),yb hj',hl,g2 _ _ (g _ _ ht'),hrl row (yc hrow),fun H5 g5=>?_⟩
    refine⟨_,g5 _ _ (g2 _ _ e),aE (by simp only[ya,yx];lia),?_⟩
    lk
    refine⟨aJ hD (g.trans (g2.trans g5)) _,?_⟩
    rw[ae,yO,yg,yg,← eb]
    rfl
   ·rintro σ H' ⟨g,e,v1,v2,rfl⟩
    lk
    refine⟨(List.range us.length).map (ju d hs ps rows),SqL.of e,?_⟩
    have e2:cz d hs ps rows=((List.range us.length).map (ju d hs ps rows)).all id:=by
     unfold cz
     rw[nD,hul,decide_eq_true hlen,yja]
    rw[e2] at q
    exact q H' g
inductive AR(K_:PySem.W.Frag)(ζ:Cs)(vs:List V)(H:Hp)(Q:VK)(E:XK):Prop
 | mk (r:Addr) (us:List V) (rows:List (List Int)) (_:vs=[.ref r]) (_:H r=some (.lst us)) (_:Rows H us rows) (_:rows.length≤900) (_:∀r' us' H',az H H'→H r'=none→H' r'=some (.lst us')→Rows H' us' rows→us'.Nodup→(∀t,V.ref t∈us'→t≠r'∧H t=none)→Q (.ref r') H'):AR K_ ζ vs H Q E
theorem CP:ax ["rota"] ["rota"] (ao Au):=⟨rfl,rfl,rfl,k!,rfl,k!,k!⟩
theorem Fj{ζ:Cs}{f:Addr}{fd:FuncData}(F:Fun K "copied" "copied" Au f fd)(T:Txt K mg ζ) :aT P w K mg base CX0 1 f fd ["rota"] (AR K ζ):=by
 refine F.ok CP (fun vs H Q E h=>?_) (fun cdv A outer s H vs Q E hr h=>?_)
 ·cases h;subst_vars;rfl
 ·obtain⟨r,us,rows,rfl,hr1,hR,hl,q⟩:=h
  refine⟨_,(ak (aB (bj (own:=["row"]) (fnames:=[]) (fr:=[]) (N':=["row"]) ⟨rfl,rfl,rfl,rfl,rfl,rfl,rfl⟩ rfl (bf (vd 0)) (fun s0 H0 fp0 C0=>⟨(am (i:=0) (by show(["row"]:List Str).Nodup;decide +kernel) rfl (Or.inl rfl)),bB,(aY (iU (K:=K) rfl) (by rfl) T.list PyProof.Rows.boot_list (aa (vd 0) af))⟩)))),?_⟩
  have hul:=hR.len
  lk
  refine⟨⟨_,SqL.of hr1⟩,fun D hD=>aQ (xs:=us) (fun i σ H'=>e8 H D rows i H'∧∃v1,σ=[v1]) ⟨e8.start hD,none,rfl⟩ (fun i σ H' _ hh=>SqL.of (hh.1.same _ _ hr1)) ?_ ?_⟩
  ·rintro i v σ H' hx ⟨hc,v1,rfl⟩
   obtain⟨row,hrow,t',rfl,ht'⟩:=hR.at' hx
   have hi:i<us.length:=(List.getElem?_eq_some_iff.mp hx).1
   lk
   exact⟨_,.inl (SqL.of (hc.same _ _ ht')),fun l hl=>hc.step hD hrow hl (by lia)⟩
  ·rintro σ H5 ⟨hc,v1,rfl⟩
   lk
   obtain⟨us',g5,e5,hR5,nd5,fr5⟩:=hc.done hul
   exact q D us' H5 g5 hD e5 hR5 nd5 fr5
inductive Ab(K:PySem.W.Frag)(ζ:Cs)(vs:List V)(H:Hp)(Q:VK)(E:XK):Prop
 | mk (x r:Addr) (d:Int) (hs:List Int) (ps:List Pst) (us:List V) (rows:List (List Int)) (_:vs=[.ref x,.ref r]) (_:aX ζ.a H x d hs ps) (_:ps.length≤6) (_:hs.length≤8) (_:H r=some (.lst us)) (_:Rows H us rows) (_:(∀row∈rows,row.length≤900)) (_:rows.length≤900) (_:(cz d hs ps rows=true→∀r' us' H',az H H'→H r'=none→H' r'=some (.lst us')→Rows H' us' rows→us'.Nodup→(∀t,V.ref t∈us'→t≠r'∧H t=none)→Q (.ref r') H')) (_:(cz d hs ps rows=false→∀H',az H H'→E (.ref ζ.j) none H')):Ab K ζ vs H Q E
theorem C7:ax ["ward","rota"] ["ward","rota"] (ao AH):=⟨rfl,rfl,rfl,k!,rfl,k!,k!⟩
theorem Fg{ζ:Cs}{f:Addr}{fd:FuncData}(F:Fun K "need_table" "need_table" AH f fd)(T:Txt K mg ζ)(zeE_:Cal P w K mg base "copied" ["rota"] 1 (AR K ζ))(zQ_:Cal P w K mg base "is_table" ["ward","rota"] 4 (tD K ζ)):aT P w K mg base (CX1 P w) 5 f fd ["ward","rota"] (Ab K ζ):=by
 refine F.okX C7 (fun vs H Q E h=>?_) (fun cdv A outer s H vs Q E hr h=>?_)
 ·cases h;subst_vars;rfl
 ·obtain⟨x,r,d,hs,ps,us,rows,rfl,hW,hl,h8,hr1,hR,hrl,hr9,q1,q2⟩:=h
  refine⟨_,(aj (bb (eJ (cw (aw zQ_ (hr.mono (by decide)) rfl (aa (vd 0) (aa (vd 1) af))))) (ak (qj Bq rfl rfl T.x_NoTable (aa e7 af))) aN)
  (ak (aB (aw zeE_ (hr.mono (by decide)) rfl (aa (vd 1) af))))),?_⟩
  lk
  refine⟨x,r,d,hs,ps,us,rows,rfl,hW,hl,h8,hr1,hR,hrl,fun H1 g1=>?_⟩
  lk
  split
  ·rename_i hf
   exact⟨by decide,q2 hf H1 g1⟩
  ·rename_i ht
   have ht':cz d hs ps rows=true:=by simpa using ht
   exact⟨r,us,rows,rfl,g1 _ _ hr1,hR.mono g1,hr9,fun r' us' H2 g2 f2 e2 hR2 nd fr=>q1 ht' r' us' H2 (g1.trans g2) (g1.free f2) e2 hR2 nd fun t z=>⟨(fr t z).1,g1.free (fr t z).2⟩⟩
inductive AU(K:PySem.W.Frag)(ζ:Cs)(vs:List V)(H:Hp)(Q:VK)(E:XK):Prop
 | mk (r:Addr) (h d p:Int) (us:List V) (rows:List (List Int)) (D:Nat) (_:vs=[.ref r,.int h,.int d,.int p]) (_:H r=some (.lst us)) (_:Rows H us rows) (_:(∀row∈rows,row.length=D)) (_:0≤h) (_:h<rows.length) (_:0≤d) (_:d<D) (_:Q (.bl (decide (val rows h.toNat d.toNat=p))) H):AU K ζ vs H Q E
theorem FI:ax ["rota","hand","day","post"] ["rota","hand","day","post"] (ao Aj):=⟨rfl,rfl,rfl,k!,rfl,k!,k!⟩
theorem Ex{ζ:Cs}{f:Addr}{fd:FuncData}(F:Fun K "holds" "holds" Aj f fd)(T:Txt K mg ζ) :aT P w K mg base CX0 1 f fd ["rota","hand","day","post"] (AU K ζ):=by
 refine F.ok FI (fun vs H Q E h=>?_) (fun cdv A outer s H vs Q E hr h=>?_)
 ·cases h;subst_vars;rfl
 ·obtain⟨r,h,d,p,us,rows,D,rfl,hr1,hR,hD,h0,h1,d0,d1,q⟩:=h
  refine⟨_,(ak (aB (bP (bV b9 cV ag (vd 1) (aF (aL (K:=K) rfl) (by rfl) T.len PySem.boot_len (aa (vd 0) af))) (bP (bV b9 cV ag (vd 2) (aF (aL (K:=K) rfl) (by rfl) T.len PySem.boot_len (aa (aM bM (vd 0) (vd 1) (fun _ _=>rfl)) af))) (ck (b8 bH (aM bM (aM bM (vd 0) (vd 1) (fun _ _=>rfl)) (vd 2) (fun _ _=>rfl)) (vd 3) (aH _))))))),?_⟩
  have hul:=hR.len
  obtain⟨n,rfl⟩:∃n:Nat,h=n:=⟨h.toNat,by lia⟩
  obtain⟨m,rfl⟩:∃m:Nat,d=m:=⟨d.toNat,by lia⟩
  have hn:n<rows.length:=by lia
  obtain⟨t1,a1,q1⟩:=hR.get (yb hn)
  have l1:=hD _ (yQ hn)
  have hm:m<rows[n].length:=by lia
  have ev:val rows n m=rows[n][m]:=dH (yb hn) hm
  rw[ye,ye,ev] at q
  lk
  rw[if_pos h0]
  refine⟨_,.inl (SqL.of hr1),?_⟩
  rw[if_pos (by lia),if_pos d0]
  refine⟨_,SqL.of hr1,_,bg a1,t1,rfl,_,.inl (SqL.of q1),?_⟩
  rw[if_pos (by rw[ya];lia)]
  refine⟨_,SqL.of hr1,_,bg a1,t1,rfl,_,SqL.of q1,.int rows[n][m],bg (by rw[yj,yb hm];rfl),rfl,?_⟩
  rw[r6]
  exact q
inductive wQ(K:PySem.W.Frag)(ζ:Cs)(vs:List V)(H:Hp)(Q:VK)(E:XK):Prop
 | mk (r t:Addr) (us ts:List V) (rows:List (List Int)) (D:Nat) (qs:List Prt) (_:vs=[.ref r,.ref t]) (_:H r=some (.lst us)) (_:Rows H us rows) (_:(∀row∈rows,row.length=D)) (_:H t=some (.tup ts)) (_:cI H ts qs) (_:InT rows D qs) (_:qs.length≤900) (_:∀H',az H H'→Q (.int (tot rows qs)) H'):wQ K ζ vs H Q E
theorem CQ:ax ["rota","parts"] ["rota","parts"] (ao zE):=⟨rfl,rfl,rfl,k!,rfl,k!,k!⟩
theorem Dn{ζ:Cs}{f:Addr}{fd:FuncData}(F:Fun K "total" "total" zE f fd)(T:Txt K mg ζ)(zfa_:Cal P w K mg base "holds" ["rota","hand","day","post"] 1 (AU K ζ)):aT P w K mg base CX0 2 f fd ["rota","parts"] (wQ K ζ):=by
 refine F.ok CQ (fun vs H Q E h=>?_) (fun cdv A outer s H vs Q E hr h=>?_)
 ·cases h;subst_vars;rfl
 ·obtain⟨r,t,us,ts,rows,D,qs,rfl,hr1,hR,hD,ht,hP,hI,hl,q⟩:=h
  refine⟨_,(ak (aB (aF (hJ rfl) (by rfl) T.sum PyProof.Rows.boot_sum (aa (bj (own:=["hand","day","post","number"]) (fnames:=["rota"]) (fr:=[0]) (N':=["hand","day","post","number","rota"]) ⟨rfl,rfl,rfl,rfl,rfl,rfl,rfl⟩ rfl (k8 (vd 1)) (fun s0 H0 fp0 C0=>⟨(fc (K:=K) (n:=4) rfl rfl (aA (am (i:=0) (by show(["hand","day","post","number","rota"]:List Str).Nodup;decide +kernel) rfl (Or.inl rfl)) (aA (am (i:=1) (by show(["hand","day","post","number","rota"]:List Str).Nodup;decide +kernel) rfl (Or.inl rfl)) (aA (am (i:=2) (by show(["hand","day","post","number","rota"]:List Str).Nodup;decide +kernel) rfl (Or.inl rfl)) (aA (am (i:=3) (by show(["hand","day","post","number","rota"]:List Str).Nodup;decide +kernel) rfl (Or.inl rfl)) bt))))),(cf (cw (aw zfa_ (hr.mono (by decide)) rfl (aa (vd 4) (aa (vd 0) (aa (vd 1) (aa (vd 2) af))))))),(vd 3)⟩)) af)))),?_⟩
  lk
  refine⟨⟨_,SqT.of ht⟩,fun L hL=>gv (xs:=ts) (fun i σ H'=>az H H'∧H' L=some (.lst ((me rows (qs.take i)).map V.int))∧∃v0 v1 v2 v3,σ=[v0,v1,v2,v3,some (.ref r)]) ⟨ah hL _,ae,none,none,none,none,rfl⟩ (fun i σ H' _ hh=>SqT.of (hh.1 _ _ ht)) ?_ ?_⟩
  ·rintro i v σ H' hx ⟨g,e,v0,v1,v2,v3,rfl⟩
   obtain⟨pq,hpq,tq,rfl,htq⟩:=Paired.get' hP hx
   obtain⟨c1,c2,c3,c4⟩:=hI pq (yc hpq)
   have hsl:=qo rows (qs.take i)
   rw[yr] at hsl
   lk
   refine⟨_,SqT.of (g _ _ htq),rfl,_,_,rfl,_,_,rfl,_,_,rfl,_,_,rfl,rfl,r,pq.h,pq.d,pq.p,us,rows,D,rfl,g _ _ hr1,hR.mono g,hD,c1,c2,c3,c4,_,rfl,?_⟩
   rw[aP hpq,pH]
   show if pQ rows pq=true then _ else _
   by_cases z:pQ rows pq=true
   ·rw[if_pos z,if_pos z]
    refine⟨_,e,aE (by rw[ya];lia),aJ hL g _,?_⟩
    rw[ae,yg]
    rfl
   ·rw[if_neg z,if_neg z,yy]
    exact⟨g,e⟩
  ·rintro σ H' ⟨g,e,v0,v1,v2,v3,rfl⟩
   lk
   rw[Paired.length hP,yo] at e
   refine⟨_,SqL.of e,?_⟩
   rw[lZ]
   exact q H' g
inductive Bm(K:PySem.W.Frag)(ζ:Cs)(vs:List V)(H:Hp)(Q:VK)(E:XK):Prop
 | mk (x r:Addr) (d:Int) (hs:List Int) (ps:List Pst) (us:List V) (rows:List (List Int)) (sums:List (List Lin)) (_:vs=[.ref x,.ref r]) (_:cy ζ.b ζ.a H x d hs ps sums) (_:ps.length≤6) (_:hs.length≤8) (_:H r=some (.lst us)) (_:Rows H us rows) (_:(∀row∈rows,row.length≤900)) (_:rows.length≤900) (_:sums.length≤20) (_:(∀ls∈sums,ls.length≤40∧∀ℓ∈ls,ℓ.ps.length≤900∧∀q∈ℓ.ps,0≤q.h∧q.h<(hs.length:Int)∧0≤q.d∧q.d<d)) (_:(cz d hs ps rows=true→∀r' us' H',az H H'→H r'=none→H' r'=some (.lst us')→eG H' us' (gI rows sums)→Q (.ref r') H')) (_:(cz d hs ps rows=false→∀H',az H H'→E (.ref ζ.j) none H')):Bm K ζ vs H Q E
theorem zE_:ax ["terms","rota","table","found","rule","lines","number","line","short"] ["terms","rota"] (ao AO):=⟨rfl,rfl,rfl,k!,rfl,k!,k!⟩
theorem Fv{ζ:Cs}{f:Addr}{fd:FuncData}(F:Fun K "faults" "faults" AO f fd)(T:Txt K mg ζ)(X_need_table:uh P w K mg base "need_table" ["ward","rota"] 5 (Ab K ζ))(zfb_:Cal P w K mg base "total" ["rota","parts"] 2 (wQ K ζ)):aT P w K mg base (CX1 P w) 6 f fd ["terms","rota"] (Bm K ζ):=by
 refine F.okX zE_ (fun vs H Q E h=>?_) (fun cdv A outer s H vs Q E hr h=>?_)
 ·cases h;subst_vars;rfl
 ·obtain⟨x,r,d,hs,ps,us,rows,sums,rfl,hT,p6,h8,er,hR,r9,rl9,s9,hb,q1,q2⟩:=h
  refine⟨_,(aj (aD (i:=2) zE_.nd rfl (Or.inl rfl) (oI X_need_table B3 (hr.mono (by decide)) rfl (aa (aO (vd 0) rfl) (aa (vd 1) af))))
  (aj (aD (i:=3) zE_.nd rfl (Or.inl rfl) (aW af))
  (aj (bi BU rfl (io rfl T.enumerate (aO (vd 0) rfl)) (bR (n:=2) rfl (aA (am (i:=4) zE_.nd rfl (Or.inl rfl)) (aA (am (i:=5) zE_.nd rfl (Or.inl rfl)) bt)))
   (ak (bi BU rfl (io rfl T.enumerate (vd 5)) (bR (n:=2) rfl (aA (am (i:=6) zE_.nd rfl (Or.inl rfl)) (aA (am (i:=7) zE_.nd rfl (Or.inl rfl)) bt)))
     (aj (aD (i:=8) zE_.nd rfl (Or.inl rfl) (av b4 (aM ba (vd 7) ag (fun _ _=>rfl)) (aw zfb_ (hr.mono (by decide)) rfl (aa (vd 2) (aa (aM ba (vd 7) ag (fun _ _=>rfl)) af)))))
      (ak (bb (aG eQ (vd 8) ag (aH _)) (ak (bJ (cH PySem.F.plainAttrs_list PySem.F.slot_list_append PySem.F.type_list_append bI (vd 3) (aa (aK (aa (vd 4) (aa (vd 6) (aa (vd 8) af)))) af)))) aN))))))
  (ak (aB (vd 3)))))),?_⟩
  obtain⟨dx,y,rt,st,vr,vss,t1,t2,t3,t4,t5⟩:=hT.ex
  refine ap fun U1 u1=>?_
  lk
  have hvl:=Paired.length t5
  refine⟨_,_,_,t1,T.cl_Terms,T.n_Terms_ward,_,gz _ _ _,y,r,d,hs,ps,us,rows,rfl,t2,p6,h8,er,hR,r9,rl9,(fun ht ra ua H1 g1 hra ea hRa nda fra=>?_),fun hf H1 g1=>q2 hf H1 g1⟩
  rw[u1];clear u1
  refine ap fun U1 u1=>?_
  lk
  refine⟨yq _,fun L hL=>?_⟩
  rw[u1];clear u1
  refine ap fun U1 u1=>bv fun B1 b1=>?_
  lk
  have gL:=ah hL (.lst [])
  have g1L:=g1.trans gL
  have hrl:=hRa.len
  have hqs:∀i ls,sums[i]? = some ls→((sums.map (eM rows))[i]?.getD [])=eM rows ls:=fun i ls e=>by rw[yj,e];rfl
  refine⟨_,_,_,g1L _ _ t1,T.cl_Terms,T.n_Terms_sums,_,iD _ _ _,st,rfl,⟨_,SqT.of (g1L _ _ t4)⟩,bS (S:=SqT K) (xs:=vss) (fun i σ H'=>fL H1 L (c8 (sums.map (eM rows)) i) H'∧∃v4 v5 v6 v7 v8,σ=[some (.ref x),some (.ref r),some (.ref ra),some (.ref L),v4,v5,v6,v7,v8]) ⟨fL.start hL,none,none,none,none,none,rfl⟩ (fun i σ H' _ hh=>SqT.of ((g1.trans hh.1.same) _ _ t4)) ?_ ?_⟩
  ·rintro i v σ H' tt hx ⟨tI,v4,v5,v6,v7,v8,rfl⟩ htt
   obtain⟨ls,hls,t6,ul,rfl,q6,hL6⟩:=Paired.get' t5 hx
   have hi:=(List.getElem?_eq_some_iff.mp hls).1
   have hll:=Paired.length hL6
   rw[yna]
   have gt:=ah htt (.tup [.int (i:Int),.ref t6])
   have et:=ae (H:=H') (a:=tt) (o:=.tup [.int (i:Int),.ref t6])
   generalize upd H' tt (.tup [.int (i:Int),.ref t6])=H2 at gt et ⊢
   have tI2:=tI.mono gt
   have g02:=g1.trans tI2.same
   lk
   refine⟨_,SqT.of et,rfl,_,_,rfl,_,_,rfl,rfl,?_⟩
   rw[b1]
   refine bv fun B2 b2=>?_
   lk
   rw[ij,hqs i ls hls]
   refine⟨⟨_,SqT.of (g02 _ _ q6)⟩,bS (S:=SqT K) (xs:=ul) (fun j σ H3=>fL H1 L (c8 (sums.map (eM rows)) i++df i (eM rows ls) j) H3∧∃v6 v7 v8,σ=[some (.ref x),some (.ref r),some (.ref ra),some (.ref L),some (.int i),some (.ref t6),v6,v7,v8]) ⟨?_,v6,v7,v8,rfl⟩ (fun j σ H3 _ hh=>SqT.of ((g1.trans hh.1.same) _ _ q6)) ?_ ?_⟩
   ·rw[show df i (eM rows ls) 0=[] from rfl,yy]
    exact tI2
   ·rintro j v σ H3 t3 hv ⟨tJ,v6,v7,v8,rfl⟩ ht3
    obtain⟨ℓ,hℓ,t7,u7,ts7,rfl,q7,q8,hP7⟩:=Paired.get' hL6 hv
    rw[yna]
    have gt3:=ah ht3 (.tup [.int (j:Int),.ref t7])
    have et3:=ae (H:=H3) (a:=t3) (o:=.tup [.int (j:Int),.ref t7])
    generalize upd H3 t3 (.tup [.int (j:Int),.ref t7])=H4 at gt3 et3 ⊢
    have tJ2:=tJ.mono gt3
    have g14:=tJ2.same
    have g04:=g1.trans g14
    lk
    refine⟨_,SqT.of et3,rfl,_,_,rfl,_,_,rfl,rfl,?_⟩
    rw[b2]
    refine ap fun U3 u3=>?_
    lk
    obtain⟨l40,hbl⟩:=hb ls (yc hls)
    obtain⟨p9,hbq⟩:=hbl ℓ (yc hℓ)
    have hj:=(List.getElem?_eq_some_iff.mp hℓ).1
    obtain⟨tl1,tl2⟩:=uC ht
    refine⟨_,SqT.of (g04 _ _ q7),_,rfl,_,SqT.of (g04 _ _ q7),_,rfl,ra,u7,ua,ts7,rows,d.toNat,ℓ.ps,rfl,g14 _ _ ea,hRa.mono g14,(fun row hr=>by have:=tl2 row hr;lia),g04 _ _ q8,hP7.mono (aC g04),(fun q hq=>by have:=hbq q hq;lia),p9,fun H5 g5=>⟨_,rfl,_,rfl,?_⟩⟩
    have tJ5:=tJ2.mono g5
    have flen:(c8 (sums.map (eM rows)) i++df i (eM rows ls) j).length≤900:=by
     rw[yf]
     have h1:=fG i (eM rows ls) j
     have h2:(c8 (sums.map (eM rows)) i).length≤i*40:=iV (fun qs hq=>by
      obtain⟨l0,hl0,rfl⟩:=yk.mp hq
      unfold eM
      rw[ya]
      exact(hb l0 hl0).1) i
     lia
    have ef:fJ i (eM rows ls) j=if 0<ℓ.b-tot rows ℓ.ps then [((i:Int),(j:Int),ℓ.b-tot rows ℓ.ps)] else []:=by
     unfold fJ eM
     rw[yj,hℓ]
     rfl
    rw[u3];clear u3
    rw[ii,← yHa,ef]
    obtain⟨us5,_,e5,_⟩:=tJ5.ex
    lk
    by_cases z:0<ℓ.b-tot rows ℓ.ps
    ·rw[if_pos z,if_pos z]
     exact⟨.inl ⟨rfl,_,SqL.of e5⟩,by decide,fun p hp=>tJ5.step hL flen hp⟩
    ·rw[if_neg z,if_neg z,yy]
     exact tJ5
   ·rintro σ H3 ⟨tJ,v6,v7,v8,rfl⟩
    rw[show(eM rows ls).length=ul.length by unfold eM;rw[ya,hll]]
    exact⟨tJ,_,_,_,_,_,rfl⟩
  rintro σ H' ⟨tI,v4,v5,v6,v7,v8,rfl⟩
  lk
  rw[u1];clear u1
  lk
  obtain⟨us',g,e,hTr⟩:=tI.ex
  rw[hvl] at hTr
  exact q1 ht L us' H' (g1.trans g) (g1.free hL) e hTr
inductive By(K:PySem.W.Frag)(ζ:Cs)(vs:List V)(H:Hp)(Q:VK)(E:XK):Prop
 | mk (x r:Addr) (d:Int) (hs:List Int) (ps:List Pst) (us:List V) (rows:List (List Int)) (sums:List (List Lin)) (_:vs=[.ref x,.ref r]) (_:cy ζ.b ζ.a H x d hs ps sums) (_:ps.length≤6) (_:hs.length≤8) (_:H r=some (.lst us)) (_:Rows H us rows) (_:(∀row∈rows,row.length≤900)) (_:rows.length≤900) (_:sums.length≤20) (_:(∀ls∈sums,ls.length≤40∧∀ℓ∈ls,ℓ.ps.length≤900∧∀q∈ℓ.ps,0≤q.h∧q.h<(hs.length:Int)∧0≤q.d∧q.d<d)) (_:∀H',az H H'→Q (.bl (cz d hs ps rows&&decide (gI rows sums=[]))) H'):By K ζ vs H Q E
theorem Gg:ax ["terms","rota"] ["terms","rota"] (ao xz):=⟨rfl,rfl,rfl,k!,rfl,k!,k!⟩
theorem EC{ζ:Cs}{f:Addr}{fd:FuncData}(F:Fun K "meets" "meets" xz f fd)(T:Txt K mg ζ)(zQ_:Cal P w K mg base "is_table" ["ward","rota"] 4 (tD K ζ))(X_faults:uh P w K mg base "faults" ["terms","rota"] 6 (Bm K ζ)):aT P w K mg base CX0 7 f fd ["terms","rota"] (By K ζ):=by
 refine F.ok Gg (fun vs H Q E h=>?_) (fun cdv A outer s H vs Q E hr h=>?_)
 ·cases h;subst_vars;rfl
 ·obtain⟨x,r,d,hs,ps,us,rows,sums,rfl,hT,p6,h8,er,hR,r9,rl9,s9,hb,q⟩:=h
  refine⟨_,(ak (aB (bP (aw zQ_ (hr.mono (by decide)) rfl (aa (aO (vd 0) rfl) (aa (vd 1) af))) (ck (b8 (zL 1 hr) (oI X_faults Ak (hr.mono (by decide)) rfl (aa (vd 0) (aa (vd 1) af))) (aW af) (aH _)))))),?_⟩
  lk
  obtain⟨dx,y,rt,st,vr,vss,t1,t2,t3,t4,t5⟩:=hT.ex
  refine⟨_,_,_,t1,T.cl_Terms,T.n_Terms_ward,_,gz _ _ _,y,r,d,hs,ps,us,rows,rfl,t2,p6,h8,er,hR,r9,fun H1 g1=>⟨_,rfl,?_⟩⟩
  by_cases ht:cz d hs ps rows=true
  ·rw[if_pos ht]
   refine⟨x,r,d,hs,ps,us,rows,sums,rfl,hT.mono g1,p6,h8,g1 _ _ er,hR.mono g1,r9,rl9,s9,hb,(fun _ r' us' H2 g2 hr' e2 hTr=>?_),fun hf=>absurd ht (by rw[hf];decide)⟩
   refine⟨yq _,fun p hp=>?_⟩
   have gp:=ah hp (.lst [])
   refine⟨r',p,_,_,rfl,rfl,rb (SqL.of (gp _ _ e2)) (eG.tmono (aC gp) hTr),qU (ns:=[]) (SqL.of ae),rB,?_⟩
   rw[ub]
   have q1:=q _ ((g1.trans g2).trans gp)
   rw[ht,yja] at q1
   exact q1
  ·rw[if_neg ht]
   rw[yib] at ht
   have q1:=q H1 g1
   rw[ht,yka] at q1
   exact q1
inductive zV(K:PySem.W.Frag)(ζ:Cs)(vs:List V)(H:Hp)(Q:VK)(E:XK):Prop
 | mk (x pl:Addr) (d:Int) (hs:List Int) (ps:List Pst) (sums:List (List Lin)) (uv:List V) (sts:List Stp) (_:vs=[.ref x,.ref pl]) (_:cy ζ.b ζ.a H x d hs ps sums) (_:Ok d hs ps) (_:(∀ls∈sums,lH hs.length d.toNat (ps.length+1) ls)) (_:H pl=some (.lst uv)) (_:dW H uv sts) (_:(∀st∈sts,ke st)) (_:sts.length≤700) (_:∀H',az H H'→Q (.bl (rD (cL (gS sums hs ps d) sts))) H'):zV K ζ vs H Q E
theorem Gf:ax ["terms","paper"] ["terms","paper"] (ao AZ):=⟨rfl,rfl,rfl,k!,rfl,k!,k!⟩
theorem Fm{ζ:Cs}{f:Addr}{fd:FuncData}(F:Fun K "is_paper" "is_paper" AZ f fd)(T:Txt K mg ζ)(C_left:Cal P w K mg base "left" ["terms","paper"] 7 (uH K ζ)):aT P w K mg base CX0 8 f fd ["terms","paper"] (zV K ζ):=by
 refine F.ok Gf (fun vs H Q E h=>?_) (fun cdv A outer s H vs Q E hr h=>?_)
 ·cases h;subst_vars;rfl
 ·obtain⟨x,pl,d,hs,ps,sums,uv,sts,rfl,hT,okw,hf,epl,hSt,hus,s20,q⟩:=h
  refine⟨_,(ak (aB (b8 (jt hr) (aw C_left (hr.mono (by decide)) rfl (aa (vd 0) (aa (vd 1) af))) (aW af) (aH _)))),?_⟩
  lk
  refine⟨x,pl,d,hs,ps,sums,uv,sts,rfl,hT,okw,hf,epl,hSt,hus,s20,(fun hz H1 g1=>⟨yq _,fun e he=>?_⟩),fun cs hz r us H1 g1 hr er hD hok _=>⟨yq _,fun e he=>?_⟩⟩
  ·have ge:=ah he (.lst [])
   have h1:=q _ (g1.trans ge)
   rw[hz] at h1
   exact⟨e,rfl,SqL.of ae,.inl ⟨rfl,h1⟩⟩
  ·have ge:=ah he (.lst [])
   have h1:=q _ (g1.trans ge)
   rw[hz] at h1
   refine⟨e,rfl,SqL.of ae,.inr ⟨r,us,rfl,SqL.of (ge _ _ er),?_⟩⟩
   have hl:=Paired.length hD
   have e1:decide (us=[])=rD (some cs):=by
    cases us with
    | nil =>
     cases cs with
     | nil=>rfl
     | cons=>cases hl
    | cons =>
     cases cs with
     | nil=>cases hl
     | cons=>rfl
   rw[e1]
   exact h1
inductive zq_(K:PySem.W.Frag)(ζ:Cs)(vs:List V)(H:Hp)(Q:VK)(E:XK):Prop
 | mk (a:Addr) (ns:List Int) (k:Int) (_:vs=[.ref a,.int k]) (_:SqL K H a (ns.map V.int)) (_:ns.length≤63) (_:0≤k) (_:k≤100000) (_:∀v:Int,0≤v→v<2147483587→Q (.int v) H):zq_ K ζ vs H Q E
theorem uU:ax ["_law_script","_law_k","_law_number"] ["_law_script","_law_k"] (ao zN):=⟨rfl,rfl,rfl,k!,rfl,k!,k!⟩
theorem FG{ζ:Cs}{f:Addr}{fd:FuncData}(F:Fun K "_law_cell" "_law_cell" zN f fd)(T:Txt K mg ζ) :aT P w K mg base CX0 1 f fd ["_law_script","_law_k"] (zq_ K ζ):=by
 refine F.ok uU (fun vs H Q E h=>?_) (fun cdv A outer s H vs Q E hr h=>?_)
 ·cases h;subst_vars;rfl
 ·obtain⟨a,ns,k,rfl,hS,hl,k0,k1,q⟩:=h
  refine⟨_,(aj (aD (i:=2) uU.nd rfl (Or.inl rfl) (av aR (av aR (av cj (av cj (vd 1) (vd 1)) ag) (av cj ag (vd 1))) ag))
  (dE (bb (aG eQ (aF (aL (K:=K) rfl) (by rfl) T.len PySem.boot_len (aa (vd 0) af)) ag (aH _)) (ak (aD (i:=2) uU.nd rfl (Or.inl rfl) (av aR (vd 2) (av cj (av bo (aM bM (vd 0) (av bo (vd 1) (aF (aL (K:=K) rfl) (by rfl) T.len PySem.boot_len (aa (vd 0) af))) (fun _ _=>rfl)) ag) (av aR ag (av cj ag (vd 1))))))) aN)
  (aj (aD (i:=2) uU.nd rfl (Or.inl rfl) (av bo (vd 2) ag))
  (ak (aB (av bo (av cj (vd 2) (av aR (vd 2) (vd 1))) ag)))))),?_⟩
  have hlen:((List.map V.int ns).length:Int)=ns.length:=by simp
  have kk1:k*k≤100000*100000:=Int.mul_le_mul k1 k1 k0 (by lia)
  have kk0:0≤k*k:=Int.mul_nonneg k0 k0
  refine ap fun U1 u1=>?_
  lk
  refine⟨.inl ⟨by lia,by lia⟩,.inr ⟨by decide,by decide⟩,.inl ⟨by decide,by decide⟩,?_⟩
  rw[u1];clear u1
  refine fO (fun σ H'=>∃z:Int,H'=H∧σ=[some (.ref a),some (.int k),some (.int z)]) ?_ ?_
  ·lk
   refine⟨_,.inl hS,?_⟩
   rw[hlen]
   split
   ·rename_i hp
    obtain⟨v,hv⟩:=vw (ns:=ns) (k:=k % ns.length) (yA _ (by lia)) (yw _ hp)
    have w0:=yA v (b:=2147483647) (by decide)
    have w1:=yw v (b:=2147483647) (by decide)
    exact⟨_,.inl hS,by lia,_,hS,_,by rw[hlen];exact hv,v,rfl,by decide,.inl ⟨by decide,by decide⟩,.inl ⟨by lia,by lia⟩⟩
   ·trivial
  rintro σ H' ⟨z,rfl,rfl⟩
  lk
  have z0:=yA z (b:=2147483629) (by decide)
  have z1:=yw z (b:=2147483629) (by decide)
  lk
  exact⟨by decide,.inl ⟨by lia,by lia⟩,by decide,q _ (yA _ (by decide)) (yw _ (by decide))⟩
inductive Ay(K:PySem.W.Frag)(ζ:Cs)(vs:List V)(H:Hp)(Q:VK)(E:XK):Prop
 | mk (o:Addr) (uo:List V) (rows:List (List Int)) (d:Nat) (_:vs=[.ref o,.int d]) (_:H o=some (.lst uo)) (_:Rows H uo rows) (_:rows.length≤8) (_:(∀r∈rows,r.length≤7)) (_:d≤31) (_:Q (.int (ze rows d)) H):Ay K ζ vs H Q E
theorem zD_:ax ["_law_options_here","_law_days","_law_many","_law_some","_law_day"] ["_law_options_here","_law_days"] (ao AF):=⟨rfl,rfl,rfl,k!,rfl,k!,k!⟩
theorem Ea{ζ:Cs}{f:Addr}{fd:FuncData}(F:Fun K "_law_tables" "_law_tables" AF f fd)(T:Txt K mg ζ) :aT P w K mg base CX0 1 f fd ["_law_options_here","_law_days"] (Ay K ζ):=by
 refine F.ok zD_ (fun vs H Q E h=>?_) (fun cdv A outer s H vs Q E hr h=>?_)
 ·cases h;subst_vars;rfl
 ·obtain⟨o,uo,rows,d,rfl,eo,hR,h8,h7,d1,q⟩:=h
  refine⟨_,(aj (aD (i:=2) zD_.nd rfl (Or.inl rfl) ag)
  (aj (bi PassesOwn.never rfl (bf (vd 0)) (am (i:=3) zD_.nd rfl (Or.inl rfl))
   (ak (bi PassesOwn.never rfl (aZ rfl T.range (aa (vd 1) af)) (am (i:=4) zD_.nd rfl (Or.inl rfl))
     (ak (aD (i:=2) zD_.nd rfl (Or.inl rfl) (av cj (vd 2) (aF (aL (K:=K) rfl) (by rfl) T.len PySem.boot_len (aa (vd 3) af))))))))
  (ak (aB (vd 2))))),?_⟩
  refine ap fun U1 u1=>?_
  lk
  rw[u1];clear u1
  refine ap fun U1 u1=>bv fun B1 b1=>?_
  lk
  have hrl:=hR.len
  refine⟨⟨_,SqL.of eo⟩,aQ (xs:=uo) (fun i σ H'=>H'=H∧∃(z:Nat) (v3 v4:Option V),z=jA rows d i 0∧σ=[some (.ref o),some (.int d),some (.int z),v3,v4]) ⟨rfl,1,none,none,rfl,rfl⟩ (fun i σ H' _ hh=>by rw[hh.1];exact SqL.of eo) ?_ ?_⟩
  ·rintro i v σ H' hx ⟨rfl,z,v3,v4,hz,rfl⟩
   obtain⟨row,hrow,t',rfl,ht'⟩:=Rows.at' hR hx
   have hr7:=h7 row (yc hrow)
   rw[b1]
   refine bv fun B2 b2=>?_
   lk
   refine⟨by lia,by lia,aV (fun j σ H2=>H2=H'∧∃(z:Nat) (v4:Option V),z=jA rows d i j∧σ=[some (.ref o),some (.int d),some (.int z),some (.ref t'),v4]) ⟨rfl,z,v4,hz,rfl⟩ ?_ ?_⟩
   ·rintro j σ H2 hj ⟨rfl,z,v4,hz,rfl⟩
    rw[b2]
    lk
    refine⟨_,.inl (SqL.of ht'),.inr ⟨by lia,by rw[ya];lia⟩,?_⟩
    rw[pE,← hz,hrow,ya,yz,Int.natCast_mul]
   ·rintro σ H2 ⟨rfl,z,v4,hz,rfl⟩
    rw[ye] at hz
    rw[← rX,← hz]
    exact⟨rfl,z,_,_,rfl,rfl⟩
  rintro σ H' ⟨rfl,z,v3,v4,hz,rfl⟩
  lk
  rw[u1];clear u1
  lk
  rw[hrl,sB] at hz
  rw[hz]
  exact q
inductive zJ_(K:PySem.W.Frag)(ζ:Cs)(vs:List V)(H:Hp)(Q:VK)(E:XK):Prop
 | mk (ha pa:Addr) (hs:List Int) (ts:List V) (ps:List Pst) (_:vs=[.ref ha,.ref pa]) (_:H ha=some (.lst (hs.map V.int))) (_:H pa=some (.lst ts)) (_:bQ H ts ps) (_:hs.length≤8) (_:ps.length≤6) (_:(∀x∈hs,okH x)) (_:(∀q∈ps,okP q)) (_:∀r uo H',az H H'→H r=none→H' r=some (.lst uo)→Rows H' uo (hs.map fun h=>ch h ps)→Q (.ref r) H'):zJ_ K ζ vs H Q E
theorem zr_:ax ["_law_hands","_law_posts","_law_found","_law_skills","_law_some","_law_k","_law_post_here"] ["_law_hands","_law_posts"] (ao zf):=⟨rfl,rfl,rfl,k!,rfl,k!,k!⟩
theorem Da{ζ:Cs}{f:Addr}{fd:FuncData}(F:Fun K "_law_options" "_law_options" zf f fd)(T:Txt K mg ζ) :aT P w K mg base CX0 1 f fd ["_law_hands","_law_posts"] (zJ_ K ζ):=by
 refine F.ok zr_ (fun vs H Q E h=>?_) (fun cdv A outer s H vs Q E hr h=>?_)
 ·cases h;subst_vars;rfl
 ·obtain⟨ha,pa,hs,ts,ps,rfl,eh,ep,hP,h8,p6,okh,okp,q⟩:=h
  refine⟨_,(aj (aD (i:=2) zr_.nd rfl (Or.inl rfl) (aW af))
  (aj (bi PassesOwn.never rfl (bf (vd 0)) (am (i:=3) zr_.nd rfl (Or.inl rfl))
   (aj (aD (i:=4) zr_.nd rfl (Or.inl rfl) (aW (aa ag af)))
    (aj (bi PassesOwn.never rfl (bT rfl T.enumerate (vd 1)) (bR (n:=2) rfl (aA (am (i:=5) zr_.nd rfl (Or.inl rfl)) (aA (am (i:=6) zr_.nd rfl (Or.inl rfl)) bt)))
     (ak (bb (aG bH (av gP (aM ba (vd 6) ag (fun _ _=>rfl)) (vd 3)) (aM ba (vd 6) ag (fun _ _=>rfl)) (aH _)) (ak (bJ (cH PySem.F.plainAttrs_list PySem.F.slot_list_append PySem.F.type_list_append bI (vd 4) (aa (av aR (vd 5) ag) af)))) aN)))
    (ak (bJ (cH PySem.F.plainAttrs_list PySem.F.slot_list_append PySem.F.type_list_append bI (vd 2) (aa (vd 4) af)))))))
  (ak (aB (vd 2))))),?_⟩
  refine ap fun U1 u1=>?_
  lk
  refine⟨yq _,fun p hp=>?_⟩
  rw[u1];clear u1
  refine ap fun U1 u1=>bv fun B1 b1=>?_
  lk
  have hpl:=hP.len
  refine⟨⟨_,SqL.of ((ah hp _) _ _ eh)⟩,aQ (xs:=hs.map V.int) (fun i σ H'=>MpI H p (hs.map fun h=>ch h ps) i H'∧∃v3 v4 v5 v6,σ=[some (.ref ha),some (.ref pa),some (.ref p),v3,v4,v5,v6]) ⟨MpI.start hp,none,none,none,none,rfl⟩ (fun i σ H' _ hh=>SqL.of (hh.1.same _ _ eh)) ?_ ?_⟩
  ·rintro i v σ H' hx ⟨mI,v3,v4,v5,v6,rfl⟩
   obtain⟨x,hx1,rfl⟩:=cX hx
   have hi:=(List.getElem?_eq_some_iff.mp hx1).1
   have okx:=okh x (yc hx1)
   rw[b1]
   refine ap fun U2 u2=>?_
   lk
   refine⟨by decide,fun s hs0=>?_⟩
   have gs:=ah hs0 (.lst [.int 0])
   rw[u2];clear u2
   refine ap fun U2 u2=>bv fun B2 b2=>?_
   lk
   refine⟨⟨_,SqL.of ((mI.same.trans gs) _ _ ep)⟩,bS (xs:=ts) (fun j σ H2=>az H' H2∧H2 s=some (.lst ((0::chI x ps j).map V.int))∧∃v5 v6,σ=[some (.ref ha),some (.ref pa),some (.ref p),some (.int x),some (.ref s),v5,v6]) ⟨gs,ae,v5,v6,rfl⟩ (fun j σ H2 _ hh=>SqL.of ((mI.same.trans hh.1) _ _ ep)) ?_ ?_⟩
   ·rintro j v σ H2 tt hv ⟨g2,e2,v5,v6,rfl⟩ htt
    obtain⟨pq,hpq,t,rfl,qt⟩:=Paired.get' hP hv
    have hj:=(List.getElem?_eq_some_iff.mp hpq).1
    have okq:=okp pq (yc hpq)
    rw[yna]
    have gt:=ah htt (.tup [.int (j:Int),.ref t])
    have et:=ae (H:=H2) (a:=tt) (o:=.tup [.int (j:Int),.ref t])
    generalize upd H2 tt (.tup [.int (j:Int),.ref t])=H3 at gt et ⊢
    have qt3:=((mI.same.trans g2).trans gt) _ _ qt
    have e3:=gt _ _ e2
    have hcl:=iz x ps j
    rw[mK,hpq,yz]
    lk
    refine⟨_,SqT.of et,rfl,_,_,rfl,_,_,rfl,rfl,?_⟩
    rw[b2]
    lk
    refine⟨_,SqT.of qt3,_,rfl,_,rfl,_,SqT.of qt3,_,rfl,rfl,?_⟩
    have ecv:(V.int (Builtin.bitAnd pq.1 x)=V.int pq.1)↔cv x pq.1=true:=by
     rw[rJ okx.1 okq.1.1]
     unfold cv
     rw[decide_eq_true_eq]
     exact⟨fun z=>V.int.inj z,fun z=>by rw[z]⟩
    by_cases z:cv x pq.1=true
    ·rw[if_pos (ecv.mpr z)]
     refine⟨.inl ⟨rfl,_,SqL.of e3⟩,_,e3,aE (by rw[ya,yD];lia),aJ hs0 (g2.trans gt) _,?_⟩
     rw[ae,if_pos z,yg]
     rfl
    ·rw[if_neg (fun y=>z (ecv.mp y)),if_neg z,yy]
     exact⟨g2.trans gt,e3⟩
   ·rintro σ H2 ⟨g2,e2,v5,v6,rfl⟩
    lk
    rw[u2];clear u2
    rw[hpl] at e2
    lk
    obtain⟨up,_,ep0,_⟩:=mI.ex
    refine⟨.inl ⟨rfl,_,SqL.of (g2 _ _ ep0)⟩,?_⟩
    exact mI.step hp (by lia) (by rw[yj,hx1];rfl) g2 hs0 e2
  rintro σ H' ⟨mI,v3,v4,v5,v6,rfl⟩
  lk
  rw[u1];clear u1
  lk
  rw[ya] at mI
  obtain⟨uo,g,e,hR,_⟩:=mI.ex
  rw[ywa (by rw[ya];exact yd _)] at hR
  exact q p uo H' g hp e hR
inductive x6(K:PySem.W.Frag)(ζ:Cs)(vs:List V)(H:Hp)(Q:VK)(E:XK):Prop
 | mk (a:Addr) (ns:List Int) (mo:Int) (_:vs=[.ref a,.int mo]) (_:SqL K H a (ns.map V.int)) (_:ns.length≤63) (_:∀(t ha pa:Addr) (d:Nat) (hs:List Int) (ts:List V) (ps:List Pst) (H':Hp),az H H'→H' t=some (.tup [.int d,.ref ha,.ref pa])→H' ha=some (.lst (hs.map V.int))→H' pa=some (.lst ts)→bQ H' ts ps→Ok (d:Int) hs ps→hs.length≤3→1≤ps.length→ps.length≤3→d≤4→Q (.ref t) H'):x6 K ζ vs H Q E
theorem zj_:ax ["_law_script","_law_most","_law_first","_law_other","_law_sets","_law_hands","_law_posts","_law_k","_law_long","_law_days"] ["_law_script","_law_most"] (ao Bl):=⟨rfl,rfl,rfl,k!,rfl,k!,k!⟩
theorem Dl{ζ:Cs}{f:Addr}{fd:FuncData}(F:Fun K "_law_ward" "_law_ward" Bl f fd)(T:Txt K mg ζ)(za_:Cal P w K mg base "_law_cell" ["_law_script","_law_k"] 1 (zq_ K ζ))(zbC_:Cal P w K mg base "_law_tables" ["_law_options_here","_law_days"] 1 (Ay K ζ))(zt_:Cal P w K mg base "_law_options" ["_law_hands","_law_posts"] 1 (zJ_ K ζ)):aT P w K mg base CX0 2 f fd ["_law_script","_law_most"] (x6 K ζ):=by
 refine F.ok zj_ (fun vs H Q E h=>?_) (fun cdv A outer s H vs Q E hr h=>?_)
 ·cases h;subst_vars;rfl
 ·obtain⟨a,ns,mo,rfl,hS,hl,q⟩:=h
  refine⟨_,(aj (aD (i:=2) zj_.nd rfl (Or.inl rfl) (av je ag (av bo (aw za_ (hr.mono (by decide)) rfl (aa (vd 0) (aa ag af))) ag)))
  (aj (aD (i:=3) zj_.nd rfl (Or.inl rfl) (av je ag (av aR ag (av bo (aw za_ (hr.mono (by decide)) rfl (aa (vd 0) (aa ag af))) ag))))
  (aj (aD (i:=4) zj_.nd rfl (Or.inr rfl) (aW (aa ag (aa (vd 2) (aa (vd 3) (aa (av aR (vd 2) (vd 3)) af))))))
  (aj (c7 (i:=5) zj_.nd rfl rfl (own:=["_law_k"]) (fnames:=["_law_script","_law_sets"]) (fr:=[0,4]) (N':=["_law_k","_law_script","_law_sets"]) ⟨rfl,rfl,rfl,rfl,rfl,rfl,rfl⟩ rfl (aZ rfl T.range (aa (av bo (aw za_ (hr.mono (by decide)) rfl (aa (vd 0) (aa ag af))) ag) af)) (fun s0 H0 fp0 C0=>⟨(am (i:=0) (by show(["_law_k","_law_script","_law_sets"]:List Str).Nodup;decide +kernel) rfl (Or.inl rfl)),bB,(aM (bY (K:=K) rfl) (vd 2) (aM (bY (K:=K) rfl) (aW (aa ag (aa ag (aa ag (aa ag (aa ag af)))))) (av bo (aw za_ (hr.mono (by decide)) rfl (aa (vd 1) (aa (av aR ag (vd 0)) af))) ag) (fun _ _=>rfl)) (fun _ _=>rfl))⟩))
  (aj (aD (i:=6) zj_.nd rfl (Or.inl rfl) (aW af))
  (aj (bi PassesOwn.never rfl (aZ rfl T.range (aa (av aR ag (av bo (aw za_ (hr.mono (by decide)) rfl (aa (vd 0) (aa ag af))) ag)) af)) (am (i:=7) zj_.nd rfl (Or.inl rfl))
   (aj (aD (i:=8) zj_.nd rfl (Or.inl rfl) (aM bM (aW (aa (av bo (aw za_ (hr.mono (by decide)) rfl (aa (vd 0) (aa (av aR ag (vd 7)) af))) (av aR (av dj ag ag) ag)) (aa (av dj ag ag) (aa ag af)))) (av bo (av fW (aw za_ (hr.mono (by decide)) rfl (aa (vd 0) (aa (av aR ag (vd 7)) af))) ag) ag) (fun _ _=>rfl)))
    (ak (bJ (cH PySem.F.plainAttrs_list PySem.F.slot_list_append PySem.F.type_list_append bI (vd 6) (aa (aK (aa (aM bM (vd 4) (av bo (aw za_ (hr.mono (by decide)) rfl (aa (vd 0) (aa (av aR ag (vd 7)) af))) ag) (fun _ _=>rfl)) (aa (vd 8) (aa (av bo (aw za_ (hr.mono (by decide)) rfl (aa (vd 0) (aa (av aR ag (vd 7)) af))) ag) af)))) af))))))
  (aj (aD (i:=9) zj_.nd rfl (Or.inl rfl) (av aR ag (av bo (aw za_ (hr.mono (by decide)) rfl (aa (vd 0) (aa ag af))) ag)))
  (aj (lM PassesOwn.never (PW.pt (gQ (aG eQ (vd 9) ag (aH _)) (fb (aG eQ (aw zbC_ (hr.mono (by decide)) rfl (aa (aw zt_ (hr.mono (by decide)) rfl (aa (vd 5) (aa (vd 6) af))) (aa (vd 9) af))) (vd 1) (aH _)))))
   (ak (aD (i:=9) zj_.nd rfl (Or.inl rfl) (av b4 (vd 9) ag))))
  (ak (aB (aK (aa (vd 9) (aa (vd 5) (aa (vd 6) af)))))))))))))),?_⟩
  refine ap fun U1 u1=>?_
  lk
  refine⟨a,ns,_,rfl,hS,hl,by decide,by decide,fun v0 v00 v01=>?_⟩
  refine⟨v0,rfl,by decide,⟨by lia,by lia,by decide⟩,?_⟩
  obtain⟨f0,f1⟩:=wj (m:=(v0 % 14).toNat) (k:=13) (by lia)
  generalize (1:Int)*2 ^ (v0 % 14).toNat=fi at f0 f1 ⊢
  rw[u1];clear u1 v00 v01
  refine ap fun U1 u1=>?_
  lk
  refine⟨a,ns,_,rfl,hS,hl,by decide,by decide,fun v0 v00 v01=>?_⟩
  refine⟨v0,rfl,by decide,⟨by lia,by lia,by decide⟩,?_⟩
  obtain⟨o0,o1⟩:=wj (m:=(14+v0 % 16).toNat) (k:=29) (by lia)
  generalize (1:Int)*2 ^ (14+v0 % 16).toNat=ot at o0 o1 ⊢
  rw[u1];clear u1 v00 v01
  refine ap fun U1 u1=>?_
  lk
  refine⟨by decide,fun sa hsa=>?_⟩
  have gA:=ah hsa (.lst [.int 0,.int fi,.int ot,.int (fi+ot)])
  have eA:=ae (H:=H) (a:=sa) (o:=.lst [.int 0,.int fi,.int ot,.int (fi+ot)])
  generalize upd H sa (.lst [.int 0,.int fi,.int ot,.int (fi+ot)])=HA at gA eA ⊢
  rw[u1];clear u1
  refine ap fun U1 u1=>?_
  lk
  refine⟨a,ns,_,rfl,gA.seq hS,hl,by decide,by decide,fun n z0 z1=>⟨n,rfl,by decide,by lia,by lia,fun h0 hh0=>aV (fun i σ H'=>(∃hs:List Int,az HA H'∧H' h0=some (.lst (hs.map V.int))∧hs.length=i∧∀x∈hs,okH x)∧∃v0,σ=[v0,some (.ref a),some (.ref sa)]) ⟨⟨[],ah hh0 _,ae,rfl,fun x z=>by cases z⟩,none,rfl⟩ ?_ ?_⟩⟩
  ·rintro i σ H' hi ⟨⟨hs,g,e,hl5,hok⟩,v0,rfl⟩
   rw[show(0+(i:Int))=i by lia]
   lk
   refine⟨by decide,fun p hp=>?_⟩
   have gp:=ah hp (.lst [.int 3,.int 1,.int 2,.int 3,.int 0])
   refine⟨a,ns,_,rfl,((gA.trans g).trans gp).seq hS,hl,by lia,by lia,fun v y0 y1=>?_⟩
   obtain⟨w,hw,w0,w4⟩:=B0 (z:=v % 5) (yA _ (by decide)) (yw _ (by decide))
   obtain⟨h1,hh1,okh⟩:=wD (z:=w) f0 f1 o0 o1 w0 w4
   refine⟨v,rfl,by decide,_,SqL.of ae,_,hw,_,w,rfl,SqL.of ((g.trans gp) _ _ eA),.int h1,hh1,_,gp _ _ e,aE (by rw[ya];lia),aJ hh0 (g.trans gp) _,hs++[h1],by rw[ae,yg];rfl,by rw[yf,hl5];rfl,fun x hx=>?_⟩
   rcases List.mem_append.mp hx with z | z
   ·exact hok x z
   ·rw[List.mem_singleton.mp z];exact okh
  rintro σ HB ⟨⟨hs,gB,eB,hl5,hok⟩,v0,rfl⟩
  lk
  have GB:=gA.trans gB
  have eA2:=gB _ _ eA
  have h3:hs.length≤3:=by lia
  have hh00:=gA.free hh0
  clear hh0 gA eA gB hl5
  rw[u1];clear u1
  refine ap fun U1 u1=>?_
  lk
  refine⟨yq _,fun p0 hp0=>?_⟩
  rw[u1];clear u1
  refine ap fun U1 u1=>bv fun B1 b1=>?_
  lk
  have gC:=ah hp0 (.lst [])
  refine⟨a,ns,_,rfl,(GB.trans gC).seq hS,hl,by decide,by decide,fun n2 n20 n24=>⟨n2,rfl,by decide,by lia,by lia,aV (fun i σ H'=>PsG HB p0 i H'∧∃v7 v8,σ=[some (.ref a),some (.int mo),some (.int fi),some (.int ot),some (.ref sa),some (.ref h0),some (.ref p0),v7,v8,none]) ⟨PsG.start hp0,none,none,rfl⟩ ?_ ?_⟩⟩
  ·rintro i σ H' hi ⟨pg,v7,v8,rfl⟩
   rw[show(0+(i:Int))=i by lia]
   rw[b1]
   refine ap fun U2 u2=>?_
   lk
   refine⟨a,ns,_,rfl,(GB.trans pg.same).seq hS,hl,by lia,by lia,fun y y0 y1=>⟨⟨by decide,by decide,by decide⟩,y,rfl,by decide,⟨by decide,by decide,by decide⟩,by decide,fun p hp=>?_⟩⟩
   have gp:=ah hp (.lst [.int (y % (10 ^ Int.toNat 9+1)),.int (10 ^ Int.toNat 9),.int 8])
   have pg2:=pg.mono gp
   refine⟨a,ns,_,rfl,(GB.trans pg2.same).seq hS,hl,by lia,by lia,fun c c0 c1=>?_⟩
   obtain⟨lo,hlo,lo0,lo1⟩:=xx (x:=y % (10 ^ Int.toNat 9+1)) (z:=c / 4 % 3) (yA _ (by decide)) (by have:=yw y (b:=10 ^ Int.toNat 9+1) (by decide);have e:(10:Int) ^ Int.toNat 9=1000000000:=(by decide);lia) (yA _ (by decide)) (yw _ (by decide))
   refine⟨c,rfl,⟨by decide,by decide⟩,by decide,_,SqL.of ae,_,hlo,?_⟩
   generalize upd H' p (.lst [.int (y % (10 ^ Int.toNat 9+1)),.int (10 ^ Int.toNat 9),.int 8])=H2 at gp pg2 ⊢
   rw[u2];clear u2
   obtain⟨ts6,ps6,pl6,gg6,e6,_⟩:=pg2.ex
   have S2:=(GB.trans pg2.same).seq hS
   lk
   refine⟨.inl ⟨rfl,_,SqL.of e6⟩,a,ns,_,rfl,S2,hl,by lia,by lia,fun c2 c20 c21=>?_⟩
   obtain⟨h1,hh1,okh⟩:=wD (z:=c2 % 4) f0 f1 o0 o1 (yA _ (by decide)) (yw _ (by decide))
   refine⟨c2,rfl,by decide,_,SqL.of (pg2.same _ _ eA2),.int h1,hh1,a,ns,_,rfl,S2,hl,by lia,by lia,fun nt nt0 nt1=>⟨nt,rfl,by decide,by decide,fun t ht=>?_⟩⟩
   exact pg2.step (q:=(h1,lo,nt % 2)) hp0 (by lia) ht ⟨okh,⟨lo0,lo1⟩,⟨yA _ (by decide),by show nt % 2≤1;lia⟩⟩
  rintro σ HD ⟨pg,v7,v8,rfl⟩
  lk
  obtain⟨ts,ps,pl,gD,eD,hP,okp⟩:=pg.ex
  rw[u1];clear u1
  refine ap fun U1 u1=>?_
  lk
  refine⟨a,ns,_,rfl,(GB.trans gD).seq hS,hl,by decide,by decide,fun dd dd0 dd6=>?_⟩
  refine⟨_,rfl,by decide,?_⟩
  rw[u1];clear u1
  refine ap fun U1 u1=>oT fun B1 b1=>?_
  lk
  have n3:ps.length≤3:=by lia
  have n1:1≤ps.length:=by lia
  obtain⟨d0,hd0⟩:∃d0:Nat,1+dd % 4=d0:=⟨(1+dd % 4).toNat,by lia⟩
  rw[hd0]
  have np:p0≠h0:=(ay eB hp0).symm
  have fin:∀(d:Nat) (H2:Hp),az H H2→H2 h0=some (.lst (hs.map V.int))→H2 p0=some (.lst ts)→bQ H2 ts ps→1≤d→d≤4→U1 { nx:=fun _ H'=>Q .non H',rt:=Q } [some (.ref a),some (.int mo),some (.int fi),some (.int ot),some (.ref sa),some (.ref h0),some (.ref p0),v7,v8,some (.int (d:Nat))] H2:=by
   intro d H2 g2 e1 e2 hP2 d1 d3
   rw[u1];clear u1
   lk
   refine⟨by decide,fun t ht'=>?_⟩
   have gt:=ah ht' (.tup [.int d,.ref h0,.ref p0])
   exact q t h0 p0 d hs ts ps _ (g2.trans gt) ae (gt _ _ e1) (gt _ _ e2) (hP2.mono gt) ⟨by lia,by lia,hok,by lia,okp,by lia⟩ h3 n1 n3 d3
  refine⟨fun m σ H'=>∃d:Nat,m=d∧az H H'∧H' h0=some (.lst (hs.map V.int))∧H' p0=some (.lst ts)∧bQ H' ts ps∧1≤d∧d≤4∧σ=[some (.ref a),some (.int mo),some (.int fi),some (.int ot),some (.ref sa),some (.ref h0),some (.ref p0),v7,v8,some (.int (d:Nat))],⟨_,d0,rfl,GB.trans gD,gD _ _ eB,eD,hP,by lia,by lia,rfl⟩,?_⟩
  rintro m σ H' ⟨d,rfl,g,e1,e2,hP',d1,d3,rfl⟩
  lk
  by_cases hd1:(1:Int)<(m:Nat)
  ·rw[if_pos hd1]
   refine⟨h0,p0,hs,ts,ps,rfl,e1,e2,hP',by lia,by lia,hok,okp,fun r uo H2 g2 hr er hRo=>?_⟩
   refine⟨r,uo,hs.map (fun h=>ch h ps),m,rfl,er,hRo,by rw[ya];lia,(fun row hrow=>by obtain⟨x,_,rfl⟩:=yk.mp hrow;have:=iK x ps;lia),by lia,?_⟩
   refine⟨_,rfl,?_⟩
   split
   ·refine⟨fun σ H'=>∃m',m'<m∧∃d:Nat,m'=d∧az H H'∧H' h0=some (.lst (hs.map V.int))∧H' p0=some (.lst ts)∧bQ H' ts ps∧1≤d∧d≤4∧σ=[some (.ref a),some (.int mo),some (.int fi),some (.int ot),some (.ref sa),some (.ref h0),some (.ref p0),v7,v8,some (.int (d:Nat))],(fun σ' H3 z=>by obtain⟨m',h1,d,h2,h3⟩:=z;subst h2;exact⟨m',h1,h3⟩),?_⟩
    rw[b1]
    lk
    exact⟨m-1,by lia,g.trans g2,g2 _ _ e1,g2 _ _ e2,hP'.mono g2,by lia,by lia,by lia⟩
   ·exact fin m H2 (g.trans g2) (g2 _ _ e1) (g2 _ _ e2) (hP'.mono g2) d1 d3
  ·rw[if_neg hd1]
   exact fin m H' g e1 e2 hP' d1 d3
inductive zC(K:PySem.W.Frag)(ζ:Cs)(vs:List V)(H:Hp)(Q:VK)(E:XK):Prop
 | mk (a o:Addr) (ns:List Int) (at0 d:Int) (uo:List V) (hs:List Int) (ps:List Pst) (_:vs=[.ref a,.int at0,.ref o,.int d]) (_:SqL K H a (ns.map V.int)) (_:ns.length≤63) (_:0≤at0) (_:at0≤1000) (_:H o=some (.lst uo)) (_:Rows H uo (hs.map fun h=>ch h ps)) (_:hs.length≤8) (_:ps.length≤6) (_:1≤d) (_:d≤31) (_:∀r us rows H',az H H'→H r=none→H' r=some (.lst us)→Rows H' us rows→us.Nodup→(∀t,V.ref t∈us→t≠r∧H t=none)→cz d hs ps rows=true→Q (.ref r) H'):zC K ζ vs H Q E
theorem uE:ax ["_law_script","_law_at","_law_options_here","_law_days","_law_rota_here","_law_hand","_law_some"] ["_law_script","_law_at","_law_options_here","_law_days"] (ao wN):=⟨rfl,rfl,rfl,k!,rfl,k!,k!⟩
theorem DT{ζ:Cs}{f:Addr}{fd:FuncData}(F:Fun K "_law_rota" "_law_rota" wN f fd)(T:Txt K mg ζ)(za_:Cal P w K mg base "_law_cell" ["_law_script","_law_k"] 1 (zq_ K ζ)):aT P w K mg base CX0 2 f fd ["_law_script","_law_at","_law_options_here","_law_days"] (zC K ζ):=by
 refine F.ok uE (fun vs H Q E h=>?_) (fun cdv A outer s H vs Q E hr h=>?_)
 ·cases h;subst_vars;rfl
 ·obtain⟨a,o,ns,at0,d,uo,hs,ps,rfl,hS,hl,a0,a1,eo,hR,h8,p6,d1,d2,q⟩:=h
  refine⟨_,(aj (aD (i:=4) uE.nd rfl (Or.inl rfl) (aW af))
  (aj (bi PassesOwn.never rfl (bT rfl T.enumerate (vd 2)) (bR (n:=2) rfl (aA (am (i:=5) uE.nd rfl (Or.inr rfl)) (aA (am (i:=6) uE.nd rfl (Or.inr rfl)) bt)))
   (ak (bJ (cH PySem.F.plainAttrs_list PySem.F.slot_list_append PySem.F.type_list_append bI (vd 4) (aa (bj (own:=["_law_day"]) (fnames:=["_law_script","_law_at","_law_days","_law_hand","_law_some"]) (fr:=[0,1,3,5,6]) (N':=["_law_day","_law_script","_law_at","_law_days","_law_hand","_law_some"]) ⟨rfl,rfl,rfl,rfl,rfl,rfl,rfl⟩ rfl (aZ rfl T.range (aa (vd 3) af)) (fun s0 H0 fp0 C0=>⟨(am (i:=0) (by show(["_law_day","_law_script","_law_at","_law_days","_law_hand","_law_some"]:List Str).Nodup;decide +kernel) rfl (Or.inl rfl)),bB,(aM (bY (K:=K) rfl) (vd 5) (av bo (aw za_ (hr.mono (by decide)) rfl (aa (vd 1) (aa (av aR (av aR (vd 2) (av cj (vd 4) (vd 3))) (vd 0)) af))) (aF (aL (K:=K) rfl) (by rfl) T.len PySem.boot_len (aa (vd 5) af))) (fun _ _=>rfl))⟩)) af)))))
  (ak (aB (vd 4))))),?_⟩
  refine ap fun U1 u1=>?_
  lk
  refine⟨yq _,fun p hp=>?_⟩
  rw[u1];clear u1
  refine ap fun U1 u1=>bv fun B1 b1=>?_
  lk
  have hul:=hR.len
  rw[ya] at hul
  refine⟨⟨_,SqL.of ((ah hp _) _ _ eo)⟩,bS (xs:=uo) (fun i σ H'=>kf H p d hs ps i H'∧∃v5 v6,σ=[some (.ref a),some (.int at0),some (.ref o),some (.int d),some (.ref p),v5,v6]) ⟨kf.start hp,none,none,rfl⟩ (fun i σ H' _ hh=>SqL.of (hh.1.same _ _ eo)) ?_ ?_⟩
  ·rintro i v σ H' tt hv ⟨rI,v5,v6,rfl⟩ htt
   obtain⟨row,hrow,t',rfl,ht'⟩:=Rows.at' hR hv
   obtain⟨x,hx,rfl⟩:∃x,hs[i]? = some x∧ch x ps=row:=by
    rw[yj] at hrow
    cases e:hs[i]? with
    | none=>rw[e] at hrow;cases hrow
    | some x=>rw[e] at hrow;exact⟨x,rfl,yt hrow⟩
   have hi:=(List.getElem?_eq_some_iff.mp hx).1
   rw[yna]
   have gt:=ah htt (.tup [.int (i:Int),.ref t'])
   have et:=ae (H:=H') (a:=tt) (o:=.tup [.int (i:Int),.ref t'])
   generalize upd H' tt (.tup [.int (i:Int),.ref t'])=H2 at gt et ⊢
   obtain⟨up,rp,gp,ep',_⟩:=rI.ex
   lk
   refine⟨_,SqT.of et,rfl,_,_,rfl,_,_,rfl,rfl,?_⟩
   rw[b1]
   lk
   have t2:=(rI.same.trans gt) _ _ ht'
   have cl:0<((ch x ps).length:Int):=by show 0<(((0::chI x ps ps.length).length:Nat):Int);rw[yD];lia
   refine⟨.inl ⟨rfl,_,SqL.of (gt _ _ ep')⟩,by lia,by lia,fun D hD=>aV (fun j σ H3=>(∃row:List Int,az H2 H3∧H3 D=some (.lst (row.map V.int))∧row.length=j∧∀y∈row,y∈ch x ps)∧∃v0,σ=[v0,some (.ref a),some (.int at0),some (.int d),some (.int i),some (.ref t')]) ⟨⟨[],ah hD _,ae,rfl,fun y z=>by cases z⟩,none,rfl⟩ ?_ ?_⟩
   ·rintro j σ H3 hj ⟨⟨row,g3,e3,rl,rm⟩,v0,rfl⟩
    rw[show(0+(j:Int))=j by lia]
    have m0:0≤(i:Int)*d:=Int.mul_nonneg (by lia) (by lia)
    have m1:(i:Int)*d≤8*31:=Int.mul_le_mul (by lia) d2 (by lia) (by lia)
    lk
    refine⟨.inl ⟨by lia,by lia⟩,a,ns,_,rfl,((rI.same.trans gt).trans g3).seq hS,hl,by lia,by lia,fun v z0 z1=>?_⟩
    obtain⟨y,hy,ey⟩:=uF (ns:=ch x ps) (k:=v % ((ch x ps).length:Int)) (yA _ (by lia)) (yw _ cl)
    have ll:((List.map V.int (ch x ps)).length:Int)=(ch x ps).length:=by rw[ya]
    refine⟨_,.inl (SqL.of (g3 _ _ t2)),v,rfl,by rw[ll];exact cl,_,SqL.of (g3 _ _ t2),.int y,by rw[ll];exact ey,_,e3,aE (by rw[ya];lia),aJ hD g3 _,row++[y],by rw[ae,yg];rfl,by rw[yf,rl];rfl,fun y' hy'=>?_⟩
    rcases List.mem_append.mp hy' with z | z
    ·exact rm y' z
    ·rw[List.mem_singleton.mp z];exact hy
   ·rintro σ H3 ⟨⟨row,g3,e3,rl,rm⟩,v0,rfl⟩
    lk
    exact rI.step hp (by lia) (gt.trans g3) (gt.free hD) e3 hx (qS (by lia) rm)
  rintro σ H' ⟨rI,v5,v6,rfl⟩
  lk
  rw[u1];clear u1
  lk
  obtain⟨us,rows,g,e,hRr,hT,nd,fr⟩:=rI.ex
  rw[hul] at hT
  exact q p us rows H' g hp e hRr nd fr hT.tab
inductive zR_(K:PySem.W.Frag)(ζ:Cs)(vs:List V)(H:Hp)(Q:VK)(E:XK):Prop
 | mk (pd r:Addr) (us:List V) (rows:List (List Int)) (pns:List (List Key×V)) (D:Nat) (_:vs=[.ref pd,.ref r]) (_:H pd=some (.dT pns)) (_:cF rows.length D 0 pns) (_:pns.length≤900) (_:H r=some (.lst us)) (_:Rows H us rows) (_:(∀row∈rows,row.length=D)) (_:rows.length≤8) (_:D≤31) (_:∀(b:Bool) H',az H H'→(b=true↔Agr rows pns)→Q (.bl b) H'):zR_ K ζ vs H Q E
theorem zO:ax ["_law_pins","_law_rota_here","_law_hand","_law_day"] ["_law_pins","_law_rota_here"] (ao x9):=⟨rfl,rfl,rfl,k!,rfl,k!,k!⟩
theorem FL{ζ:Cs}{f:Addr}{fd:FuncData}(F:Fun K "_law_agrees" "_law_agrees" x9 f fd)(T:Txt K mg ζ) :aT P w K mg base CX0 1 f fd ["_law_pins","_law_rota_here"] (zR_ K ζ):=by
 refine F.ok zO (fun vs H Q E h=>?_) (fun cdv A outer s H vs Q E hr h=>?_)
 ·cases h;subst_vars;rfl
 ·obtain⟨pd,r,us,rows,pns,D,rfl,epd,pok,p9,er,hR,hrl,r8,D31,q⟩:=h
  refine⟨_,(aj (bi PassesOwn.never rfl (iP (vd 0)) (bR (n:=2) rfl (aA (am (i:=2) zO.nd rfl (Or.inl rfl)) (aA (am (i:=3) zO.nd rfl (Or.inl rfl)) bt)))
   (ak (bb (aG mJ (kZ (cM hr) (vd 0) (aK (aa (vd 2) (aa (vd 3) af))) (fun _ _=>rfl)) (aM bM (aM bM (vd 1) (vd 2) (fun _ _=>rfl)) (vd 3) (fun _ _=>rfl)) (aH _)) (gF (ak (aB dO))) aN)))
  (gF (ak (aB dO)))),?_⟩
  refine ap fun U1 u1=>bv fun B1 b1=>?_
  lk
  refine⟨pns,epd,fun ob=>hG (kvs:=pns) (fun i σ H'=>(az (upd H pd (.frz ob (.dT pns))) H'∧kU rows pns i)∧∃v2 v3,σ=[some (.ref pd),some (.ref r),v2,v3]) ⟨⟨az.refl _,kU.start⟩,none,none,rfl⟩ (fun i σ H' _ hh=>hh.1.1 _ _ ae) ?_ ?_⟩
  ·rintro i b k v σ H' hkv hb ⟨⟨g,aI⟩,v2,v3,rfl⟩
   obtain⟨h,d,ek,hh,hd⟩:=pok.inb (k,v) (yc hkv)
   have ek:k=k2 h d:=ek
   subst ek
   obtain⟨z,hz⟩:=pok.ai _ _ (kT pok.ky hkv)
   subst hz
   lk
   refine⟨_,SqT.of hb,rfl,_,_,rfl,_,_,rfl,rfl,?_⟩
   rw[b1]
   lk
   refine⟨by decide,fun p hp=>?_⟩
   have gp:=ah hp (.tup [kV (Sum.inl (h:Int)),kV (Sum.inl (d:Int))])
   have efz:=(g.trans gp) _ _ ae
   have gr:(upd H pd (.frz ob (.dT pns))) r=some (.lst us):=by
    rw[au (fun z=>by rw[z,epd] at er;cases er)]
    exact er
   have hv:=kT pok.ky hkv
   obtain⟨row,hrow⟩:∃row,rows[h]? = some row:=⟨_,yb hh⟩
   have hlen:=hrl row (yc hrow)
   obtain⟨tr,htr,etr⟩:=hR.get hrow
   have etr2:(upd H pd (.frz ob (.dT pns))) tr=some (.lst (row.map V.int)):=by
    rw[au (fun z=>by rw[z,epd] at etr;cases etr)]
    exact etr
   have ev:val rows h d=row[d]:=dH hrow (by lia)
   refine⟨.int z,.inr ⟨pns,k2 h d,p,.inr ⟨ob,efz⟩,rfl,ae,hv.symm⟩,_,_,rfl,SqL.of ((g.trans gp) _ _ gr),_,bg htr,_,rfl,_,_,rfl,SqL.of ((g.trans gp) _ _ etr2),.int row[d],bg (by rw[yj,yb (by lia)];rfl),rfl,?_⟩
   by_cases w:z=val rows h d
   ·rw[if_neg (by rw[w,ev];simp)]
    rw[w] at hkv
    exact⟨g.trans gp,aI.next hkv⟩
   ·rw[if_pos (fun y=>w (by rw[ev];exact V.int.inj y))]
    refine⟨pd,ob,pns,efz,(fun o u y=>by rw[epd] at y;cases y),?_⟩
    refine q false _ (vX (g.trans gp) epd) ⟨(fun y=>by cases y),fun y=>absurd y (uj pok.ky hkv (fun y=>w (V.int.inj y)))⟩
  rintro σ H' ⟨⟨g,aI⟩,v2,v3,rfl⟩
  lk
  rw[u1];clear u1
  lk
  refine⟨pd,ob,pns,g _ _ ae,(fun o u y=>by rw[epd] at y;cases y),?_⟩
  exact q true _ (vX g epd) ⟨fun _=>aI.done,fun _=>rfl⟩
inductive wP(K:PySem.W.Frag)(ζ:Cs)(vs:List V)(H:Hp)(Q:VK)(E:XK):Prop
 | mk (a:Addr) (us:List V) (ls:List (Lin×Int)) (_:vs=[.ref a]) (_:H a=some (.lst us)) (_:zd H us ls) (_:(∀l∈ls,-(2 ^ 40)<l.2∧l.2<2 ^ 40)) (_:bq ls≤900) (_:∀t d H',az H H'→H d=none→H' t=some (.tup [.ref d,.int (cE ls)])→H' d=some (.dT (bn ls))→Q (.ref t) H'):wP K ζ vs H Q E
theorem zf_:ax ["_law_pairs","_law_numbers_here","_law_bound","_law_line","_law_times","_law_hand","_law_day","_law_post_here","_law_number"] ["_law_pairs"] (ao y6):=⟨rfl,rfl,rfl,k!,rfl,k!,k!⟩
theorem DY{ζ:Cs}{f:Addr}{fd:FuncData}(F:Fun K "_law_numbers" "_law_numbers" y6 f fd)(T:Txt K mg ζ) :aT P w K mg base CX0 1 f fd ["_law_pairs"] (wP K ζ):=by
 refine F.ok zf_ (fun vs H Q E h=>?_) (fun cdv A outer s H vs Q E hr h=>?_)
 ·cases h;subst_vars;rfl
 ·obtain⟨a,us,ls,rfl,hA,hP,ht,hn,q⟩:=h
  refine⟨_,(aj (aD (i:=1) zf_.nd rfl (Or.inl rfl) fV)
  (aj (aD (i:=2) zf_.nd rfl (Or.inl rfl) ag)
  (aj (bi PassesOwn.never rfl (bf (vd 0)) (bR (n:=2) rfl (aA (am (i:=3) zf_.nd rfl (Or.inl rfl)) (aA (am (i:=4) zf_.nd rfl (Or.inl rfl)) bt)))
   (aj (bi PassesOwn.never rfl (bf (aM ba (vd 3) ag (fun _ _=>rfl))) (bR (n:=4) rfl (aA (am (i:=5) zf_.nd rfl (Or.inl rfl)) (aA (am (i:=6) zf_.nd rfl (Or.inl rfl)) (aA (am (i:=7) zf_.nd rfl (Or.inl rfl)) (aA (am (i:=8) zf_.nd rfl (Or.inl rfl)) bt)))))
     (ak (iB (cM hr) (vd 1) (aK (aa (vd 5) (aa (vd 6) (aa (vd 7) af)))) (av aR (eW (cM hr) (vd 1) (aK (aa (vd 5) (aa (vd 6) (aa (vd 7) af)))) ag ⟨rfl,rfl,rfl,rfl⟩) (av cj (vd 8) (vd 4))) rfl)))
    (ak (aD (i:=2) zf_.nd rfl (Or.inl rfl) (av aR (vd 2) (av cj (aM ba (vd 3) ag (fun _ _=>rfl)) (vd 4)))))))
  (ak (aB (aK (aa (vd 1) (aa (vd 2) af)))))))),?_⟩
  refine ap fun U1 u1=>?_
  lk
  intro d hd
  have g0:=ah hd (.dT [])
  rw[u1];clear u1
  refine ap fun U1 u1=>?_
  lk
  rw[u1];clear u1
  refine ap fun U1 u1=>bv fun B1 b1=>?_
  lk
  have hul:=Paired.length hP
  refine⟨⟨_,SqL.of (g0 _ _ hA)⟩,aQ (xs:=us) (fun i σ H'=>∃(v3 v4 v5 v6 v7 v8:Option V),az H H'∧H' d=some (.dT (bn (ls.take i)))∧σ=[some (.ref a),some (.ref d),some (.int (cE (ls.take i))),v3,v4,v5,v6,v7,v8]) ⟨none,none,none,none,none,none,g0,ae,rfl⟩ (fun i σ H' _ ⟨_,_,_,_,_,_,g,_⟩=>SqL.of (g _ _ hA)) ?_ ?_⟩
  ·rintro i v σ H' hx ⟨v3,v4,v5,v6,v7,v8,g,e,rfl⟩
   obtain⟨l,hli,t,u,rfl,w1,tu,pt,ts,eu,w2,w3,w4⟩:=Paired.get' hP hx
   cases eu
   obtain⟨lt1,lt2⟩:=ht l (yc hli)
   have hlen:(bn (ls.take i)).length+l.1.ps.length≤900:=by
    have z1:(bn (ls.take i)).length≤0+bq (ls.take i):=fq
    have z2:bq (ls.take (i+1))=bq (ls.take i)+l.1.ps.length:=by
     rw[aP hli]
     unfold bq
     rw[yg,yL]
     simp
    have z3:bq (ls.take (i+1))≤bq ls:=by
     have:bq ls=bq (ls.take (i+1))+bq (ls.drop (i+1)):=by
      unfold bq
      rw[← yL,← yg,yMa]
     lia
    lia
   have hok:cJ (bn (ls.take i)):=gG dY
   lk
   refine⟨_,SqT.of (g _ _ w1),rfl,_,_,rfl,_,_,rfl,rfl,?_⟩
   rw[b1]
   refine ap fun U2 u2=>bv fun B2 b2=>?_
   lk
   refine⟨_,SqT.of (g _ _ w2),_,rfl,pt,rfl,⟨_,SqL.of (g _ _ w3)⟩,aQ (xs:=ts) (fun j σ H2=>∃(v5 v6 v7 v8:Option V),az H H2∧H2 d=some (.dT ((l.1.ps.take j).foldl (cm l.2) (bn (ls.take i))))∧σ=[some (.ref a),some (.ref d),some (.int (cE (ls.take i))),some (.ref u),some (.int l.2),v5,v6,v7,v8]) ⟨v5,v6,v7,v8,g,e,rfl⟩ (fun j σ H2 _ ⟨_,_,_,_,g2,_⟩=>SqL.of (g2 _ _ w3)) ?_ ?_⟩
   ·rintro j v σ H2 hx2 ⟨v5,v6,v7,v8,g2,e2,rfl⟩
    obtain⟨pq,hpq,tq,rfl,htq⟩:=Paired.get' w4 hx2
    have hj:j<l.1.ps.length:=(List.getElem?_eq_some_iff.mp hpq).1
    have hlj:((l.1.ps.take j).foldl (cm l.2) (bn (ls.take i))).length<901:=by
     have:((l.1.ps.take j).foldl (cm l.2) (bn (ls.take i))).length≤(bn (ls.take i)).length+(l.1.ps.take j).length:=fh
     rw[yr] at this
     lia
    have hokj:cJ ((l.1.ps.take j).foldl (cm l.2) (bn (ls.take i))):=gq hok
    have est:(l.1.ps.take (j+1)).foldl (cm l.2) (bn (ls.take i))=cm l.2 ((l.1.ps.take j).foldl (cm l.2) (bn (ls.take i))) pq:=by
     rw[aP hpq,yqa]
     rfl
    rw[est]
    generalize (l.1.ps.take j).foldl (cm l.2) (bn (ls.take i))=kvs at e2 hlj hokj
    lk
    refine⟨_,SqT.of (g2 _ _ htq),rfl,_,_,rfl,_,_,rfl,_,_,rfl,_,_,rfl,rfl,?_⟩
    rw[b2]
    lk
    refine⟨.inr ⟨_,.inl e2⟩,by decide,fun t1 ht1=>?_⟩
    have y1:=ah ht1 (.tup [.int pq.h,.int pq.d,.int pq.p])
    refine⟨_,dS.t (k:=kk pq.h pq.d pq.p) (y1 _ _ e2) ae,.inr ⟨by lia,by lia⟩,_,nU hokj _,by decide,fun t2 ht2=>?_⟩
    have y2:=y1.trans (ah ht2 (.tup [.int pq.h,.int pq.d,.int pq.p]))
    exact⟨_,lS.t (k:=kk pq.h pq.d pq.p) (y2 _ _ e2) ae (aE (by lia)),aJ hd (g2.trans y2) _,by rw[ae];rfl⟩
   ·rintro σ H2 ⟨v5,v6,v7,v8,g2,e2,rfl⟩
    lk
    rw[Paired.length w4,yo] at e2
    rw[u2];clear u2
    lk
    have e3:bn (ls.take (i+1))=l.1.ps.foldl (cm l.2) (bn (ls.take i)):=by
     unfold bn
     rw[aP hli,yqa]
     rfl
    have e4:cE (ls.take (i+1))=cE (ls.take i)+l.1.b*l.2:=by
     unfold cE
     rw[aP hli,yg,yL]
     simp
    refine⟨_,SqT.of (g2 _ _ w2),.int l.1.b,rfl,_,rfl,.inr ⟨by lia,by lia⟩,?_⟩
    rw[e3,e4]
    exact⟨g2,e2,rfl⟩
  rintro σ H' ⟨v3,v4,v5,v6,v7,v8,g,e,rfl⟩
  lk
  rw[hul,yo] at e ⊢
  rw[u1];clear u1
  lk
  refine⟨by decide,fun t ht'=>?_⟩
  have g1:=ah ht' (.tup [.ref d,.int (cE ls)])
  exact q t d _ (g.trans g1) hd ae (g1 _ _ e)
inductive x8(K:PySem.W.Frag)(ζ:Cs)(vs:List V)(H:Hp)(Q:VK)(E:XK):Prop
 | mk (a pd o:Addr) (D:Nat) (us uo:List V) (ls:List (Lin×Int)) (pns:List (List Key×V)) (rows:List (List Int)) (_:vs=[.ref a,.ref pd,.ref o,.int D]) (_:H a=some (.lst us)) (_:zd H us ls) (_:(∀l∈ls,-(2 ^ 40)<l.2∧l.2<2 ^ 40)) (_:bq ls≤900) (_:H pd=some (.dT pns)) (_:cJ pns) (_:H o=some (.lst uo)) (_:Rows H uo rows) (_:(∀r∈rows,0<r.length∧r.length≤9)) (_:rows.length≤8) (_:D≤31) (_:∀H',az H H'→Q (.bl (decide (dP pns (bn ls) (fun h=>rows[h]?.getD []) rows.length D<cE ls))) H'):x8 K ζ vs H Q E
theorem zi_:ax ["_law_pairs","_law_pins","_law_options_here","_law_days","_law_numbers_here","_law_bound","_law_top","_law_hand","_law_some","_law_day"] ["_law_pairs","_law_pins","_law_options_here","_law_days"] (ao Bt):=⟨rfl,rfl,rfl,k!,rfl,k!,k!⟩
theorem DO{ζ:Cs}{f:Addr}{fd:FuncData}(F:Fun K "_law_closes" "_law_closes" Bt f fd)(T:Txt K mg ζ)(zaW_:Cal P w K mg base "_law_numbers" ["_law_pairs"] 1 (wP K ζ)):aT P w K mg base CX0 2 f fd ["_law_pairs","_law_pins","_law_options_here","_law_days"] (x8 K ζ):=by
 refine F.ok zi_ (fun vs H Q E h=>?_) (fun cdv A outer s H vs Q E hr h=>?_)
 ·cases h;subst_vars;rfl
 ·obtain⟨a,pd,o,D,us,uo,ls,pns,rows,rfl,ea,hP,hl,hn,ep,aip,eo,hR,r9,h8,D31,q⟩:=h
  refine⟨_,(aj (i8 (aw zaW_ (hr.mono (by decide)) rfl (aa (vd 0) af)) (bR (n:=2) rfl (aA (am (i:=4) zi_.nd rfl (Or.inr rfl)) (aA (am (i:=5) zi_.nd rfl (Or.inl rfl)) bt))))
  (aj (aD (i:=6) zi_.nd rfl (Or.inl rfl) ag)
  (aj (bi PassesOwn.never rfl (bT rfl T.enumerate (vd 2)) (bR (n:=2) rfl (aA (am (i:=7) zi_.nd rfl (Or.inr rfl)) (aA (am (i:=8) zi_.nd rfl (Or.inl rfl)) bt)))
   (ak (bi PassesOwn.never rfl (aZ rfl T.range (aa (vd 3) af)) (am (i:=9) zi_.nd rfl (Or.inr rfl))
     (ak (bb (nB (qD (cM hr) (aK (aa (vd 7) (aa (vd 9) af))) (vd 1))) (ak (aD (i:=6) zi_.nd rfl (Or.inl rfl) (av aR (vd 6) (eW (cM hr) (vd 4) (aK (aa (vd 7) (aa (vd 9) (aa (kZ (cM hr) (vd 1) (aK (aa (vd 7) (aa (vd 9) af))) (fun _ _=>rfl)) af)))) ag ⟨rfl,rfl,rfl,rfl⟩)))) (ak (aD (i:=6) zi_.nd rfl (Or.inl rfl) (av aR (vd 6) (aF (kb rfl) (by rfl) T.max PyProof.Rows.boot_max (aa (bj (own:=["_law_value"]) (fnames:=["_law_numbers_here","_law_hand","_law_day"]) (fr:=[4,7,9]) (N':=["_law_value","_law_numbers_here","_law_hand","_law_day"]) ⟨rfl,rfl,rfl,rfl,rfl,rfl,rfl⟩ rfl (bf (vd 8)) (fun s0 H0 fp0 C0=>⟨(am (i:=0) (by show(["_law_value","_law_numbers_here","_law_hand","_law_day"]:List Str).Nodup;decide +kernel) rfl (Or.inl rfl)),bB,(eW (cM hr) (vd 1) (aK (aa (vd 2) (aa (vd 3) (aa (vd 0) af)))) ag ⟨rfl,rfl,rfl,rfl⟩)⟩)) af))))))))))
  (ak (aB (b8 cV (vd 6) (vd 5) (aH _))))))),?_⟩
  refine ap fun U1 u1=>?_
  lk
  refine⟨a,us,ls,rfl,ea,hP,hl,hn,fun t nd H1 g1 fn et en=>⟨_,rfl,_,SqT.of et,rfl,_,_,rfl,_,_,rfl,rfl,?_⟩⟩
  have aik:cJ (bn ls):=gG dY
  generalize bn ls=kvs at en aik q ⊢
  have np:pd≠nd:=ay ep fn
  rw[u1];clear u1
  refine ap fun U1 u1=>?_
  lk
  rw[u1];clear u1
  refine ap fun U1 u1=>bv fun B1 b1=>?_
  lk
  have hul:=hR.len
  have hf:∀i row,rows[i]? = some row→∀j:Nat,mxC pns kvs (fun h=>rows[h]?.getD []) i j=mxL ((jz pns row i j).map fun p=>nO kvs i j p):=fun i row e j=>by
   unfold mxC
   show mxL ((jz pns (rows[i]?.getD []) i j).map _)=_
   rw[e]
   rfl
  rw[← tj] at q
  generalize mxC pns kvs (fun h=>rows[h]?.getD [])=f at hf q
  refine⟨⟨_,SqL.of (g1 _ _ eo)⟩,bS (xs:=uo) (fun i σ H'=>az H1 H'∧∃v7 v8 v9,σ=[some (.ref a),some (.ref pd),some (.ref o),some (.int D),some (.ref nd),some (.int (cE ls)),some (.int (Cf f D i)),v7,v8,v9]) ⟨az.refl _,none,none,none,rfl⟩ (fun i σ H' _ hh=>SqL.of ((g1.trans hh.1) _ _ eo)) ?_ ?_⟩
  ·rintro i v σ H' tt hx ⟨g,v7,v8,v9,rfl⟩ htt
   obtain⟨row,hrow,tr,rfl,qr⟩:=Rows.at' hR hx
   have hi:=(List.getElem?_eq_some_iff.mp hrow).1
   rw[yna]
   have gt:=ah htt (.tup [.int (i:Int),.ref tr])
   have et:=ae (H:=H') (a:=tt) (o:=.tup [.int (i:Int),.ref tr])
   have g:=g.trans gt
   clear gt
   generalize upd H' tt (.tup [.int (i:Int),.ref tr])=H2 at g et ⊢
   lk
   refine⟨_,SqT.of et,rfl,_,_,rfl,_,_,rfl,rfl,?_⟩
   rw[b1]
   refine bv fun B2 b2=>?_
   lk
   refine⟨by lia,by lia,aV (fun j σ H'=>az H1 H'∧∃v9,σ=[some (.ref a),some (.ref pd),some (.ref o),some (.int D),some (.ref nd),some (.int (cE ls)),some (.int (ji f D i j)),some (.int i),some (.ref tr),v9]) ⟨g,v9,rfl⟩ ?_ ?_⟩
   ·rintro j σ H3 hj ⟨g3,v9,rfl⟩
    rw[show(0+(j:Int))=j by lia]
    rw[b2]
    rw[pK,hf i row hrow j]
    have ep3:=(g1.trans g3) _ _ ep
    have en3:=g3 _ _ en
    have qr3:=(g1.trans g3) _ _ qr
    have hr9:=r9 row (yc hrow)
    lk
    refine⟨by decide,fun t2 ht2=>?_⟩
    have gt2:=ah ht2 (.tup [.int i,.int j])
    refine⟨_,dS.t (k:=k2 i j) (gt2 _ _ ep3) ae,?_⟩
    unfold jz
    cases ev:bD pns (k2 i j) with
    | some v =>
     obtain⟨pv,rfl⟩:=aip _ v ev
     rw[if_pos (show(some (V.int pv)).isSome=true from rfl)]
     refine⟨.inr ⟨_,.inl (gt2 _ _ en3)⟩,by decide,fun t3 ht3=>?_⟩
     have gt3:=ah ht3 (.tup [.int i,.int j])
     refine⟨.int pv,.inr ⟨pns,k2 i j,t3,.inl ((gt2.trans gt3) _ _ ep3),rfl,ae,ev.symm⟩,by decide,fun t4 ht4=>?_⟩
     have gt4:=ah ht4 (.tup [.int i,.int j,.int pv])
     have G4:=gt2.trans (gt3.trans gt4)
     exact⟨_,dS.t (k:=kk i j pv) (G4 _ _ en3) ae,_,kS aik _ _ _,g3.trans G4,rfl⟩
    | none =>
     rw[if_neg (by simp)]
     have qr4:=gt2 _ _ qr3
     have en4:=gt2 _ _ en3
     generalize upd H3 t2 (.tup [.int i,.int j])=H4 at gt2 qr4 en4 ⊢
     refine⟨⟨_,SqL.of qr4⟩,fun D5 hD5=>aQ (xs:=row.map V.int) (fun k σ H5=>az H4 H5∧H5 D5=some (.lst (((row.take k).map fun p=>nO kvs i j p).map V.int))∧∃v0,σ=[v0,some (.ref nd),some (.int i),some (.int j)]) ⟨ah hD5 _,ae,none,rfl⟩ (fun k σ H5 _ hh=>SqL.of (hh.1 _ _ qr4)) ?_ ?_⟩
     ·rintro k v σ H5 hx2 ⟨g5,e5,v0,rfl⟩
      obtain⟨z,hz,rfl⟩:=cX hx2
      have hk:=(List.getElem?_eq_some_iff.mp hz).1
      have en5:=g5 _ _ en4
      lk
      refine⟨.inr ⟨_,.inl en5⟩,by decide,fun t6 ht6=>?_⟩
      have g6:=ah ht6 (.tup [.int i,.int j,.int z])
      refine⟨_,.inr ⟨kvs,kk i j z,t6,.inl (g6 _ _ en5),rfl,ae,rfl⟩,_,g6 _ _ e5,aE (by rw[ya,ya,yr];lia),aJ hD5 (g5.trans g6) _,?_⟩
      rw[ae,kS aik,aP hz,yg,yg]
      rfl
     rintro σ H5 ⟨g5,e5,v0,rfl⟩
     lk
     rw[ya,yo] at e5
     refine⟨_,SqL.of e5,by rw[ya];exact hr9.1,fun M hM1 hM2=>⟨g3.trans (gt2.trans g5),?_⟩⟩
     rw[nH hM1 hM2]
   ·rintro σ H3 ⟨g3,v9,rfl⟩
    rw[show Cf f D (i+1)=ji f D i D from rA f D i]
    exact⟨g3,_,_,_,rfl⟩
  rintro σ H2 ⟨g2,v7,v8,v9,rfl⟩
  lk
  rw[u1];clear u1
  lk
  rw[hul]
  exact q H2 (g1.trans g2)
inductive Ar(K:PySem.W.Frag)(ζ:Cs)(vs:List V)(H:Hp)(Q:VK)(E:XK):Prop
 | mk (tl pd o:Addr) (D:Nat) (vt uo:List V) (lls:List (List Lin)) (pns:List (List Key×V)) (rows:List (List Int)) (_:vs=[.ref pd,.ref tl,.ref o,.int D]) (_:H tl=some (.lst vt)) (_:mL H vt lls) (_:lls.length≤6) (_:(∀ls∈lls,ls.length≤40∧∀ℓ∈ls,ℓ.ps.length≤100)) (_:H pd=some (.dT pns)) (_:cJ pns) (_:H o=some (.lst uo)) (_:Rows H uo rows) (_:(∀r∈rows,0<r.length∧r.length≤9)) (_:rows.length≤8) (_:D≤31) (_:((∀(i j:Nat) ls ℓ,lls[i]? = some ls→ls[j]? = some ℓ→kd lls [((i:Int),(j:Int),1)] pns (fun h=>rows[h]?.getD []) rows.length D=false)→∀H',az H H'→Q .non H')) (_:∀(v:V) (i j:Nat) H',az H H'→fB H' v (.sum [((i:Int),(j:Int),1)])→i<lls.length→kd lls [((i:Int),(j:Int),1)] pns (fun h=>rows[h]?.getD []) rows.length D=true→Q v H'):Ar K ζ vs H Q E
theorem sC:ax ["_law_pins","_law_told","_law_options_here","_law_days","_law_rule_here","_law_lines_here","_law_number","_law_line"] ["_law_pins","_law_told","_law_options_here","_law_days"] (ao zU):=⟨rfl,rfl,rfl,k!,rfl,k!,k!⟩
theorem EX{ζ:Cs}{f:Addr}{fd:FuncData}(F:Fun K "_law_end" "_law_end" zU f fd)(T:Txt K mg ζ)(zbD_:Cal P w K mg base "_law_closes" ["_law_pairs","_law_pins","_law_options_here","_law_days"] 2 (x8 K ζ)):aT P w K mg base CX0 3 f fd ["_law_pins","_law_told","_law_options_here","_law_days"] (Ar K ζ):=by
 refine F.ok sC (fun vs H Q E h=>?_) (fun cdv A outer s H vs Q E hr h=>?_)
 ·cases h;subst_vars;rfl
 ·obtain⟨tl,pd,o,D,vt,uo,lls,pns,rows,rfl,etl,hT,l6,l40,ep,aip,eo,hR,r9,h8,D31,q1,q2⟩:=h
  refine⟨_,(aj (bi PassesOwn.never rfl (bT rfl T.enumerate (vd 1)) (bR (n:=2) rfl (aA (am (i:=4) sC.nd rfl (Or.inl rfl)) (aA (am (i:=5) sC.nd rfl (Or.inl rfl)) bt)))
   (@ak _ _ _ (bi PassesOwn.never rfl (bT rfl T.enumerate (vd 5)) (bR (n:=2) rfl (aA (am (i:=6) sC.nd rfl (Or.inl rfl)) (aA (am (i:=7) sC.nd rfl (Or.inl rfl)) bt)))
     (@ak _ _ _ (@bb _ _ _ _ _ _ _ _ (cw (aw zbD_ (hr.mono (by decide)) rfl (@aa _ _ _ _ _ (@aW _ _ _ _ (@aa _ _ _ _ _ (@aK _ _ _ _ _ (@aa _ _ _ _ _ (vd 7) (@aa _ _ _ _ _ ag af (by rfl)) (by rfl))) af (by rfl))) (@aa _ _ _ _ _ (vd 0) (@aa _ _ _ _ _ (vd 2) (@aa _ _ _ _ _ (vd 3) af (by rfl)) (by rfl)) (by rfl)) (by rfl)))) (@ak _ _ _ (aB (@aK _ _ _ _ _ (@aa _ _ _ _ _ e7 (@aa _ _ _ _ _ (@aK _ _ _ _ _ (@aa _ _ _ _ _ (@aK _ _ _ _ _ (@aa _ _ _ _ _ (vd 4) (@aa _ _ _ _ _ (vd 6) (@aa _ _ _ _ _ ag af (by rfl)) (by rfl)) (by rfl))) af (by rfl))) af (by rfl)) (by rfl))))) aN)))))
  (@ak _ _ _ (aB fR))),?_⟩
  refine ap fun U1 u1=>bv fun B1 b1=>?_
  lk
  refine⟨⟨_,SqL.of etl⟩,bS (xs:=vt) (fun i σ H'=>(az H H'∧NoR lls rows D pns i)∧∃v4 v5 v6 v7,σ=[some (.ref pd),some (.ref tl),some (.ref o),some (.int D),v4,v5,v6,v7]) ⟨⟨az.refl _,NoR.start⟩,none,none,none,none,rfl⟩ (fun i σ H' _ hh=>SqL.of (hh.1.1 _ _ etl)) ?_ ?_⟩
  ·rintro i v σ H' tt hx ⟨⟨g,noR⟩,v4,v5,v6,v7,rfl⟩ htt
   obtain⟨ls,hls,tv,ul,rfl,w1',w2'⟩:=Paired.get' hT hx
   have hi:=(List.getElem?_eq_some_iff.mp hls).1
   rw[yna]
   have gt:=ah htt (.tup [.int (i:Int),.ref tv])
   have et:=ae (H:=H') (a:=tt) (o:=.tup [.int (i:Int),.ref tv])
   replace g:=g.trans gt
   clear gt
   generalize upd H' tt (.tup [.int (i:Int),.ref tv])=H2 at g et ⊢
   lk
   refine⟨_,SqT.of et,rfl,_,_,rfl,_,_,rfl,rfl,?_⟩
   rw[b1]
   refine bv fun B2 b2=>?_
   lk
   obtain⟨l4,lp⟩:=l40 ls (yc hls)
   refine⟨⟨_,SqL.of (g _ _ w1')⟩,bS (xs:=ul) (fun j σ H'=>(az H H'∧NoC lls rows D pns i j)∧∃v6 v7,σ=[some (.ref pd),some (.ref tl),some (.ref o),some (.int D),some (.int i),some (.ref tv),v6,v7]) ⟨⟨g,noR⟩,v6,v7,rfl⟩ (fun j σ H' _ hh=>SqL.of (hh.1.1 _ _ w1')) ?_ ?_⟩
   ·rintro j v σ H3 t3 hv ⟨⟨g3,noC⟩,v6,v7,rfl⟩ ht3
    obtain⟨ℓ,hℓ,hv4⟩:=Paired.get' w2' hv
    have hv4':=hv4
    obtain⟨t4,l5,ts4,rfl,w1,w2,w3⟩:=hv4
    rw[yna]
    have gt:=ah ht3 (.tup [.int (j:Int),.ref t4])
    have et3:=ae (H:=H3) (a:=t3) (o:=.tup [.int (j:Int),.ref t4])
    replace g3:=g3.trans gt
    clear gt
    generalize upd H3 t3 (.tup [.int (j:Int),.ref t4])=H4 at g3 et3 ⊢
    lk
    refine⟨_,SqT.of et3,rfl,_,_,rfl,_,_,rfl,rfl,?_⟩
    rw[b2]
    lk
    refine⟨by decide,fun pa hpa=>⟨by decide,fun pb hpb=>?_⟩⟩
    have ga:=ah hpa (.tup [.ref t4,.int 1])
    have gb:=ah hpb (.lst [.ref pa])
    have gab:=ga.trans gb
    have hpr:zd (upd (upd H4 pa (.tup [.ref t4,.int 1])) pb (.lst [.ref pa])) [.ref pa] [(ℓ,1)]:=.cons ⟨pa,t4,rfl,gb _ _ ae,hv4'.mono (g3.trans gab)⟩ .nil
    have epb:=ae (H:=upd H4 pa (.tup [.ref t4,.int 1])) (a:=pb) (o:=.lst [.ref pa])
    have g5:=g3.trans gab
    clear gab ga gb
    generalize upd (upd H4 pa (.tup [.ref t4,.int 1])) pb (.lst [.ref pa])=H5 at g5 hpr epb ⊢
    have hp9:bq [(ℓ,(1:Int))]≤900:=by
     have h1:=lp ℓ (yc hℓ)
     show ℓ.ps.length+0≤900
     lia
    refine⟨pb,pd,o,D,_,uo,[(ℓ,1)],pns,rows,rfl,epb,hpr,(fun l hl=>by rw[List.mem_singleton.mp hl];exact⟨by show -(2 ^ 40)<(1:Int);decide,by show(1:Int)<2 ^ 40;decide⟩),hp9,g5 _ _ ep,aip,g5 _ _ eo,hR.mono g5,r9,h8,D31,fun H6 g6=>⟨_,rfl,?_⟩⟩
    rw[uz hls hℓ]
    cases z:kd lls [((i:Int),(j:Int),1)] pns (fun h=>rows[h]?.getD []) rows.length D with
    | true =>
     rw[if_pos rfl]
     refine⟨by decide,fun p hp=>⟨by decide,fun p1 hp1=>⟨by decide,fun t ht=>?_⟩⟩⟩
     obtain⟨g7,sv⟩:=vp hp hp1 ht
     exact q2 _ i j _ (g5.trans (g6.trans g7)) sv hi z
    | false =>
     rw[if_neg (by decide)]
     exact⟨g5.trans g6,noC.next z⟩
   ·rintro σ H3 ⟨⟨g3,noC⟩,v6,v7,rfl⟩
    rw[Paired.length w2'] at noC
    exact⟨g3,noC.row hls,_,_,_,_,rfl⟩
  rintro σ H' ⟨⟨g,noR⟩,v4,v5,v6,v7,rfl⟩
  lk
  rw[u1];clear u1
  lk
  rw[Paired.length hT] at noR
  exact q1 noR.all H' g
inductive zS(K:PySem.W.Frag)(ζ:Cs)(vs:List V)(H:Hp)(Q:VK)(E:XK):Prop
 | mk (c:Int) (pd o:Addr) (D:Nat) (uo:List V) (pns:List (List Key×V)) (rows:List (List Int)) (_:vs=[.int c,.ref pd,.ref o,.int D]) (_:0≤c) (_:H pd=some (.dT pns)) (_:H o=some (.lst uo)) (_:Rows H uo rows) (_:rows.length≤8) (_:D≤31) (_:(∀H',az H H'→Q .non H')) (_:∀(v:V) (h d:Nat) H',az H H'→fB H' v (.part h d)→h<rows.length→d<D→bD pns (k2 h d)=none→Q v H'):zS K ζ vs H Q E
theorem uM:ax ["_law_cell_here","_law_pins","_law_options_here","_law_days","_law_free","_law_day","_law_hand"] ["_law_cell_here","_law_pins","_law_options_here","_law_days"] (ao zQ):=⟨rfl,rfl,rfl,k!,rfl,k!,k!⟩
theorem Db{ζ:Cs}{f:Addr}{fd:FuncData}(F:Fun K "_law_part" "_law_part" zQ f fd)(T:Txt K mg ζ) :aT P w K mg base CX0 1 f fd ["_law_cell_here","_law_pins","_law_options_here","_law_days"] (zS K ζ):=by
 refine F.ok uM (fun vs H Q E h=>?_) (fun cdv A outer s H vs Q E hr h=>?_)
 ·cases h;subst_vars;rfl
 ·obtain⟨c,pd,o,D,uo,pns,rows,rfl,c0,epd,eo,hR,r8,D31,q1,q2⟩:=h
  refine⟨_,(aj (aD (i:=4) uM.nd rfl (Or.inl rfl) (@aW _ _ _ _ af))
  (aj (bi PassesOwn.never rfl (aZ rfl T.range (@aa _ _ _ _ _ (vd 3) af (by rfl))) (am (i:=5) uM.nd rfl (Or.inl rfl))
   (@ak _ _ _ (bi PassesOwn.never rfl (aZ rfl T.range (@aa _ _ _ _ _ (aF (aL (K:=K) rfl) (by rfl) T.len PySem.boot_len (@aa _ _ _ _ _ (vd 2) af (by rfl))) af (by rfl))) (am (i:=6) uM.nd rfl (Or.inl rfl))
     (@ak _ _ _ (@bb _ _ _ _ _ _ _ _ (nB (jO (cM hr) (@aK _ _ _ _ _ (@aa _ _ _ _ _ (vd 6) (@aa _ _ _ _ _ (vd 5) af (by rfl)) (by rfl))) (vd 1))) (@ak _ _ _ (bJ (cH PySem.F.plainAttrs_list PySem.F.slot_list_append PySem.F.type_list_append bI (vd 4) (@aa _ _ _ _ _ (@aK _ _ _ _ _ (@aa _ _ _ _ _ (vd 6) (@aa _ _ _ _ _ (vd 5) af (by rfl)) (by rfl))) af (by rfl))))) aN)))))
  (aj (@bb _ _ _ _ _ _ _ _ (aG (jt hr) (vd 4) (@aW _ _ _ _ af) (aH _)) (@ak _ _ _ (aB fR)) aN)
  (@ak _ _ _ (aB (@aK _ _ _ _ _ (@aa _ _ _ _ _ e7 (@aa _ _ _ _ _ (aM ba (aM bM (vd 4) (av bo (vd 0) (aF (aL (K:=K) rfl) (by rfl) T.len PySem.boot_len (@aa _ _ _ _ _ (vd 4) af (by rfl)))) (fun _ _=>rfl)) ag (fun _ _=>rfl)) (@aa _ _ _ _ _ (aM ba (aM bM (vd 4) (av bo (vd 0) (aF (aL (K:=K) rfl) (by rfl) T.len PySem.boot_len (@aa _ _ _ _ _ (vd 4) af (by rfl)))) (fun _ _=>rfl)) ag (fun _ _=>rfl)) af (by rfl)) (by rfl)) (by rfl)))))))),?_⟩
  refine ap fun U1 u1=>?_
  lk
  refine⟨yq _,fun L hL=>?_⟩
  rw[u1];clear u1
  refine ap fun U1 u1=>bv fun B1 b1=>?_
  lk
  have fI0:FcI H L rows.length D pns (upd H L (.lst [])):=⟨[],DuI.start hL,fun c z=>by cases z⟩
  have hrl:=hR.len
  refine⟨by lia,by lia,aV (fun i σ H'=>FcI H L rows.length D pns H'∧(∃us,H' L=some (.lst us)∧us.length≤i*8)∧∃v5 v6,σ=[some (.int c),some (.ref pd),some (.ref o),some (.int D),some (.ref L),v5,v6]) ⟨fI0,⟨[],ae,yq _⟩,none,none,rfl⟩ ?_ ?_⟩
  ·rintro i σ H' hi ⟨fI,⟨us,eL,hl⟩,v5,v6,rfl⟩
   rw[show(0+(i:Int))=i by lia]
   rw[b1]
   refine bv fun B2 b2=>?_
   lk
   refine⟨uo,.inl (SqL.of (fI.same _ _ eo)),by lia,by lia,aV (fun j σ H2=>FcI H L rows.length D pns H2∧(∃us,H2 L=some (.lst us)∧us.length≤i*8+j)∧∃v6,σ=[some (.int c),some (.ref pd),some (.ref o),some (.int D),some (.ref L),some (.int i),v6]) ⟨fI,⟨us,eL,hl⟩,v6,rfl⟩ ?_ ?_⟩
   ·rintro j σ H2 hj ⟨fI,⟨us,eL,hl⟩,v6,rfl⟩
    rw[show(0+(j:Int))=j by lia]
    rw[b2]
    lk
    refine⟨by decide,fun p hp=>?_⟩
    have gp:=ah hp (.tup [.int (j:Int),.int (i:Int)])
    have fI2:=fI.mono gp
    have eL2:=gp _ _ eL
    refine⟨_,dS.t (k:=k2 j i) (fI2.same _ _ epd) ae,?_⟩
    generalize upd H2 p (.tup [.int (j:Int),.int (i:Int)])=H3 at fI2 eL2 ⊢
    cases hv:bD pns (k2 (j:Int) i) with
    | some w =>
     rw[if_neg (by simp)]
     exact⟨fI2,us,eL2,by lia⟩
    | none =>
     rw[if_pos (show(none:Option V).isSome=false from rfl)]
     refine⟨.inl ⟨rfl,_,SqL.of eL2⟩,by decide,fun p1 hp1=>?_⟩
     obtain⟨e1,e2,e3⟩:=fI2.step hL hp1 eL2 (by lia) (by lia) (by lia) hv
     exact⟨us,e1,e2,e3,_,ae,by rw[yf,yJ];lia⟩
   ·rintro σ H2 ⟨fI,⟨us,eL,hl⟩,v6,rfl⟩
    exact⟨fI,⟨us,eL,by rw[yya];lia⟩,_,_,rfl⟩
  rintro σ H' ⟨fI,⟨us,eL,hl⟩,v5,v6,rfl⟩
  lk
  rw[u1];clear u1
  refine ap fun U1 u1=>?_
  lk
  refine⟨yq _,fun e he=>?_⟩
  have ge:=ah he (.lst [])
  refine⟨e,rfl,SqL.of ae,.inr ⟨L,us,rfl,SqL.of (ge _ _ eL),_,rfl,?_⟩⟩
  by_cases z:us=[]
  ·rw[if_pos (by simp[z])]
   exact q1 _ (fI.same.trans ge)
  ·rw[if_neg (by simp[z])]
   rw[u1];clear u1
   replace fI:=fI.mono ge
   replace eL:=ge _ _ eL
   generalize upd H' e (.lst [])=H2 at fI eL ⊢
   lk
   obtain⟨fs,dI,hfs⟩:=fI.ex
   obtain⟨us',g,e',hD⟩:=dI.ex
   rw[eL] at e'
   cases e'
   have hlen:=Paired.length hD
   rw[ya] at hlen
   have hpos:=List.length_pos_iff.mpr z
   have y0:=yA c (b:=(us.length:Int)) (by lia)
   have y1:=yw c (b:=(us.length:Int)) (by lia)
   obtain⟨k,hk,hk2⟩:∃k:Nat,c % (us.length:Int)=k∧k<fs.length:=⟨(c % (us.length:Int)).toNat,by lia,by lia⟩
   obtain⟨cc,hcc⟩:∃cc,fs[k]? = some cc:=⟨_,yb hk2⟩
   obtain⟨vo,hvo,to,rfl,hto⟩:=Paired.getR hD (show(fs.map fun c=>((c.1:Int),(c.2:Int)))[k]? = some ((cc.1:Int),(cc.2:Int)) by rw[yj,hcc];rfl)
   obtain⟨f1,f2,f3⟩:=hfs cc (yc hcc)
   have hat:atI us (c % (us.length:Int))=some (.ref to):=by rw[hk];exact bg hvo
   refine⟨us,.inl (SqL.of eL),by lia,us,SqL.of eL,_,hat,to,rfl,_,SqT.of hto,_,at0 _ _,us,.inl (SqL.of eL),by lia,us,SqL.of eL,_,hat,to,rfl,_,SqT.of hto,_,rfl,by decide,fun p hp=>?_⟩
   exact q2 (.ref p) cc.1 cc.2 _ (g.trans (ah hp _)) ⟨p,rfl,ae⟩ f1 f2 f3
inductive wM(K:PySem.W.Frag)(ζ:Cs)(vs:List V)(H:Hp)(Q:VK)(E:XK):Prop
 | mk (a tl:Addr) (ns:List Int) (at0:Int) (vt:List V) (lls:List (List Lin)) (_:vs=[.ref a,.int at0,.ref tl]) (_:SqL K H a (ns.map V.int)) (_:ns.length≤63) (_:0≤at0) (_:at0≤1000) (_:H tl=some (.lst vt)) (_:mL H vt lls) (_:1≤lls.length) (_:lls.length≤6) (_:(∀ls∈lls,ls.length≤40)) (_:∀(v:V) (us:List Tri) H',az H H'→fB H' v (.sum us)→rg us→Q v H'):wM K ζ vs H Q E
theorem zG_:ax ["_law_script","_law_at","_law_told","_law_found","_law_k","_law_cell_here","_law_rule_here"] ["_law_script","_law_at","_law_told"] (ao xD):=⟨rfl,rfl,rfl,k!,rfl,k!,k!⟩
theorem FE{ζ:Cs}{f:Addr}{fd:FuncData}(F:Fun K "_law_drawn" "_law_drawn" xD f fd)(T:Txt K mg ζ)(za_:Cal P w K mg base "_law_cell" ["_law_script","_law_k"] 1 (zq_ K ζ)):aT P w K mg base CX0 2 f fd ["_law_script","_law_at","_law_told"] (wM K ζ):=by
 refine F.ok zG_ (fun vs H Q E h=>?_) (fun cdv A outer s H vs Q E hr h=>?_)
 ·cases h;subst_vars;rfl
 ·obtain⟨a,tl,ns,at0,vt,lls,rfl,hS,hn,a0,a1,etl,hT,l1,l6,l40,q⟩:=h
  refine⟨_,(aj (aD (i:=3) zG_.nd rfl (Or.inl rfl) (@aW _ _ _ _ af))
  (aj (bi PassesOwn.never rfl (aZ rfl T.range (@aa _ _ _ _ _ (av aR ag (av bo (aw za_ (hr.mono (by decide)) rfl (@aa _ _ _ _ _ (vd 0) (@aa _ _ _ _ _ (vd 1) af (by rfl)) (by rfl))) ag)) af (by rfl))) (am (i:=4) zG_.nd rfl (Or.inl rfl))
   (aj (aD (i:=5) zG_.nd rfl (Or.inl rfl) (aw za_ (hr.mono (by decide)) rfl (@aa _ _ _ _ _ (vd 0) (@aa _ _ _ _ _ (av aR (av aR (vd 1) ag) (vd 4)) af (by rfl)) (by rfl))))
    (aj (aD (i:=6) zG_.nd rfl (Or.inl rfl) (av bo (vd 5) (aF (aL (K:=K) rfl) (by rfl) T.len PySem.boot_len (@aa _ _ _ _ _ (vd 2) af (by rfl)))))
    (@ak _ _ _ (bJ (cH PySem.F.plainAttrs_list PySem.F.slot_list_append PySem.F.type_list_append bI (vd 3) (@aa _ _ _ _ _ (@aK _ _ _ _ _ (@aa _ _ _ _ _ (vd 6) (@aa _ _ _ _ _ (av bo (av fW (vd 5) ag) (aF (cQ rfl) (by rfl) T.max PyProof.Rows.boot_max (@aa _ _ _ _ _ ag (@aa _ _ _ _ _ (aF (aL (K:=K) rfl) (by rfl) T.len PySem.boot_len (@aa _ _ _ _ _ (aM bM (vd 2) (vd 6) (fun _ _=>rfl)) af (by rfl))) af (by rfl)) (by rfl)))) (@aa _ _ _ _ _ (av aR ag (av bo (av fW (vd 5) ag) (aM bM (@aW _ _ _ _ (@aa _ _ _ _ _ ag (@aa _ _ _ _ _ ag (@aa _ _ _ _ _ ag (@aa _ _ _ _ _ (av dj ag ag) af (by rfl)) (by rfl)) (by rfl)) (by rfl))) (av bo (vd 5) ag) (fun _ _=>rfl)))) af (by rfl)) (by rfl)) (by rfl))) af (by rfl))))))))
  (@ak _ _ _ (aB (@aK _ _ _ _ _ (@aa _ _ _ _ _ e7 (@aa _ _ _ _ _ (aY (bW (K:=K) rfl) (by rfl) T.tuple PyProof.Rows.boot_tuple (@aa _ _ _ _ _ (vd 3) af (by rfl))) af (by rfl)) (by rfl))))))),?_⟩
  refine ap fun U1 u1=>?_
  lk
  refine⟨yq _,fun L hL=>?_⟩
  rw[u1];clear u1
  refine ap fun U1 u1=>bv fun B1 b1=>?_
  lk
  have t0:=fL.start hL
  refine⟨a,ns,_,rfl,(ah hL (.lst [])).seq hS,hn,by omega,by lia,fun v v0 v1=>⟨v,rfl,by decide,by lia,by lia,aV (fun i σ H'=>UsI H L i H'∧∃v4 v5 v6,σ=[some (.ref a),some (.int at0),some (.ref tl),some (.ref L),v4,v5,v6]) ⟨⟨[],t0,rfl,fun u z=>by cases z⟩,none,none,none,rfl⟩ ?_ ?_⟩⟩
  ·rintro i σ H' hi ⟨uI,v4,v5,v6,rfl⟩
   rw[show(0+(i:Int))=i by lia]
   rw[b1]
   refine ap fun U2 u2=>?_
   lk
   refine⟨a,ns,_,rfl,uI.same.seq hS,hn,by lia,by lia,fun c c0 c1=>?_⟩
   rw[u2];clear u2
   refine ap fun U2 u2=>?_
   lk
   have hvl:=Paired.length hT
   refine⟨vt,.inl (SqL.of (uI.same _ _ etl)),by lia,?_⟩
   have y0:=yA c (b:=(vt.length:Int)) (by lia)
   have y1:=yw c (b:=(vt.length:Int)) (by lia)
   obtain⟨k,hk,hk2⟩:∃k:Nat,c % (vt.length:Int)=k∧k<lls.length:=⟨(c % (vt.length:Int)).toNat,by lia,by lia⟩
   rw[hk]
   rw[u2];clear u2
   obtain⟨ls,hls⟩:∃ls,lls[k]? = some ls:=⟨_,yb hk2⟩
   obtain⟨vl,hvl2,tv,ul,rfl,w1,w2⟩:=Paired.getR (hT.mono uI.same) hls
   obtain⟨us,tI,ui,hus⟩:=uI.ex
   obtain⟨uu,_,eL,_⟩:=tI.ex
   lk
   have l4:=l40 ls (yc hls)
   have hul:=Paired.length w2
   refine⟨.inl ⟨rfl,_,SqL.of eL⟩,⟨by decide,by decide⟩,_,SqL.of (uI.same _ _ etl),_,bg hvl2,tv,rfl,ul,.inl (SqL.of w1),?_⟩
   have hm0:0<(if (ul.length:Int)>1 then (ul.length:Int) else 1):=by split <;> lia
   generalize (if (ul.length:Int)>1 then (ul.length:Int) else 1)=mm at hm0 ⊢
   refine⟨hm0,⟨by decide,by decide⟩,⟨by decide,by decide,by decide⟩,by decide,fun p hp=>⟨by decide,_,SqL.of ae,?_⟩⟩
   obtain⟨w,hw,w0,w9⟩:=Ce (x:=0) (z:=c % 4) (yA _ (by decide)) (yw _ (by decide))
   refine⟨_,hw,w,rfl,w0,by decide,fun p1 hp1=>?_⟩
   have gp:=ah hp (.lst [.int 1,.int 1,.int 3,.int (10 ^ Int.toNat 9)])
   have z0:=yA (c / 50) (b:=w) (by lia)
   have z1:=yw (c / 50) w0
   exact uI.step hL (by lia) gp hp1 (by lia) (by lia)
  rintro σ H' ⟨uI,v4,v5,v6,rfl⟩
  lk
  rw[u1];clear u1
  lk
  obtain⟨us,tI,ui,hus⟩:=uI.ex
  obtain⟨uu,g,eL,hTr⟩:=tI.ex
  refine⟨uu,SqL.of eL,fun l hl=>⟨by decide,fun p hp=>?_⟩⟩
  have g1:=ah hl (.tup uu)
  have g2:=ah hp (.tup [.str "sum",.ref l])
  exact q (.ref p) us _ (g.trans (g1.trans g2)) ⟨p,l,uu,rfl,ae,g2 _ _ ae,eG.tmono (aC (g1.trans g2)) hTr⟩ ⟨by lia,hus⟩
inductive zu(K:PySem.W.Frag)(ζ:Cs)(vs:List V)(H:Hp)(Q:VK)(E:XK):Prop
 | mk (a r tl o:Addr) (ns:List Int) (D:Nat) (ur vt uo:List V) (rota:List (List Int)) (lls:List (List Lin)) (rows:List (List Int)) (_:vs=[.ref a,.ref r,.ref tl,.ref o,.int D]) (_:SqL K H a (ns.map V.int)) (_:ns.length≤63) (_:H r=some (.lst ur)) (_:Rows H ur rota) (_:(∀row∈rota,row.length=D)) (_:rota.length=rows.length) (_:H tl=some (.lst vt)) (_:mL H vt lls) (_:1≤lls.length) (_:lls.length≤6) (_:(∀ls∈lls,ls.length≤40∧∀ℓ∈ls,ℓ.ps.length≤100)) (_:H o=some (.lst uo)) (_:Rows H uo rows) (_:(∀row∈rows,0<row.length∧row.length≤9)) (_:rows.length≤8) (_:D≤31) (_:∀(p:Addr) (up:List V) (sts:List Stp) H',az H H'→H p=none→H' p=some (.lst up)→dW H' up sts→(∀st∈sts,ke st)→sts.length≤24→Q (.ref p) H'):zu K ζ vs H Q E
theorem zd_:ax ["_law_script","_law_rota_here","_law_told","_law_options_here","_law_days","_law_cases","_law_paper","_law_at","_law_pins","_law_step","_law_value","_law_case"] ["_law_script","_law_rota_here","_law_told","_law_options_here","_law_days"] (ao xZ):=⟨rfl,rfl,rfl,k!,rfl,k!,k!⟩
theorem FH{ζ:Cs}{f:Addr}{fd:FuncData}(F:Fun K "_law_steps" "_law_steps" xZ f fd)(T:Txt K mg ζ)(zu_:Cal P w K mg base "_law_agrees" ["_law_pins","_law_rota_here"] 1 (zR_ K ζ))(zdo_:Cal P w K mg base "_law_end" ["_law_pins","_law_told","_law_options_here","_law_days"] 3 (Ar K ζ))(zcU_:Cal P w K mg base "_law_part" ["_law_cell_here","_law_pins","_law_options_here","_law_days"] 1 (zS K ζ))(zaG_:Cal P w K mg base "_law_drawn" ["_law_script","_law_at","_law_told"] 2 (wM K ζ))(za_:Cal P w K mg base "_law_cell" ["_law_script","_law_k"] 1 (zq_ K ζ)):aT P w K mg base CX0 4 f fd ["_law_script","_law_rota_here","_law_told","_law_options_here","_law_days"] (zu K ζ):=by
 refine F.ok zd_ (fun vs H Q E h=>?_) (fun cdv A outer s H vs Q E hr h=>?_)
 ·cases h;subst_vars;rfl
 ·obtain⟨a,r,tl,o,ns,D,ur,vt,uo,rota,lls,rows,rfl,hS,hn,er,hRr,rl,rn,etl,hT,l1,l6,l40,eo,hR,r9,r8,D31,q⟩:=h
  refine⟨_,(aj (aD (i:=5) zd_.nd rfl (Or.inl rfl) (@aW _ _ _ _ (@aa _ _ _ _ _ fV af (by rfl))))
  (aj (aD (i:=6) zd_.nd rfl (Or.inl rfl) (@aW _ _ _ _ af))
  (aj (lM PassesOwn.never (PW.pt (gQ (aG (Bh hr) (vd 5) (@aW _ _ _ _ af) (aH _)) (fb (aG cV (aF (aL (K:=K) rfl) (by rfl) T.len PySem.boot_len (@aa _ _ _ _ _ (vd 6) af (by rfl))) ag (aH _)))))
   (aj (aD (i:=7) zd_.nd rfl (Or.inl rfl) (av aR ag (av cj ag (aF (aL (K:=K) rfl) (by rfl) T.len PySem.boot_len (@aa _ _ _ _ _ (vd 6) af (by rfl))))))
    (aj (aD (i:=8) zd_.nd rfl (Or.inl rfl) (mY PySem.F.plainAttrs_list PySem.F.slot_list_pop PySem.F.type_list_pop qT (vd 5)))
    (aj (aD (i:=9) zd_.nd rfl (Or.inl rfl) fR)
    (dE (@bb _ _ _ _ _ _ _ _ (eJ (cw (aw zu_ (hr.mono (by decide)) rfl (@aa _ _ _ _ _ (vd 8) (@aa _ _ _ _ _ (vd 1) af (by rfl)) (by rfl))))) (@ak _ _ _ (aD (i:=9) zd_.nd rfl (Or.inl rfl) (aw zdo_ (hr.mono (by decide)) rfl (@aa _ _ _ _ _ (vd 8) (@aa _ _ _ _ _ (vd 2) (@aa _ _ _ _ _ (vd 3) (@aa _ _ _ _ _ (vd 4) af (by rfl)) (by rfl)) (by rfl)) (by rfl))))) (@ak _ _ _ (@bb _ _ _ _ _ _ _ _ (aG eQ (av bo (aw za_ (hr.mono (by decide)) rfl (@aa _ _ _ _ _ (vd 0) (@aa _ _ _ _ _ (vd 7) af (by rfl)) (by rfl))) ag) ag (aH _)) (@ak _ _ _ (aD (i:=9) zd_.nd rfl (Or.inl rfl) (aw zaG_ (hr.mono (by decide)) rfl (@aa _ _ _ _ _ (vd 0) (@aa _ _ _ _ _ (vd 7) (@aa _ _ _ _ _ (vd 2) af (by rfl)) (by rfl)) (by rfl))))) aN)))
    (dE (@bb _ _ _ _ _ _ _ _ (aG nZ (vd 9) fR (aH _)) (@ak _ _ _ (aD (i:=9) zd_.nd rfl (Or.inl rfl) (aw zcU_ (hr.mono (by decide)) rfl (@aa _ _ _ _ _ (aw za_ (hr.mono (by decide)) rfl (@aa _ _ _ _ _ (vd 0) (@aa _ _ _ _ _ (av aR (vd 7) ag) af (by rfl)) (by rfl))) (@aa _ _ _ _ _ (vd 8) (@aa _ _ _ _ _ (vd 3) (@aa _ _ _ _ _ (vd 4) af (by rfl)) (by rfl)) (by rfl)) (by rfl))))) aN)
    (dE (@bb _ _ _ _ _ _ _ _ (aG nZ (vd 9) fR (aH _)) (@ak _ _ _ (aD (i:=9) zd_.nd rfl (Or.inl rfl) (aw zaG_ (hr.mono (by decide)) rfl (@aa _ _ _ _ _ (vd 0) (@aa _ _ _ _ _ (vd 7) (@aa _ _ _ _ _ (vd 2) af (by rfl)) (by rfl)) (by rfl))))) aN)
    (aj (bJ (cH PySem.F.plainAttrs_list PySem.F.slot_list_append PySem.F.type_list_append bI (vd 6) (@aa _ _ _ _ _ (vd 9) af (by rfl))))
    (@ak _ _ _ (@bb _ _ _ _ _ _ _ _ (aG bH (aM ba (vd 9) ag (fun _ _=>rfl)) e7 (aH _)) (@ak _ _ _ (bi PassesOwn.never rfl (sT rfl T.reversed (aM bM (vd 3) (aM ba (vd 9) ag (fun _ _=>rfl)) (fun _ _=>rfl))) (am (i:=10) zd_.nd rfl (Or.inl rfl))
      (aj (aD (i:=11) zd_.nd rfl (Or.inl rfl) (aY jk (by rfl) T.dict PyProof.Rows.boot_dict (@aa _ _ _ _ _ (vd 8) af (by rfl))))
       (aj (iB (cM hr) (vd 11) (@aK _ _ _ _ _ (@aa _ _ _ _ _ (aM ba (vd 9) ag (fun _ _=>rfl)) (@aa _ _ _ _ _ (aM ba (vd 9) ag (fun _ _=>rfl)) af (by rfl)) (by rfl))) (vd 10) rfl)
       (@ak _ _ _ (bJ (cH PySem.F.plainAttrs_list PySem.F.slot_list_append PySem.F.type_list_append bI (vd 5) (@aa _ _ _ _ _ (vd 11) af (by rfl))))))))) aN))))))))))
  (@ak _ _ _ (aB (vd 6)))))),?_⟩
  refine ap fun U1 u1=>?_
  lk
  intro pc hpc
  refine⟨by decide,fun Lc hLc=>?_⟩
  rw[u1];clear u1
  refine ap fun U1 u1=>?_
  lk
  refine⟨yq _,fun Lp hLp=>?_⟩
  have y1:=ah hpc (.dT [])
  have y2:=ah hLc (.lst [.ref pc])
  have y4:=ah hLp (.lst [])
  have sw0:SwH H Lc Lp [[]] [] (upd (upd (upd H pc (.dT [])) Lc (.lst [.ref pc])) Lp (.lst [])):=⟨y1.trans (y2.trans y4),⟨[.ref pc],y4 _ _ ae,.cons ⟨pc,rfl,(y2.trans y4) _ _ ae,fun kv z=>by cases z⟩ .nil⟩,⟨[],ae,.nil⟩⟩
  have n2:Lc≠Lp:=ay ae hLp
  have c0:H Lc=none:=y1.free hLc
  have p0:H Lp=none:=(y1.trans y2).free hLp
  clear y1 y2 y4 hpc hLc hLp
  generalize upd (upd (upd H pc (.dT [])) Lc (.lst [.ref pc])) Lp (.lst [])=H1 at sw0 ⊢
  rw[u1];clear u1
  refine ap fun U1 u1=>oT fun B1 b1=>?_
  lk
  refine⟨fun m σ H'=>∃cs sts v7 v8 v9 v10 v11,m=24-sts.length∧SwH H Lc Lp cs sts H'∧dh rows.length D sts.length cs∧sts.length≤24∧(∀st∈sts,ke st)∧σ=[some (.ref a),some (.ref r),some (.ref tl),some (.ref o),some (.int D),some (.ref Lc),some (.ref Lp),v7,v8,v9,v10,v11],⟨_,[[]],[],none,none,none,none,none,rfl,sw0,dh.init,yq _,(fun st z=>by cases z),rfl⟩,?_⟩
  clear sw0
  rintro m σ H' ⟨cs,sts,v7,v8,v9,v10,v11,rfl,sw,cok,s24,sus,rfl⟩
  have fin0:∀H2,az H' H2→U1 { nx:=fun x H'=>Q V.non H',rt:=Q } [some (.ref a),some (.ref r),some (.ref tl),some (.ref o),some (.int D),some (.ref Lc),some (.ref Lp),v7,v8,v9,v10,v11] H2:=by
   intro H2 g2
   rw[u1];clear u1
   lk
   obtain⟨up,e1,e2⟩:=(sw.mono g2).p
   exact q Lp up sts H2 (sw.g.trans g2) p0 e1 e2 sus s24
  refine⟨yq _,fun e he=>?_⟩
  have ge:=ah he (.lst [])
  obtain⟨us,eL,hD⟩:=sw.c
  refine⟨Lc,e,us,rfl,rfl,SqL.of (ge _ _ eL),SqL.of ae,_,rfl,?_⟩
  replace sw:=sw.mono ge
  replace eL:=ge _ _ eL
  replace hD:=dg.mono ge hD
  rcases kA cs with rfl | ⟨cs',pns,rfl⟩
  ·cases hD
   rw[if_neg (by simp)]
   exact fin0 _ ge
  obtain⟨us',w,rfl,hD',hw2⟩:=Paired.split hD
  obtain⟨pd,rfl,epd,ppl⟩:=hw2
  rw[if_pos (by simp)]
  obtain⟨up,epp,hSt⟩:=sw.p
  have hupl:=Paired.length hSt
  refine⟨Lp,rfl,up,.inl (SqL.of epp),?_⟩
  by_cases h24:sts.length<24
  ·rw[if_pos (by lia)]
   clear fin0
   obtain⟨N,hN⟩:∃N:St→Hp→Prop,N=fun σ H'=>∃m',m'<24-sts.length∧∃cs sts v7 v8 v9 v10 v11,m'=24-sts.length∧SwH H Lc Lp cs sts H'∧dh rows.length D sts.length cs∧sts.length≤24∧(∀st∈sts,ke st)∧σ=[some (.ref a),some (.ref r),some (.ref tl),some (.ref o),some (.int D),some (.ref Lc),some (.ref Lp),v7,v8,v9,v10,v11]:=⟨_,rfl⟩
   refine⟨N,(by rw[hN];exact fun _ _ z=>z),?_⟩
   clear ge he
   generalize upd H' e (.lst [])=H2 at sw eL hD hD' epd epp hSt ⊢
   rw[b1];clear b1
   refine ap fun U2 u2=>?_
   lk
   refine⟨up,.inl (SqL.of epp),.inl ⟨by decide,by decide⟩,?_⟩
   rw[u2];clear u2
   refine ap fun U2 u2=>?_
   lk
   refine⟨.inl ⟨rfl,_,SqL.of eL⟩,Lc,us'++[.ref pd],.ref pd,rfl,rfl,eL,by simp,?_⟩
   rw[yUa]
   have sw2:=sw.setC c0 n2.symm hD'
   have npL:pd≠Lc:=fun y=>by rw[y,eL] at epd;cases epd
   have epd2:upd H2 Lc (.lst us') pd=some (.dT pns):=by rw[au npL];exact epd
   clear eL epd hD' hD epp hSt
   generalize upd H2 Lc (.lst us')=H3 at sw2 epd2 ⊢
   clear sw
   have pok:=cok.2 pns (yH _ (List.mem_singleton.mpr rfl))
   rw[u2];clear u2
   refine ap fun U2 u2=>?_
   lk
   rw[u2];clear u2
   obtain⟨at',hat⟩:∃at':Int,at'=60+6*(up.length:Int):=⟨_,rfl⟩
   rw[← hat]
   have hat0:0≤at'∧at'≤300:=by lia
   have pok':cF rota.length D 0 pns:=by rw[rn];exact pok.1
   have pokl:=pok.2
   refine fO (fun σ H'=>∃v,az H3 H'∧(v=.non∨mW rows.length D H' v)∧σ=[some (.ref a),some (.ref r),some (.ref tl),some (.ref o),some (.int D),some (.ref Lc),some (.ref Lp),some (.int at'),some (.ref pd),some v,v10,v11]) ?_ ?_
   ·lk
    refine⟨pd,r,ur,rota,pns,D,rfl,epd2,pok',by lia,sw2.g _ _ er,hRr.mono sw2.g,rl,by lia,D31,fun b H4 g4 _=>⟨b,rfl,?_⟩⟩
    have G4:=sw2.g.trans g4
    cases b with
    | false =>
     rw[if_pos rfl]
     exact⟨tl,pd,o,D,vt,uo,lls,pns,rows,rfl,G4 _ _ etl,hT.mono G4,l6,l40,g4 _ _ epd2,pok.1.ai,G4 _ _ eo,hR.mono G4,r9,r8,D31,(fun _ H5 g5=>⟨g4.trans g5,_,.inl rfl,rfl⟩),fun v i j H5 g5 hsv _ _=>⟨g4.trans g5,_,.inr ⟨.sum _,hsv,Bk (by decide) (by decide),True.intro⟩,rfl⟩⟩
    | true =>
     rw[if_neg (by decide)]
     refine⟨a,ns,_,rfl,G4.seq hS,hn,by lia,by lia,fun c c0 c1=>⟨c,rfl,by decide,?_⟩⟩
     split
     ·exact⟨a,tl,ns,at',vt,lls,rfl,G4.seq hS,hn,by lia,by lia,G4 _ _ etl,hT.mono G4,l1,l6,(fun ls hl=>(l40 ls hl).1),fun v us H5 g5 hsv hu=>⟨g4.trans g5,_,.inr ⟨.sum us,hsv,hu,True.intro⟩,rfl⟩⟩
     ·exact⟨g4,_,.inl rfl,rfl⟩
   rintro σ H4 ⟨v,g4,hv,rfl⟩
   lk
   refine fO (fun σ H'=>∃v,az H3 H'∧(v=.non∨mW rows.length D H' v)∧σ=[some (.ref a),some (.ref r),some (.ref tl),some (.ref o),some (.int D),some (.ref Lc),some (.ref Lp),some (.int at'),some (.ref pd),some v,v10,v11]) ?_ ?_
   ·lk
    split
    ·have G4:=sw2.g.trans g4
     refine⟨a,ns,_,rfl,G4.seq hS,hn,by lia,by lia,fun c c0 c1=>?_⟩
     exact⟨c,pd,o,D,uo,pns,rows,rfl,c0,g4 _ _ epd2,G4 _ _ eo,hR.mono G4,r8,D31,(fun H5 g5=>⟨g4.trans g5,_,.inl rfl,rfl⟩),fun v h d H5 g5 hsv hh hd _=>⟨g4.trans g5,_,.inr ⟨.part h d,hsv,True.intro,h,d,rfl,rfl,hh,hd⟩,rfl⟩⟩
    ·exact⟨g4,_,hv,rfl⟩
   clear hv
   rintro σ H5 ⟨v,g5,hv,rfl⟩
   lk
   refine fO (fun σ H'=>∃v,az H3 H'∧mW rows.length D H' v∧σ=[some (.ref a),some (.ref r),some (.ref tl),some (.ref o),some (.int D),some (.ref Lc),some (.ref Lp),some (.int at'),some (.ref pd),some v,v10,v11]) ?_ ?_
   ·lk
    split
    ·have G5:=sw2.g.trans g5
     exact⟨a,tl,ns,at',vt,lls,rfl,G5.seq hS,hn,by lia,by lia,G5 _ _ etl,hT.mono G5,l1,l6,(fun ls hl=>(l40 ls hl).1),fun v us H6 g6 hsv hu=>⟨g5.trans g6,_,⟨.sum us,hsv,hu,True.intro⟩,rfl⟩⟩
    ·rename_i nv
     rcases hv with z | z
     ·exact absurd z nv
     ·exact⟨g5,_,z,rfl⟩
   clear hv
   rintro σ H6 ⟨v,g6,⟨st,hsv,hus,hpo⟩,rfl⟩
   have sw6:=sw2.mono g6
   have epd6:=g6 _ _ epd2
   obtain⟨tv,rfl⟩:=hsv.rf
   refine ap fun U2 u2=>?_
   obtain⟨up6,p1,p2⟩:=sw6.p
   lk
   refine⟨.inl ⟨rfl,_,SqL.of p1⟩,_,p1,aE (by have:=Paired.length p2;lia),?_⟩
   have sw7:=sw6.setP p0 n2 (aU p2 hsv)
   have hsv7:=hsv.tmono (bc p1 (o:=.lst (up6++[.ref tv])))
   have epd7:upd H6 Lp (.lst (up6++[.ref tv])) pd=some (.dT pns):=by
    rw[au (fun y=>by rw[y,p1] at epd6;cases epd6)]
    exact epd6
   generalize upd H6 Lp (.lst (up6++[.ref tv]))=H7 at sw7 hsv7 epd7 ⊢
   have sus7:∀s∈sts++[st],ke s:=fun s hm=>by
    rcases List.mem_append.mp hm with z | z
    ·exact sus s z
    ·rw[List.mem_singleton.mp z];exact hus
   have hl7:(sts++[st]).length=sts.length+1:=by rw[yf];rfl
   rw[u2];clear u2
   lk
   cases st with
   | oth s=>exact hpo.elim
   | sum us0 =>
    obtain⟨t0,ut,uv0,e0,et,eu,hU⟩:=mV hsv7
    cases e0
    refine⟨_,SqT.of et,_,at0 _ _,rfl,?_⟩
    rw[if_neg k!,hN]
    exact⟨_,by rw[hl7];lia,cs',_,_,_,_,_,_,rfl,sw7,by rw[hl7];exact cok.drop,by lia,sus7,rfl⟩
   | part h0 d0 =>
    obtain⟨h,d,rfl,rfl,hh,hd⟩:=hpo
    obtain⟨t0,e0,et⟩:=kh hsv7
    cases e0
    obtain⟨row,hrow⟩:∃row,rows[h]? = some row:=⟨_,yb hh⟩
    have row9:=r9 row (yc hrow)
    obtain⟨tr,htr,etr⟩:=Rows.get (hR.mono sw7.g) hrow
    have rfr:∀H9,az H H9→∃tr',H9 tr'=some (.lst (row.map V.int))∧tr'=tr:=fun H9 g9=>by
     obtain⟨tr2,htr2,etr2⟩:=Rows.get (hR.mono g9) hrow
     rw[htr2] at htr
     cases htr
     exact⟨_,etr2,rfl⟩
    refine⟨_,SqT.of et,_,at0 _ _,rfl,?_⟩
    rw[if_pos rfl]
    refine⟨_,SqT.of et,_,rfl,_,_,rfl,SqL.of (sw7.g _ _ eo),_,bg htr,tr,rfl,_,SqL.of etr,?_⟩
    refine mr (xs:=row.map V.int) (fun i σ H'=>(SwH H Lc Lp (cs'++(row.reverse.take i).map fun v=>bC pns (k2 h d) (.int v)) (sts++[.part h d]) H'∧H' pd=some (.dT pns)∧H' tv=some (.tup [.str "part",.int h,.int d]))∧∃v10 v11,σ=[some (.ref a),some (.ref r),some (.ref tl),some (.ref o),some (.int D),some (.ref Lc),some (.ref Lp),some (.int at'),some (.ref pd),some (.ref tv),v10,v11]) ⟨⟨by rw[yla,yua,yy];exact sw7,epd7,et⟩,v10,v11,rfl⟩ (fun i σ H' _ hh=>by obtain⟨tr',e,rfl⟩:=rfr H' hh.1.1.g;exact SqL.of e) ?_ ?_
    ·rintro i v σ H' hx ⟨⟨sw,epd,et⟩,v10,v11,rfl⟩
     rw[← List.map_reverse] at hx
     obtain⟨zv,hz,rfl⟩:=cX hx
     have hi:=(List.getElem?_eq_some_iff.mp hz).1
     rw[yda] at hi
     lk
     refine⟨pns,epd,pok.1.hash r8 D31 _ _,fun p hp=>?_⟩
     have y1:=ah hp (.dT pns)
     refine⟨_,SqT.of (y1 _ _ et),_,rfl,_,SqT.of (y1 _ _ et),_,rfl,by decide,fun pk2 hpk2=>?_⟩
     have y2:=ah hpk2 (.tup [.int (h:Int),.int (d:Int)])
     have ep2:=y2 _ _ (ae (H:=H') (a:=p) (o:=.dT pns))
     refine⟨_,lS.t (k:=k2 h d) ep2 ae (aE (by lia)),?_⟩
     have gN:az H' (upd (upd (upd H' p (.dT pns)) pk2 (.tup [.int (h:Int),.int (d:Int)])) p (.dT (bC pns (k2 h d) (.int zv)))):=aJ hp (y1.trans y2) _
     have epN:=ae (H:=upd (upd H' p (.dT pns)) pk2 (.tup [.int (h:Int),.int (d:Int)])) (a:=p) (o:=.dT (bC pns (k2 h d) (.int zv)))
     generalize upd (upd (upd H' p (.dT pns)) pk2 (.tup [.int (h:Int),.int (d:Int)])) p (.dT (bC pns (k2 h d) (.int zv)))=H9 at gN epN ⊢
     have sw9:=sw.mono gN
     obtain⟨us9,eL9,hD9⟩:=sw9.c
     have hl9:=Paired.length hD9
     rw[yf,ya,yr,yda] at hl9
     have hcs:=cok.1
     rw[yf,yJ] at hcs
     refine⟨.inl ⟨rfl,_,SqL.of eL9⟩,us9,eL9,aE (by lia),?_,?_,?_⟩
     ·rw[aP hz,yg,← yHa]
      exact sw9.setC c0 n2.symm (aU hD9 ⟨p,rfl,epN,(cF.put pok.1 hh hd zv).plain⟩)
     ·rw[au npL]
      exact gN _ _ epd
     ·rw[au (fun y=>by have:=gN _ _ et;rw[y,eL9] at this;cases this)]
      exact gN _ _ et
    ·rintro σ H' ⟨⟨sw,epd,et⟩,v10,v11,rfl⟩
     lk
     rw[ya,show row.length=row.reverse.length from (yda ..).symm,yo] at sw
     rw[hN]
     exact⟨_,by rw[hl7];lia,_,_,_,_,_,_,_,rfl,sw,by rw[hl7];exact cok.kids hh hd (by rw[yda];lia),by lia,sus7,rfl⟩
  ·rw[if_neg (by lia)]
   exact fin0 _ ge
inductive zM_(K:PySem.W.Frag)(ζ:Cs)(vs:List V)(H:Hp)(Q:VK)(E:XK):Prop
 | mk (c:Int) (pa:Addr) (ts:List V) (_:vs=[.int c,.ref pa]) (_:H pa=some (.lst ts)) (_:0<ts.length) (_:Q (.int (1+c % (ts.length:Int))) H):zM_ K ζ vs H Q E
theorem De:ax ["_law_cell_here","_law_posts"] ["_law_cell_here","_law_posts"] (ao xE):=⟨rfl,rfl,rfl,k!,rfl,k!,k!⟩
theorem EV{ζ:Cs}{f:Addr}{fd:FuncData}(F:Fun K "_law_post" "_law_post" xE f fd)(T:Txt K mg ζ) :aT P w K mg base CX0 1 f fd ["_law_cell_here","_law_posts"] (zM_ K ζ):=by
 refine F.ok De (fun vs H Q E h=>?_) (fun cdv A outer s H vs Q E hr h=>?_)
 ·cases h;subst_vars;rfl
 ·obtain⟨c,pa,ts,rfl,ep,t0,q⟩:=h
  refine⟨_,(ak (aB (av aR ag (av bo (vd 0) (aF (aL (K:=K) rfl) (by rfl) T.len PySem.boot_len (aa (vd 1) af)))))),?_⟩
  lk
  exact⟨_,.inl (SqL.of ep),by omega,q⟩
inductive Bu(K:PySem.W.Frag)(ζ:Cs)(vs:List V)(H:Hp)(Q:VK)(E:XK):Prop
 | mk (r pa:Addr) (h:Nat) (us ts:List V) (rows:List (List Int)) (row:List Int) (ps:List Pst) (_:vs=[.ref r,.int h,.ref pa]) (_:H r=some (.lst us)) (_:Rows H us rows) (_:rows[h]? = some row) (_:row.length≤31) (_:(∀x∈row,0≤x∧x≤(ps.length:Int))) (_:H pa=some (.lst ts)) (_:bQ H ts ps) (_:(∀q∈ps,okP q)) (_:Q (.int (gU (at_ (row.map (nk ps))) row.length)) H):Bu K ζ vs H Q E
theorem zA_:ax ["_law_rota_here","_law_hand","_law_posts","_law_top","_law_now","_law_value"] ["_law_rota_here","_law_hand","_law_posts"] (ao xM):=⟨rfl,rfl,rfl,k!,rfl,k!,k!⟩
theorem DU{ζ:Cs}{f:Addr}{fd:FuncData}(F:Fun K "_law_run" "_law_run" xM f fd)(T:Txt K mg ζ) :aT P w K mg base CX0 1 f fd ["_law_rota_here","_law_hand","_law_posts"] (Bu K ζ):=by
 refine F.ok zA_ (fun vs H Q E h=>?_) (fun cdv A outer s H vs Q E hr h=>?_)
 ·cases h;subst_vars;rfl
 ·obtain⟨r,pa,h,us,ts,rows,row,ps,rfl,er,hR,hrow,r31,hv,ep,hP,okp,q⟩:=h
  refine⟨_,(aj (aD (i:=3) zA_.nd rfl (Or.inl rfl) ag)
  (aj (aD (i:=4) zA_.nd rfl (Or.inl rfl) ag)
  (aj (bi PassesOwn.never rfl (bf (aM bM (vd 0) (vd 1) (fun _ _=>rfl))) (am (i:=5) zA_.nd rfl (Or.inl rfl))
   (aj (aD (i:=4) zA_.nd rfl (Or.inl rfl) (av aR (vd 4) ag))
    (aj (bb (PW.pt (ie (aG bH (vd 5) ag (aH _)) (eC (aG bH (aM ba (aM bM (vd 2) (av b4 (vd 5) ag) (fun _ _=>rfl)) ag (fun _ _=>rfl)) ag (aH _))))) (ak (aD (i:=4) zA_.nd rfl (Or.inl rfl) ag)) aN)
    (ak (aD (i:=3) zA_.nd rfl (Or.inl rfl) (aF (cQ rfl) (by rfl) T.max PyProof.Rows.boot_max (aa (vd 3) (aa (vd 4) af))))))))
  (ak (aB (vd 3)))))),?_⟩
  refine ap fun U1 u1=>?_
  lk
  rw[u1];clear u1
  refine ap fun U1 u1=>?_
  lk
  rw[u1];clear u1
  refine ap fun U1 u1=>bv fun B1 b1=>?_
  lk
  obtain⟨tr,htr,etr⟩:=hR.get hrow
  obtain⟨bs,hbs⟩:∃bs,bs=row.map (nk ps):=⟨_,rfl⟩
  have hbl:bs.length=row.length:=by rw[hbs,ya]
  rw[← hbs] at q
  refine⟨_,SqL.of er,_,bg htr,_,rfl,⟨_,SqL.of etr⟩,aQ (xs:=row.map V.int) (fun i σ H'=>H'=H∧∃v5,σ=[some (.ref r),some (.int h),some (.ref pa),some (.int (gU (at_ bs) i:Nat)),some (.int (dQ (at_ bs) i:Nat)),v5]) ⟨rfl,none,rfl⟩ (fun i σ H' _ hh=>by rw[hh.1];exact SqL.of etr) ?_ ?_⟩
  ·rintro i x σ H' hx ⟨rfl,v5,rfl⟩
   obtain⟨y,hy,rfl⟩:=fk hx
   have hyv:=hv y (yc hy)
   have eb:at_ bs i=nk ps y:=by unfold at_;rw[hbs,yj,hy];rfl
   have e1:dQ (at_ bs) (i+1)=if nk ps y=true then dQ (at_ bs) i+1 else 0:=by rw[← eb];rfl
   have e2:gU (at_ bs) (i+1)=max (gU (at_ bs) i) (dQ (at_ bs) (i+1)):=rfl
   have emax:∀x y:Nat,(if (y:Int)>(x:Int) then (y:Int) else x)=((max x y:Nat):Int):=fun x y=>by
    split <;> lia
   rw[b1]
   lk
   by_cases hy0:y=0
   ·rw[if_pos hy0]
    rw[show nk ps y=false by rw[hy0];rfl,if_neg (by decide)] at e1
    rw[e2,e1]
    exact⟨by split <;> lia,rfl⟩
   ·rw[if_neg hy0]
    obtain⟨k,hk⟩:∃k:Nat,y=(k:Int)+1:=⟨(y-1).toNat,by lia⟩
    have hkl:k<ps.length:=by lia
    have hpk:ps[k]? = some ps[k]:=yb hkl
    obtain⟨tq,aq,hq⟩:=hP.get hpk
    have hn:nk ps y=decide (ps[k].2.2=1):=by
     unfold nk
     rw[show y.toNat=k+1 by lia]
     show decide ((ps[k]?.getD dN).2.2=1)=_
     rw[hpk]
     rfl
    have okk:=okp _ (yQ hkl)
    refine⟨_,SqL.of ep,_,by rw[hk,show(k:Int)+1-1=k by lia];exact bg aq,tq,rfl,_,SqT.of hq,.int ps[k].2.2,rfl,rfl,?_⟩
    by_cases z:ps[k].2.2=0
    ·rw[if_pos (by rw[z])]
     rw[hn,decide_eq_false (by lia),if_neg (by decide)] at e1
     rw[e2,e1]
     exact⟨by split <;> lia,rfl⟩
    ·rw[if_neg (fun w=>z (V.int.inj w))]
     have h1:ps[k].2.2=1:=by
      have:=okk.2.2
      lia
     rw[hn,decide_eq_true h1,if_pos rfl] at e1
     rw[e2,e1]
     exact⟨by split <;> lia,by lia⟩
  rintro σ H' ⟨rfl,v5,rfl⟩
  lk
  rw[u1];clear u1
  lk
  rw[ya]
  exact q
inductive y9(K:PySem.W.Frag)(ζ:Cs)(vs:List V)(H:Hp)(Q:VK)(E:XK):Prop
 | mk (a r pa:Addr) (ns:List Int) (at0:Int) (us ts:List V) (rows:List (List Int)) (ps:List Pst) (D:Nat) (_:vs=[.ref a,.int at0,.ref r,.ref pa]) (_:SqL K H a (ns.map V.int)) (_:ns.length≤63) (_:0≤at0) (_:at0≤1000) (_:H r=some (.lst us)) (_:Rows H us rows) (_:1≤rows.length) (_:rows.length≤8) (_:(∀row∈rows,row.length=D∧∀x∈row,0≤x∧x≤(ps.length:Int))) (_:1≤D) (_:D≤6) (_:H pa=some (.lst ts)) (_:bQ H ts ps) (_:1≤ps.length) (_:ps.length≤3) (_:(∀q∈ps,okP q)) (_:∀(t:Addr) (s:Sp4) H',az H H'→H' t=some (.tup [.int s.k,.int s.a,.int s.b,.int s.c])→gT D rows.length ps.length s→gR rows (bG D rows.length ps s)→Q (.ref t) H'):y9 K ζ vs H Q E
theorem zg_:ax ["_law_script","_law_at","_law_rota_here","_law_posts","_law_hands","_law_kind","_law_hand","_law_two","_law_slack","_law_row","_law_worked","_law_other","_law_long","_law_day","_law_post_here"] ["_law_script","_law_at","_law_rota_here","_law_posts"] (ao AV):=⟨rfl,rfl,rfl,k!,rfl,k!,k!⟩
theorem EQ{ζ:Cs}{f:Addr}{fd:FuncData}(F:Fun K "_law_met" "_law_met" AV f fd)(T:Txt K mg ζ)(zo_:Cal P w K mg base "_law_post" ["_law_cell_here","_law_posts"] 1 (zM_ K ζ))(za_:Cal P w K mg base "_law_cell" ["_law_script","_law_k"] 1 (zq_ K ζ))(zdp_:Cal P w K mg base "_law_run" ["_law_rota_here","_law_hand","_law_posts"] 1 (Bu K ζ)):aT P w K mg base CX0 2 f fd ["_law_script","_law_at","_law_rota_here","_law_posts"] (y9 K ζ):=by
 refine F.ok zg_ (fun vs H Q E h=>?_) (fun cdv A outer s H vs Q E hr h=>?_)
 ·cases h;subst_vars;rfl
 ·obtain⟨a,r,pa,ns,at0,us,ts,rows,ps,D,rfl,hS,hn,a0,a1,er,hR,r1,r8,hrow,D1,D6,ep,hP,p1,p3,okp,q⟩:=h
  refine⟨_,(aj (aD (i:=4) zg_.nd rfl (Or.inl rfl) (aF (aL (K:=K) rfl) (by rfl) T.len PySem.boot_len (@aa _ _ _ _ _ (vd 2) af (by rfl))))
  (aj (aD (i:=5) zg_.nd rfl (Or.inl rfl) (av bo (aw za_ (hr.mono (by decide)) rfl (@aa _ _ _ _ _ (vd 0) (@aa _ _ _ _ _ (vd 1) af (by rfl)) (by rfl))) ag))
  (aj (aD (i:=6) zg_.nd rfl (Or.inl rfl) (av bo (aw za_ (hr.mono (by decide)) rfl (@aa _ _ _ _ _ (vd 0) (@aa _ _ _ _ _ (av aR (vd 1) ag) af (by rfl)) (by rfl))) (vd 4)))
  (aj (aD (i:=7) zg_.nd rfl (Or.inr rfl) (av bo (aw za_ (hr.mono (by decide)) rfl (@aa _ _ _ _ _ (vd 0) (@aa _ _ _ _ _ (av aR (vd 1) ag) af (by rfl)) (by rfl))) (av dj ag ag)))
  (aj (aD (i:=8) zg_.nd rfl (Or.inl rfl) (aF (cQ rfl) (by rfl) T.max PyProof.Rows.boot_max (@aa _ _ _ _ _ ag (@aa _ _ _ _ _ (av b4 (av bo (aw za_ (hr.mono (by decide)) rfl (@aa _ _ _ _ _ (vd 0) (@aa _ _ _ _ _ (av aR (vd 1) ag) af (by rfl)) (by rfl))) ag) ag) af (by rfl)) (by rfl))))
  (aj (aD (i:=9) zg_.nd rfl (Or.inr rfl) (aM bM (vd 2) (vd 6) (fun _ _=>rfl)))
  (aj (aD (i:=10) zg_.nd rfl (Or.inl rfl) (aF (aL (K:=K) rfl) (by rfl) T.len PySem.boot_len (@aa _ _ _ _ _ (bj (own:=["_law_day"]) (fnames:=["_law_two","_law_row"]) (fr:=[7,9]) (N':=["_law_day","_law_two","_law_row"]) ⟨rfl,rfl,rfl,rfl,rfl,rfl,rfl⟩ rfl (aZ rfl T.range (@aa _ _ _ _ _ (aF (aL (K:=K) rfl) (by rfl) T.len PySem.boot_len (@aa _ _ _ _ _ (vd 9) af (by rfl))) af (by rfl))) (fun s0 H0 fp0 C0=>⟨(am (i:=0) (by show(["_law_day","_law_two","_law_row"]:List Str).Nodup;decide +kernel) rfl (Or.inl rfl)),(cf (PW.pt (gQ (aG eQ (aM (bY (K:=K) rfl) (vd 2) (vd 0) (fun _ _=>rfl)) ag (aH _)) (fb (aG bH (av gP (av rS (vd 1) (vd 0)) ag) ag (aH _)))))),(vd 0)⟩)) af (by rfl))))
  (aj (@bb _ _ _ _ _ _ _ _ (PW.pt (gQ (aG bH (vd 5) ag (aH _)) (fb (aG eQ (vd 4) ag (aH _))))) (aj (aD (i:=11) zg_.nd rfl (Or.inr rfl) (av bo (av aR (av aR (vd 6) ag) (av bo (vd 7) (av b4 (vd 4) ag))) (vd 4)))
   (@ak _ _ _ (@bb _ _ _ _ _ _ _ _ (aG (jt hr) (bj (own:=["_law_day"]) (fnames:=["_law_rota_here","_law_row","_law_other"]) (fr:=[2,9,11]) (N':=["_law_day","_law_rota_here","_law_row","_law_other"]) ⟨rfl,rfl,rfl,rfl,rfl,rfl,rfl⟩ rfl (aZ rfl T.range (@aa _ _ _ _ _ (aF (aL (K:=K) rfl) (by rfl) T.len PySem.boot_len (@aa _ _ _ _ _ (vd 9) af (by rfl))) af (by rfl))) (fun s0 H0 fp0 C0=>⟨(am (i:=0) (by show(["_law_day","_law_rota_here","_law_row","_law_other"]:List Str).Nodup;decide +kernel) rfl (Or.inl rfl)),(cf (PW.pt (gQ (aG eQ (aM (bY (K:=K) rfl) (vd 2) (vd 0) (fun _ _=>rfl)) ag (aH _)) (fb (aG bH (aM (bY (K:=K) rfl) (vd 2) (vd 0) (fun _ _=>rfl)) (aM (bY (K:=K) rfl) (aM (bY (K:=K) rfl) (vd 1) (vd 3) (fun _ _=>rfl)) (vd 0) (fun _ _=>rfl)) (aH _)))))),(vd 0)⟩)) (@aW _ _ _ _ af) (aH _)) (@ak _ _ _ (aB (@aK _ _ _ _ _ (@aa _ _ _ _ _ ag (@aa _ _ _ _ _ (vd 6) (@aa _ _ _ _ _ (vd 11) (@aa _ _ _ _ _ ag af (by rfl)) (by rfl)) (by rfl)) (by rfl))))) aN))) aN)
  (aj (@bb _ _ _ _ _ _ _ _ (aG bH (vd 5) ag (aH _)) (@ak _ _ _ (aB (@aK _ _ _ _ _ (@aa _ _ _ _ _ ag (@aa _ _ _ _ _ (vd 6) (@aa _ _ _ _ _ (vd 7) (@aa _ _ _ _ _ (av aR (vd 10) (vd 8)) af (by rfl)) (by rfl)) (by rfl)) (by rfl))))) aN)
  (aj (@bb _ _ _ _ _ _ _ _ (aG bH (vd 5) ag (aH _)) (@ak _ _ _ (aB (@aK _ _ _ _ _ (@aa _ _ _ _ _ ag (@aa _ _ _ _ _ (vd 6) (@aa _ _ _ _ _ (vd 7) (@aa _ _ _ _ _ (aF (cQ rfl) (by rfl) T.max PyProof.Rows.boot_max (@aa _ _ _ _ _ ag (@aa _ _ _ _ _ (av b4 (vd 10) (vd 8)) af (by rfl)) (by rfl))) af (by rfl)) (by rfl)) (by rfl)) (by rfl))))) aN)
  (aj (@bb _ _ _ _ _ _ _ _ (aG bH (vd 5) ag (aH _)) (@ak _ _ _ (aB (@aK _ _ _ _ _ (@aa _ _ _ _ _ ag (@aa _ _ _ _ _ (vd 6) (@aa _ _ _ _ _ (av gP (aF (hJ rfl) (by rfl) T.sum PyProof.Rows.boot_sum (@aa _ _ _ _ _ (bj (own:=["_law_day"]) (fnames:=["_law_row"]) (fr:=[9]) (N':=["_law_day","_law_row"]) ⟨rfl,rfl,rfl,rfl,rfl,rfl,rfl⟩ rfl (aZ rfl T.range (@aa _ _ _ _ _ ag af (by rfl))) (fun s0 H0 fp0 C0=>⟨(am (i:=0) (by show(["_law_day","_law_row"]:List Str).Nodup;decide +kernel) rfl (Or.inl rfl)),(cf (PW.pt (ie (aG o5 (vd 0) (aF (aL (K:=K) rfl) (by rfl) T.len PySem.boot_len (@aa _ _ _ _ _ (vd 1) af (by rfl))) (aH _)) (eC (aG bH (aM (bY (K:=K) rfl) (vd 1) (vd 0) (fun _ _=>rfl)) ag (aH _)))))),(av je ag (vd 0))⟩)) af (by rfl))) (vd 7)) (@aa _ _ _ _ _ ag af (by rfl)) (by rfl)) (by rfl)) (by rfl))))) aN)
  (aj (@bb _ _ _ _ _ _ _ _ (aG bH (vd 5) ag (aH _)) (@ak _ _ _ (aB (@aK _ _ _ _ _ (@aa _ _ _ _ _ ag (@aa _ _ _ _ _ (vd 6) (@aa _ _ _ _ _ ag (@aa _ _ _ _ _ (av aR (aw zdp_ (hr.mono (by decide)) rfl (@aa _ _ _ _ _ (vd 2) (@aa _ _ _ _ _ (vd 6) (@aa _ _ _ _ _ (vd 3) af (by rfl)) (by rfl)) (by rfl))) (vd 8)) af (by rfl)) (by rfl)) (by rfl)) (by rfl))))) aN)
  (aj (@bb _ _ _ _ _ _ _ _ (aG bH (vd 5) ag (aH _)) (aj (aD (i:=12) zg_.nd rfl (Or.inl rfl) (aF (hJ rfl) (by rfl) T.sum PyProof.Rows.boot_sum (@aa _ _ _ _ _ (bj (own:=["_law_value"]) (fnames:=["_law_posts"]) (fr:=[3]) (N':=["_law_value","_law_posts"]) ⟨rfl,rfl,rfl,rfl,rfl,rfl,rfl⟩ rfl (bf (vd 9)) (fun s0 H0 fp0 C0=>⟨(am (i:=0) (by show(["_law_value","_law_posts"]:List Str).Nodup;decide +kernel) rfl (Or.inl rfl)),(cf (aG eQ (vd 0) ag (aH _))),(aM (bX (K:=K) rfl) (aM (bY (K:=K) rfl) (vd 1) (av b4 (vd 0) ag) (fun _ _=>rfl)) ag (fun _ _=>rfl))⟩)) af (by rfl))))
   (@ak _ _ _ (aB (@aK _ _ _ _ _ (@aa _ _ _ _ _ ag (@aa _ _ _ _ _ (vd 6) (@aa _ _ _ _ _ (aF (cQ rfl) (by rfl) T.max PyProof.Rows.boot_max (@aa _ _ _ _ _ ag (@aa _ _ _ _ _ (av b4 (vd 12) (vd 8)) af (by rfl)) (by rfl))) (@aa _ _ _ _ _ (av aR (vd 12) (av bo (vd 7) (av aR ag (av cj (vd 8) (av dj ag ag))))) af (by rfl)) (by rfl)) (by rfl)) (by rfl)))))) aN)
  (aj (aD (i:=13) zg_.nd rfl (Or.inr rfl) (av bo (av fW (aw za_ (hr.mono (by decide)) rfl (@aa _ _ _ _ _ (vd 0) (@aa _ _ _ _ _ (av aR (vd 1) ag) af (by rfl)) (by rfl))) (vd 4)) (aF (aL (K:=K) rfl) (by rfl) T.len PySem.boot_len (@aa _ _ _ _ _ (vd 9) af (by rfl)))))
  (aj (aD (i:=14) zg_.nd rfl (Or.inr rfl) (aw zo_ (hr.mono (by decide)) rfl (@aa _ _ _ _ _ (vd 7) (@aa _ _ _ _ _ (vd 3) af (by rfl)) (by rfl))))
  (@ak _ _ _ (aB (@aK _ _ _ _ _ (@aa _ _ _ _ _ ag (@aa _ _ _ _ _ (vd 13) (@aa _ _ _ _ _ (vd 7) (@aa _ _ _ _ _ (aF (cQ rfl) (by rfl) T.max PyProof.Rows.boot_max (@aa _ _ _ _ _ ag (@aa _ _ _ _ _ (av b4 (aF (aL (K:=K) rfl) (by rfl) T.len PySem.boot_len (@aa _ _ _ _ _ (bj (own:=["_law_one"]) (fnames:=["_law_day","_law_post_here"]) (fr:=[13,14]) (N':=["_law_one","_law_day","_law_post_here"]) ⟨rfl,rfl,rfl,rfl,rfl,rfl,rfl⟩ rfl (bf (vd 2)) (fun s0 H0 fp0 C0=>⟨(am (i:=0) (by show(["_law_one","_law_day","_law_post_here"]:List Str).Nodup;decide +kernel) rfl (Or.inl rfl)),(cf (aG bH (aM (bY (K:=K) rfl) (vd 0) (vd 1) (fun _ _=>rfl)) (vd 2) (aH _))),(vd 0)⟩)) af (by rfl))) (vd 8)) af (by rfl)) (by rfl))) af (by rfl)) (by rfl)) (by rfl)) (by rfl)))))))))))))))))))),?_⟩
  refine ap fun U1 u1=>?_
  lk
  have hul:=hR.len
  refine⟨us,.inl (SqL.of er),?_⟩
  rw[u1];clear u1
  refine ap fun U1 u1=>?_
  lk
  refine⟨a,ns,_,rfl,hS,hn,by omega,by lia,fun kk kk0 kk1=>⟨_,rfl,by decide,?_⟩⟩
  obtain⟨k1,hk1,k17⟩:∃k1:Nat,kk % 7=k1∧k1<7:=⟨(kk % 7).toNat,by lia,by lia⟩
  rw[hk1]
  rw[u1];clear u1 kk0 kk1 hk1
  refine ap fun U1 u1=>?_
  lk
  refine⟨a,ns,_,rfl,hS,hn,by lia,by lia,fun o o0 o1=>⟨_,rfl,by lia,?_⟩⟩
  have y0:=yA o (b:=(us.length:Int)) (by lia)
  have y1:=yw o (b:=(us.length:Int)) (by lia)
  obtain⟨h,hh,hh2⟩:∃h:Nat,o % (us.length:Int)=h∧h<rows.length:=⟨(o % (us.length:Int)).toNat,by lia,by lia⟩
  rw[hh]
  clear y0 y1 hh
  rw[u1];clear u1
  refine ap fun U1 u1=>?_
  lk
  refine⟨a,ns,_,rfl,hS,hn,by lia,by lia,fun w w0 w1=>⟨⟨by decide,by decide,by decide⟩,w,rfl,by decide,?_⟩⟩
  have t0:=yA w (b:=2 ^ Int.toNat 31) (by decide)
  have t1:=yw w (b:=2 ^ Int.toNat 31) (by decide)
  obtain⟨two,htw,htw2⟩:∃two:Nat,w % 2 ^ Int.toNat 31=two∧two<2147483648:=⟨(w % 2 ^ Int.toNat 31).toNat,by lia,by have:(2:Int) ^ Int.toNat 31=2147483648:=(by decide);lia⟩
  rw[htw]
  clear t0 t1 htw w0 w1
  rw[u1];clear u1
  refine ap fun U1 u1=>?_
  lk
  refine⟨a,ns,_,rfl,hS,hn,by lia,by lia,fun sl sl0 sl1=>⟨_,rfl,by decide,?_⟩⟩
  obtain⟨sk,hsk,hsk2⟩:∃sk:Nat,(if sl % 4-1>0 then sl % 4-1 else 0)=(sk:Int)∧sk≤2:=⟨(if sl % 4-1>0 then sl % 4-1 else 0).toNat,by split <;> lia,by split <;> lia⟩
  rw[hsk]
  clear hsk sl0 sl1
  rw[u1];clear u1
  refine ap fun U1 u1=>?_
  lk
  obtain⟨row,hrw⟩:∃row,rows[h]? = some row:=⟨_,yb hh2⟩
  obtain⟨hrD,hrv⟩:=hrow row (yc hrw)
  obtain⟨tr,htr,etr⟩:=hR.get hrw
  refine⟨_,SqL.of er,_,bg htr,?_⟩
  rw[u1];clear u1
  refine ap fun U1 u1=>?_
  lk
  have r31:row.length≤31:=by lia
  refine⟨_,.inl (SqL.of etr),by lia,by rw[ya];lia,fun D1 hD1=>aV (fun i σ H'=>(∃v,σ=[v,some (.int two),some (.ref tr)])∧az H H'∧H' D1=some (.lst ((wkI row two i).map V.int))) ⟨⟨none,rfl⟩,ah hD1 _,ae⟩ ?_ ?_⟩
  ·rintro i σ H' hi ⟨⟨v,rfl⟩,g,e⟩
   rw[ya,ye] at hi
   rw[show(0+(i:Int))=i by lia]
   have hz:row[i]? = some row[i]:=yb hi
   have hs:=se row two i
   have hl':=oQ row two i
   rw[hz,yz] at hs
   lk
   refine⟨_,SqL.of (g _ _ etr),_,bg (by rw[yj,hz];rfl),_,rfl,?_⟩
   by_cases hc:0<row[i]
   ·rw[if_pos hc,ye]
    refine⟨by lia,?_⟩
    by_cases hb:two.testBit i=true
    ·rw[if_pos ((gk two i).mpr hb)]
     rw[decide_eq_true hc,hb,if_pos (show(true&&true)=true from rfl)] at hs
     refine⟨_,e,aE (by rw[ya];lia),aJ hD1 g _,?_⟩
     rw[ae,hs,yg]
     rfl
    ·rw[if_neg fun z=>hb ((gk two i).mp z)]
     rw[if_neg (by rw[yib] at hb;rw[hb,yEa];exact yl),yy] at hs
     rw[hs]
     exact⟨g,e⟩
   ·rw[if_neg hc]
    rw[decide_eq_false hc,if_neg (by rw[yka];exact yl),yy] at hs
    rw[hs]
    exact⟨g,e⟩
  rintro σ H1 ⟨_,g1,e1⟩
  lk
  rw[ya,ye] at e1
  refine⟨_,.inl (SqL.of e1),?_⟩
  rw[ya,oK]
  have hwk:=A5 row two
  have hP0:0<ps.length:=by lia
  rw[u1];clear u1
  refine ap fun U1 u1=>?_
  have rest:∀(v11:Option V) H2,az H H2→U1 { nx:=fun x H'=>Q V.non H',rt:=Q } [some (.ref a),some (.int at0),some (.ref r),some (.ref pa),some (.int us.length),some (.int k1),some (.int h),some (.int two),some (.int sk),some (.ref tr),some (.int (wkN row two)),v11,none,none,none] H2:=by
   intro v11 H2 g2
   rw[u1];clear u1
   refine ap fun U1 u1=>?_
   lk
   by_cases e1:k1=1
   ·rw[if_pos (by lia)]
    refine⟨by decide,fun p hp=>q p ⟨1,h,two,(wkN row two:Int)+sk⟩ _ (g2.trans (ah hp _)) ae (uk hP0 (by lia) (by lia) (by lia) (by lia) (by lia) (by lia) (by lia) (by lia) (fun z=>absurd rfl z)) ?_⟩
    rw[← hrD]
    exact vG hrw hrv (by rw[ye];lia)
   rw[if_neg (by lia)]
   rw[u1];clear u1
   refine ap fun U1 u1=>?_
   lk
   by_cases e2:k1=2
   ·rw[if_pos (by lia)]
    refine⟨by decide,fun p hp=>?_⟩
    obtain⟨cc,hcc,hc1⟩:∃cc:Int,(if (wkN row two:Int)-sk>0 then (wkN row two:Int)-sk else 0)=cc∧0≤cc∧cc≤(wkN row two:Int):=⟨_,rfl,by split <;> lia,by split <;> lia⟩
    rw[hcc]
    refine q p ⟨2,h,two,cc⟩ _ (g2.trans (ah hp _)) ae (uk hP0 (by lia) (by lia) (by lia) (by lia) (by lia) (by lia) (by lia) (by lia) (fun _=>hc1.1)) ?_
    rw[← hrD]
    exact tw hrw hrv (by rw[ye];exact hc1.2)
   rw[if_neg (by lia)]
   rw[u1];clear u1
   refine ap fun U1 u1=>?_
   lk
   by_cases e3:k1=3
   ·rw[if_pos (by lia)]
    refine⟨by decide,by decide,fun D2 hD2=>aV (fun i σ H'=>(az H2 H'∧∃zs:List Int,H' D2=some (.lst (zs.map V.int))∧zs.sum=(fz row i:Int)∧zs.length≤i)∧∃v0,σ=[v0,some (.ref tr)]) ⟨⟨ah hD2 _,[],ae,rfl,yd _⟩,none,rfl⟩ ?_ ?_⟩
    ·rintro i σ H' hi ⟨⟨g,zs,e,hzs,hzl⟩,v0,rfl⟩
     rw[show(0+(i:Int))=i by lia]
     have hi31:i<31:=hi
     have etr':=(g2.trans g) _ _ etr
     have hoff:fz row (i+1)=fz row i+if (decide (row.length≤i)||decide (row[i]?.getD 0=0))=true then 2 ^ i else 0:=rfl
     lk
     have hdo:(decide (row.length≤i)||decide (row[i]?.getD 0=0))=true→(zI 1 ↑i∧∃xs,H' D2=some (HO.lst xs)∧xs.length<sizeLine∧az H2 (upd H' D2 (HO.lst (xs++[V.int (1*2 ^ (↑i:Int).toNat)])))∧∃zs,upd H' D2 (HO.lst (xs++[V.int (1*2 ^ (↑i:Int).toNat)])) D2=some (HO.lst (List.map V.int zs))∧zs.sum = ↑(fz row (i+1))∧zs.length≤i+1):=fun hc=>by
      rw[if_pos hc] at hoff
      refine⟨⟨by lia,by lia,by decide⟩,_,e,aE (by rw[ya];lia),aJ hD2 g _,zs++[1*2 ^ (↑i:Int).toNat],by rw[ae,yg];rfl,?_,by rw[yf,yJ];lia⟩
      rw[yL,hzs,hoff,ye,Int.natCast_add,yob]
      show(fz row i:Int)+(1*2 ^ i+0)=(fz row i:Int)+2 ^ i
      lia
     refine⟨_,.inl (SqL.of etr'),?_⟩
     rw[ya]
     by_cases hc1:row.length≤i
     ·rw[if_pos (by lia)]
      exact hdo (by rw[decide_eq_true hc1];rfl)
     ·rw[if_neg (by lia)]
      have hz:row[i]? = some row[i]:=yb (by lia)
      refine⟨_,SqL.of etr',.int row[i],bg (by rw[yj,hz];rfl),rfl,?_⟩
      by_cases hc2:row[i]=0
      ·rw[if_pos (by rw[hc2])]
       exact hdo (by rw[hz,yz,decide_eq_true hc2,Bool.or_true])
      ·rw[if_neg (fun w=>hc2 (V.int.inj w))]
       rw[hz,yz,decide_eq_false hc1,decide_eq_false hc2,if_neg (by decide),Nat.add_zero] at hoff
       exact⟨g,zs,e,by rw[hzs,hoff];rfl,by lia⟩
    rintro σ H' ⟨⟨g,zs,e,hzs,hzl⟩,v0,rfl⟩
    lk
    refine⟨zs,SqL.of e,by decide,fun p hp=>?_⟩
    rw[hzs,PyProof.Rows.bitAnd_pp (yY _) (yY _),ye,ye]
    have hand:fz row 31 &&& two≤two:=Nat.and_le_right
    refine q p ⟨3,h,((fz row 31 &&& two:Nat):Int),0⟩ _ (g2.trans (g.trans (ah hp _))) ae (uk hP0 (by lia) (by lia) (by lia) (by lia) (by lia) (by lia) (by lia) (by lia) (fun _=>by lia)) ?_
    rw[← hrD]
    refine tU hrw hrv fun i hi hb=>?_
    rw[ye,yCa,yI] at hb
    rcases lj row 31 i hb.1 with z | z
    ·lia
    ·exact z
   rw[if_neg (by lia)]
   rw[u1];clear u1
   refine ap fun U1 u1=>?_
   lk
   by_cases e4:k1=4
   ·rw[if_pos (by lia)]
    have hln:=lh (at_ (row.map (nk ps))) row.length
    refine⟨r,pa,h,us,ts,rows,row,ps,rfl,g2 _ _ er,hR.mono g2,hrw,r31,hrv,g2 _ _ ep,hP.mono g2,okp,_,rfl,by decide,fun p hp=>?_⟩
    refine q p ⟨4,h,0,(gU (at_ (row.map (nk ps))) row.length:Int)+sk⟩ _ (g2.trans (ah hp _)) ae (uk hP0 (by lia) (by lia) (by lia) (by lia) (by decide) (by decide) (by lia) (by lia) (fun _=>by lia)) ?_
    rw[← hrD]
    exact ug hrw hrv (by lia)
   rw[if_neg (by lia)]
   rw[u1];clear u1
   refine ap fun U1 u1=>?_
   lk
   by_cases e5:k1=5
   ·rw[if_pos (by lia)]
    refine⟨⟨_,SqL.of (g2 _ _ etr)⟩,fun D2 hD2=>aQ (xs:=row.map V.int) (fun i σ H'=>(∃v,σ=[v,some (.ref pa)])∧az H2 H'∧∃zs:List Int,H' D2=some (.lst (zs.map V.int))∧zs.sum=hrN ps (row.take i)∧zs.length≤i) ⟨⟨none,rfl⟩,ah hD2 _,[],ae,rfl,yd _⟩ (fun i σ H' _ hh=>SqL.of ((g2.trans hh.2.1) _ _ etr)) ?_ ?_⟩
    ·rintro i v σ H' hx ⟨⟨v0,rfl⟩,g,zs,e,hzs,hzl⟩
     obtain⟨y,hy,rfl⟩:=fk hx
     have hi:i<row.length:=(List.getElem?_eq_some_iff.mp hy).1
     have hyv:=hrv y (yc hy)
     have G:=g2.trans g
     lk
     have hst:=qN ps (row.take i) y
     rw[← aP hy] at hst
     split
     ·rename_i hc
      obtain⟨k,hk⟩:∃k:Nat,y=(k:Int)+1:=⟨(y-1).toNat,by lia⟩
      have hkl:k<ps.length:=by lia
      have hpk:ps[k]? = some ps[k]:=yb hkl
      obtain⟨tq,aq,hq⟩:=hP.get hpk
      refine⟨_,SqL.of (G _ _ ep),_,by rw[hk,show(k:Int)+1-1=k by lia];exact bg aq,tq,rfl,_,SqT.of (G _ _ hq),.int ps[k].2.1,rfl,_,e,aE (by rw[ya];lia),aJ hD2 g _,zs++[ps[k].2.1],?_,?_,?_⟩
      ·rw[ae,yg]
       rfl
      ·rw[yL,hzs,hst]
       have:hrV ps y=ps[k].2.1:=by
        unfold hrV
        rw[show y.toNat=k+1 by lia]
        show(ps[k]?.getD dN).2.1=_
        rw[hpk]
        rfl
       rw[this]
       show _+(ps[k].2.1+0)=_
       lia
      ·rw[yf]
       exact yha hzl
     ·rename_i hc
      have hy0:y=0:=by lia
      rw[hy0,lE,yBb] at hst
      exact⟨g,zs,e,by rw[hzs,hst],by lia⟩
    rintro σ H' ⟨_,g,zs,e,hzs,_⟩
    lk
    rw[ya,yo] at hzs
    obtain⟨hb0,hb1⟩:=wy okp row
    have hk6:(1:Int)+sk*10 ^ Int.toNat 6≤2000001∧0<(1:Int)+sk*10 ^ Int.toNat 6:=by
     rw[show(10:Int) ^ Int.toNat 6=1000000 by decide]
     lia
    refine⟨zs,SqL.of e,⟨by decide,by decide,by decide⟩,.inl ⟨by lia,by lia⟩,hk6.2,by decide,fun p hp=>?_⟩
    rw[hzs]
    obtain⟨cc,hcc,hc1⟩:∃cc:Int,(if hrN ps row-(sk:Int)>0 then hrN ps row-(sk:Int) else 0)=cc∧0≤cc∧cc≤hrN ps row:=⟨_,rfl,by split <;> lia,by split <;> lia⟩
    rw[hcc]
    have m0:=yA (two:Int) (b:=1+sk*10 ^ Int.toNat 6) (by lia)
    have m1:=yw (two:Int) hk6.2
    refine q p ⟨5,h,cc,hrN ps row+two % (1+sk*10 ^ Int.toNat 6)⟩ _ (g2.trans (g.trans (ah hp _))) ae (rs5 hP0 (by lia) (by lia) hc1.1 (by lia) (by lia) (by lia)) ?_
    rw[← hrD]
    exact tm hrw hrv hc1.2 (by lia)
   rw[if_neg (by lia)]
   rw[u1];clear u1
   refine ap fun U1 u1=>?_
   lk
   refine⟨a,ns,_,rfl,g2.seq hS,hn,by lia,by lia,fun dd dd0 dd1=>⟨dd,rfl,⟨by lia,by lia⟩,_,.inl (SqL.of (g2 _ _ etr)),by rw[ya];lia,?_⟩⟩
   rw[ya]
   have y0:=yA (dd / (us.length:Int)) (b:=(row.length:Int)) (by lia)
   have y1:=yw (dd / (us.length:Int)) (b:=(row.length:Int)) (by lia)
   obtain⟨day,hday,hday2⟩:∃day:Nat,dd / (us.length:Int) % (row.length:Int)=day∧day<row.length:=⟨(dd / (us.length:Int) % (row.length:Int)).toNat,by lia,by lia⟩
   rw[hday]
   clear y0 y1 hday
   rw[u1];clear u1
   refine ap fun U1 u1=>?_
   lk
   have hpl:=hP.len
   refine⟨two,pa,ts,rfl,g2 _ _ ep,by lia,?_⟩
   rw[u1];clear u1
   lk
   rw[hpl]
   refine⟨⟨_,SqL.of (g2 _ _ er)⟩,fun D2 hD2=>aQ (xs:=us) (fun i σ H'=>(∃v,σ=[v,some (.int day),some (.int (1+(two:Int) % (ps.length:Int)))])∧az H2 H'∧∃zs:List V,H' D2=some (.lst zs)∧zs.length=((rows.take i).filter fun row=>decide (row[day]?.getD 0=1+(two:Int) % (ps.length:Int))).length) ⟨⟨none,rfl⟩,ah hD2 _,[],ae,rfl⟩ (fun i σ H' _ hh=>SqL.of ((g2.trans hh.2.1) _ _ er)) ?_ ?_⟩
   ·rintro i v σ H' hx ⟨⟨v0,rfl⟩,g,zs,e,hzl⟩
    obtain⟨rw2,hrw2,t2,rfl,et2⟩:=Rows.at' hR hx
    have hl2:=(hrow rw2 (yc hrw2)).1
    have hi:=(List.getElem?_eq_some_iff.mp hrw2).1
    have hd2:rw2[day]? = some (rw2[day]'(by lia)):=yb (by lia)
    have hfl:((rows.take i).filter fun row=>decide (row[day]?.getD 0=1+(two:Int) % (ps.length:Int))).length≤8:=yu (yK _ _) (by rw[yr];lia)
    lk
    refine⟨_,SqL.of ((g2.trans g) _ _ et2),_,bg (by rw[yj,hd2];rfl),rfl,?_⟩
    rw[aP hrw2,yM,yf,← hzl]
    by_cases hc:rw2[day]'(by lia)=1+(two:Int) % (ps.length:Int)
    ·rw[if_pos (by rw[hc]),yT (by rw[hd2,yz];exact decide_eq_true hc)]
     exact⟨_,e,aE (by lia),aJ hD2 g _,zs++[.ref t2],ae,by rw[yf];rfl⟩
    ·rw[if_neg (fun y=>hc (V.int.inj y)),yS (by rw[hd2,yz,decide_eq_false hc];decide)]
     exact⟨g,zs,e,rfl⟩
   rintro σ H' ⟨_,g,zs,e,hzl⟩
   lk
   rw[hul,yo] at hzl
   have hzl:zs.length=kE rows day (1+(two:Int) % (ps.length:Int)):=hzl
   have hz8:kE rows day (1+(two:Int) % (ps.length:Int))≤8:=yu (yK _ _) r8
   obtain⟨cc,hcc,hc1⟩:∃cc:Int,(if (zs.length:Int)-(sk:Int)>0 then (zs.length:Int)-(sk:Int) else 0)=cc∧0≤cc∧cc≤(zs.length:Int):=⟨_,rfl,by split <;> lia,by split <;> lia⟩
   refine⟨zs,.inl (SqL.of e),by decide,fun p hp=>?_⟩
   rw[hcc]
   refine q p ⟨0,day,two,cc⟩ _ (g2.trans (g.trans (ah hp _))) ae (rs0 hP0 (by lia) (by lia) hc1.1 (by lia)) ?_
   exact vk (by lia)
  lk
  by_cases k6:k1=6
  ·rw[if_pos (by lia)]
   by_cases l1:1<us.length
   ·rw[if_pos (by lia)]
    have etr1:=g1 _ _ etr
    obtain⟨w1,w2,w3⟩:=nR (h:=(h:Int)) (t:=(two:Int) % ((us.length:Int)-1)) (n:=(us.length:Int)) (by lia) (by lia) (yA _ (by lia)) (yw _ (by lia))
    obtain⟨oo,hoo⟩:∃oo:Nat,((h:Int)+1+two % ((us.length:Int)-1)) % (us.length:Int)=oo:=⟨(((h:Int)+1+two % ((us.length:Int)-1)) % (us.length:Int)).toNat,by omega⟩
    rw[hoo] at w1 w2 w3 ⊢
    obtain⟨row2,hrw2⟩:∃row2,rows[oo]? = some row2:=⟨_,yb (by lia)⟩
    obtain⟨hrD2,_⟩:=hrow row2 (yc hrw2)
    obtain⟨tr2,htr2,etr2⟩:=hR.get hrw2
    refine⟨by lia,by lia,_,.inl (SqL.of etr1),by lia,by rw[ya];lia,fun D2 hD2=>aV (fun i σ H'=>(az H1 H'∧∃zs:List V,H' D2=some (.lst zs)∧zs.length≤i∧(zs=[]→∀j,j<i→¬(0<val rows h j∧val rows h j=val rows oo j)))∧∃v0,σ=[v0,some (.ref r),some (.ref tr),some (.int oo)]) ⟨⟨ah hD2 _,[],ae,yd _,fun _ j z=>absurd z (yea _)⟩,none,rfl⟩ ?_ ?_⟩
    ·rintro i σ H' hi ⟨⟨g,zs,e,hzl,hzn⟩,v0,rfl⟩
     rw[ya,ye] at hi
     rw[show(0+(i:Int))=i by lia]
     have G:=g1.trans g
     have hz:row[i]? = some row[i]:=yb hi
     have hz2:row2[i]? = some (row2[i]'(by lia)):=yb (by lia)
     have ev:val rows h i=row[i]:=dH hrw hi
     have ev2:val rows oo i=row2[i]'(by lia):=dH hrw2 (by lia)
     lk
     have nxt:∀ys:List V,(ys=[]→zs=[]∧¬(0<val rows h i∧val rows h i=val rows oo i))→(ys=[]→∀j,j<i+1→¬(0<val rows h j∧val rows h j=val rows oo j)):=fun ys hy e0 j hj=>by
      obtain⟨y1,y2⟩:=hy e0
      by_cases z:j<i
      ·exact hzn y1 j z
      ·rw[show j=i by lia]
       exact y2
     refine⟨_,SqL.of (G _ _ etr),_,bg (by rw[yj,hz];rfl),_,rfl,?_⟩
     by_cases hc:0<row[i]
     ·rw[if_pos hc]
      refine⟨_,SqL.of (G _ _ etr),_,bg (by rw[yj,hz];rfl),_,SqL.of (G _ _ er),_,bg htr2,_,rfl,_,SqL.of (G _ _ etr2),_,bg (by rw[yj,hz2];rfl),rfl,?_⟩
      by_cases hc2:row[i]=row2[i]'(by lia)
      ·rw[if_pos (by rw[hc2])]
       exact⟨_,e,aE (by lia),aJ hD2 g _,zs++[.int i],ae,by rw[yf,yJ];lia,nxt _ (fun y=>by simp at y)⟩
      ·rw[if_neg (fun y=>hc2 (V.int.inj y))]
       exact⟨g,zs,e,by lia,nxt _ fun y=>⟨y,fun w=>hc2 (by rw[← ev,← ev2];exact w.2)⟩⟩
     ·rw[if_neg hc]
      exact⟨g,zs,e,by lia,nxt _ fun y=>⟨y,fun w=>hc (by rw[← ev];exact w.1)⟩⟩
    rintro σ H' ⟨⟨g,zs,e,hzl,hzn⟩,v0,rfl⟩
    lk
    refine⟨yq _,fun e2 he2=>?_⟩
    have ge:=ah he2 (.lst [])
    refine⟨e2,rfl,SqL.of ae,.inr ⟨D2,zs,rfl,SqL.of (ge _ _ e),_,rfl,?_⟩⟩
    rw[ya,ye] at hzn
    by_cases z:zs=[]
    ·rw[if_pos (by simp[z])]
     refine⟨by decide,fun p hp=>q p ⟨6,h,oo,0⟩ _ (g1.trans (g.trans (ge.trans (ah hp _)))) ae (rs6 hP0 (by lia) (by lia) (by omega) (by lia) (by omega)) ?_⟩
     rw[← hrD]
     exact tR (hzn z)
    ·rw[if_neg (by simp[z])]
     exact rest _ _ (g1.trans (g.trans ge))
   ·rw[if_neg (by lia)]
    exact rest none H1 g1
  ·rw[if_neg (by lia)]
   exact rest none H1 g1
inductive wT(K:PySem.W.Frag)(ζ:Cs)(vs:List V)(H:Hp)(Q:VK)(E:XK):Prop
 | mk (h sg:Int) (da pa:Addr) (ds:List Int) (ts:List V) (_:vs=[.int h,.ref da,.ref pa,.int sg]) (_:H da=some (.lst (ds.map V.int))) (_:H pa=some (.lst ts)) (_:ds.length≤31) (_:ts.length≤6) (_:∀r us H',az H H'→H r=none→H' r=some (.lst us)→cI H' us (spr h ds (bh 1 ts.length) sg)→Q (.ref r) H'):wT K ζ vs H Q E
theorem uW:ax ["_law_hand","_law_days","_law_posts","_law_sign","_law_parts","_law_day","_law_k"] ["_law_hand","_law_days","_law_posts","_law_sign"] (ao xS):=⟨rfl,rfl,rfl,k!,rfl,k!,k!⟩
theorem DB{ζ:Cs}{f:Addr}{fd:FuncData}(F:Fun K "_law_work" "_law_work" xS f fd)(T:Txt K mg ζ) :aT P w K mg base CX0 1 f fd ["_law_hand","_law_days","_law_posts","_law_sign"] (wT K ζ):=by
 refine F.ok uW (fun vs H Q E h=>?_) (fun cdv A outer s H vs Q E hr h=>?_)
 ·cases h;subst_vars;rfl
 ·obtain⟨h,sg,da,pa,ds,ts,rfl,ed,ep,d31,t6,q⟩:=h
  refine⟨_,(aj (aD (i:=4) uW.nd rfl (Or.inl rfl) (aW af))
  (aj (bi PassesOwn.never rfl (bf (vd 1)) (am (i:=5) uW.nd rfl (Or.inl rfl))
   (ak (bi PassesOwn.never rfl (aZ rfl T.range (aa (aF (aL (K:=K) rfl) (by rfl) T.len PySem.boot_len (aa (vd 2) af)) af)) (am (i:=6) uW.nd rfl (Or.inl rfl))
     (ak (bJ (cH PySem.F.plainAttrs_list PySem.F.slot_list_append PySem.F.type_list_append bI (vd 4) (aa (aK (aa (vd 0) (aa (vd 5) (aa (av aR (vd 6) ag) (aa (vd 3) af))))) af)))))))
  (ak (aB (vd 4))))),?_⟩
  refine ap fun U1 u1=>?_
  lk
  refine⟨yq _,fun p hp=>?_⟩
  rw[u1];clear u1
  refine ap fun U1 u1=>bv fun B1 b1=>?_
  lk
  refine⟨⟨_,SqL.of ((ah hp _) _ _ ed)⟩,aQ (xs:=ds.map V.int) (fun i σ H'=>fw H p (spr h (ds.take i) (bh 1 ts.length) sg) H'∧∃v5 v6,σ=[some (.int h),some (.ref da),some (.ref pa),some (.int sg),some (.ref p),v5,v6]) ⟨fw.start hp,none,none,rfl⟩ (fun i σ H' _ hh=>SqL.of (hh.1.same _ _ ed)) ?_ ?_⟩
  ·rintro i v σ H' hx ⟨pI,v5,v6,rfl⟩
   obtain⟨x,hx1,rfl⟩:=cX hx
   have hi:=(List.getElem?_eq_some_iff.mp hx1).1
   have hlen:(spr h (ds.take i) (bh 1 ts.length) sg).length≤31*6:=by
    rw[b6,yr,show(bh 1 ts.length).length=ts.length by unfold bh;rw[ya,yx]]
    exact yba (by lia) t6
   rw[b1]
   refine bv fun B2 b2=>?_
   lk
   refine⟨_,.inl (SqL.of (pI.same _ _ ep)),by lia,by lia,aV (fun j σ H2=>fw H p (spr h (ds.take i) (bh 1 ts.length) sg++(bh 1 j).map fun q=>⟨h,x,q,sg⟩) H2∧∃v6,σ=[some (.int h),some (.ref da),some (.ref pa),some (.int sg),some (.ref p),some (.int x),v6]) ⟨?_,v6,rfl⟩ ?_ ?_⟩
   ·rw[show((bh 1 0).map fun q=>(⟨h,x,q,sg⟩:Prt))=[] from rfl,yy]
    exact pI
   ·rintro j σ H2 hj ⟨pJ,v6,rfl⟩
    rw[show(0+(j:Int))=j by lia]
    obtain⟨u0,_,e0,_⟩:=pJ.ex
    rw[b2]
    lk
    refine⟨.inl ⟨rfl,_,SqL.of e0⟩,by decide,fun t ht=>?_⟩
    rw[cR,yg,← yHa,show((j:Int)+1)=1+(j:Int) by lia]
    exact pJ.step hp (by rw[yf,ya,upL];lia) ht
   ·rintro σ H2 ⟨pJ,v6,rfl⟩
    rw[ye] at pJ
    rw[aP hx1,jq]
    exact⟨pJ,_,_,rfl⟩
  rintro σ H' ⟨pI,v5,v6,rfl⟩
  lk
  rw[ya,yo] at pI
  rw[u1];clear u1
  lk
  obtain⟨us,g,e,hP⟩:=pI.ex
  exact q p us H' g hp e hP
inductive Bw(K:PySem.W.Frag)(ζ:Cs)(vs:List V)(H:Hp)(Q:VK)(E:XK):Prop
 | mk (t pa:Addr) (d:Int) (s:Sp4) (n:Nat) (ts:List V) (ps:List Pst) (_:vs=[.ref t,.int d,.ref pa]) (_:H t=some (.tup [.int (s.k:Nat),.int s.a,.int s.b,.int s.c])) (_:H pa=some (.lst ts)) (_:bQ H ts ps) (_:1≤d) (_:d≤31) (_:ps.length≤3) (_:1≤s.k) (_:s.k≤5) (_:gT d n ps.length s) (_:∀r us H',az H H'→H r=none→H' r=some (.lst us)→j2 H H' us (dn d.toNat n ps s)→Q (.ref r) H'):Bw K ζ vs H Q E
theorem ze_:ax ["_law_spec","_law_days","_law_posts","_law_kind","_law_one","_law_two","_law_three","_law_some","_law_nights","_law_found","_law_day","_law_spots","_law_long"] ["_law_spec","_law_days","_law_posts"] (ao zn):=⟨rfl,rfl,rfl,k!,rfl,k!,k!⟩
theorem D7{ζ:Cs}{f:Addr}{fd:FuncData}(F:Fun K "_law_single" "_law_single" zn f fd)(T:Txt K mg ζ)(zB_:Cal P w K mg base "_law_work" ["_law_hand","_law_days","_law_posts","_law_sign"] 1 (wT K ζ)):aT P w K mg base CX0 2 f fd ["_law_spec","_law_days","_law_posts"] (Bw K ζ):=by
 refine F.ok ze_ (fun vs H Q E h=>?_) (fun cdv A outer s H vs Q E hr h=>?_)
 ·cases h;subst_vars;rfl
 ·obtain⟨t,pa,d,s,n,ts,ps,rfl,et,ep,hP,d1,d2,p3,k1,k5,ok,q⟩:=h
  refine⟨_,(aj (i8 (vd 0) (bR (n:=4) rfl (aA (am (i:=3) ze_.nd rfl (Or.inl rfl)) (aA (am (i:=4) ze_.nd rfl (Or.inr rfl)) (aA (am (i:=5) ze_.nd rfl (Or.inr rfl)) (aA (am (i:=6) ze_.nd rfl (Or.inr rfl)) bt))))))
  (aj (c7 (i:=7) ze_.nd rfl rfl (own:=["_law_day"]) (fnames:=["_law_two"]) (fr:=[5]) (N':=["_law_day","_law_two"]) ⟨rfl,rfl,rfl,rfl,rfl,rfl,rfl⟩ rfl (aZ rfl T.range (aa (vd 1) af)) (fun s0 H0 fp0 C0=>⟨(am (i:=0) (by show(["_law_day","_law_two"]:List Str).Nodup;decide +kernel) rfl (Or.inl rfl)),(cf (aG bH (av gP (av rS (vd 1) (vd 0)) ag) ag (aH _))),(vd 0)⟩))
  (aj (bb (aG bH (vd 3) ag (aH _)) (ak (aB (aW (aa (aK (aa (aw zB_ (hr.mono (by decide)) rfl (aa (vd 4) (aa (vd 7) (aa (vd 2) (aa (cG b7 ag) af))))) (aa (av b4 ag (vd 6)) af))) af)))) aN)
  (aj (bb (aG bH (vd 3) ag (aH _)) (ak (aB (aW (aa (aK (aa (aw zB_ (hr.mono (by decide)) rfl (aa (vd 4) (aa (vd 7) (aa (vd 2) (aa ag af))))) (aa (vd 6) af))) af)))) aN)
  (aj (bb (aG bH (vd 3) ag (aH _)) (ak (aB (bj (own:=["_law_day"]) (fnames:=["_law_posts","_law_one"]) (fr:=[2,4]) (N':=["_law_day","_law_posts","_law_one"]) ⟨rfl,rfl,rfl,rfl,rfl,rfl,rfl⟩ rfl (bf (vd 7)) (fun s0 H0 fp0 C0=>⟨(am (i:=0) (by show(["_law_day","_law_posts","_law_one"]:List Str).Nodup;decide +kernel) rfl (Or.inl rfl)),bB,(aK (aa (aw zB_ (hr.mono (by decide)) rfl (aa (vd 2) (aa (aW (aa (vd 0) af)) (aa (vd 1) (aa (cG b7 ag) af))))) (aa ag af)))⟩)))) aN)
  (aj (bb (aG bH (vd 3) ag (aH _)) (aj (c7 (i:=8) ze_.nd rfl rfl (own:=["_law_part_here"]) (fnames:=["_law_posts"]) (fr:=[2]) (N':=["_law_part_here","_law_posts"]) ⟨rfl,rfl,rfl,rfl,rfl,rfl,rfl⟩ rfl (bf (aw zB_ (hr.mono (by decide)) rfl (aa (vd 4) (aa (aY (c9 rfl) (by rfl) T.list PyProof.Rows.boot_list (aa (aY cW (by rfl) T.range PyProof.Rows.boot_range (aa (vd 1) af)) af)) (aa (vd 2) (aa (cG b7 ag) af)))))) (fun s0 H0 fp0 C0=>⟨(am (i:=0) (by show(["_law_part_here","_law_posts"]:List Str).Nodup;decide +kernel) rfl (Or.inl rfl)),(cf (aG bH (aM (bX (K:=K) rfl) (aM (bY (K:=K) rfl) (vd 1) (av b4 (aM (bX (K:=K) rfl) (vd 0) ag (fun _ _=>rfl)) ag) (fun _ _=>rfl)) ag (fun _ _=>rfl)) ag (aH _))),(vd 0)⟩))
   (aj (aD (i:=9) ze_.nd rfl (Or.inl rfl) (aW af))
   (aj (bi PassesOwn.never rfl (aZ rfl T.range (aa (av b4 (vd 1) (vd 6)) af)) (am (i:=10) ze_.nd rfl (Or.inr rfl))
    (ak (bJ (cH PySem.F.plainAttrs_list PySem.F.slot_list_append PySem.F.type_list_append bI (vd 9) (aa (aK (aa (bj (own:=["_law_part_here"]) (fnames:=["_law_three","_law_day"]) (fr:=[6,10]) (N':=["_law_part_here","_law_three","_law_day"]) ⟨rfl,rfl,rfl,rfl,rfl,rfl,rfl⟩ rfl (bf (vd 8)) (fun s0 H0 fp0 C0=>⟨(am (i:=0) (by show(["_law_part_here","_law_three","_law_day"]:List Str).Nodup;decide +kernel) rfl (Or.inl rfl)),(cf (iX b9 b9 (vd 2) (aM (bX (K:=K) rfl) (vd 0) ag (fun _ _=>rfl)) (av aR (vd 2) (vd 1)))),(vd 0)⟩)) (aa (av b4 ag (vd 6)) af))) af)))))
   (ak (aB (vd 9)))))) aN)
  (aj (aD (i:=11) ze_.nd rfl (Or.inl rfl) (aw zB_ (hr.mono (by decide)) rfl (aa (vd 4) (aa (aY (c9 rfl) (by rfl) T.list PyProof.Rows.boot_list (aa (aY cW (by rfl) T.range PyProof.Rows.boot_range (aa (vd 1) af)) af)) (aa (vd 2) (aa ag af))))))
  (aj (c7 (i:=12) ze_.nd rfl rfl (own:=["_law_part_here"]) (fnames:=["_law_posts"]) (fr:=[2]) (N':=["_law_part_here","_law_posts"]) ⟨rfl,rfl,rfl,rfl,rfl,rfl,rfl⟩ rfl (bf (vd 11)) (fun s0 H0 fp0 C0=>⟨(am (i:=0) (by show(["_law_part_here","_law_posts"]:List Str).Nodup;decide +kernel) rfl (Or.inl rfl)),bB,(aK (aa (aM (bX (K:=K) rfl) (vd 0) ag (fun _ _=>rfl)) (aa (aM (bX (K:=K) rfl) (vd 0) ag (fun _ _=>rfl)) (aa (aM (bX (K:=K) rfl) (vd 0) ag (fun _ _=>rfl)) (aa (aM (bX (K:=K) rfl) (aM (bY (K:=K) rfl) (vd 1) (av b4 (aM (bX (K:=K) rfl) (vd 0) ag (fun _ _=>rfl)) ag) (fun _ _=>rfl)) ag (fun _ _=>rfl)) af)))))⟩))
  (ak (aB (aW (aa (aK (aa (vd 12) (aa (vd 5) af))) (aa (aK (aa (bj (own:=["_law_part_here"]) (fnames:=[]) (fr:=[]) (N':=["_law_part_here"]) ⟨rfl,rfl,rfl,rfl,rfl,rfl,rfl⟩ rfl (bf (vd 12)) (fun s0 H0 fp0 C0=>⟨(am (i:=0) (by show(["_law_part_here"]:List Str).Nodup;decide +kernel) rfl (Or.inl rfl)),bB,(aK (aa (aM (bX (K:=K) rfl) (vd 0) ag (fun _ _=>rfl)) (aa (aM (bX (K:=K) rfl) (vd 0) ag (fun _ _=>rfl)) (aa (aM (bX (K:=K) rfl) (vd 0) ag (fun _ _=>rfl)) (aa (av b4 ag (aM (bX (K:=K) rfl) (vd 0) ag (fun _ _=>rfl))) af)))))⟩)) (aa (av b4 ag (vd 6)) af))) af))))))))))))),?_⟩
  refine ap fun U1 u1=>?_
  lk
  refine⟨_,SqT.of et,rfl,_,_,rfl,_,_,rfl,_,_,rfl,_,_,rfl,rfl,?_⟩
  rw[u1];clear u1
  have hpl:=hP.len
  refine ap fun U1 u1=>?_
  lk
  refine⟨by lia,by lia,fun D hD=>aV (fun i σ H'=>(∃ds:List Int,az H H'∧H' D=some (.lst (ds.map V.int))∧ds.length≤i∧(0≤s.b→ds=dsN s.b.toNat i))∧∃v0,σ=[v0,some (.int s.b)]) ⟨⟨[],ah hD _,ae,yq _,fun _=>rfl⟩,none,rfl⟩ ?_ ?_⟩
  ·rintro i σ H' hi ⟨⟨ds,g,e,dl,de⟩,v0,rfl⟩
   rw[show(0+(i:Int))=i by lia]
   lk
   refine⟨by lia,?_⟩
   rw[ye]
   by_cases z:Builtin.bitAnd (s.b / 2 ^ i) 1=1
   ·rw[if_pos z]
    refine⟨_,e,aE (by rw[ya];lia),⟨aJ hD g _,ds++[(i:Int)],by rw[ae,yg];rfl,by rw[yf];exact yha dl,fun b0=>?_⟩⟩
    rw[ml,de b0,if_pos ((gk _ _).mp (by rw[yN b0];exact z))]
   ·rw[if_neg z]
    refine⟨g,ds,e,by lia,fun b0=>?_⟩
    rw[ml,de b0,if_neg (fun y=>z (by have:=(gk _ _).mpr y;rw[yN b0] at this;exact this)),yy]
  rintro σ H1 ⟨⟨ds,g1,e1,dl,de⟩,v0,rfl⟩
  lk
  have ep1:=g1 _ _ ep
  have hP1:=hP.mono g1
  rw[u1];clear u1
  refine ap fun U1 u1=>?_
  lk
  by_cases hk1:s.k=1
  ·rw[if_pos (by lia)]
   rw[rY (by lia),mj hk1,← de (ok.b (by lia)).1] at q
   refine⟨s.a,-1,D,pa,ds,ts,rfl,e1,ep1,by lia,by lia,fun r us H2 g2 hr er hPr=>⟨by decide,fun p hp=>⟨by decide,fun p1 hp1=>?_⟩⟩⟩
   obtain⟨g3,n3,hL⟩:=jj (g1.free hr) er hPr hp hp1
   rw[hpl] at hL
   exact q p1 _ _ ((g1.trans g2).trans g3) ((g1.trans g2).free n3) ae (by rw[show -s.c=0-s.c by lia];exact hL)
  rw[if_neg (by lia)]
  rw[u1];clear u1
  refine ap fun U1 u1=>?_
  lk
  by_cases hk2:s.k=2
  ·rw[if_pos (by lia)]
   rw[rY (by lia),ln hk2,← de (ok.b (by lia)).1] at q
   refine⟨s.a,1,D,pa,ds,ts,rfl,e1,ep1,by lia,by lia,fun r us H2 g2 hr er hPr=>⟨by decide,fun p hp=>⟨by decide,fun p1 hp1=>?_⟩⟩⟩
   obtain⟨g3,n3,hL⟩:=jj (g1.free hr) er hPr hp hp1
   rw[hpl] at hL
   exact q p1 _ _ ((g1.trans g2).trans g3) ((g1.trans g2).free n3) ae hL
  rw[if_neg (by lia)]
  rw[u1];clear u1
  refine ap fun U1 u1=>?_
  lk
  by_cases hk3:s.k=3
  ·rw[if_pos (by lia)]
   rw[rY (by lia),mC hk3,vF] at q
   have db:=de (ok.b (by lia)).1
   refine⟨⟨_,SqL.of e1⟩,fun L hL=>aQ (xs:=ds.map V.int) (fun i σ H'=>fu H1 L ((ds.take i).map (sL s.a ps)) H'∧∃v0,σ=[v0,some (.ref pa),some (.int s.a)]) ⟨fu.start hL,none,rfl⟩ (fun i σ H' _ hh=>SqL.of (hh.1.same _ _ e1)) ?_ ?_⟩
   ·rintro i v σ H' hx ⟨lI,v0,rfl⟩
    obtain⟨x,hx1,rfl⟩:=cX hx
    have hi:=(List.getElem?_eq_some_iff.mp hx1).1
    lk
    refine⟨by decide,fun p hp=>⟨s.a,-1,p,pa,[x],ts,rfl,ae,((lI.same.trans (ah hp _)) _ _ ep1),by simp,by lia,fun r us H2 g2 hr er hPr=>⟨by decide,fun p1 hp1=>?_⟩⟩⟩
    rw[hpl] at hPr
    rw[aP hx1,yg]
    exact lI.step hL (by rw[ya,yr];lia) ((ah hp _).trans g2) ((ah hp _).free hr) er hPr hp1
   ·rintro σ H' ⟨lI,v0,rfl⟩
    lk
    rw[ya,yo,db] at lI
    obtain⟨us,g,e,hL2⟩:=lI.done
    exact q L us H' (g1.trans g) (g1.free hL) e (Paired.mapP hL2 fun _ _ ⟨t,l,ts,e,q,r,z,f⟩=>⟨t,l,ts,e,q,r,z,g1.free f⟩)
  rw[if_neg (by lia)]
  rw[u1];clear u1
  refine ap fun U1 u1=>?_
  lk
  by_cases hk4:s.k=4
  ·rw[if_pos (by lia)]
   rw[EI hk4] at q
   obtain⟨c0,c1⟩:=ok.c4 hk4
   intro p hp
   refine⟨d,ae,by lia,by lia,fun l hl=>?_⟩
   have gA:=(ah hp (.rng 0 d)).trans (ah hl (.lst (List.map V.int (List.map (fun i:Nat=>(i:Int)) (List.range d.toNat)))))
   refine⟨s.a,-1,l,pa,(List.range d.toNat).map (fun i:Nat=>(i:Int)),ts,rfl,ae,gA _ _ ep1,by rw[ya,yx];lia,by lia,fun r us H2 g2 hr er hPr=>?_⟩
   rw[hpl,jr] at hPr
   have G2:=gA.trans g2
   have f2:=gA.free hr
   generalize hS:spr s.a (bh 0 d.toNat) (bh 1 ps.length) (-1)=S at hPr
   have sm:∀y∈S,y.p∈bL ps:=fun y hy=>by rw[← hS] at hy;exact(fY hy).2.2.1
   have sl:S.length≤31*6:=by
    rw[← hS,b6,upL,upL]
    exact yba (by lia) (by lia)
   have hul:=Paired.length hPr
   clear hr gA hp hl g2
   refine⟨r,rfl,⟨_,SqL.of er⟩,fun D2 hD2=>aQ (xs:=us) (fun i σ H'=>iY H2 D2 ((S.take i).filter (dJ ps)) H'∧∃v0,σ=[v0,some (.ref pa)]) ⟨iY.start hD2,none,rfl⟩ (fun i σ H' _ hh=>SqL.of (hh.1.same _ _ er)) ?_ ?_⟩
   ·rintro i v σ H' hx ⟨pF,v0,rfl⟩
    obtain⟨pq,hpq,tq,rfl,htq⟩:=Paired.get' hPr hx
    obtain⟨tp,qp,at1,e2,e3,e4⟩:=oA (hP.mono ((g1.trans G2).trans pF.same)) (sm _ (yc hpq))
    have htq2:=pF.same _ _ htq
    rw[jS _ hpq]
    lk
    refine⟨_,SqT.of htq2,_,rfl,_,rfl,_,SqL.of ((G2.trans pF.same) _ _ ep1),_,at1,tp,rfl,_,SqT.of e2,_,rfl,rfl,?_⟩
    by_cases z:qp.2.2=1
    ·rw[if_pos (by rw[z]),if_pos (by unfold dJ;rw[e4];exact decide_eq_true z)]
     exact pF.step hD2 (by have:=lm S i (dJ ps);lia) htq
    ·rw[if_neg (fun y=>z (V.int.inj y)),if_neg (by unfold dJ;rw[e4,decide_eq_false z];decide),yy]
     exact pF
   ·rintro σ H3 ⟨pF,v0,rfl⟩
    lk
    rw[hul,yo] at pF
    obtain⟨un,g3,e3,hPn⟩:=pF.ex
    have hnl:=yK (dJ ps) S
    have hun:=Paired.length hPn
    refine⟨yq _,fun L hL=>⟨by lia,by lia,aV (fun i σ H4=>fu H3 L (nlI ps s.c S i) H4∧∃v10,σ=[some (.ref t),some (.int d),some (.ref pa),some (.int s.k),some (.int s.a),some (.int s.b),some (.int s.c),some (.ref D),some (.ref D2),some (.ref L),v10,none,none]) ⟨fu.start hL,none,rfl⟩ ?_ ?_⟩⟩
    ·rintro i σ H4 hi ⟨lI,v10,rfl⟩
     rw[show(0+(i:Int))=i by lia]
     have g4:=lI.same
     obtain⟨u0,_,e0,_⟩:=lI.ex
     have hPn4:=hPn.mono (aC (g3.trans g4))
     lk
     refine⟨.inl ⟨rfl,_,SqL.of e0⟩,⟨_,SqL.of (g4 _ _ e3)⟩,fun D3 hD3=>aQ (xs:=un) (fun j σ H5=>iY H4 D3 (((S.filter (dJ ps)).take j).filter (inW (i:Int) s.c)) H5∧∃v0,σ=[v0,some (.int s.c),some (.int i)]) ⟨iY.start hD3,none,rfl⟩ (fun j σ H5 _ hh=>SqL.of ((g4.trans hh.1.same) _ _ e3)) ?_ ?_⟩
     ·rintro j v σ H5 hx ⟨pG,v0,rfl⟩
      obtain⟨pq,hpq,tq,rfl,htq⟩:=Paired.get' hPn4 hx
      have htq2:=pG.same _ _ htq
      have flen:=lm (S.filter (dJ ps)) j (inW (i:Int) s.c)
      rw[jS _ hpq]
      lk
      refine⟨_,SqT.of htq2,_,rfl,_,rfl,?_⟩
      by_cases z1:(i:Int)≤pq.d
      ·rw[if_pos z1]
       refine⟨_,rfl,?_⟩
       by_cases z2:pq.d≤(i:Int)+s.c
       ·rw[if_pos z2,if_pos (by unfold inW;rw[decide_eq_true z1,decide_eq_true z2];rfl)]
        exact pG.step hD3 (by lia) htq
       ·rw[if_neg z2,if_neg (by unfold inW;rw[decide_eq_false z2,yEa];decide),yy]
        exact pG
      ·rw[if_neg z1,if_neg (by unfold inW;rw[decide_eq_false z1,yka];decide),yy]
       exact pG
     ·rintro σ H5 ⟨pG,v0,rfl⟩
      lk
      rw[hun,yo,pM] at pG
      obtain⟨uf,g5,e5,hPf⟩:=pG.ex
      refine⟨by decide,fun p hp=>?_⟩
      rw[rG,show -s.c=0-s.c by lia]
      exact lI.step hL (by rw[vi];lia) g5 hD3 e5 (hPf.mono (aC g5)) hp
    ·rintro σ H4 ⟨lI,v10,rfl⟩
     lk
     lk
     have en:fj s.a s.c d.toNat ps=nlI ps s.c S (d-s.c).toNat:=by
      unfold fj nlI
      rw[show spr s.a (bh 0 d.toNat) (bL ps) (-1)=S from hS,show((d.toNat:Nat):Int)=d by lia]
     rw[en] at q
     obtain⟨us',g,e,hL2⟩:=lI.done
     have G3:=(g1.trans G2).trans g3
     exact q L us' H4 (G3.trans g) (G3.free hL) e (Paired.mapP hL2 fun _ _ ⟨t,l,ts,e,q,r,z,f⟩=>⟨t,l,ts,e,q,r,z,G3.free f⟩)
  rw[if_neg (by lia)]
  rw[u1];clear u1
  have k5:s.k=5:=by lia
  rw[FD k5] at q
  refine ap fun U1 u1=>?_
  lk
  intro p hp
  refine⟨d,ae,by lia,by lia,fun l hl=>?_⟩
  have gA:=(ah hp (.rng 0 d)).trans (ah hl (.lst (List.map V.int (List.map (fun i:Nat=>(i:Int)) (List.range d.toNat)))))
  refine⟨s.a,1,l,pa,(List.range d.toNat).map (fun i:Nat=>(i:Int)),ts,rfl,ae,gA _ _ ep1,by rw[ya,yx];lia,by lia,fun r us H2 g2 hr er hPr=>?_⟩
  rw[hpl,jr] at hPr
  have G2:=gA.trans g2
  have f2:=gA.free hr
  generalize hS:spr s.a (bh 0 d.toNat) (bh 1 ps.length) 1=S at hPr
  have sm:∀y∈S,y.p∈bL ps:=fun y hy=>by rw[← hS] at hy;exact(fY hy).2.2.1
  have sl:S.length≤31*6:=by
   rw[← hS,b6,upL,upL]
   exact yba (by lia) (by lia)
  have hul:=Paired.length hPr
  clear hr gA hp hl g2
  rw[u1];clear u1
  refine ap fun U1 u1=>?_
  lk
  refine⟨⟨_,SqL.of er⟩,fun D2 hD2=>aQ (xs:=us) (fun i σ H'=>fw H2 D2 ((S.take i).map (eK ps 1)) H'∧∃v0,σ=[v0,some (.ref pa)]) ⟨fw.start hD2,none,rfl⟩ (fun i σ H' _ hh=>SqL.of (hh.1.same _ _ er)) ?_ ?_⟩
  ·rintro i v σ H' hx ⟨pI,v0,rfl⟩
   obtain⟨pq,hpq,tq,rfl,htq⟩:=Paired.get' hPr hx
   have hi:=(List.getElem?_eq_some_iff.mp hpq).1
   obtain⟨tp,qp,at1,e2,e3,e4⟩:=oA (hP.mono ((g1.trans G2).trans pI.same)) (sm _ (yc hpq))
   have htq2:=pI.same _ _ htq
   lk
   refine⟨_,SqT.of htq2,_,rfl,_,SqT.of htq2,_,rfl,_,SqT.of htq2,_,rfl,_,SqT.of htq2,_,rfl,_,rfl,_,SqL.of ((G2.trans pI.same) _ _ ep1),_,at1,tp,rfl,_,SqT.of e2,_,rfl,by decide,fun p hp=>?_⟩
   have el:eK ps 1 pq=⟨pq.h,pq.d,pq.p,qp.2.1⟩:=by unfold eK;rw[yEb,e3]
   rw[aP hpq,yg,yi,yua,el]
   exact pI.step hD2 (by rw[ya,yr];lia) hp
  rintro σ H3 ⟨pI,v0,rfl⟩
  lk
  rw[hul,yo] at pI
  obtain⟨un,g3,e3,hPn⟩:=pI.ex
  have hun:=Paired.length hPn
  rw[ya] at hun
  rw[u1];clear u1
  lk
  refine⟨by decide,fun p1 hp1=>?_⟩
  have gp:=ah hp1 (.tup [.ref D2,.int s.b])
  have epp:=ae (H:=H3) (a:=p1) (o:=.tup [.ref D2,.int s.b])
  generalize upd H3 p1 (.tup [.ref D2,.int s.b])=HP at gp epp ⊢
  have hPp:=hPn.mono (aC gp)
  refine⟨⟨_,SqL.of (gp _ _ e3)⟩,fun D3 hD3=>aQ (xs:=un) (fun i σ H'=>fw HP D3 ((S.take i).map (sF ps)) H'∧∃v0,σ=[v0]) ⟨fw.start hD3,none,rfl⟩ (fun i σ H' _ hh=>SqL.of ((gp.trans hh.1.same) _ _ e3)) ?_ ?_⟩
  ·rintro i v σ H' hx ⟨pJ,v0,rfl⟩
   obtain⟨pq',hpq',tq,rfl,htq⟩:=Paired.get' hPp hx
   rw[yj] at hpq'
   obtain⟨pq,hpq,rfl⟩:=Option.map_eq_some_iff.mp hpq'
   have hi:=(List.getElem?_eq_some_iff.mp hpq).1
   have htq2:=pJ.same _ _ htq
   lk
   refine⟨_,SqT.of htq2,_,rfl,_,SqT.of htq2,_,rfl,_,SqT.of htq2,_,rfl,_,SqT.of htq2,_,rfl,_,rfl,by decide,fun p hp=>?_⟩
   rw[aP hpq,yg,yi,yua,show sF ps pq=_ from sS ps pq]
   exact pJ.step hD3 (by rw[ya,yr];lia) hp
  rintro σ H5 ⟨pJ,v0,rfl⟩
  lk
  rw[hun,yo] at pJ
  obtain⟨ul,g5,e5,hPl⟩:=pJ.ex
  refine⟨by decide,fun p2 hp2=>⟨by decide,fun p3' hp3=>?_⟩⟩
  have GA:=g1.trans G2
  have GB:=GA.trans (g3.trans gp)
  obtain⟨g6,n6,hL⟩:=qI (H0:=H) (GA.free hD2) (GB.free hD3) ((gp.trans g5) _ _ e3) (hPp.mono (aC g5)) (g5 _ _ epp) e5 hPl hp2 hp3
  rw[xg,Bs,show spr s.a (bh 0 d.toNat) (bL ps) 1=S from hS,show -s.c=0-s.c by lia] at q
  exact q p3' _ _ ((GB.trans g5).trans g6) ((GB.trans g5).free n6) ae hL
inductive AI(K:PySem.W.Frag)(ζ:Cs)(vs:List V)(H:Hp)(Q:VK)(E:XK):Prop
 | mk (t pa:Addr) (d:Int) (s:Sp4) (n:Nat) (ts:List V) (ps:List Pst) (_:vs=[.ref t,.int d,.int n,.ref pa]) (_:H t=some (.tup [.int (s.k:Nat),.int s.a,.int s.b,.int s.c])) (_:H pa=some (.lst ts)) (_:bQ H ts ps) (_:1≤d) (_:d≤31) (_:n≤8) (_:ps.length≤3) (_:gT d n ps.length s) (_:∀r us H',az H H'→H r=none→H' r=some (.lst us)→j2 H H' us (dn d.toNat n ps s)→Q (.ref r) H'):AI K ζ vs H Q E
theorem zm_:ax ["_law_spec","_law_days","_law_hands","_law_posts","_law_kind","_law_one","_law_two","_law_three","_law_found","_law_day","_law_k"] ["_law_spec","_law_days","_law_hands","_law_posts"] (ao zb):=⟨rfl,rfl,rfl,k!,rfl,k!,k!⟩
theorem Df{ζ:Cs}{f:Addr}{fd:FuncData}(F:Fun K "_law_lines" "_law_lines" zb f fd)(T:Txt K mg ζ)(zbH_:Cal P w K mg base "_law_single" ["_law_spec","_law_days","_law_posts"] 2 (Bw K ζ))(zo_:Cal P w K mg base "_law_post" ["_law_cell_here","_law_posts"] 1 (zM_ K ζ)):aT P w K mg base CX0 3 f fd ["_law_spec","_law_days","_law_hands","_law_posts"] (AI K ζ):=by
 refine F.ok zm_ (fun vs H Q E h=>?_) (fun cdv A outer s H vs Q E hr h=>?_)
 ·cases h;subst_vars;rfl
 ·obtain⟨t,pa,d,s,n,ts,ps,rfl,et,ep,hP,d1,d2,n8,p3,ok,q⟩:=h
  refine⟨_,(aj (i8 (vd 0) (bR (n:=4) rfl (aA (am (i:=4) zm_.nd rfl (Or.inl rfl)) (aA (am (i:=5) zm_.nd rfl (Or.inr rfl)) (aA (am (i:=6) zm_.nd rfl (Or.inr rfl)) (aA (am (i:=7) zm_.nd rfl (Or.inl rfl)) bt))))))
  (aj (bb (aG bH (vd 4) ag (aH _)) (ak (aB (aW (aa (aK (aa (bj (own:=["_law_hand"]) (fnames:=["_law_posts","_law_one","_law_two"]) (fr:=[3,5,6]) (N':=["_law_hand","_law_posts","_law_one","_law_two"]) ⟨rfl,rfl,rfl,rfl,rfl,rfl,rfl⟩ rfl (aZ rfl T.range (aa (vd 2) af)) (fun s0 H0 fp0 C0=>⟨(am (i:=0) (by show(["_law_hand","_law_posts","_law_one","_law_two"]:List Str).Nodup;decide +kernel) rfl (Or.inl rfl)),bB,(aK (aa (vd 0) (aa (vd 2) (aa (aw zo_ (hr.mono (by decide)) rfl (aa (vd 3) (aa (vd 1) af))) (aa ag af)))))⟩)) (aa (vd 7) af))) af)))) aN)
  (aj (bb (aG cV (vd 4) ag (aH _)) (ak (aB (aw zbH_ (hr.mono (by decide)) rfl (aa (vd 0) (aa (vd 1) (aa (vd 3) af)))))) aN)
  (aj (aD (i:=8) zm_.nd rfl (Or.inl rfl) (aW af))
  (aj (bi PassesOwn.never rfl (aZ rfl T.range (aa (vd 1) af)) (am (i:=9) zm_.nd rfl (Or.inl rfl))
   (ak (bi PassesOwn.never rfl (aZ rfl T.range (aa (aF (aL (K:=K) rfl) (by rfl) T.len PySem.boot_len (aa (vd 3) af)) af)) (am (i:=10) zm_.nd rfl (Or.inl rfl))
     (ak (bJ (cH PySem.F.plainAttrs_list PySem.F.slot_list_append PySem.F.type_list_append bI (vd 8) (aa (aK (aa (aW (aa (aK (aa (vd 5) (aa (vd 9) (aa (av aR (vd 10) ag) (aa (cG b7 ag) af))))) (aa (aK (aa (vd 6) (aa (vd 9) (aa (av aR (vd 10) ag) (aa (cG b7 ag) af))))) af))) (aa (cG b7 ag) af))) af)))))))
  (ak (aB (vd 8)))))))),?_⟩
  have hpl:=hP.len
  refine ap fun U1 u1=>?_
  lk
  refine⟨_,SqT.of et,rfl,_,_,rfl,_,_,rfl,_,_,rfl,_,_,rfl,rfl,?_⟩
  rw[u1];clear u1
  refine ap fun U1 u1=>?_
  lk
  by_cases k0:s.k=0
  ·rw[if_pos (by lia)]
   rw[rY (by lia),mw k0] at q
   obtain⟨pp,hpp⟩:∃pp:Int,1+s.b % (ps.length:Int)=pp:=⟨_,rfl⟩
   rw[hpp] at q
   refine⟨by lia,by lia,fun D hD=>aV (fun i σ H'=>fw H D (ca i s.a pp) H'∧∃v0,σ=[v0,some (.ref pa),some (.int s.a),some (.int s.b)]) ⟨fw.start hD,none,rfl⟩ ?_ ?_⟩
   ·rintro i σ H' hi ⟨pI,v0,rfl⟩
    rw[show(0+(i:Int))=i by lia]
    lk
    refine⟨s.b,pa,ts,rfl,pI.same _ _ ep,by have:=ok.P0;lia,by decide,fun p hp=>?_⟩
    rw[hpl,hpp,fS]
    exact pI.step hD (by rw[jP];lia) hp
   ·rintro σ H' ⟨pI,v0,rfl⟩
    lk
    rw[ye] at pI
    obtain⟨us,g,e,hPr⟩:=pI.ex
    refine⟨by decide,fun p hp=>⟨by decide,fun p1 hp1=>?_⟩⟩
    obtain⟨g3,n3,hL⟩:=jj hD e hPr hp hp1
    exact q p1 _ _ (g.trans g3) (g.free n3) ae hL
  rw[if_neg (by lia)]
  rw[u1];clear u1
  refine ap fun U1 u1=>?_
  lk
  by_cases k6:s.k<6
  ·rw[if_pos (by lia)]
   exact⟨t,pa,d,s,n,ts,ps,rfl,et,ep,hP,d1,d2,p3,by lia,by lia,ok,q⟩
  rw[if_neg (by lia)]
  have k66:s.k=6:=by have:=ok.k6;lia
  rw[rY (by lia),lR k66] at q
  rw[u1];clear u1
  refine ap fun U1 u1=>?_
  lk
  refine⟨yq _,fun p hp=>?_⟩
  rw[u1];clear u1
  refine ap fun U1 u1=>bv fun B1 b1=>?_
  lk
  refine⟨by lia,by lia,aV (fun i σ H'=>fu H p (c6 s.a s.b (-1) (-1) ps.length i) H'∧∃v9 v10,σ=[some (.ref t),some (.int d),some (.int n),some (.ref pa),some (.int s.k),some (.int s.a),some (.int s.b),some (.int s.c),some (.ref p),v9,v10]) ⟨fu.start hp,none,none,rfl⟩ ?_ ?_⟩
  ·rintro i σ H' hi ⟨lI,v9,v10,rfl⟩
   rw[show(0+(i:Int))=i by lia]
   rw[b1]
   refine bv fun B2 b2=>?_
   lk
   have hlen:(c6 s.a s.b (-1) (-1) ps.length i).length≤31*3:=by
    unfold c6
    rw[ya,eU]
    exact yba (by lia) p3
   refine⟨_,.inl (SqL.of (lI.same _ _ ep)),by lia,by lia,aV (fun j σ H2=>fu H p (c6 s.a s.b (-1) (-1) ps.length i++(bh 1 j).map fun y=>ms s.a s.b (-1) (-1) ((i:Int),y)) H2∧∃v10,σ=[some (.ref t),some (.int d),some (.int n),some (.ref pa),some (.int s.k),some (.int s.a),some (.int s.b),some (.int s.c),some (.ref p),some (.int i),v10]) ⟨?_,v10,rfl⟩ ?_ ?_⟩
   ·rw[show((bh 1 0).map fun y=>ms s.a s.b (-1) (-1) ((i:Int),y))=[] from rfl,yy]
    exact lI
   ·rintro j σ H2 hj ⟨lJ,v10,rfl⟩
    rw[show(0+(j:Int))=j by lia]
    obtain⟨u0,_,e0,_⟩:=lJ.ex
    rw[b2]
    lk
    refine⟨.inl ⟨rfl,_,SqL.of e0⟩,by decide,fun p1 hp1=>⟨by decide,fun p2 hp2=>⟨by decide,fun p3' hp3=>⟨by decide,fun p4 hp4=>?_⟩⟩⟩⟩
    rw[cR,yg,← yHa]
    rw[show((j:Int)+1)=1+(j:Int) by lia] at hp2 hp3 hp4 ⊢
    have g1:=ah hp1 (.tup [.int s.a,.int i,.int (1+(j:Int)),.int (-1)])
    have g2:=ah hp2 (.tup [.int s.b,.int i,.int (1+(j:Int)),.int (-1)])
    have g3:=ah hp3 (.lst [.ref p1,.ref p2])
    exact lJ.step (l:=p3') (qs:=[⟨s.a,(i:Int),1+(j:Int),-1⟩,⟨s.b,(i:Int),1+(j:Int),-1⟩]) hp (by rw[yf,ya,upL];lia) ((g1.trans g2).trans g3) ((g1.trans g2).free hp3) ae (.cons ⟨p1,rfl,g3 _ _ (g2 _ _ ae)⟩ (.cons ⟨p2,rfl,g3 _ _ ae⟩ .nil)) hp4
   ·rintro σ H2 ⟨lJ,v10,rfl⟩
    rw[ye,hpl] at lJ
    have e:c6 s.a s.b (-1) (-1) ps.length (i+1)=c6 s.a s.b (-1) (-1) ps.length i++(bh 1 ps.length).map fun y=>ms s.a s.b (-1) (-1) ((i:Int),y):=by
     unfold c6
     rw[gY,yg,yW]
     rfl
    rw[e]
    exact⟨lJ,_,_,rfl⟩
  rintro σ H' ⟨lI,v9,v10,rfl⟩
  lk
  rw[u1];clear u1
  lk
  obtain⟨us,g,e,hL⟩:=lI.done
  exact q p us H' g hp e hL
inductive zo(K:PySem.W.Frag)(ζ:Cs)(vs:List V)(H:Hp)(Q:VK)(E:XK):Prop
 | mk (t pa:Addr) (s:Sp4) (ts:List V) (_:vs=[.ref t,.ref pa]) (_:H t=some (.tup [.int (s.k:Nat),.int s.a,.int s.b,.int s.c])) (_:s.k≤6) (_:H pa=some (.lst ts)) (_:0<ts.length) (_:∀(x:Addr) (H':Hp),az H H'→H x=none→jB (bO ζ.c ζ.d ζ.e ζ.g ζ.i ζ.f ζ.h) ts.length H' (.ref x) s→Q (.ref x) H'):zo K ζ vs H Q E
theorem zN_:ax ["_law_spec","_law_posts","_law_kind","_law_one","_law_two","_law_three"] ["_law_spec","_law_posts"] (ao xH):=⟨rfl,rfl,rfl,k!,rfl,k!,k!⟩
theorem Du{ζ:Cs}{f:Addr}{fd:FuncData}(F:Fun K "_law_rule" "_law_rule" xH f fd)(T:Txt K mg ζ)(zfg_:i6 P w K mg base "Apart" ζ.h ["self","hand","other"] 1 (zX_ K ζ))(I_Want:i6 P w K mg base "Want" ζ.c ["self","day","post","many"] 1 (BB K ζ))(I_Most:i6 P w K mg base "Most" ζ.d ["self","hand","days","many"] 1 (zB K ζ))(zfh_:i6 P w K mg base "Least" ζ.e ["self","hand","days","many"] 1 (zY_ K ζ))(I_Away:i6 P w K mg base "Away" ζ.g ["self","hand","days"] 1 (xi K ζ))(zeI_:i6 P w K mg base "Nights" ζ.i ["self","hand","many"] 1 (zL_ K ζ))(zfi_:i6 P w K mg base "Hours" ζ.f ["self","hand","least","most"] 1 (zZ_ K ζ))(zo_:Cal P w K mg base "_law_post" ["_law_cell_here","_law_posts"] 1 (zM_ K ζ)):aT P w K mg base CX0 3 f fd ["_law_spec","_law_posts"] (zo K ζ):=by
 refine F.ok zN_ (fun vs H Q E h=>?_) (fun cdv A outer s H vs Q E hr h=>?_)
 ·cases h;subst_vars;rfl
 ·obtain⟨t,pa,s,ts,rfl,et,k6,ep,t0,q⟩:=h
  refine⟨_,(aj (i8 (vd 0) (bR (n:=4) rfl (aA (am (i:=2) zN_.nd rfl (Or.inl rfl)) (aA (am (i:=3) zN_.nd rfl (Or.inl rfl)) (aA (am (i:=4) zN_.nd rfl (Or.inl rfl)) (aA (am (i:=5) zN_.nd rfl (Or.inl rfl)) bt))))))
  (aj (bb (aG bH (vd 2) ag (aH _)) (ak (aB (cx I_Want (hr.mono (by decide)) rfl (aa (vd 3) (aa (aw zo_ (hr.mono (by decide)) rfl (aa (vd 4) (aa (vd 1) af))) (aa (vd 5) af)))))) aN)
  (aj (bb (aG bH (vd 2) ag (aH _)) (ak (aB (cx I_Most (hr.mono (by decide)) rfl (aa (vd 3) (aa (vd 4) (aa (vd 5) af)))))) aN)
  (aj (bb (aG bH (vd 2) ag (aH _)) (ak (aB (cx zfh_ (hr.mono (by decide)) rfl (aa (vd 3) (aa (vd 4) (aa (vd 5) af)))))) aN)
  (aj (bb (aG bH (vd 2) ag (aH _)) (ak (aB (cx I_Away (hr.mono (by decide)) rfl (aa (vd 3) (aa (vd 4) af))))) aN)
  (aj (bb (aG bH (vd 2) ag (aH _)) (ak (aB (cx zeI_ (hr.mono (by decide)) rfl (aa (vd 3) (aa (vd 5) af))))) aN)
  (aj (bb (aG bH (vd 2) ag (aH _)) (ak (aB (cx zfi_ (hr.mono (by decide)) rfl (aa (vd 3) (aa (vd 4) (aa (vd 5) af)))))) aN)
  (ak (aB (cx zfg_ (hr.mono (by decide)) rfl (aa (vd 3) (aa (vd 4) af)))))))))))),?_⟩
  refine ap fun U1 u1=>?_
  lk
  refine⟨_,SqT.of et,rfl,_,_,rfl,_,_,rfl,_,_,rfl,_,_,rfl,rfl,?_⟩
  rw[u1];clear u1
  obtain hk | hk | hk | hk | hk | hk | hk:s.k=0∨s.k=1∨s.k=2∨s.k=3∨s.k=4∨s.k=5∨s.k=6:=by lia
  ·refine ap fun U1 u1=>?_
   lk
   rw[if_pos (by lia)]
   refine⟨_,pa,ts,rfl,ep,t0,?_⟩
   intro x dx hx hdx nx
   refine⟨x,dx,_,_,_,rfl,ae,rfl,?_⟩
   rw[bK]
   exact q x _ (fun b o hb=>by rw[au (ay hb hx),au (ay hb hdx)];exact hb) hx (BS hk ae)
  ·refine ap fun U1 u1=>?_
   lk
   rw[if_neg (by lia)]
   rw[u1];clear u1
   refine ap fun U1 u1=>?_
   lk
   rw[if_pos (by lia)]
   intro x dx hx hdx nx
   refine⟨x,dx,_,_,_,rfl,ae,rfl,?_⟩
   rw[bK]
   exact q x _ (fun b o hb=>by rw[au (ay hb hx),au (ay hb hdx)];exact hb) hx (BN hk ae)
  ·refine ap fun U1 u1=>?_
   lk
   rw[if_neg (by lia)]
   rw[u1];clear u1
   refine ap fun U1 u1=>?_
   lk
   rw[if_neg (by lia)]
   rw[u1];clear u1
   refine ap fun U1 u1=>?_
   lk
   rw[if_pos (by lia)]
   intro x dx hx hdx nx
   refine⟨x,dx,_,_,_,rfl,ae,rfl,?_⟩
   rw[bK]
   exact q x _ (fun b o hb=>by rw[au (ay hb hx),au (ay hb hdx)];exact hb) hx (Cc hk ae)
  ·refine ap fun U1 u1=>?_
   lk
   rw[if_neg (by lia)]
   rw[u1];clear u1
   refine ap fun U1 u1=>?_
   lk
   rw[if_neg (by lia)]
   rw[u1];clear u1
   refine ap fun U1 u1=>?_
   lk
   rw[if_neg (by lia)]
   rw[u1];clear u1
   refine ap fun U1 u1=>?_
   lk
   rw[if_pos (by lia)]
   intro x dx hx hdx nx
   refine⟨x,dx,_,_,rfl,ae,rfl,?_⟩
   rw[bK]
   exact q x _ (fun b o hb=>by rw[au (ay hb hx),au (ay hb hdx)];exact hb) hx (Cm hk ae)
  ·refine ap fun U1 u1=>?_
   lk
   rw[if_neg (by lia)]
   rw[u1];clear u1
   refine ap fun U1 u1=>?_
   lk
   rw[if_neg (by lia)]
   rw[u1];clear u1
   refine ap fun U1 u1=>?_
   lk
   rw[if_neg (by lia)]
   rw[u1];clear u1
   refine ap fun U1 u1=>?_
   lk
   rw[if_neg (by lia)]
   rw[u1];clear u1
   refine ap fun U1 u1=>?_
   lk
   rw[if_pos (by lia)]
   intro x dx hx hdx nx
   refine⟨x,dx,_,_,rfl,ae,rfl,?_⟩
   rw[bK]
   exact q x _ (fun b o hb=>by rw[au (ay hb hx),au (ay hb hdx)];exact hb) hx (BG hk ae)
  ·refine ap fun U1 u1=>?_
   lk
   rw[if_neg (by lia)]
   rw[u1];clear u1
   refine ap fun U1 u1=>?_
   lk
   rw[if_neg (by lia)]
   rw[u1];clear u1
   refine ap fun U1 u1=>?_
   lk
   rw[if_neg (by lia)]
   rw[u1];clear u1
   refine ap fun U1 u1=>?_
   lk
   rw[if_neg (by lia)]
   rw[u1];clear u1
   refine ap fun U1 u1=>?_
   lk
   rw[if_neg (by lia)]
   rw[u1];clear u1
   refine ap fun U1 u1=>?_
   lk
   rw[if_pos (by lia)]
   intro x dx hx hdx nx
   refine⟨x,dx,_,_,_,rfl,ae,rfl,?_⟩
   rw[bK]
   exact q x _ (fun b o hb=>by rw[au (ay hb hx),au (ay hb hdx)];exact hb) hx (B6 hk ae)
  ·refine ap fun U1 u1=>?_
   lk
   rw[if_neg (by lia)]
   rw[u1];clear u1
   refine ap fun U1 u1=>?_
   lk
   rw[if_neg (by lia)]
   rw[u1];clear u1
   refine ap fun U1 u1=>?_
   lk
   rw[if_neg (by lia)]
   rw[u1];clear u1
   refine ap fun U1 u1=>?_
   lk
   rw[if_neg (by lia)]
   rw[u1];clear u1
   refine ap fun U1 u1=>?_
   lk
   rw[if_neg (by lia)]
   rw[u1];clear u1
   refine ap fun U1 u1=>?_
   lk
   rw[if_neg (by lia)]
   rw[u1];clear u1
   lk
   intro x dx hx hdx nx
   refine⟨x,dx,_,_,rfl,ae,rfl,?_⟩
   rw[bK]
   exact q x _ (fun b o hb=>by rw[au (ay hb hx),au (ay hb hdx)];exact hb) hx (Cw hk ae)
noncomputable def kQ(K:PySem.W.Frag):Sp:=fun vs H Q _=>∃(a:Addr) (ns:List Int),vs=[.ref a]∧SqL K H a (ns.map V.int)∧ns.length≤63∧∀H',Q (.bl true) H'
theorem cq:ax ["_law_script","_law_days","_law_hands","_law_posts","_law_options_here","_law_rota_here","_law_specs","_law_told","_law_terms","_law_paper","_law_handed","_law_cases"] ["_law_script"] (ao sR):=⟨rfl,rfl,rfl,k!,rfl,k!,k!⟩
theorem Ah{ζ:Cs}{f:Addr}{fd:FuncData}(F:Fun K "law" "law" sR f fd)(T:Txt K mg ζ)(zcX_:Cal P w K mg base "_law_ward" ["_law_script","_law_most"] 2 (x6 K ζ))(zt_:Cal P w K mg base "_law_options" ["_law_hands","_law_posts"] 1 (zJ_ K ζ))(zcY_:Cal P w K mg base "_law_rota" ["_law_script","_law_at","_law_options_here","_law_days"] 2 (zC K ζ))(zfj_:i6 P w K mg base "Terms" ζ.b ["self","ward","rules"] 5 (zW_ K ζ))(zcu_:Cal P w K mg base "_law_steps" ["_law_script","_law_rota_here","_law_told","_law_options_here","_law_days"] 4 (zu K ζ))(C_left:Cal P w K mg base "left" ["terms","paper"] 7 (uH K ζ))(zdq_:Cal P w K mg base "_law_met" ["_law_script","_law_at","_law_rota_here","_law_posts"] 2 (y9 K ζ))(zcv_:Cal P w K mg base "_law_lines" ["_law_spec","_law_days","_law_hands","_law_posts"] 3 (AI K ζ))(I_Ward:i6 P w K mg base "Ward" ζ.a ["self","days","hands","posts"] 4 (A6 K ζ))(zcZ_:Cal P w K mg base "_law_rule" ["_law_spec","_law_posts"] 3 (zo K ζ))(za_:Cal P w K mg base "_law_cell" ["_law_script","_law_k"] 1 (zq_ K ζ))(zfk_:Cal P w K mg base "meets" ["terms","rota"] 7 (By K ζ))(zdr_:Cal P w K mg base "is_paper" ["terms","paper"] 8 (zV K ζ))(zu_:Cal P w K mg base "_law_agrees" ["_law_pins","_law_rota_here"] 1 (zR_ K ζ)):aT P w K mg base CX0 9 f fd ["_law_script"] (kQ K):=by
 refine F.ok cq (fun vs H Q E h=>?_) (fun cdv A outer s H vs Q E hr h=>?_)
 ·obtain⟨a,ns,rfl,_⟩:=h
  rfl
 ·obtain⟨a,ns,rfl,hS,hn,k⟩:=h
  refine⟨_,(aj (i8 (aw zcX_ (hr.mono (by decide)) rfl (aa (vd 0) (aa ag af))) (bR (n:=3) rfl (aA (am (i:=1) cq.nd rfl (Or.inr rfl)) (aA (am (i:=2) cq.nd rfl (Or.inr rfl)) (aA (am (i:=3) cq.nd rfl (Or.inr rfl)) bt)))))
  (dE (bb (aG (jt hr) (vd 2) (aW af) (aH _)) (aj (aD (i:=2) cq.nd rfl (Or.inr rfl) (aW (aa (aM ba (aM bM (vd 3) ag (fun _ _=>rfl)) ag (fun _ _=>rfl)) af)))
   (ak (aD (i:=1) cq.nd rfl (Or.inr rfl) (aF (ph rfl) (by rfl) T.min PyProof.Rows.boot_min (aa (vd 1) (aa ag af)))))) aN)
  (aj (aD (i:=4) cq.nd rfl (Or.inl rfl) (aw zt_ (hr.mono (by decide)) rfl (aa (vd 2) (aa (vd 3) af))))
  (aj (aD (i:=5) cq.nd rfl (Or.inr rfl) (aw zcY_ (hr.mono (by decide)) rfl (aa (vd 0) (aa ag (aa (vd 4) (aa (vd 1) af))))))
  (aj (c7 (i:=6) cq.nd rfl rfl (own:=["_law_k"]) (fnames:=["_law_script","_law_posts","_law_rota_here"]) (fr:=[0,3,5]) (N':=["_law_k","_law_script","_law_posts","_law_rota_here"]) ⟨rfl,rfl,rfl,rfl,rfl,rfl,rfl⟩ rfl (aZ rfl T.range (aa (av aR ag (av bo (aw za_ (hr.mono (by decide)) rfl (aa (vd 0) (aa ag af))) ag)) af)) (fun s0 H0 fp0 C0=>⟨(am (i:=0) (by show(["_law_k","_law_script","_law_posts","_law_rota_here"]:List Str).Nodup;decide +kernel) rfl (Or.inl rfl)),bB,(aw zdq_ (hr.mono (by decide)) rfl (aa (vd 1) (aa (av aR ag (av cj ag (vd 0))) (aa (vd 3) (aa (vd 2) af)))))⟩))
  (aj (c7 (i:=7) cq.nd rfl rfl (own:=["_law_spec"]) (fnames:=["_law_days","_law_hands","_law_posts"]) (fr:=[1,2,3]) (N':=["_law_spec","_law_days","_law_hands","_law_posts"]) ⟨rfl,rfl,rfl,rfl,rfl,rfl,rfl⟩ rfl (bf (vd 6)) (fun s0 H0 fp0 C0=>⟨(am (i:=0) (by show(["_law_spec","_law_days","_law_hands","_law_posts"]:List Str).Nodup;decide +kernel) rfl (Or.inl rfl)),bB,(aw zcv_ (hr.mono (by decide)) rfl (aa (vd 0) (aa (vd 1) (aa (aF (aL (K:=K) rfl) (by rfl) T.len PySem.boot_len (aa (vd 2) af)) (aa (vd 3) af)))))⟩))
  (aj (aD (i:=8) cq.nd rfl (Or.inl rfl) (cx zfj_ (hr.mono (by decide)) rfl (aa (cx I_Ward (hr.mono (by decide)) rfl (aa (vd 1) (aa (vd 2) (aa (vd 3) af)))) (aa (bj (own:=["_law_spec"]) (fnames:=["_law_posts"]) (fr:=[3]) (N':=["_law_spec","_law_posts"]) ⟨rfl,rfl,rfl,rfl,rfl,rfl,rfl⟩ rfl (bf (vd 6)) (fun s0 H0 fp0 C0=>⟨(am (i:=0) (by show(["_law_spec","_law_posts"]:List Str).Nodup;decide +kernel) rfl (Or.inl rfl)),bB,(aw zcZ_ (hr.mono (by decide)) rfl (aa (vd 0) (aa (vd 1) af)))⟩)) af))))
  (aj (aD (i:=9) cq.nd rfl (Or.inl rfl) (aw zcu_ (hr.mono (by decide)) rfl (aa (vd 0) (aa (vd 5) (aa (vd 7) (aa (vd 4) (aa (vd 1) af)))))))
  (dE (bb (aG bH (av bo (aw za_ (hr.mono (by decide)) rfl (aa (vd 0) (aa ag af))) ag) ag (aH _)) (ak (aD (i:=9) cq.nd rfl (Or.inl rfl) (rQ tP (vd 9) tF (tM (av bo (av fW (aw za_ (hr.mono (by decide)) rfl (aa (vd 0) (aa ag af))) ag) (av aR (aF (aL (K:=K) rfl) (by rfl) T.len PySem.boot_len (aa (vd 9) af)) ag)))))) aN)
  (aj (aD (i:=10) cq.nd rfl (Or.inl rfl) (aY (iU (K:=K) rfl) (by rfl) T.list PyProof.Rows.boot_list (aa (vd 9) af)))
  (aj (bb (PW.pt (ie (aG jU (aw zfk_ (hr.mono (by decide)) rfl (aa (vd 8) (aa (vd 5) af))) dO (aH _)) (eC (aG jU (aw zdr_ (hr.mono (by decide)) rfl (aa (vd 8) (aa (vd 10) af))) dO (aH _))))) (ak (aB dO)) aN)
  (aj (aD (i:=11) cq.nd rfl (Or.inl rfl) (aw C_left (hr.mono (by decide)) rfl (aa (vd 8) (aa (vd 10) af))))
  (aj (bb (aG (Af hr) (vd 10) (vd 9) (aH _)) (ak (aB dO)) aN)
  (aj (bb (aG nZ (vd 11) fR (aH _)) (ak (aB dO)) aN)
  (aj (bb (eJ (cw (aF rL (by rfl) T.isinstance PyProof.Rows.boot_isinstance (aa (vd 11) (aa (tW (v:=.ty "list") rfl T.list PyProof.Rows.boot_list rfl) af))))) (ak (aB dO)) aN)
  (ak (aB (b8 bH (aF (aL (K:=K) rfl) (by rfl) T.len PySem.boot_len (aa (bj (own:=["_law_pins"]) (fnames:=["_law_rota_here"]) (fr:=[5]) (N':=["_law_pins","_law_rota_here"]) ⟨rfl,rfl,rfl,rfl,rfl,rfl,rfl⟩ rfl (bf (vd 11)) (fun s0 H0 fp0 C0=>⟨(am (i:=0) (by show(["_law_pins","_law_rota_here"]:List Str).Nodup;decide +kernel) rfl (Or.inl rfl)),(cf (cw (aw zu_ (hr.mono (by decide)) rfl (aa (vd 0) (aa (vd 1) af))))),(vd 0)⟩)) af)) ag (aH _))))))))))))))))))),?_⟩
  refine ap fun U1 u1=>?_
  lk
  refine⟨a,ns,_,rfl,hS,hn,fun t ha pa D0 hs ts ps H1 g1 et eh ep hP okw h3 p1 p3 d4=>⟨_,rfl,_,SqT.of et,rfl,_,_,rfl,_,_,rfl,_,_,rfl,rfl,?_⟩⟩
  clear et
  have hpl:=hP.len
  have d1:=okw.d1
  rw[u1];clear u1
  refine fO (fun σ H'=>∃(ha':Addr) (hs':List Int) (D':Nat),az H H'∧H' ha'=some (.lst (hs'.map V.int))∧H' pa=some (.lst ts)∧bQ H' ts ps∧Ok (D':Int) hs' ps∧1≤hs'.length∧hs'.length≤3∧1≤D'∧D'≤4∧σ=[some (.ref a),some (.int D'),some (.ref ha'),some (.ref pa),none,none,none,none,none,none,none,none]) ?_ ?_
  ·lk
   refine⟨yq _,fun e he=>?_⟩
   have ge:=ah he (.lst [])
   refine⟨e,rfl,SqL.of ae,.inr ⟨ha,hs.map V.int,rfl,SqL.of (ge _ _ eh),_,rfl,?_⟩⟩
   by_cases z:hs=[]
   ·rw[if_pos (by simp[z])]
    obtain⟨q0,hq0⟩:∃q0,ps[0]? = some q0:=⟨_,yb (by lia)⟩
    obtain⟨t0,ht0,et0⟩:=hP.get hq0
    refine⟨_,SqL.of (ge _ _ ep),_,bg (j:=0) ht0,_,rfl,_,SqT.of (ge _ _ et0),_,at0 _ _,by decide,fun p hp=>?_⟩
    have gp:=ge.trans (ah hp (.lst [.int q0.1]))
    obtain⟨D1,hD1,hD2⟩:∃D1:Nat,(if 2<(D0:Int) then (2:Int) else D0)=D1∧1≤D1∧D1≤4:=⟨(if 2<(D0:Int) then (2:Int) else D0).toNat,by split <;> lia,by split <;> lia,by split <;> lia⟩
    refine⟨g1.trans gp,p,[q0.1],ae,gp _ _ ep,hP.mono gp,D1,⟨by lia,by lia,(fun x hx=>by rw[List.mem_singleton.mp hx];exact(okw.p q0 (yc hq0)).1),by show 1≤8;decide,okw.p,okw.pl⟩,by show 1≤1;decide,by show 1≤3;decide,hD2.1,hD2.2,hD1,rfl⟩
   ·rw[if_neg (by simp[z])]
    exact⟨g1.trans ge,ha,hs,ge _ _ eh,ge _ _ ep,hP.mono ge,D0,okw,List.length_pos_iff.mpr z,h3,by lia,d4,rfl,rfl⟩
  clear okw h3 d4 eh d1 g1 ep hP
  rintro σ H1 ⟨ha,hs,D0,g1,eh,ep,hP,okw,h1,h3,d1,d4,rfl⟩
  have d2:(D0:Int)≤31:=okw.d2
  have d1':1≤(D0:Int):=by lia
  refine ap fun U1 u1=>?_
  lk
  refine⟨ha,pa,hs,ts,ps,rfl,eh,ep,hP,by lia,by lia,okw.h,okw.p,fun o uo H2 g2 ho eo hRo=>?_⟩
  have G2:=g1.trans g2
  replace eh:=g2 _ _ eh
  replace ep:=g2 _ _ ep
  replace hP:=hP.mono g2
  clear g1 g2 ho
  rw[u1];clear u1
  refine ap fun U1 u1=>?_
  lk
  refine⟨a,o,ns,_,(D0:Int),uo,hs,ps,rfl,G2.seq hS,hn,by decide,by decide,eo,hRo,by lia,by lia,by omega,d2,fun rt ut rota Hb gb hrt ert hRt _ _ hTab=>?_⟩
  obtain⟨tl1,tl2,tl3⟩:=vq hTab
  replace eh:=gb _ _ eh
  replace ep:=gb _ _ ep
  replace eo:=gb _ _ eo
  replace hP:=hP.mono gb
  replace hRo:=hRo.mono gb
  replace G2:=G2.trans gb
  clear gb hrt
  have hrv:∀row∈rota,row.length=D0∧∀x∈row,0≤x∧x≤(ps.length:Int):=fun row hr=>by
   have hl:=tl2 row hr
   refine⟨by lia,fun x hx=>?_⟩
   obtain⟨i,hi,rfl⟩:=List.mem_iff_getElem.mp hr
   obtain⟨j,hj,rfl⟩:=List.mem_iff_getElem.mp hx
   have h5:=tl3 i j (by lia) (by lia)
   rw[dH (yb hi) hj] at h5
   exact sj h5
  rw[u1];clear u1
  refine ap fun U1 u1=>?_
  lk
  refine⟨a,ns,_,rfl,G2.seq hS,hn,by decide,by decide,fun v v0 v1=>⟨v,rfl,by decide,by lia,by lia,fun D hD=>aV (fun i σ H'=>kH Hb D (fun s=>gT (D0:Int) hs.length ps.length s∧gR rota (bG ((D0:Nat):Int).toNat hs.length ps s)) i H'∧∃v0,σ=[v0,some (.ref a),some (.ref pa),some (.ref rt)]) ⟨kH.start hD,none,rfl⟩ ?_ ?_⟩⟩
  ·rintro i σ H' hi ⟨sI,v0,rfl⟩
   rw[show(0+(i:Int))=i by lia]
   have g:=sI.same
   lk
   refine⟨.inl ⟨by decide,by decide⟩,a,rt,pa,ns,_,ut,ts,rota,ps,D0,rfl,(G2.trans g).seq hS,hn,by lia,by lia,g _ _ ert,hRt.mono g,by lia,by lia,hrv,d1,by lia,g _ _ ep,hP.mono g,p1,p3,okw.p,fun t' s' H2 g2 et' ok' kp'=>?_⟩
   rw[tl1] at ok' kp'
   exact sI.step hD (by lia) g2 et' ⟨ok',by rw[ye];exact kp'⟩
  rintro σ H3 ⟨sI,v0,rfl⟩
  lk
  obtain⟨us,ss,sl,g3,eD,hSp,okS⟩:=sI.ex
  have sl1:1≤ss.length:=by lia
  have sl6:ss.length≤6:=by lia
  have G3:=G2.trans g3
  replace eh:=g3 _ _ eh
  replace ep:=g3 _ _ ep
  replace eo:=g3 _ _ eo
  replace hP:=hP.mono g3
  replace hRo:=hRo.mono g3
  replace ert:=g3 _ _ ert
  replace hRt:=hRt.mono g3
  have hul:=Paired.length hSp
  clear sI sl G2 g3 hD
  rw[u1];clear u1
  refine ap fun U1 u1=>?_
  lk
  refine⟨⟨_,SqL.of eD⟩,fun TL hTL=>aQ (xs:=us) (fun i σ H'=>iN H3 TL (ss.map (dn ((D0:Nat):Int).toNat hs.length ps)) i H'∧∃v0,σ=[v0,some (.int D0),some (.ref ha),some (.ref pa)]) ⟨iN.start hTL,none,rfl⟩ (fun i σ H' _ hh=>SqL.of (hh.1.same _ _ eD)) ?_ ?_⟩
  ·rintro i v σ H' hx ⟨tI,v0,rfl⟩
   obtain⟨s,hs0,ts0,rfl,qs0⟩:=Paired.get' hSp hx
   have hi:=(List.getElem?_eq_some_iff.mp hs0).1
   have g:=tI.same
   lk
   refine⟨_,.inl (SqL.of (g _ _ eh)),ts0,pa,(D0:Int),s,hs.length,ts,ps,by rw[ya],g _ _ qs0,g _ _ ep,hP.mono g,d1',d2,by lia,p3,(okS s (yc hs0)).1,fun r ul H4 g4 hr er hL=>?_⟩
   exact tI.step hTL (by lia) (by rw[yj,hs0];rfl) g4 hr er hL
  rintro σ H4 ⟨tI,v0,rfl⟩
  lk
  rw[hul,show ss.length=(ss.map (dn ((D0:Nat):Int).toNat hs.length ps)).length from (ya ..).symm] at tI
  obtain⟨vt,g4,eTL,hTo⟩:=tI.done
  have G4:=G3.trans g4
  replace eh:=g4 _ _ eh
  replace ep:=g4 _ _ ep
  replace eo:=g4 _ _ eo
  replace eD:=g4 _ _ eD
  replace hP:=hP.mono g4
  replace hRo:=hRo.mono g4
  replace ert:=g4 _ _ ert
  replace hRt:=hRt.mono g4
  replace hSp:=lU.tmono (aC g4) hSp
  clear tI G3 g4 hTL
  rw[u1];clear u1
  refine ap fun U1 u1=>?_
  lk
  intro y dy hy hdy ny
  have s0:az H4 (upd (upd H4 dy (.own y)) y (.ins ζ.a dy [])):=fun b o hb=>by
   rw[au (ay hb hy),au (ay hb hdy)]
   exact hb
  refine⟨y,dy,ha,pa,(D0:Int),hs,ts,ps,rfl,ae,SqL.of (s0 _ _ eh),SqL.of (s0 _ _ ep),hP.mono s0,okw,fun H5 fr hW=>⟨rfl,?_⟩⟩
  have g5:az H4 H5:=fun b o hb=>fr b o (s0 b o hb) (ay hb hy)
  clear fr s0 hy hdy ny
  have eD5:=g5 _ _ eD
  have hSp5:=lU.tmono (aC g5) hSp
  refine⟨⟨_,SqL.of eD5⟩,fun R hR0=>aQ (xs:=us) (fun i σ H'=>km (bO ζ.c ζ.d ζ.e ζ.g ζ.i ζ.f ζ.h) ps.length H5 R ss i H'∧∃v0,σ=[v0,some (.ref pa)]) ⟨km.start hR0,none,rfl⟩ (fun i σ H' _ hh=>SqL.of (hh.1.same _ _ eD5)) ?_ ?_⟩
  ·rintro i v σ H' hx ⟨rI,v0,rfl⟩
   obtain⟨s,hs0,ts0,rfl,qs0⟩:=Paired.get' hSp5 hx
   have hi:=(List.getElem?_eq_some_iff.mp hs0).1
   lk
   refine⟨ts0,pa,s,ts,rfl,rI.same _ _ qs0,(okS s (yc hs0)).1.k6,(g5.trans rI.same) _ _ ep,by lia,fun x H4 g4 hx4 hr4=>?_⟩
   rw[hpl] at hr4
   exact rI.step hR0 (by lia) hs0 g4 hr4
  rintro σ H6 ⟨rI,v0,rfl⟩
  lk
  obtain⟨ur,g6,eR,hRu⟩:=rI.ex
  rw[hul,yo] at hRu
  intro x dx hx hdx nx
  have s0:az H6 (upd (upd H6 dx (.own x)) x (.ins ζ.b dx [])):=fun b o hb=>by
   rw[au (ay hb hx),au (ay hb hdx)]
   exact hb
  refine⟨x,dx,y,R,(D0:Int),hs,ps,ur,ss,rfl,ae,hW.mono (g6.trans s0),okw,s0 _ _ eR,lb.mono s0 hRu,(fun s hs0=>(okS s hs0).1),by lia,fun H7 fr hT=>⟨rfl,?_⟩⟩
  have g7:az H6 H7:=fun b o hb=>fr b o (s0 b o hb) (ay hb hx)
  have gg:=g5.trans (g6.trans g7)
  have G7:=G4.trans gg
  replace eo:=gg _ _ eo
  replace hRo:=hRo.mono gg
  replace ert:=gg _ _ ert
  replace hRt:=hRt.mono gg
  replace eTL:=gg _ _ eTL
  replace hTo:=hTo.mono gg
  clear fr s0 hx hdx nx rI g5 g6 g7 eD eD5 hSp hSp5 eR hRu hW G4 hR0 eh ep hP gg
  have hfin:∀ls∈ss.map (bG ((D0:Nat):Int).toNat hs.length ps),lH hs.length ((D0:Nat):Int).toNat (ps.length+1) ls:=fun ls hls=>by
   obtain⟨s,hs0,rfl⟩:=yk.mp hls
   exact jW (okS s hs0).1 d1' (by lia) (by lia) (by lia)
  have hlen:∀ls∈ss.map (dn ((D0:Nat):Int).toNat hs.length ps),ls.length≤40∧∀ℓ∈ls,ℓ.ps.length≤100:=fun ls hls=>by
   obtain⟨s,hs0,rfl⟩:=yk.mp hls
   exact uK (okS s hs0).1 d1' (by lia) (by lia) (by lia)
  have alk:(ss.map (dn ((D0:Nat):Int).toNat hs.length ps)).map (·.map rC)=(ss.map (bG ((D0:Nat):Int).toNat hs.length ps)).map (·.map rC):=by
   rw[yW,yW]
   exact yR fun s hs0=>rP ((D0:Nat):Int).toNat hs.length ps fun k=>((okS s hs0).1.c4 k).1
  have ll1:1≤(ss.map (dn ((D0:Nat):Int).toNat hs.length ps)).length:=by rw[ya];omega
  have ll6:(ss.map (dn ((D0:Nat):Int).toNat hs.length ps)).length≤6:=by rw[ya];omega
  have hkp:∀ls∈ss.map (bG ((D0:Nat):Int).toNat hs.length ps),gR rota ls:=fun ls hls=>by
   obtain⟨s,hs0,rfl⟩:=yk.mp hls
   exact(okS s hs0).2
  generalize ss.map (dn ((D0:Nat):Int).toNat hs.length ps)=lls at hTo hlen alk ll1 ll6
  generalize ss.map (bG ((D0:Nat):Int).toNat hs.length ps)=sums at hT hfin alk hkp
  have hrl:(hs.map fun h=>ch h ps).length=hs.length:=ya ..
  have r9:∀r∈hs.map (fun h=>ch h ps),0<r.length∧r.length≤9:=fun r hr=>by
   obtain⟨h,_,rfl⟩:=yk.mp hr
   have:=iK h ps
   exact⟨ygb _,by lia⟩
  have D31:D0≤31:=by lia
  clear hul okS sl1 sl6
  rw[u1];clear u1
  refine ap fun U1 u1=>?_
  lk
  refine⟨a,rt,TL,o,ns,D0,ut,vt,uo,rota,lls,_,rfl,G7.seq hS,hn,ert,hRt,(fun row hr=>(hrv row hr).1),by rw[hrl];omega,eTL,hTo,ll1,ll6,hlen,eo,hRo,r9,by rw[hrl];lia,D31,fun pp up sts H8 g8 hpp epp hSt sus s24=>?_⟩
  replace hT:=hT.mono g8
  replace ert:=g8 _ _ ert
  replace hRt:=hRt.mono g8
  have G8:=G7.trans g8
  clear eTL hTo eo hRo g8 hpp G7
  rw[u1];clear u1
  refine fO (fun σ H'=>∃(pp':Addr) (up':List V) (sts':List Stp),az H8 H'∧H' pp'=some (.lst up')∧dW H' up' sts'∧(∀st∈sts',ke st)∧sts'.length≤24∧σ=[some (.ref a),some (.int D0),some (.ref ha),some (.ref pa),some (.ref o),some (.ref rt),some (.ref D),some (.ref TL),some (.ref x),some (.ref pp'),none,none]) ?_ ?_
  ·lk
   refine⟨a,ns,_,rfl,G8.seq hS,hn,by decide,by decide,fun c c0 c1=>⟨c,rfl,by decide,?_⟩⟩
   split
   ·refine⟨a,ns,_,rfl,G8.seq hS,hn,by decide,by decide,fun e e0 e1=>⟨e,rfl,⟨by decide,by decide⟩,up,.inl (SqL.of epp),by lia,up,SqL.of epp,fun p hp=>?_⟩⟩
    have y0:=yA (e / 3) (b:=(up.length:Int)+1) (by lia)
    have y1:=yw (e / 3) (b:=(up.length:Int)+1) (by lia)
    rw[qk up y0 (by lia)]
    generalize (e / 3 % ((up.length:Int)+1)).toNat=kk at y0 y1 ⊢
    have gp:=ah hp (.lst (up.take kk))
    exact⟨gp,p,_,ae,sts.take kk,dW.tmono (aC gp) (Paired.take kk hSt),(fun st hm=>sus st (List.mem_of_mem_take hm)),by rw[yr];lia,rfl⟩
   ·exact⟨az.refl _,pp,up,epp,sts,hSt,sus,s24,rfl⟩
  clear epp hSt sus s24
  rintro σ H9 ⟨pp,up,sts,g9,epp,hSt,sus,s24,rfl⟩
  replace hT:=hT.mono g9
  replace ert:=g9 _ _ ert
  replace hRt:=hRt.mono g9
  clear g9 G8
  refine ap fun U1 u1=>?_
  lk
  refine⟨_,.inl (SqL.of epp),fun hd hhd=>?_⟩
  have gh:=ah hhd (.lst up)
  have ehd:=ae (H:=H9) (a:=hd) (o:=.lst up)
  replace epp:=gh _ _ epp
  replace hSt:=dW.tmono (aC gh) hSt
  replace hT:=hT.mono gh
  replace ert:=gh _ _ ert
  replace hRt:=hRt.mono gh
  clear gh hhd
  generalize upd H9 hd (.lst up)=Ha at ehd epp hSt hT ert hRt ⊢
  have hrf:=hSt.refs
  rw[u1];clear u1
  refine ap fun U1 u1=>?_
  lk
  have hone:∀cs,cL (gS sums hs ps (D0:Int)) sts=some cs→cP rota cs=1:=fun cs e=>sO (c:=gS sums hs ps (D0:Int)) (rows:=rota) (fun us p he=>uq hkp (fun ls hls ℓ hℓ=>((hfin ls hls).2 ℓ hℓ).2) (fun h d hh hd=>tl3 h d hh (by lia)) he) (fun h d hh hd=>tl3 h d hh (by have hd:d<((D0:Nat):Int).toNat:=hd;lia)) (fun h _=>sd _ _) e
  have sl20:sums.length≤20:=by
   have:=congrArg List.length alk
   rw[ya,ya] at this
   lia
  refine⟨x,rt,(D0:Int),hs,ps,ut,rota,sums,rfl,hT,by lia,by lia,ert,hRt,(fun row hr=>by rw[(hrv row hr).1];lia),by lia,sl20,(fun ls hls=>⟨(hfin ls hls).1,fun ℓ hℓ=>⟨by have:=((hfin ls hls).2 ℓ hℓ).1;lia,fun q hq=>wO (((hfin ls hls).2 ℓ hℓ).2 q hq)⟩⟩),fun Hb gb=>⟨_,rfl,?_⟩⟩
  rw[hTab,decide_eq_true (nT hkp),if_neg (by decide)]
  refine⟨x,hd,(D0:Int),hs,ps,sums,up,sts,rfl,hT.mono gb,okw,hfin,gb _ _ ehd,dW.tmono (aC gb) hSt,sus,by lia,fun Hc gc=>⟨_,rfl,?_⟩⟩
  rw[u5 hone,if_neg (by decide)]
  have g:=gb.trans gc
  replace hT:=hT.mono g
  replace ert:=g _ _ ert
  replace hRt:=hRt.mono g
  replace ehd:=g _ _ ehd
  replace epp:=g _ _ epp
  replace hSt:=dW.tmono (aC g) hSt
  clear gb gc g
  rw[u1];clear u1
  refine ap fun U1 u1=>?_
  lk
  refine⟨x,hd,(D0:Int),hs,ps,sums,up,sts,rfl,hT,okw,hfin,ehd,hSt,sus,by lia,(fun hz Hd gd=>?_),fun cs hz rc ur Hd gd hrc erc hDr hok hfr=>?_⟩
  ·rw[u1];clear u1
   refine ap fun U1 u1=>?_
   lk
   refine⟨hd,pp,up,rfl,rfl,SqL.of (gd _ _ ehd),SqL.of (gd _ _ epp),hrf,_,rfl,?_⟩
   rw[if_neg (by decide)]
   rw[u1];clear u1
   refine ap fun U1 u1=>?_
   lk
   exact k _
  ·rw[u1];clear u1
   refine ap fun U1 u1=>?_
   lk
   refine⟨hd,pp,up,rfl,rfl,SqL.of (gd _ _ ehd),SqL.of (gd _ _ epp),hrf,_,rfl,?_⟩
   rw[if_neg (by decide)]
   rw[u1];clear u1
   refine ap fun U1 u1=>?_
   lk
   rw[if_neg (by simp)]
   rw[u1];clear u1
   refine ap fun U1 u1=>?_
   lk
   refine⟨"list",.inl ⟨rfl,_,erc⟩,?_⟩
   rw[if_neg (by decide)]
   rw[u1];clear u1
   lk
   have hul2:=Paired.length hDr
   refine⟨⟨_,SqL.of erc⟩,fun E1 hE1=>aQ (xs:=ur) (fun i σ H'=>(az Hd H'∧∃zs:List V,H' E1=some (.lst zs)∧zs.length=cP rota (cs.take i)∧zs.length≤i)∧∃v0,σ=[v0,some (.ref rt)]) ⟨⟨ah hE1 _,[],ae,rfl,yd _⟩,none,rfl⟩ (fun i σ H' _ hh=>SqL.of (hh.1.1 _ _ erc)) ?_ ?_⟩
   ·rintro i v σ H' hx ⟨⟨g,zs,e,hzl,hzi⟩,v0,rfl⟩
    obtain⟨p,hp,dd,rfl,edd,pdd⟩:=Paired.get' hDr hx
    have hi:=(List.getElem?_eq_some_iff.mp hp).1
    obtain⟨pk1,pk2⟩:=hok.2 p (yc hp)
    have g':=gd.trans g
    lk
    rw[ye,← tl1] at pk1
    have hcl:=hok.1
    refine⟨dd,rt,ut,rota,p,D0,rfl,g _ _ edd,pk1,by lia,g' _ _ ert,hRt.mono g',(fun row hr=>(hrv row hr).1),by lia,D31,fun b H1 g1 hb=>⟨b,rfl,?_⟩⟩
    rw[pY hp]
    cases b with
    | true =>
     rw[if_pos rfl,fZ (hb.mp rfl)]
     exact⟨zs,g1 _ _ e,qP (by lia),aJ hE1 (g.trans g1) _,zs++[.ref dd],ae,by rw[yf,hzl];rfl,by rw[yf,yJ];lia⟩
    | false =>
     rw[if_neg (by decide),fm (fun y=>by have:=hb.mpr y;cases this)]
     exact⟨g.trans g1,zs,g1 _ _ e,hzl,by lia⟩
   rintro σ H' ⟨⟨g,zs,e,hzl,hzi⟩,v0,rfl⟩
   lk
   rw[hul2,yo,hone cs hz] at hzl
   refine⟨zs,.inl (SqL.of e),?_⟩
   rw[decide_eq_true (by lia)]
   exact k _
end
section
structure Pwb(P:Program)(w:World)(base:Heap):Prop where
variable{P:Program}{w:World}{K:PySem.W.Frag}{mg:Str→Option Value}{base:Heap}{x qual:Str}{st:Stmt}{f:Addr}{fd:FuncData}{k:Nat}{sp:Sp}{ps:List Str}{C:Addr}{m:Str}
theorem BM{α:Type}{us:List α}(h:us.length=1):∃u0:α,us=[u0]:=match us,h with | [u0],_=>⟨u0,rfl⟩
theorem bn1{p0:Str}(F:Fun K x qual st f fd)(h:∀(kV doc pm:Value) (an:Option Addr) (cdv ct u0:Value),bindArgs (PySem.W.fnOf x qual (cO st) (cA st) (ao st) .none kV doc pm an cdv ct) ⟨[u0],[]⟩=pure [(p0,u0)]:=by intros;rfl):cn K fd [p0] []:=F.binds fun a b c d e g us hl=>by
 obtain⟨u0,rfl⟩:=BM (us:=us) hl
 exact h a b c d e g u0
theorem Ct{α:Type}{us:List α}(h:us.length=2):∃u0 u1:α,us=[u0,u1]:=match us,h with | [u0,u1],_=>⟨u0,u1,rfl⟩
theorem bn2{p0 p1:Str}(F:Fun K x qual st f fd)(h:∀(kV doc pm:Value) (an:Option Addr) (cdv ct u0 u1:Value),bindArgs (PySem.W.fnOf x qual (cO st) (cA st) (ao st) .none kV doc pm an cdv ct) ⟨[u0,u1],[]⟩=pure [(p0,u0),(p1,u1)]:=by intros;rfl):cn K fd [p0,p1] []:=F.binds fun a b c d e g us hl=>by
 obtain⟨u0,u1,rfl⟩:=Ct (us:=us) hl
 exact h a b c d e g u0 u1
theorem CB{α:Type}{us:List α}(h:us.length=3):∃u0 u1 u2:α,us=[u0,u1,u2]:=match us,h with | [u0,u1,u2],_=>⟨u0,u1,u2,rfl⟩
theorem bn3{p0 p1 p2:Str}(F:Fun K x qual st f fd)(h:∀(kV doc pm:Value) (an:Option Addr) (cdv ct u0 u1 u2:Value),bindArgs (PySem.W.fnOf x qual (cO st) (cA st) (ao st) .none kV doc pm an cdv ct) ⟨[u0,u1,u2],[]⟩=pure [(p0,u0),(p1,u1),(p2,u2)]:=by intros;rfl):cn K fd [p0,p1,p2] []:=F.binds fun a b c d e g us hl=>by
 obtain⟨u0,u1,u2,rfl⟩:=CB (us:=us) hl
 exact h a b c d e g u0 u1 u2
theorem BW{α:Type}{us:List α}(h:us.length=4):∃u0 u1 u2 u3:α,us=[u0,u1,u2,u3]:=match us,h with | [u0,u1,u2,u3],_=>⟨u0,u1,u2,u3,rfl⟩
theorem bn4{p0 p1 p2 p3:Str}(F:Fun K x qual st f fd)(h:∀(kV doc pm:Value) (an:Option Addr) (cdv ct u0 u1 u2 u3:Value),bindArgs (PySem.W.fnOf x qual (cO st) (cA st) (ao st) .none kV doc pm an cdv ct) ⟨[u0,u1,u2,u3],[]⟩=pure [(p0,u0),(p1,u1),(p2,u2),(p3,u3)]:=by intros;rfl):cn K fd [p0,p1,p2,p3] []:=F.binds fun a b c d e g us hl=>by
 obtain⟨u0,u1,u2,u3,rfl⟩:=BW (us:=us) hl
 exact h a b c d e g u0 u1 u2 u3
theorem Cu{α:Type}{us:List α}(h:us.length=5):∃u0 u1 u2 u3 u4:α,us=[u0,u1,u2,u3,u4]:=match us,h with | [u0,u1,u2,u3,u4],_=>⟨u0,u1,u2,u3,u4,rfl⟩
theorem bn5{p0 p1 p2 p3 p4:Str}(F:Fun K x qual st f fd)(h:∀(kV doc pm:Value) (an:Option Addr) (cdv ct u0 u1 u2 u3 u4:Value),bindArgs (PySem.W.fnOf x qual (cO st) (cA st) (ao st) .none kV doc pm an cdv ct) ⟨[u0,u1,u2,u3,u4],[]⟩=pure [(p0,u0),(p1,u1),(p2,u2),(p3,u3),(p4,u4)]:=by intros;rfl):cn K fd [p0,p1,p2,p3,p4] []:=F.binds fun a b c d e g us hl=>by
 obtain⟨u0,u1,u2,u3,u4,rfl⟩:=Cu (us:=us) hl
 exact h a b c d e g u0 u1 u2 u3 u4
theorem nC(Z:Pwb P w base)(o:aT P w K mg base CX0 k f fd ps sp)(b:cn K fd ps [])(F:Fun K x qual st f fd)(a:mg x=some (.ref f)):Cal P w K mg base x ps k sp:=⟨f,fd,o,b,F.kp,a⟩
theorem nX(Z:Pwb P w base)(o:aT P w K mg base (CX1 P w) k f fd ps sp)(b:cn K fd ps [])(F:Fun K x qual st f fd)(a:mg x=some (.ref f)):uh P w K mg base x ps k sp:=⟨f,fd,o,b,F.kp,a⟩
theorem nI(Z:Pwb P w base)(o:aT P w K mg base CX0 k f fd ps sp)(b:cn K fd ps [])(a:Mk K C f)(c:mg x=some (.ref C)):i6 P w K mg base x C ps k sp:=⟨f,fd,o,b,a,c⟩
theorem nM(Z:Pwb P w base)(o:aT P w K mg base CX0 k f fd ps sp)(b:cn K fd ps [])(a:cT K C m f)(c:Cls K C):c5 P w K mg base C m ps k sp:=⟨f,fd,o,b,a,c⟩
end
theorem zq{l:PySem.W.OpenLaw}{w:World}{K:PySem.W.Frag}{mg:Str→Option Value}{fa:Addr}(hfa:mg "law" = some (.ref fa))
  {C_Ward:Addr}
  {zaY_:Addr}
  {C_Want:Addr}
  {C_Most:Addr}
  {zS_:Addr}
  {zI_:Addr}
  {C_Away:Addr}
  {zap_:Addr}
  {zO_:Addr}
  {zdQ_:Addr}
  {f1 f2 f3 f4 f5 f6 f7 f8 f9 f10 f11 f12 f13 f14 f15 f16 f17 f18 f19 f20 f21 f22 f23 f24 f25 f26 f27 f28 f29 f30 f31 f32 f33 f34 f35 f36 f37 f38 f39 f40 f41 f42 f43 f44 f45 f46 f47 f48 f49 f50 f51 f52 f53 f54 f55 f56 f57 f58 f59 f60 f61 f62 f63 f64 f65 f66 f67 f68 f69 f70 f71 f72 f73 f74 f75 f76 f77 f78 f79 f80 f81 f82 f83 f84 f85 f86:Addr}
  {d1 d2 d3 d4 d5 d6 d7 d8 d9 d10 d11 d12 d13 d14 d15 d16 d17 d18 d19 d20 d21 d22 d23 d24 d25 d26 d27 d28 d29 d30 d31 d32 d33 d34 d35 d36 d37 d38 d39 d40 d41 d42 d43 d44 d45 d46 d47 d48 d49 d50 d51 d52 d53 d54 d55 d56 d57 d58 d59 d60 d61 d62 d63 d64 d65 d66 d67 d68 d69 d70 d71 d72 d73 d74 d75 d76 d77 d78 d79 d80 d81 d82 d83 d84 d85 d86:FuncData}
  (aC_Ward:mg "Ward" = some (.ref C_Ward)) (cl_Ward:Cls K C_Ward) (f_days_Ward:PySem.W.findIn K (.ref C_Ward) "days" = some none) (f_hands_Ward:PySem.W.findIn K (.ref C_Ward) "hands" = some none) (f_posts_Ward:PySem.W.findIn K (.ref C_Ward) "posts" = some none) (aC_Terms:mg "Terms" = some (.ref zaY_)) (cl_Terms:Cls K zaY_) (f_ward_Terms:PySem.W.findIn K (.ref zaY_) "ward" = some none)
  (f_rules_Terms:PySem.W.findIn K (.ref zaY_) "rules" = some none) (f_sums_Terms:PySem.W.findIn K (.ref zaY_) "sums" = some none) (aC_Want:mg "Want" = some (.ref C_Want)) (cl_Want:Cls K C_Want) (f_day_Want:PySem.W.findIn K (.ref C_Want) "day" = some none) (f_post_Want:PySem.W.findIn K (.ref C_Want) "post" = some none) (f_many_Want:PySem.W.findIn K (.ref C_Want) "many" = some none) (aC_Most:mg "Most" = some (.ref C_Most))
  (cl_Most:Cls K C_Most) (f_hand_Most:PySem.W.findIn K (.ref C_Most) "hand" = some none) (f_days_Most:PySem.W.findIn K (.ref C_Most) "days" = some none) (f_many_Most:PySem.W.findIn K (.ref C_Most) "many" = some none) (aC_Least:mg "Least" = some (.ref zS_)) (cl_Least:Cls K zS_) (f_hand_Least:PySem.W.findIn K (.ref zS_) "hand" = some none) (f_days_Least:PySem.W.findIn K (.ref zS_) "days" = some none)
  (f_many_Least:PySem.W.findIn K (.ref zS_) "many" = some none) (aC_Hours:mg "Hours" = some (.ref zI_)) (cl_Hours:Cls K zI_) (f_hand_Hours:PySem.W.findIn K (.ref zI_) "hand" = some none) (f_least_Hours:PySem.W.findIn K (.ref zI_) "least" = some none) (f_most_Hours:PySem.W.findIn K (.ref zI_) "most" = some none) (aC_Away:mg "Away" = some (.ref C_Away)) (cl_Away:Cls K C_Away)
  (f_hand_Away:PySem.W.findIn K (.ref C_Away) "hand" = some none) (f_days_Away:PySem.W.findIn K (.ref C_Away) "days" = some none) (aC_Apart:mg "Apart" = some (.ref zap_)) (cl_Apart:Cls K zap_) (f_hand_Apart:PySem.W.findIn K (.ref zap_) "hand" = some none) (f_other_Apart:PySem.W.findIn K (.ref zap_) "other" = some none) (aC_Nights:mg "Nights" = some (.ref zO_)) (cl_Nights:Cls K zO_)
  (f_hand_Nights:PySem.W.findIn K (.ref zO_) "hand" = some none) (f_many_Nights:PySem.W.findIn K (.ref zO_) "many" = some none) (aC_NoTable:mg "NoTable" = some (.ref zdQ_)) (xx_NoTable:PySem.W.excIn K zdQ_ bmV "ValueError.__new__" = true) (a1:mg "has_day" = some (.ref f1)) (F1:Fun K "has_day" "has_day" xG f1 d1) (a2:mg "has_post" = some (.ref f2)) (F2:Fun K "has_post" "has_post" Aw f2 d2)
  (a3:mg "is_many" = some (.ref f3)) (F3:Fun K "is_many" "is_many" zc f3 d3) (a4:cT K C_Want "fits" f4) (F4:Fun K "fits" "Want.fits" xc f4 d4) (a5:mg "has_hand" = some (.ref f5)) (F5:Fun K "has_hand" "has_hand" zX f5 d5) (a6:mg "is_days" = some (.ref f6)) (F6:Fun K "is_days" "is_days" Bc f6 d6)
  (a7:cT K C_Most "fits" f7) (F7:Fun K "fits" "Most.fits" xm f7 d7) (a8:cT K zS_ "fits" f8) (F8:Fun K "fits" "Least.fits" w6 f8 d8) (a9:cT K C_Away "fits" f9) (F9:Fun K "fits" "Away.fits" wU f9 d9) (a10:cT K zO_ "fits" f10) (F10:Fun K "fits" "Nights.fits" AB f10 d10)
  (a11:cT K zI_ "fits" f11) (F11:Fun K "fits" "Hours.fits" y3 f11 d11) (a12:mg "are_two_hands" = some (.ref f12)) (F12:Fun K "are_two_hands" "are_two_hands" zP f12 d12) (a13:cT K zap_ "fits" f13) (F13:Fun K "fits" "Apart.fits" zt f13 d13) (a14:mg "need_rules" = some (.ref f14)) (F14:Fun K "need_rules" "need_rules" wX f14 d14)
  (a15:cT K C_Want "lines" f15) (F15:Fun K "lines" "Want.lines" Am f15 d15) (a16:mg "spread" = some (.ref f16)) (F16:Fun K "spread" "spread" wY f16 d16) (a17:mg "covers" = some (.ref f17)) (F17:Fun K "covers" "covers" zG f17 d17) (a18:mg "members" = some (.ref f18)) (F18:Fun K "members" "members" xq f18 d18)
  (a19:mg "first_days" = some (.ref f19)) (F19:Fun K "first_days" "first_days" xC f19 d19) (a20:mg "days_of" = some (.ref f20)) (F20:Fun K "days_of" "days_of" AN f20 d20) (a21:mg "all_posts" = some (.ref f21)) (F21:Fun K "all_posts" "all_posts" xt f21 d21) (a22:cT K C_Most "lines" f22) (F22:Fun K "lines" "Most.lines" xh f22 d22)
  (a23:cT K zS_ "lines" f23) (F23:Fun K "lines" "Least.lines" xl f23 d23) (a24:cT K C_Away "lines" f24) (F24:Fun K "lines" "Away.lines" xj f24 d24) (a25:cT K C_Ward "is_night" f25) (F25:Fun K "is_night" "Ward.is_night" xX f25 d25) (a26:mg "posts_by_night" = some (.ref f26)) (F26:Fun K "posts_by_night" "posts_by_night" wV f26 d26)
  (a27:cT K zO_ "lines" f27) (F27:Fun K "lines" "Nights.lines" Ap f27 d27) (a28:cT K C_Ward "hours" f28) (F28:Fun K "hours" "Ward.hours" xT f28 d28) (a29:cT K zI_ "by_hours" f29) (F29:Fun K "by_hours" "Hours.by_hours" AJ f29 d29) (a30:cT K zI_ "lines" f30) (F30:Fun K "lines" "Hours.lines" zx f30 d30)
  (a31:mg "two_parts" = some (.ref f31)) (F31:Fun K "two_parts" "two_parts" xJ f31 d31) (a32:mg "places" = some (.ref f32)) (F32:Fun K "places" "places" zZ f32 d32) (a33:cT K zap_ "lines" f33) (F33:Fun K "lines" "Apart.lines" AS f33 d33) (a34:Mk K zaY_ f34) (F34:Fun K "__init__" "Terms.__init__" Br f34 d34)
  (a35:mg "is_free" = some (.ref f35)) (F35:Fun K "is_free" "is_free" Ac f35 d35) (a36:mg "summed" = some (.ref f36)) (F36:Fun K "summed" "summed" zF f36 d36) (a37:cT K C_Ward "choices" f37) (F37:Fun K "choices" "Ward.choices" xW f37 d37) (a38:mg "best" = some (.ref f38)) (F38:Fun K "best" "best" m4 f38 d38)
  (a39:mg "closes" = some (.ref f39)) (F39:Fun K "closes" "closes" zw f39 d39) (a40:mg "is_there" = some (.ref f40)) (F40:Fun K "is_there" "is_there" AA f40 d40) (a41:mg "ends" = some (.ref f41)) (F41:Fun K "ends" "ends" nJ f41 d41) (a42:mg "is_step" = some (.ref f42)) (F42:Fun K "is_step" "is_step" zr f42 d42)
  (a43:mg "parted" = some (.ref f43)) (F43:Fun K "parted" "parted" xR f43 d43) (a44:mg "left" = some (.ref f44)) (F44:Fun K "left" "left" mO f44 d44) (a45:mg "need_month" = some (.ref f45)) (F45:Fun K "need_month" "need_month" xb f45 d45) (a46:mg "is_skills" = some (.ref f46)) (F46:Fun K "is_skills" "is_skills" AL f46 d46)
  (a47:mg "need_hands" = some (.ref f47)) (F47:Fun K "need_hands" "need_hands" Av f47 d47) (a48:mg "is_post" = some (.ref f48)) (F48:Fun K "is_post" "is_post" xf f48 d48) (a49:mg "need_posts" = some (.ref f49)) (F49:Fun K "need_posts" "need_posts" wW f49 d49) (a50:Mk K C_Ward f50) (F50:Fun K "__init__" "Ward.__init__" zg f50 d50)
  (a51:Mk K zap_ f51) (F51:Fun K "__init__" "Apart.__init__" zD f51 d51) (a52:Mk K C_Want f52) (F52:Fun K "__init__" "Want.__init__" A8 f52 d52) (a53:Mk K C_Most f53) (F53:Fun K "__init__" "Most.__init__" wK f53 d53) (a54:Mk K zS_ f54) (F54:Fun K "__init__" "Least.__init__" Aa f54 d54)
  (a55:Mk K C_Away f55) (F55:Fun K "__init__" "Away.__init__" w8 f55 d55) (a56:Mk K zO_ f56) (F56:Fun K "__init__" "Nights.__init__" zT_ f56 d56) (a57:Mk K zI_ f57) (F57:Fun K "__init__" "Hours.__init__" AT f57 d57) (a58:mg "is_row" = some (.ref f58)) (F58:Fun K "is_row" "is_row" Bf f58 d58)
  (a59:mg "is_table" = some (.ref f59)) (F59:Fun K "is_table" "is_table" wJ f59 d59) (a60:mg "copied" = some (.ref f60)) (F60:Fun K "copied" "copied" Au f60 d60) (a61:mg "need_table" = some (.ref f61)) (F61:Fun K "need_table" "need_table" AH f61 d61) (a62:mg "holds" = some (.ref f62)) (F62:Fun K "holds" "holds" Aj f62 d62)
  (a63:mg "total" = some (.ref f63)) (F63:Fun K "total" "total" zE f63 d63) (a64:mg "faults" = some (.ref f64)) (F64:Fun K "faults" "faults" AO f64 d64) (a65:mg "meets" = some (.ref f65)) (F65:Fun K "meets" "meets" xz f65 d65) (a66:mg "is_paper" = some (.ref f66)) (F66:Fun K "is_paper" "is_paper" AZ f66 d66)
  (a67:mg "_law_cell" = some (.ref f67)) (F67:Fun K "_law_cell" "_law_cell" zN f67 d67) (a68:mg "_law_tables" = some (.ref f68)) (F68:Fun K "_law_tables" "_law_tables" AF f68 d68) (a69:mg "_law_options" = some (.ref f69)) (F69:Fun K "_law_options" "_law_options" zf f69 d69) (a70:mg "_law_ward" = some (.ref f70)) (F70:Fun K "_law_ward" "_law_ward" Bl f70 d70)
  (a71:mg "_law_rota" = some (.ref f71)) (F71:Fun K "_law_rota" "_law_rota" wN f71 d71) (a72:mg "_law_agrees" = some (.ref f72)) (F72:Fun K "_law_agrees" "_law_agrees" x9 f72 d72) (a73:mg "_law_numbers" = some (.ref f73)) (F73:Fun K "_law_numbers" "_law_numbers" y6 f73 d73) (a74:mg "_law_closes" = some (.ref f74)) (F74:Fun K "_law_closes" "_law_closes" Bt f74 d74)
  (a75:mg "_law_end" = some (.ref f75)) (F75:Fun K "_law_end" "_law_end" zU f75 d75) (a76:mg "_law_part" = some (.ref f76)) (F76:Fun K "_law_part" "_law_part" zQ f76 d76) (a77:mg "_law_drawn" = some (.ref f77)) (F77:Fun K "_law_drawn" "_law_drawn" xD f77 d77) (a78:mg "_law_steps" = some (.ref f78)) (F78:Fun K "_law_steps" "_law_steps" xZ f78 d78)
  (a79:mg "_law_post" = some (.ref f79)) (F79:Fun K "_law_post" "_law_post" xE f79 d79) (a80:mg "_law_run" = some (.ref f80)) (F80:Fun K "_law_run" "_law_run" xM f80 d80) (a81:mg "_law_met" = some (.ref f81)) (F81:Fun K "_law_met" "_law_met" AV f81 d81) (a82:mg "_law_work" = some (.ref f82)) (F82:Fun K "_law_work" "_law_work" xS f82 d82)
  (a83:mg "_law_single" = some (.ref f83)) (F83:Fun K "_law_single" "_law_single" zn f83 d83) (a84:mg "_law_lines" = some (.ref f84)) (F84:Fun K "_law_lines" "_law_lines" zb f84 d84) (a85:mg "_law_rule" = some (.ref f85)) (F85:Fun K "_law_rule" "_law_rule" xH f85 d85) (a86:mg "law" = some (.ref f86)) (F86:Fun K "law" "law" sR f86 d86)
  (z1:mg "all" = none) (z2:mg "bool" = none) (z3:mg "dict" = none) (z4:mg "enumerate" = none) (z5:mg "int" = none) (z6:mg "isinstance" = none) (z7:mg "len" = none) (z8:mg "list" = none)
  (z9:mg "max" = none) (z10:mg "min" = none) (z11:mg "range" = none) (z12:mg "reversed" = none) (z13:mg "str" = none) (z14:mg "sum" = none) (z15:mg "tuple" = none) (g1:∃tk,mg "MOST_DAYS" = some (.int 31 tk))
  (g2:∃tk,mg "MOST_HANDS" = some (.int 8 tk)) (g3:∃tk,mg "MOST_MANY" = some (.int 99 tk)) (g4:∃tk,mg "MOST_POSTS" = some (.int 6 tk)) (g5:∃tk,mg "MOST_RULES" = some (.int 120 tk))
 :∃fd:FuncData,(∀(s:Shared) (v:Value),BindsTo s fd ⟨[v],[]⟩ [("_law_script",v)])∧∀base:Heap,K.In base→base.Ns mainGlobals mg→aT l.prog w K mg base CX0 9 fa fd ["_law_script"] (kQ K):=by
 let ζ:Cs:=⟨C_Ward,zaY_,C_Want,C_Most,zS_,zI_,C_Away,zap_,zO_,zdQ_⟩
 have e:=hfa.symm.trans a86
 cases e
 have T:Txt K mg ζ:=⟨z1,z2,z3,z4,z5,z6,z7,z8,z9,z10,z11,z12,z13,z14,z15,g1,g2,g3,g4,g5,cl_Ward,f_days_Ward,f_hands_Ward,f_posts_Ward,cl_Terms,f_ward_Terms,f_rules_Terms,f_sums_Terms,cl_Want,f_day_Want,f_post_Want,f_many_Want,cl_Most,f_hand_Most,f_days_Most,f_many_Most,cl_Least,f_hand_Least,f_days_Least,f_many_Least,cl_Hours,f_hand_Hours,f_least_Hours,f_most_Hours,cl_Away,f_hand_Away,f_days_Away,cl_Apart,f_hand_Apart,f_other_Apart,cl_Nights,f_hand_Nights,f_many_Nights,⟨aC_NoTable,xx_NoTable⟩⟩
 refine⟨d86,fun s v=>?_,fun base _ _=>?_⟩
 ·obtain⟨_,_,_,_,_,_,_,_,_,rfl,_,_⟩:=F86.ex
  exact .of_eq rfl
 have Z:Pwb l.prog w base:=⟨⟩
 have zao_:=nC Z (Dr F1 T) (bn2 F1) F1 a1
 have zdi_:=nC Z (CV F2 T) (bn2 F2) F2 a2
 have zl_:=nC Z (FM F3 T) (bn1 F3) F3 a3
 have zcN_:=nM Z (FS F4 T zao_ zdi_ zl_) (bn2 F4) a4 T.cl_Want
 have zb_:=nC Z (CM F5 T) (bn2 F5) F5 a5
 have zv_:=nC Z (CS F6 T) (bn1 F6) F6 a6
 have zcO_:=nM Z (Dj F7 T zb_ zv_ zl_) (bn2 F7) a7 T.cl_Most
 have zcc_:=nM Z (EU F8 T zb_ zv_ zl_) (bn2 F8) a8 T.cl_Least
 have zcP_:=nM Z (CO F9 T zb_ zv_) (bn2 F9) a9 T.cl_Away
 have zbn_:=nM Z (Ev F10 T zb_ zl_) (bn2 F10) a10 T.cl_Nights
 have zcd_:=nM Z (Dx F11 T zb_) (bn2 F11) a11 T.cl_Hours
 have zax_:=nC Z (Fi F12 T zb_) (bn3 F12) F12 a12
 have zce_:=nM Z (CJ F13 T zax_) (bn2 F13) a13 T.cl_Apart
 have zci_:=nC Z (Ed F14 T zcN_ zcO_ zcc_ zcP_ zbn_ zcd_ zce_) (bn2 F14) F14 a14
 have zcj_:=nM Z (FV F15 T) (bn2 F15) a15 T.cl_Want
 have zk_:=nC Z (Ga F16 T) (bn4 F16) F16 a16
 have zaN_:=nC Z (DG F17 T) (bn2 F17) F17 a17
 have zdC_:=nC Z (EF F18 T zaN_) (bn1 F18) F18 a18
 have zcf_:=nC Z (ER F19 T) (bn1 F19) F19 a19
 have zw_:=nC Z (Eu F20 T zdC_ zcf_) (bn2 F20) F20 a20
 have zc_:=nC Z (Fn F21 T) (bn1 F21) F21 a21
 have zck_:=nM Z (DJ F22 T zk_ zw_ zc_) (bn2 F22) a22 T.cl_Most
 have zbt_:=nM Z (EA F23 T zk_ zw_ zc_) (bn2 F23) a23 T.cl_Least
 have zcl_:=nM Z (Ep F24 T zk_ zw_ zc_) (bn2 F24) a24 T.cl_Away
 have zaz_:=nM Z (Fw F25 T) (bn2 F25) a25 T.cl_Ward
 have zaj_:=nC Z (Ee F26 T zc_ zaz_) (bn1 F26) F26 a26
 have zaR_:=nM Z (FZ F27 T zaj_ zk_) (bn2 F27) a27 T.cl_Nights
 have zcg_:=nM Z (DW F28 T) (bn2 F28) a28 T.cl_Ward
 have zF_:=nM Z (CU F29 T zc_ zk_ zcg_) (bn3 F29) a29 T.cl_Hours
 have zbu_:=nM Z (DI F30 T zF_) (bn2 F30) a30 T.cl_Hours
 have zcQ_:=nC Z (CK F31 T) (bn4 F31) F31 a31
 have zer_:=nC Z (Fl F32 T zc_) (bn1 F32) F32 a32
 have zbv_:=nM Z (CZ F33 T zcQ_ zer_) (bn2 F33) a33 T.cl_Apart
 have zfj_:=nI Z (FQ F34 T zci_ zcj_ zck_ zbt_ zcl_ zaR_ zbu_ zbv_) (bn3 F34) a34 aC_Terms
 have zdH_:=nC Z (DR F35 T zb_ zao_) (bn4 F35) F35 a35
 have zes_:=nC Z (E2 F36 T) (bn1 F36) F36 a36
 have zh_:=nM Z (D9 F37 T zaN_) (bn2 F37) a37 T.cl_Ward
 have C_best:=nC Z (C5 F38 T zh_) (bn3 F38) F38 a38
 have zet_:=nC Z (Ey F39 T zes_ C_best) (bn3 F39) F39 a39
 have zdl_:=nC Z (FC F40 T) (bn3 F40) F40 a40
 have C_ends:=nC Z (DD F41 T zet_ zdl_) (bn3 F41) F41 a41
 have zdJ_:=nC Z (FO F42 T zdH_ C_ends) (bn3 F42) F42 a42
 have zeu_:=nC Z (EE F43 T zh_) (bn4 F43) F43 a43
 have C_left:=nC Z (DK F44 T zdJ_ zeu_) (bn2 F44) F44 a44
 have zcm_:=nC Z (C9 F45 T) (bn1 F45) F45 a45
 have zH_:=nC Z (ED F46 T) (bn1 F46) F46 a46
 have zcn_:=nC Z (Fe F47 T zH_) (bn1 F47) F47 a47
 have zdK_:=nC Z (Dq F48 T zH_) (bn1 F48) F48 a48
 have zco_:=nC Z (C8 F49 T zdK_) (bn1 F49) F49 a49
 have I_Ward:=nI Z (C6 F50 T zcm_ zcn_ zco_) (bn4 F50) a50 aC_Ward
 have zfg_:=nI Z (FF F51 T) (bn3 F51) a51 aC_Apart
 have I_Want:=nI Z (Eh F52 T) (bn4 F52) a52 aC_Want
 have I_Most:=nI Z (El F53 T) (bn4 F53) a53 aC_Most
 have zfh_:=nI Z (DQ F54 T) (bn4 F54) a54 aC_Least
 have I_Away:=nI Z (C2 F55 T) (bn3 F55) a55 aC_Away
 have zeI_:=nI Z (Dc F56 T) (bn3 F56) a56 aC_Nights
 have zfi_:=nI Z (EG F57 T) (bn4 F57) a57 aC_Hours
 have zeD_:=nC Z (FY F58 T zh_) (bn3 F58) F58 a58
 have zQ_:=nC Z (Eg F59 T zeD_) (bn2 F59) F59 a59
 have zeE_:=nC Z (Fj F60 T) (bn1 F60) F60 a60
 have X_need_table:=nX Z (Fg F61 T zeE_ zQ_) (bn2 F61) F61 a61
 have zfa_:=nC Z (Ex F62 T) (bn4 F62) F62 a62
 have zfb_:=nC Z (Dn F63 T zfa_) (bn2 F63) F63 a63
 have X_faults:=nX Z (Fv F64 T X_need_table zfb_) (bn2 F64) F64 a64
 have zfk_:=nC Z (EC F65 T zQ_ X_faults) (bn2 F65) F65 a65
 have zdr_:=nC Z (Fm F66 T C_left) (bn2 F66) F66 a66
 have za_:=nC Z (FG F67 T) (bn2 F67) F67 a67
 have zbC_:=nC Z (Ea F68 T) (bn2 F68) F68 a68
 have zt_:=nC Z (Da F69 T) (bn2 F69) F69 a69
 have zcX_:=nC Z (Dl F70 T za_ zbC_ zt_) (bn2 F70) F70 a70
 have zcY_:=nC Z (DT F71 T za_) (bn4 F71) F71 a71
 have zu_:=nC Z (FL F72 T) (bn2 F72) F72 a72
 have zaW_:=nC Z (DY F73 T) (bn1 F73) F73 a73
 have zbD_:=nC Z (DO F74 T zaW_) (bn4 F74) F74 a74
 have zdo_:=nC Z (EX F75 T zbD_) (bn4 F75) F75 a75
 have zcU_:=nC Z (Db F76 T) (bn4 F76) F76 a76
 have zaG_:=nC Z (FE F77 T za_) (bn3 F77) F77 a77
 have zcu_:=nC Z (FH F78 T zu_ zdo_ zcU_ zaG_ za_) (bn5 F78) F78 a78
 have zo_:=nC Z (EV F79 T) (bn2 F79) F79 a79
 have zdp_:=nC Z (DU F80 T) (bn3 F80) F80 a80
 have zdq_:=nC Z (EQ F81 T zo_ za_ zdp_) (bn4 F81) F81 a81
 have zB_:=nC Z (DB F82 T) (bn4 F82) F82 a82
 have zbH_:=nC Z (D7 F83 T zB_) (bn3 F83) F83 a83
 have zcv_:=nC Z (Df F84 T zbH_ zo_) (bn4 F84) F84 a84
 have zcZ_:=nC Z (Du F85 T zfg_ I_Want I_Most zfh_ I_Away zeI_ zfi_ zo_) (bn2 F85) F85 a85
 exact Ah F86 T zcX_ zt_ zcY_ zfj_ zcu_ C_left zdq_ zcv_ I_Ward zcZ_ za_ zfk_ zdr_ zu_
theorem Ez{l:PySem.W.OpenLaw}{q:Program}{loose:List Str}{XP:(Str→Option Value)→Heap→Prop}{YP:World→Heap→Prop}{d:DefRec}{K:Params→PySem.W.Frag}(hn:l.most=some 63)(hdf:d.params.defaults=[])
  (hY:∀(w:World) (h:Heap),YP w h→(K w.params).In h)
  (F:∀(w:World) (mg:Str→Option Value) (fa:Addr) (h:Heap),(K w.params).In h→h.Ns mainGlobals mg→mg d.name=some (.ref fa) →
   ∃fd:FuncData,(∀(s:Shared) (u:Value),BindsTo s fd ⟨[u],[]⟩ [("_law_script",u)])∧∀base:Heap,(K w.params).In base→base.Ns mainGlobals mg→aT l.prog w (K w.params) mg base CX0 9 fa fd ["_law_script"] (kQ (K w.params))) :
  PySem.W.WalkO q loose XP YP l.row.toRowW d [] (fun f vs=>PySem.call f vs) :=
 L2.vh (n:=63) (k:=9) (x := "_law_script") (CX:=fun _=>CX0) (sp:=fun w=>kQ (K w.params)) hn (by decide) hdf ⟨rfl,by decide,by decide⟩ hY F (fun _ _ a ns hl _ hS=>⟨a,ns,rfl,hS,hl,fun _=>rfl⟩) fun _ _ _ _ _ z=>z
end My
open PySem PySem.W PyProof.Rows
set_option maxRecDepth 100000 in
set_option maxHeartbeats 0 in
theorem PySem.Challenge.cw_rotaward_k35_whole_no_paper_for_what_can_holds : PySem.Challenge.rw_rotaward_k35_whole_no_paper_for_what_can.Holds := by
 w_on;o_law;k_head;(case hw=>w_witness2)
 k_fill
 refine My.Ez (l:=PySem.Challenge.rw_rotaward_k35_whole_no_paper_for_what_can) rfl rfl (fun w h Y=>PySem.W.kIn_of Y) ?F
 case F =>
  intro w mg fa h KX G hmg
  refine' My.zq hmg ?_ ?_ ?_ ?_ ?_ ?_ ?_ ?_ ?_ ?_ ?_ ?_ ?_ ?_ ?_ ?_ ?_ ?_ ?_ ?_ ?_ ?_ ?_ ?_ ?_ ?_ ?_ ?_ ?_ ?_ ?_ ?_ ?_ ?_ ?_ ?_ ?_ ?_ ?_ ?_ ?_ ?_ ?_ ?_ ?_ ?_ ?_ ?_ ?_ ?_ ?_ ?_ ?_ ?_ ?_ ?_ ?_ ?_ ?_ ?_ ?_ ?_ ?_ ?_ ?_ ?_ ?_ ?_ ?_ ?_ ?_ ?_ ?_ ?_ ?_ ?_ ?_ ?_ ?_ ?_ ?_ ?_ ?_ ?_ ?_ ?_ ?_ ?_ ?_ ?_ ?_ ?_ ?_ ?_ ?_ ?_ ?_ ?_ ?_ ?_ ?_ ?_ ?_ ?_ ?_ ?_ ?_ ?_ ?_ ?_ ?_ ?_ ?_ ?_ ?_ ?_ ?_ ?_ ?_ ?_ ?_ ?_ ?_ ?_ ?_ ?_ ?_ ?_ ?_ ?_ ?_ ?_ ?_ ?_ ?_ ?_ ?_ ?_ ?_ ?_ ?_ ?_ ?_ ?_ ?_ ?_ ?_ ?_ ?_ ?_ ?_ ?_ ?_ ?_ ?_ ?_ ?_ ?_ ?_ ?_ ?_ ?_ ?_ ?_ ?_ ?_ ?_ ?_ ?_ ?_ ?_ ?_ ?_ ?_ ?_ ?_ ?_ ?_ ?_ ?_ ?_ ?_ ?_ ?_ ?_ ?_ ?_ ?_ ?_ ?_ ?_ ?_ ?_ ?_ ?_ ?_ ?_ ?_ ?_ ?_ ?_ ?_ ?_ ?_ ?_ ?_ ?_ ?_ ?_ ?_ ?_ ?_ ?_ ?_ ?_ ?_ ?_ ?_ ?_ ?_ ?_ ?_ ?_ ?_ ?_ ?_ ?_ ?_ ?_ ?_ ?_ ?_ ?_ ?_ ?_ ?_
  all_goals first | (refine PySem.W.mg_of KX G ?_;k_is) | (refine' L2.xB ?_ ?_ ?_ <;> first | k_is | skip) | (refine PySem.W.mg_none_of KX G ?_;k_is) | (refine' L2.cT.mk ?_ ?_ ?_ <;> first | k_is | skip) | (refine' L2.Mk.mk ?_ ?_ ?_ ?_ <;> first | k_is | skip) | (refine L2.Cls.mk ?_ ?_ ?_ ?_ <;> k_is) | (exact⟨_,PySem.W.mg_of KX G (by k_is)⟩) | k_exc | k_is | skip
