import PyProof.Rows.All
import Wide.All
import OpenK.AllK
import Wide.FinOn
import Lean
import PyProof.EqAt
import PyProof.EqKinds
import PyProof.TupleCall
import PySem.Challenge.RW_rotaward_k62_a_clash_is_looked_at
def ya:=@List.length_map
def yb:=@List.getElem?_eq_getElem
def yc:=@List.getElem?_map
def yd:=@List.length_append
def ye:=@List.size_toArray
def yf:=@List.length_take
def yg:=@List.map_append
def yh:=@Int.toNat_natCast
def yi:=@Nat.le_refl
def yj:=@List.mem_cons_of_mem
def yk:=@List.mem_of_getElem?
def ym:=@List.map_cons
def yo:=@List.length_range
def yp:=@List.length_cons
def yq:=@List.mem_cons_self
def yr:=@Bool.false_ne_true
def yt:=@Option.some.inj
def yu:=@List.mem_range
def yv:=@Int.emod_nonneg
def yw:=@List.length_drop
def yx:=@List.length_singleton
def yy:=@List.sum_cons
def yz:=@List.getD_eq_getElem?_getD
def yA:=@List.take_length
def yB:=@List.mem_append_right
def yC:=@List.getElem?_eq_none
def yD:=@Int.emod_lt_of_pos
def yE:=@Nat.ne_of_lt
def yF:=@Nat.lt_of_lt_of_le
def yG:=@List.length_replicate
def yH:=@Nat.zero_le
def yI:=@List.append_nil
def yJ:=@Nat.le_trans
def yK:=@Bool.and_eq_true
def yL:=@List.all_eq_true
def yM:=@List.getElem?_append_right
def yN:=@List.range_succ
def yO:=@List.getElem_mem
def yP:=@Option.getD_some
def yQ:=@List.foldl_cons
def yR:=@Int.toNat_of_nonneg
def yS:=@Nat.lt_of_le_of_lt
def yT:=@Option.map_some
def yU:=@List.replicate_succ
def yV:=@List.getElem?_replicate
def yW:=@List.nodup_cons
def yX:=@Bool.false_and
def yY:=@List.mem_of_mem_take
def yZ:=@List.getElem?_append_left
def yaa:=@List.getElem?_range
def yba:=@List.length_filter_le
def yca:=@Bool.eq_iff_iff
def yda:=@List.sum_append
def yea:=@List.length_nil
def yfa:=@Int.natCast_nonneg
def yga:=@List.filter_append
def yha:=@List.mem_append_left
def yia:=@Nat.lt_irrefl
def yja:=@Bool.and_false
def yka:=@Array.length_toList
def yla:=@Bool.true_and
def yma:=@List.ext_getElem?
def yna:=@List.length_reverse
def yoa:=@List.take_of_length_le
def ypa:=@List.take_zero
def yqa:=@List.map_map
def yra:=@List.filter_cons_of_neg
def ysa:=@List.filter_cons_of_pos
def yta:=@List.nodup_nil
def yua:=@List.mem_flatMap
def yva:=@Ne.symm
def ywa:=@List.take_append_drop
def yxa:=@List.flatten_cons
def yya:=@Array.getElem?_eq_getElem
def yza:=@List.dropLast_concat
def yAa:=@List.mem_of_mem_drop
def yBa:=@Int.le_refl
def yCa:=@List.map_congr_left
def yDa:=@List.getElem?_cons_succ
def yEa:=@List.mem_filter
def yFa:=@List.length_set
def yGa:=@List.find?_cons
def yHa:=@List.append_assoc
def yIa:=@Nat.succ_le_succ
def yJa:=@List.cons_append
def yKa:=@List.getElem?_of_mem
def yLa:=@List.any_cons
def yMa:=@List.map_drop
def yNa:=@List.filterMap_cons
def yOa:=@List.flatMap_append
def yPa:=@List.drop_eq_getElem_cons
def yQa:=@Nat.le_of_lt
def yRa:=@Bool.false_eq_true
def ySa:=@Nat.lt_succ_of_lt
def yTa:=@Bool.not_eq_true'
def yUa:=@List.foldl_append
def yVa:=@List.getElem?_set_self
def yWa:=@List.filter_eq_nil_iff
def yXa:=@List.map_take
def yYa:=@List.nodup_range
def yZa:=@Array.getElem?_toList
def yab:=@Bool.and_eq_false_iff
def ybb:=@List.eraseIdxIfInBounds_toArray
def ycb:=@List.map_nil
def ydb:=@Nat.testBit_and
def yeb:=@Array.eq_empty_of_size_eq_zero
def yfb:=@Nat.succ_pos
def ygb:=@Nat.zero_add
def yhb:=@Nat.mul_le_mul
def yib:=@Nat.testBit_two_pow_sub_one
def yjb:=@List.pairwise_cons
def ykb:=@Int.fdiv_eq_ediv_of_nonneg
def ylb:=@List.perm_append_singleton
def ymb:=@List.nodup_append
def ynb:=@List.flatMap_cons
def yob:=@Option.isSome_map
def ypb:=@List.getElem?_set
def yqb:=@List.all_eq_false
def yrb:=@List.mem_or_eq_of_mem_set
def ysb:=@Nat.lt_succ_self
def ytb:=@Nat.succ_mul
def yub:=@List.all_map
def yvb:=@Nat.sub_self
def ywb:=@Nat.testBit_two_pow_self
def yxb:=@List.eq_of_mem_replicate
def yyb:=@List.getElem?_cons_zero
def yzb:=@List.flatMap_eq_nil_iff
def yAb:=@List.of_mem_zip
def yBb:=@Nat.le_succ
def yCb:=@Array.getElem?_eq_none
def yDb:=@List.getElem?_set_ne
def yEb:=@List.length_dropLast
def yFb:=@List.range_eq_range'
def yGb:=@List.perm_cons_erase
def yHb:=@List.replicate_succ'
def yIb:=@List.pairwise_append
def yJb:=@List.all_cons
def yKb:=@List.getElem_of_mem
def yLb:=@Nat.testBit_two_pow
def yMb:=@Array.append_assoc
def yNb:=@Nat.ne_of_gt
def yOb:=@Nat.sub_zero
def yPb:=@List.getElem?_take
set_option compiler.extract_closed false
theorem k!{p:Prop}(h:p:=by decide +kernel):p:=h
namespace PySem.W.Fast
def tw16187203317398465740:=0
def tw2523479715958195029:=0
def tw8864384804882568604:=0
def tw13932179745197578434:=0
def tw1720580301493569606:=0
def tw11078970028299471568:=0
def tw11465611703248959985:=0
def tw4928832433271686320:=0
def tw937155072466031126:=0
def tw4809293268658300687:=0
def tw16825969139926778627:=0
def tw16044273256318907032:=0
def tw8353371598609953722:=0
def tw7590528969251483924:=0
def tw13077886255050848143:=0
def tw11358287229468342755:=0
def tw3895376390276005441:=0
def tw15985364277075417728:=0
def tw4806364581369672110:=0
def tw17146585600738507904:=0
def tw1437913513919066575:=0
def tw12040341579409648490:=0
def tw15737822604342989738:=0
def tw16832759537209426167:=0
def tw1555377113432494356:=0
def tw11585824619223086908:=0
def tw511414978080451041:=0
def tw13849160733407850301:=0
def tw9041550307184554035:=0
def tw18043403464758084771:=0
def tw3599743505401040329:=0
def tw13391081771473755041:=0
def tw16268567291593385272:=0
def tw5769245596630769113:=0
def tw17658285806928694949:=0
def tw11828110748365698439:=0
def tw17608873898611455719:=0
def tw17848800995697449731:=0
def tw9812559291128980792:=0
def tw16098030318202371987:=0
def tw7769811687893367320:=0
def tw8031850033874434514:=0
def tw9117803836797277077:=0
def tw12044184926334989378:=0
def tw14211783948557077083:=0
def tw480334194651719971:=0
def tw12560414949333173195:=0
def tw42304709470076651:=0
def tw14128683032876651222:=0
def tw2211484963110526451:=0
def tw17024885448431100377:=0
def tw3122353886401965952:=0
def tw14920213987460975593:=0
def tw3187418550554120370:=0
def tw10842355309932186351:=0
def tw12612933034014645674:=0
def tw16753502232104003858:=0
def tw5912537162887923178:=0
def tw18246274874836133675:=0
def tw10164214367156042383:=0
def tw2513191185235931179:=0
def tw9628361489887116239:=0
def tw15090178510912167365:=0
def tw14936516777050149917:=0
def tw336686832909794238:=0
def tw6782168047794514088:=0
def tw3268186209063290056:=0
def tw6647879858530229972:=0
def tw17384723364425376482:=0
def tw3039440046641513662:=0
def tw15789036483835574929:=0
def tw12064845280757752659:=0
def tw14147601551920296313:=0
def tw3685191208588579843:=0
def tw16598855443403170909:=0
def tw14612119048769792300:=0
def tw16537002720251946718:=0
def tw9633939323648067006:=0
def tw3782326380909014865:=0
def tw14433985005659777996:=0
def tw18038076699468571819:=0
def tw16389957551163568965:=0
def tw8939894506578781133:=0
def tw5654567289052641480:=0
def tw687452260901579913:=0
def tw9715629010341544767:=0
def tw2868585855448009123:=0
def tw9954453429661378266:=0
def tw18104118844186379371:=0
def tw4245918909035233673:=0
def tw11748677141023671619:=0
def tw12889149554261965602:=0
def tw9796116596018266206:=0
def tw9815219313898301932:=0
def tw11482380675552787132:=0
def tw11279368574560130699:=0
def tw13001994369812521:=0
def tw10295824107142616466:=0
def tw15412540683664336322:=0
def tw17338931184868615759:=0
def tw18014365276455863247:=0
def tw11397224028438171049:=0
def tw2374588367046521654:=0
def tw11829410940269531198:=0
def tw16149679619890433209:=0
def tw14477109536230908678:=0
def tw3617550399423082889:=0
def tw10530943383843019661:=0
def tw1355564057382542232:=0
def tw5330544675393534652:=0
def tw2751460923089607666:=0
def tw5266638384328827924:=0
def tw12165479216450892299:=0
def tw4380016384572378501:=0
def tw7117405890449769135:=0
def tw7800211580203394469:=0
def tw14601546804117739576:=0
def tw10483522541895805327:=0
def tw12899867687110175881:=0
def tw1300827647623973384:=0
def tw17470472529909313800:=0
def tw1241079893710968647:=0
def tw18258476768842745037:=0
def tw51676556047033517:=0
def tw13930181515582440323:=0
def tw4763837869995220945:=0
def tw12825281622815885557:=0
def tw7369460782036563799:=0
def tw6622885534254537995:=0
def tw9417310566059296546:=0
def tw13138014991882681227:=0
def tw4600477004013258188:=0
def tw4692400487037929572:=0
def tw12576694130081745243:=0
def tw1811137205196226719:=0
def tw221721414015521268:=0
def tw17090637206120117508:=0
def tw13275759995219734914:=0
def tw17962263054783502393:=0
def tw5991574364870199758:=0
def tw14345151232087971376:=0
def tw17797481358545042612:=0
def tw6675570944233744876:=0
def tw16729442609244155667:=0
def tw12442410036818721934:=0
def tw17307896742824372214:=0
def tw5234814708818870638:=0
def tw6273029191690091543:=0
def tw528072627193718139:=0
def tw11643334523946896783:=0
def tw5798071438305150473:=0
def tw11258863615141194264:=0
def tw17433433407474008503:=0
def tw9540426245129844054:=0
def tw13211450316811935726:=0
def tw10952977372066418075:=0
def tw12384188229447757959:=0
def tw10732666863815856847:=0
def tw6910788548119999753:=0
def tw2455353283339748463:=0
def tw13618881454500193074:=0
def tw17767362337702774941:=0
def tw16836919254553821578:=0
def tw4556316755109960902:=0
def tw8629827151717469271:=0
def tw12493954196248599475:=0
def tw15908286971593483052:=0
def tw13715788451225661972:=0
def tw16101077939083816404:=0
def tw18382999702606825961:=0
def tw5956829973306659866:=0
def tw1734363797132317177:=0
def tw9727109136756415020:=0
def tw898505168397765859:=0
def tw3920804128000302259:=0
def tw9527647618886728882:=0
def tw8539989105801953915:=0
def tw14533706568302806926:=0
def tw16736830398536974402:=0
def tw403441420938962909:=0
def tw4296461869817161508:=0
def tw6616160319254050488:=0
def tw13457193119847815301:=0
def tw17425785926714006005:=0
def tw11228270746326098435:=0
def tw11058315917339315269:=0
def tw8686930119161998687:=0
def tw8144423885255516207:=0
def tw10298756192276199629:=0
def tw13583807696919909347:=0
def tw14033490635787007578:=0
def tw16742174619063010551:=0
def tw1769564520364887757:=0
def tw967167060517960329:=0
def tw18253329372538535398:=0
def tw11161994657863775890:=0
def tw13319693966791058586:=0
def tw5605591640142390240:=0
def tw17646936591193169478:=0
def tw2294705653224677441:=0
def tw17825958830943137610:=0
def tw8227935090138937210:=0
def tw14436999716941021401:=0
def tw16422276676305639360:=0
def tw1977925969143804616:=0
def tw55562821188764017:=0
def tw6572927815620459792:=0
def tw12817133650065735223:=0
def tw10530187311388895964:=0
def tw12349551147189643962:=0
def tw218398959016249038:=0
def tw16810376911133351255:=0
def tw10599013191784429755:=0
def tw14704734341477939800:=0
def tw13983578989484859021:=0
def tw7014668665580039269:=0
def tw4344173312073585227:=0
def tw2354602767210667018:=0
def tw5450000651814757664:=0
def tw17797163453954966130:=0
def tw1121731640464257010:=0
def tw5893643331337512431:=0
def tw5568439752674363713:=0
def tw10419074872762070924:=0
def tw17256032530319363285:=0
def tw12223863855940097867:=0
def tw3505016365717380545:=0
def tw8805921523793049839:=0
def tw8138432613651978296:=0
def tw14514852639880578382:=0
def tw8513904062719974770:=0
def tw10684027637009824509:=0
def tw14567151552566414007:=0
def tw15638771794278470725:=0
def tw2325778855229095414:=0
def tw1060691312605560605:=0
def tw14882685961374536316:=0
def tw12585987510340541880:=0
def tw16839355303980725049:=0
def tw16620673805403097569:=0
def tw10123204691205976859:=0
def tw10145672977250314513:=0
def tw8684620926685570018:=0
def tw4059808596471976338:=0
def tw2738876110971481319:=0
def tw2652738633222608749:=0
def tw10885613160094568298:=0
def tw12804997024209689369:=0
def tw6165642365665720761:=0
def tw17050666086235625369:=0
def tw17167310779539061091:=0
def tw2436425258761251402:=0
def tw17649635391294563307:=0
def tw10261415623565165765:=0
def tw10963103084305300908:=0
def tw7132285687417723150:=0
def tw202603781953603704:=0
def tw9653509958732172425:=0
def tw1401547525840922440:=0
def tw13042165461817016443:=0
def tw12717739072485010213:=0
def tw4698860331176769421:=0
def tw13703316172583931472:=0
def tw6064494645009073475:=0
def tw491832199576520696:=0
def tw16494766651236012712:=0
def tw4224198708845355150:=0
def tw6137448446003301431:=0
def tw9758095157261543567:=0
def tw896605635074270726:=0
def tw5812123995377857512:=0
def tw17621436657799020518:=0
def tw15822399296698118738:=0
def tw4915589214155232415:=0
def tw13695007273091884896:=0
def tw11557129344154212176:=0
def tw10904308600793757147:=0
def tw17210527691582650257:=0
def tw13514677871797904612:=0
def tw12877315613333376805:=0
def tw9629705852320143310:=0
def tw8122136052572765936:=0
def tw7099196852553273510:=0
def tw3879934021096915552:=0
def tw17135898114349226943:=0
def tw15539249447208360640:=0
def tw4274450666253760309:=0
def tw12916592922514964417:=0
def tw6299145448829844180:=0
def tw5342361224722792680:=0
def tw2100993156892804262:=0
def tw16211853400501442444:=0
def tw258917996999103802:=0
def tw4075999981552926393:=0
def tw1358564347562568926:=0
def tw13128963622912941920:=0
def tw12399043160086648406:=0
def tw15141145002836490547:=0
def tw13731596238697711009:=0
def tw1155964589173595987:=0
def tw12321228213313650662:=0
def tw6069962033606971957:=0
def tw4630895178889716518:=0
def tw16745264621173287310:=0
def tw5232611339511199605:=0
def tw15967702416857785654:=0
def tw954473911261412935:=0
def tw6094960657371135742:=0
def tw3848061849369665438:=0
def tw16508435711938266211:=0
def tw12020923675875348535:=0
def tw1147129723872951888:=0
def tw11379481633009007119:=0
def tw11061226416266754730:=0
def tw4008270161386757871:=0
def tw5718679322791473722:=0
def tw4984928554471852710:=0
def tw4020707189478835851:=0
def tw17874490852844633001:=0
def tw16357389990292479168:=0
def tw14243269715917626176:=0
def tw17511990749654767594:=0
def tw16148189183703777804:=0
def tw2344515637368792391:=0
def tw17128895027825056942:=0
def tw10822180613056384218:=0
def tw10313996870165004699:=0
def tw3510578966567934757:=0
def tw15889445946243315893:=0
def tw10218032101206878676:=0
def tw1256830873356593546:=0
def tw6228251199904118923:=0
def tw13402201482626539553:=0
def tw10080135257569742739:=0
def tw10021356886571565962:=0
def tw17938962292340363388:=0
def tw15223851852434184206:=0
def tw14308132233384346538:=0
def tw4357124403367625041:=0
def tw2745539553190972657:=0
def tw12550830822995951694:=0
def tw5736480323413537045:=0
def tw3714727176820923838:=0
def tw3484214789752602085:=0
def tw18135796323668872787:=0
def tw12541461887344281822:=0
def tw12440753405665060928:=0
def tw11258031879409698044:=0
def tw16985518928426159882:=0
def tw11276359491338462211:=0
def tw12534791546001482790:=0
def tw2992990430882511700:=0
def tw7420513803862096280:=0
def tw1879865075393971566:=0
def tw12877423482610327614:=0
def tw7239684722524204264:=0
def tw353470377179661757:=0
def tw17274297594859423493:=0
def tw17603783738533367773:=0
def tw7034346218634617045:=0
def tw7068233906656847473:=0
def tw11463714170777598722:=0
def tw17831283093700333448:=0
def tw12040645482108441890:=0
def tw2426411102565738416:=0
def tw18043950165680597391:=0
def tw4110023871307277097:=0
def tw9249929065656470267:=0
def tw5180497845313337849:=0
def tw11830960499284061015:=0
def tw1983060778479056279:=0
def tw6726739638436092632:=0
def tw6313537573149086914:=0
def tw5332254822695106306:=0
def tw13471558590482916482:=0
def tw12258192747450015048:=0
def tw3264002345438794741:=0
def tw6154239007266353318:=0
def tw5118825137238928776:=0
def tw12109814987565148705:=0
def tw18308063365970467194:=0
def tw3251674098478585988:=0
def tw17333821509250023976:=0
def tw13690228162671850420:=0
def tw15767387064302809033:=0
def tw8973110366143966462:=0
def tw9907528151726770109:=0
def tw3276618279931517332:=0
def tw11521804331509702093:=0
def tw11276099910778999951:=0
def tw3317387442435407364:=0
def tw5419831823952019207:=0
def tw8738718370730121:=0
def tw12248487766634135347:=0
def tw6791438699833742962:=0
def tw1431424694911690177:=0
def tw14305324306581731519:=0
def tw9361937491413877721:=0
def tw7615957410194146449:=0
def tw4305392413081804949:=0
end PySem.W.Fast
set_option Elab.async false
set_option linter.all false
set_option maxRecDepth 100000
namespace L2
open PySem PySem.Spec PyProof.Rows
noncomputable abbrev Key:=Sum Int Str
noncomputable def jx:Key→Value→Bool
 | .inl k,v=>Value.isInt k v
 | .inr x,v=>Value.isStrOf x v
noncomputable def AO(w:World):Key→Int
 | .inl k=>hashInt k
 | .inr x=>hashStr w x
theorem bK:∀{k:Key} {v:Value},jx k v=true→(∃i t,k=Sum.inl i∧v=Value.int i t)∨(∃x t,k=Sum.inr x∧v=Value.str x t)
 | .inl i,v,h=>by
  obtain⟨t,e⟩:=Value.isInt_shape (k:=i) (v:=v) h
  exact .inl ⟨i,t,rfl,e⟩
 | .inr x,v,h=>by
  obtain⟨t,e⟩:=Value.isStrOf_shape (x:=x) (v:=v) h
  exact .inr ⟨x,t,rfl,e⟩
theorem oz(i:Int)(t:Tok):jx (.inl i) (.int i t)=true:=by simp[jx,Value.isInt]
theorem oB(x:Str)(t:Tok):jx (.inr x) (.str x t)=true:=by simp[jx,Value.isStrOf]
theorem xN(a b:Int):decide ((Sum.inl a:Key)=Sum.inl b)=(a == b):=by
 by_cases e:a=b
 ·subst e;simp
 ·have h:¬(Sum.inl a:Key)=Sum.inl b:=fun q=>e (Sum.inl.inj q)
  rw[decide_eq_false h]
  exact(beq_eq_false_iff_ne.mpr e).symm
theorem vp(a b:Str):decide ((Sum.inr a:Key)=Sum.inr b)=decide (a=b):=by
 by_cases e:a=b
 ·subst e;simp
 ·have h:¬(Sum.inr a:Key)=Sum.inr b:=fun q=>e (Sum.inr.inj q)
  rw[decide_eq_false h,decide_eq_false e]
theorem zg(a:Int)(b:Str):decide ((Sum.inl a:Key)=Sum.inr b)=false:=decide_eq_false (fun q=>nomatch q)
theorem x0(a:Str)(b:Int):decide ((Sum.inr a:Key)=Sum.inl b)=false:=decide_eq_false (fun q=>nomatch q)
noncomputable def bq(prog:Program)(w:World):PySem.KeyKind prog w Key where
 is:=jx
 hash:=AO w
 inj:=fun v a b ha hb=>by
  rcases bK ha with ⟨i,t,rfl,rfl⟩ | ⟨x,t,rfl,rfl⟩
  ·rcases bK hb with ⟨j,u,rfl,e⟩ | ⟨y,u,rfl,e⟩
   ·injection e with e1 _;rw[e1]
   ·exact nomatch e
  ·rcases bK hb with ⟨j,u,rfl,e⟩ | ⟨y,u,rfl,e⟩
   ·exact nomatch e
   ·injection e with e1 _;rw[e1]
 byValue:=fun k v h=>by
  rcases bK h with ⟨i,t,rfl,rfl⟩ | ⟨x,t,rfl,rfl⟩ <;> rfl
 pyHash:=fun hv h=>by
  rcases bK hv with ⟨i,t,rfl,rfl⟩ | ⟨x,t,rfl,rfl⟩
  ·exact wpAny_pyHash_int h
  ·exact wpAny_pyHash_str h
 eqBool:=fun hu hv h=>by
  rcases bK hu with ⟨i,t,rfl,rfl⟩ | ⟨x,t,rfl,rfl⟩
  ·rcases bK hv with ⟨j,u,rfl,rfl⟩ | ⟨y,u,rfl,rfl⟩
   ·rw[xN] at h;exact wpAny_eqBool_int h
   ·rw[zg] at h;exact SeqAt.EqAt.int_str i t y u _ _ _ _ h
  ·rcases bK hv with ⟨j,u,rfl,rfl⟩ | ⟨y,u,rfl,rfl⟩
   ·rw[x0] at h;exact SeqAt.EqAt.str_int x t j u _ _ _ _ h
   ·rw[vp] at h;exact wpAny_eqBool_str h
 «strs»:=fun k x t v h=>by
  rcases bK h with ⟨i,u,rfl,e⟩ | ⟨y,u,rfl,e⟩
  ·exact nomatch e
  ·injection e with e1 _
   subst e1
   cases v <;> rfl
theorem k7(prog:Program)(w:World)(i:Int)(t:Tok):(bq prog w).is (.inl i) (.int i t)=true:=oz i t
theorem lw(prog:Program)(w:World)(x:Str)(t:Tok):(bq prog w).is (.inr x) (.str x t)=true:=oB x t
end L2
namespace L2
open PySem PySem.Spec PyProof.Rows
inductive V where
 | non | bl (b:Bool) | int (i:Int) | str (x:Str) | byt (b:Array UInt8) | flt (b:UInt64) | ref (a:Addr) | ty (n:String)
 deriving DecidableEq
noncomputable def aX:V→Value→Prop
 | .non,u=>u=Value.none
 | .bl b,u=>u=Value.bool b
 | .int i,u=>∃t,u=Value.int i t
 | .str x,u=>∃t,u=Value.str x t
 | .byt b,u=>∃t,u=Value.bytes b t
 | .flt b,u=>∃t,u=Value.float b t
 | .ref a,u=>u=Value.ref a
 | .ty n,u=>u=Value.type n
noncomputable abbrev aO:List V→List Value→Prop:=Paired aX
theorem aO.length{xs:List V}{us:List Value}(r:aO xs us):xs.length=us.length:=Paired.length r
theorem aO.get:∀{xs:List V} {us:List Value} {i:Nat} {x:V},aO xs us→xs[i]? = some x→∃u,us[i]? = some u∧aX x u
 | _,_,_,_,.nil,e=>by simp at e
 | _,_,0,_,.cons r _,e=>by simp at e;subst e;exact⟨_,rfl,r⟩
 | _,_,i+1,x,.cons _ t,e=>by
  obtain⟨u,h1,h2⟩:=aO.get (i:=i) (x:=x) t (by simpa using e)
  exact⟨u,by simpa using h1,h2⟩
theorem aO.set{x:V}{u:Value}(r:aX x u):∀{xs:List V} {us:List Value} (i:Nat),aO xs us→aO (xs.set i x) (us.set i u)
 | _,_,_,.nil=>.nil
 | _,_,0,.cons _ t=>.cons r t
 | _,_,i+1,.cons q t=>.cons q (aO.set r i t)
theorem aO.append:∀{xs ys:List V} {us ws:List Value},aO xs us→aO ys ws→aO (xs++ys) (us++ws)
 | _,_,_,_,.nil,s=>s
 | _,_,_,_,.cons r t,s=>.cons r (aO.append t s)
theorem aO.take:∀{xs:List V} {us:List Value} (n:Nat),aO xs us→aO (xs.take n) (us.take n)
 | _,_,0,_=>.nil
 | _,_,_+1,.nil=>.nil
 | _,_,n+1,.cons r t=>.cons r (aO.take n t)
theorem aO.drop:∀{xs:List V} {us:List Value} (n:Nat),aO xs us→aO (xs.drop n) (us.drop n)
 | _,_,0,r=>r
 | _,_,_+1,.nil=>.nil
 | _,_,n+1,.cons _ t=>aO.drop n t
noncomputable def dF:Option V→Option Value→Prop
 | some v,some u=>aX v u
 | none,none=>True
 | _,_=>False
noncomputable def KV{κ:Type}:List (κ×V)→List (κ×Value)→Prop:=Paired fun(p:κ×V) (q:κ×Value)=>p.1=q.1∧aX p.2 q.2
noncomputable def kV:Key→V
 | .inl i=>.int i
 | .inr x=>.str x
inductive HO where
 /-- a list -/
 | lst (xs:List V)
 /-- a tuple (never changes) -/
 | tup (xs:List V)
 /-- a dict whose keys are ints and texts;one whose keys are tuples of ints and texts (the empty one is both) -/
 | dK (kvs:List (Key×V)) | dT (kvs:List (List Key×V))
 /-- a set of ints: its members,its size -/
 | set (S:Int→Bool) (n:Nat)
 /-- an instance of the class at C,its dict at dx,its attributes -/
 | ins (C dx:Addr) (fs:List (Str×V))
 /-- the dict of the instance at x -/
 | own (x:Addr)
 /-- the dict of an exception -/
 | xd (fs:List (Str×V))
 /-- a bound method,f of x -/
 | met (f x:Addr)
 /-- a range object lo,lo+1,.. below hi -/
 | rng (lo hi:Int)
 /-- a thing that is known to the object (the script;a dict while a loop walks it): read,never written while it is so -/
 | frz (o:Obj) (u:HO)
 /-- a code object's table -/
 | tbl (ps:Array Value)
 /-- any other thing,by what is true of its one object (a def of one's own: SetO a S n:=HO.ext fun h=>..) -/
 | ext (φ:Heap→Prop)
noncomputable abbrev Hp:=Addr→Option HO
noncomputable def upd(H:Hp)(a:Addr)(o:HO):Hp:=fun b=>if b=a then some o else H b
theorem af{H:Hp}{a:Addr}{o:HO}:upd H a o a=some o:=by unfold upd;rw[if_pos rfl]
theorem av{H:Hp}{a b:Addr}{o:HO}(h:b≠a):upd H a o b=H b:=by unfold upd;rw[if_neg h]
theorem cf{H:Hp}{a:Addr}{o u:HO}:upd (upd H a o) a u=upd H a u:=by
 funext b;unfold upd;split <;> rfl
theorem AM{H:Hp}{a b:Addr}{o u:HO}(h:H a=some o)(h':H b=some u)(d:o≠u):a≠b:=by
 intro e;subst e;rw[h] at h'; exact d (yt h')
theorem aG{H:Hp}{a b:Addr}{o:HO}(h:H a=some o)(h':H b=none):a≠b:=by
 intro e;subst e;rw[h] at h'; cases h'
section
variable(P:Program)(w:World)
noncomputable def br(H:Hp)(h:Heap)(a:Addr):HO→Prop
 | .lst xs=>xs.length≤sizeLine∧∃(its:List Value) (n:Nat),aO xs its∧h.get? a=some { cls:=.type "list",data:=.seq its.toArray n }
 | .tup xs=>xs.length≤sizeLine∧∃its:List Value,aO xs its∧IsTup h a its.toArray
 | .dK kvs=>kvs.length≤sizeLine∧(a == sysModules)=false∧∃vs,KV kvs vs∧h.DictOf (bq P w) a vs
 | .dT kvs=>kvs.length≤sizeLine∧(a == sysModules)=false∧∃xs:List (List Key×Addr×Value),
   Paired (fun(p:List Key×V) (q:List Key×Addr×Value)=>p.1=q.1∧H q.2.1=some (.tup (p.1.map kV))∧aX p.2 q.2.2) kvs xs ∧
   ∃o es ep,h.get? a=some o∧o.ExactDict∧o.data=.dict es ep∧es.toList=xs.map (entryOfKey (tupleKind (bq P w)))∧(xs.map (·.1)).Nodup
 | .set S n=>h.SetOf (intKind P w) a S n
 | .ins C dx fs=>H dx=some (.own a)∧fs.length≤1000∧dx≠a∧h.get? a=some (PySem.W.instObj C dx) ∧
   ∃mA,h.Ns1 dx mA∧(∀f,dF (fs.lookup f) (mA f))∧PySem.Within mA (fs.map (·.1))
 | .own _=>∃o,h.get? a=some o
 | .xd fs=>∃mA,h.Ns1 a mA∧∀f,dF (fs.lookup f) (mA f)
 | .rng lo hi=>∃t u v,h.get? a=some { cls:=.type "range",data:=.fields #[.int lo t,.int hi u,.int 1 v] }
 | .frz o u=>h.get? a=some o∧br H h a u
 | .tbl ps=>h.get? a=some { cls:=.none,data:=.fields ps }
 | .met f x=>h.get? a=some (PySem.W.methodObj (.ref f) (.ref x))
 | .ext φ=>φ h∧(∃o,h.get? a=some o)∧∀h1 h2:Heap,φ h1→(∀o,h1.get? a=some o→h2.get? a=some o)→φ h2
noncomputable def HOk(H:Hp)(h:Heap):Prop:=∀a o,H a=some o→br P w H h a o
end
section
variable{P:Program}{w:World}{H H':Hp}{h h':Heap}{a:Addr}{o:HO}
theorem br.lt(x:br P w H h a o):a<h.objs.size:=by
 cases o with
 | lst xs=>obtain⟨_,_,_,_,e⟩:=x;exact Heap.lt_size e
 | tup xs=>obtain⟨_,_,_,p⟩:=x;exact p.lt
 | dK kvs=>obtain⟨_,_,_,_,o,_,_,e,_⟩:=x;exact Heap.lt_size e
 | dT kvs=>obtain⟨_,_,_,_,o,_,_,e,_⟩:=x;exact Heap.lt_size e
 | set S n=>obtain⟨o,_,_,_,e,_⟩:=x;exact Heap.lt_size e
 | ins C dx fs=>obtain⟨_,_,_,e,_⟩:=x;exact Heap.lt_size e
 | own y=>obtain⟨_,e⟩:=x;exact Heap.lt_size e
 | xd fs=>obtain⟨_,⟨_,_,_,e,_⟩,_⟩:=x;exact Heap.lt_size e
 | rng lo hi=>obtain⟨_,_,_,e⟩:=x;exact Heap.lt_size e
 | frz ob u=>obtain⟨e,_⟩:=x;exact Heap.lt_size e
 | tbl ps=>exact Heap.lt_size (show h.get? a=some _ from x)
 | met f y=>exact Heap.lt_size (show h.get? a=some _ from x)
 | ext φ=>obtain⟨_,⟨_,e⟩,_⟩:=x;exact Heap.lt_size e
theorem Paired.mapP{α β:Type}{F G:α→β→Prop}:∀{l₁:List α} {l₂:List β},Paired F l₁ l₂→(∀a b,F a b→G a b)→Paired G l₁ l₂
 | _,_,.nil,_=>.nil
 | _,_,.cons r t,f=>.cons (f _ _ r) (Paired.mapP t f)
theorem br.stay(x:br P w H h a o)(k:∀b u,(b=a∨H b=some (.own a))→h.get? b=some u→h'.get? b=some u)
  (ho:∀b,H b=some (.own a)→H' b=some (.own a)) (ht:∀b xs,H b=some (.tup xs)→H' b=some (.tup xs)):br P w H' h' a o:=by
 induction o with
 | lst xs=>obtain⟨z,its,n,r,e⟩:=x;exact⟨z,its,n,r,k _ _ (.inl rfl) e⟩
 | tup xs=>obtain⟨z,its,r,ob,e,c⟩:=x;exact⟨z,its,r,ob,k _ _ (.inl rfl) e,c⟩
 | dK kvs=>obtain⟨z,y,vs,r,ob,es,ep,e,c⟩:=x;exact⟨z,y,vs,r,ob,es,ep,k _ _ (.inl rfl) e,c⟩
 | dT kvs =>
  obtain⟨z,y,xs,r,ob,es,ep,e,c⟩:=x
  exact⟨z,y,xs,Paired.mapP r fun p q z=>⟨z.1,ht _ _ z.2.1,z.2.2⟩,ob,es,ep,k _ _ (.inl rfl) e,c⟩
 | set S n=>obtain⟨ob,es,ep,t,e,c⟩:=x;exact⟨ob,es,ep,t,k _ _ (.inl rfl) e,c⟩
 | ins C dx fs =>
  obtain⟨d,z,ne,e,mA,⟨od,es,ep,e2,c⟩,r⟩:=x
  exact⟨ho _ d,z,ne,k _ _ (.inl rfl) e,mA,⟨od,es,ep,k _ _ (.inr d) e2,c⟩,r⟩
 | own y=>obtain⟨ob,e⟩:=x;exact⟨ob,k _ _ (.inl rfl) e⟩
 | xd fs=>obtain⟨mA,⟨od,es,ep,e,c⟩,r⟩:=x;exact⟨mA,⟨od,es,ep,k _ _ (.inl rfl) e,c⟩,r⟩
 | rng lo hi=>obtain⟨t,u,v,e⟩:=x;exact⟨t,u,v,k _ _ (.inl rfl) e⟩
 | frz ob u ih=>obtain⟨e,q⟩:=x;exact⟨k _ _ (.inl rfl) e,ih q⟩
 | tbl ps =>
  have e:h.get? a=some { cls:=.none,data:=.fields ps }:=x
  show h'.get? a=some { cls:=.none,data:=.fields ps }
  exact k a _ (.inl rfl) e
 | met f y =>
  have e:h.get? a=some (PySem.W.methodObj (.ref f) (.ref y)):=x
  show h'.get? a=some (PySem.W.methodObj (.ref f) (.ref y))
  exact k a _ (.inl rfl) e
 | ext φ=>obtain⟨p,⟨o,e⟩,st⟩:=x;exact⟨st _ _ p fun o q=>k _ _ (.inl rfl) q,⟨o,k _ _ (.inl rfl) e⟩,st⟩
theorem HOk.lt(x:HOk P w H h)(e:H a=some o):a<h.objs.size:=(x a o e).lt
theorem HOk.fresh(x:HOk P w H h)(e:h.objs.size≤a):H a=none:=by
 cases q:H a with
 | none=>rfl
 | some u=>exact absurd (yF (x.lt q) e) (yia _)
theorem HOk.kept(x:HOk P w H h)(k:∀b u,h.get? b=some u→h'.get? b=some u):HOk P w H h':=fun a o e =>
 (x a o e).stay (fun b u _ q=>k b u q) (fun _ q=>q) fun _ _ q=>q
theorem HOk.laid(x:HOk P w H h)(k:∀b u,h.get? b=some u→h'.get? b=some u)(hp:h.objs.size≤a)(new:br P w (upd H a o) h' a o):HOk P w (upd H a o) h':=fun b u e=>by
 have hn:=x.fresh hp
 by_cases hb:b=a
 ·subst hb;rw[af] at e;cases e;exact new
 ·rw[av hb] at e
  exact(x b u e).stay (fun c v _ q=>k c v q) (fun c q=>by rw[av (aG q hn)];exact q) fun c xs q=>by rw[av (aG q hn)];exact q
end
noncomputable def Rd(H:Hp)(a:Addr)(u:HO):Prop:=H a=some u∨∃o,H a=some (.frz o u)
theorem Rd.ok{P:Program}{w:World}{H:Hp}{h:Heap}{a:Addr}{u:HO}(r:Rd H a u)(x:HOk P w H h):br P w H h a u:=by
 rcases r with r | ⟨o,r⟩
 ·exact x a u r
 ·obtain⟨_,q⟩:=x a _ r
  exact q
noncomputable def Mut:Option HO→Prop
 | some (.lst _)=>True
 | some (.dK _)=>True
 | some (.dT _)=>True
 | some (.set _ _)=>True
 | some (.ins _ _ _)=>True
 | some (.ext _)=>True
 | _=>False
section
variable{P:Program}{w:World}{H:Hp}{h h':Heap}{x e:Addr}{o':HO}
theorem HOk.write(ok:HOk P w H h)(mu:Mut (H x))(he:e=x∨H e=some (.own x))(k:∀b u,b≠e→h.get? b=some u→h'.get? b=some u)(heo:∃u,h'.get? e=some u)
  (new:br P w (upd H x o') h' x o'):HOk P w (upd H x o') h':=fun b u q=>by
 have nown:∀c y,H c=some (.own y)→c≠x:=fun c y r z=>by subst z;rw[r] at mu;exact mu
 have ntup:∀c xs,H c=some (.tup xs)→c≠x:=fun c xs r z=>by subst z;rw[r] at mu;exact mu
 by_cases hb:b=x
 ·subst hb;rw[af] at q;cases q;exact new
 ·rw[av hb] at q
  by_cases hbe:b=e
  ·have q':H b=some (.own x):=by
    rcases he with z | z
    ·exact absurd (hbe.trans z) hb
    ·rw[hbe];exact z
   rw[q] at q'; cases q'
   obtain⟨v,hv⟩:=heo
   exact⟨v,by rw[hbe];exact hv⟩
  ·refine(ok b u q).stay (fun c v hc r=>k c v ?_ r) (fun c r=>by rw[av (nown c b r)];exact r) fun c xs r=>by rw[av (ntup c xs r)];exact r
   rcases hc with rfl | hc
   ·exact hbe
   ·rintro rfl
    rcases he with z | z
    ·exact nown c b hc z
    ·rw[hc] at z;cases z;exact hb rfl
end
structure Un(fs ex:List Addr)(H H':Hp)(h h':Heap):Prop where
 keep:∀b o,h.get? b=some o→H b=none→b∉fs→b∉ex→h'.get? b=some o
 slot:∀b o,h.get? b=some o→H b=none→b∈fs→b∉ex→∃sl,h'.get? b=some { o with slots:=sl }
 free:∀b o,h.get? b=some o→H b=none→b∉ex→H' b=none
 there:∀b o,h.get? b=some o→b∉ex→∃o',h'.get? b=some o'
 tups:∀b xs,H b=some (.tup xs)→H' b=some (.tup xs)
 frzs:∀b o u,H b=some (.frz o u)→H' b=some (.frz o u)
 tbls:∀b ps,H b=some (.tbl ps)→∃more,H' b=some (.tbl (ps++more))
section
variable{fs fs' ex ex':List Addr}{H H1 H2:Hp}{h h1 h2 h':Heap}{a x e:Addr}{o:HO}
theorem Un.any(u:Un fs ex H H1 h h1){b:Addr}{ob:Obj}(q:h.get? b=some ob)(n:H b=none)(hx:b∉ex):∃sl,h1.get? b=some { ob with slots:=sl }:=by
 by_cases hb:b∈fs
 ·exact u.slot b ob q n hb hx
 ·exact⟨ob.slots,u.keep b ob q n hb hx⟩
theorem Un.kept(k:∀b u,h.get? b=some u→h'.get? b=some u):Un fs ex H H h h' :=
 ⟨fun b ob q _ _ _=>k b ob q,fun b ob q _ _ _=>⟨ob.slots,k b ob q⟩,fun _ _ _ n _=>n,fun b ob q _=>⟨ob,k b ob q⟩,fun _ _ q=>q,fun _ _ _ q=>q,fun _ ps q=>⟨#[],by rw[q];simp⟩⟩
theorem Un.refl:Un fs ex H H h h:=Un.kept fun _ _ q=>q
theorem Un.laid(k:∀b u,h.get? b=some u→h'.get? b=some u)(hp:h.objs.size≤a)(hn:H a=none):Un fs ex H (upd H a o) h h' where
 keep:=fun b u q _ _ _=>k b u q
 slot:=fun b u q _ _ _=>⟨u.slots,k b u q⟩
 free:=fun b u q n _=>by rw[av (yE (yF (Heap.lt_size q) hp))];exact n
 there:=fun b u q _=>⟨u,k b u q⟩
 tups:=fun b xs q=>by rw[av (aG q hn)];exact q
 frzs:=fun b u xs q=>by rw[av (aG q hn)];exact q
 tbls:=fun b ps q=>⟨#[],by rw[av (aG q hn),q];simp⟩
theorem Un.write(mu:Mut (H x))(he:e=x∨H e=some (.own x))(k:∀b u,b≠e→h.get? b=some u→h'.get? b=some u)(heo:∃u,h'.get? e=some u):Un fs ex H (upd H x o) h h':=by
 have hx:∀b,H b=none→b≠x:=fun b n z=>by subst z;rw[n] at mu;exact mu
 have hb:∀b,H b=none→b≠e:=fun b n z=>by
  subst z
  rcases he with r | r
  ·exact hx b n r
  ·rw[n] at r;cases r
 have hm:∀b u,H b=some u→¬ Mut (some u)→b≠x:=fun b u q nm z=>by subst z;rw[q] at mu;exact nm mu
 refine⟨fun b u q n _ _=>k b u (hb b n) q,fun b u q n _ _=>⟨u.slots,k b u (hb b n) q⟩,fun b u q n _=>by rw[av (hx b n)];exact n,fun b u q _=>?_,
  fun b xs q=>by rw[av (hm b _ q fun z=>z)];exact q,fun b u xs q=>by rw[av (hm b _ q fun z=>z)];exact q,fun b ps q=>⟨#[],by rw[av (hm b _ q fun z=>z),q];simp⟩⟩
 by_cases hbe:b=e
 ·subst hbe;exact heo
 ·exact⟨u,k b u hbe q⟩
end
noncomputable def trk(h:Heap)(H:Hp):List Addr:=(List.range h.objs.size).filter fun a=>(H a).isSome
noncomputable def km(h:Heap)(H:Hp):Heap:=PySem.W.hideAll h (trk h H)
theorem oM(h:Heap)(H:Hp):(km h H).objs.size=h.objs.size:=PySem.W.hideAll_size _ _
theorem ql{h:Heap}{H:Hp}{b:Addr}{o:Obj}(e:h.get? b=some o)(n:H b=none):(km h H).get? b=some o :=
 PySem.W.hideAll_get _ e fun hm=>by
  have q:(H b).isSome=true:=(yEa.mp hm).2
  rw[n] at q;simp at q
theorem tE{h:Heap}{H:Hp}{b:Addr}{o:Obj}(e:(km h H).get? b=some o):h.get? b=some o∧H b=none:=by
 have e':h.get? b=some o:=PySem.W.of_hideAll (trk h H) e
 refine⟨e',?_⟩
 cases q:H b with
 | none=>rfl
 | some x =>
  have hm:b∈trk h H:=yEa.mpr ⟨yu.mpr (Heap.lt_size e'),by simp[q]⟩
  have z:(km h H).get? b=none:=PySem.W.hideAll_none (trk h H) hm
  rw[z] at e;cases e
end L2
namespace L2
open PySem PySem.Spec PyProof.Rows
structure Mod(K:PySem.W.Frag)(mg:Str→Option Value)(base:Heap):Prop where
 kin:K.In base
 glob:base.Ns mainGlobals mg
 blt:∃mb,base.Ns builtinsNs mb∧∀x:Str,x ≠ "__name__" → mb x=bootBuiltins x
 nolimit:base.NoLimit
structure Cx where
 prog:Program
 w:World
 K:PySem.W.Frag
 mg:Str→Option Value
 base:Heap
 A:Around
 N:List Str
 s₀:Shared
 H₀:Hp
 env:Env
 outer:List Env
 stack:List Env
 ex:List Addr
 fn:Str→Bool
 calm:Bool
 pn:List (Addr×Obj)
 xe:Value→Shared→Prop
noncomputable def frs(l:List Env):List Addr:=l.filterMap (·.frame)
noncomputable abbrev Cx.fs(X:Cx):List Addr:=frs X.outer
noncomputable def Vis(sc:Scope)(x:Str):Prop:=sc.names.lookup x=some .local∨sc.names.lookup x=some .cell∨sc.names.lookup x=some .free
noncomputable def Loc(sc:Scope)(x:Str):Prop:=sc.names.lookup x=some .local∨sc.names.lookup x=some .cell
noncomputable def AN(env:Env)(h:Heap)(m:Str→Option Value)(x:Str)(u:Value):Prop :=
 (env.kindOf x=some .local∧m x=some u)∨((env.kindOf x=some .cell∨env.kindOf x=some .free)∧∃c,env.cells.lookup x=some c∧h.IsCell c (some u))
structure Cx.Ok(X:Cx):Prop where
 mod:Mod X.K X.mg X.base
 kind:X.env.scope.kind=.function
 glob:X.env.globals=mainGlobals
 blt:X.env.builtins=builtinsNs
 above:X.s₀.heap.objs.size≤X.env.locals
 inj:∀x y c,X.env.cells.lookup x=some c→X.env.cells.lookup y=some c→x=y
 has:∀x,(X.env.kindOf x=some .cell∨X.env.kindOf x=some .free)→∃c,X.env.cells.lookup x=some c
 cab:∀x c,X.fn x=true→X.env.cells.lookup x=some c→X.s₀.heap.objs.size≤c
 hd:X.calm=true→X.A.handled=none
 frames:X.A.frames=some X.stack
 stk:X.stack=X.outer∨(X.stack=X.env::X.outer∧X.env.frame=some X.env.locals)
 exf:∀b∈X.ex,b≠X.env.locals∧∀x c,X.env.cells.lookup x=some c→c≠b
 bs:∀b o,X.base.get? b=some o→X.s₀.heap.get? b=some o∧X.H₀ b=none
 bsz:X.base.objs.size≤X.s₀.heap.objs.size
 noex:∀b o,X.base.get? b=some o→b∉X.ex
 exfs:∀b∈X.ex,b∉X.fs
 funs:X.s₀.heap.FunFrames X.base X.outer
 frf:∀b∈X.fs,X.H₀ b=none
structure Inv(X:Cx)(pins:List (Addr×Obj))(σ:List (Option V))(H:Hp)(s:Shared):Prop where
 ok:X.Ok
 os:s.os=X.s₀.os
 bare:AllBare s.gens
 base:Un X.fs X.ex X.H₀ H X.s₀.heap s.heap
 loc:∃m,s.heap.Ns X.env.locals m∧∀(i:Nat) (x:Str) (v:V),X.N[i]? = some x→σ[i]? = some (some v)→Vis X.env.scope x→∃u,aX v u∧AN X.env s.heap m x u
 cell:∀x c,X.env.cells.lookup x=some c→∃v,s.heap.IsCell c v
 free:H X.env.locals=none
 freeC:∀x c,X.env.cells.lookup x=some c→H c=none
 pin:∀p∈X.pn++pins,s.heap.get? p.1=some p.2∧H p.1=none∧p.1≠X.env.locals∧p.1∉X.fs∧∀v,p.2.data≠.cell v
 hok:HOk X.prog X.w H s.heap
 len:σ.length=X.N.length
section
variable{X:Cx}{pins:List (Addr×Obj)}{σ:List (Option V)}{H H':Hp}{s:Shared}{h':Heap}
theorem Cx.Ok.nofr(ok:X.Ok){b:Addr}{o:Obj}(e:X.base.get? b=some o):b∉X.fs:=fun hb=>by
 have:=(ok.funs.mem hb).1
 rw[e] at this;cases this
theorem Inv.bs(I:Inv X pins σ H s):∀b o,X.base.get? b=some o→s.heap.get? b=some o∧H b=none:=fun b o e =>
 ⟨I.base.keep b o (I.ok.bs b o e).1 (I.ok.bs b o e).2 (I.ok.nofr e) (I.ok.noex b o e),I.base.free b o (I.ok.bs b o e).1 (I.ok.bs b o e).2 (I.ok.noex b o e)⟩
theorem Inv.bk(I:Inv X pins σ H s):∀b o,X.base.get? b=some o→s.heap.get? b=some o:=fun b o e=>(I.bs b o e).1
theorem Inv.mod(I:Inv X pins σ H s):Mod X.K X.mg X.base:=I.ok.mod
theorem Inv.kIn(I:Inv X pins σ H s):X.K.In s.heap:=I.ok.mod.kin.keeps I.bk
theorem Inv.lt(I:Inv X pins σ H s):X.env.locals<s.heap.objs.size:=let ⟨_,hn,_⟩:=I.loc;hn.lt
theorem Inv.sz(I:Inv X pins σ H s):X.s₀.heap.objs.size≤s.heap.objs.size:=yJ I.ok.above (yQa I.lt)
theorem Inv.nofs(I:Inv X pins σ H s){a:Addr}(h:s.heap.objs.size≤a):a∉X.fs:=fun hb=>by
 obtain⟨_,o,ho,_⟩:=I.ok.funs.mem hb
 exact absurd (yF (Heap.lt_size ho) (yJ I.sz h)) (yia _)
theorem Inv.cne(I:Inv X pins σ H s):∀x c,X.env.cells.lookup x=some c→c≠X.env.locals:=fun x c e z=>by
 obtain⟨v,o,ho,hd⟩:=I.cell x c e
 obtain⟨m,⟨o',es,ep,ho',hd',_⟩,_⟩:=I.loc
 rw[z,ho'] at ho;cases ho;rw[hd'] at hd;cases hd
theorem Inv.funs(I:Inv X pins σ H s):s.heap.FunFrames X.base X.outer:=by
 have all:∀(l:List Env),(∀b∈frs l,b∈X.fs)→X.s₀.heap.FunFrames X.base l→s.heap.FunFrames X.base l:=by
  intro l
  induction l with
  | nil=>intro _ _;trivial
  | cons env r ih =>
   intro hs hl
   obtain⟨hk,⟨L,o,hf,hn,ho,hd⟩,hr⟩:=hl
   have hL:L∈X.fs:=hs L (by unfold frs;rw[yNa,hf];exact yq)
   obtain⟨sl,e⟩:=I.base.slot L o ho (I.ok.frf L hL) hL fun z=>I.ok.exfs L z hL
   exact⟨hk,⟨L,_,hf,hn,e,hd⟩,ih (fun b hb=>hs b (by unfold frs;rw[yNa,hf];exact yj _ hb)) hr⟩
 exact all X.outer (fun _ hb=>hb) I.ok.funs
theorem Inv.stack(I:Inv X pins σ H s):s.heap.FunFrames X.base X.stack:=by
 rcases I.ok.stk with e | ⟨e,hf⟩
 ·rw[e];exact I.funs
 ·rw[e]
  obtain⟨m,hn,_⟩:=I.loc
  refine .cons (by rw[I.ok.kind];decide) hf hn ?_ I.funs
  exact Heap.get?_none_of_le (yJ I.ok.bsz I.ok.above)
theorem Inv.stkSub(I:Inv X pins σ H s):∀b∈frs X.stack,b∈X.env.locals::X.fs:=fun b hb=>by
 rcases I.ok.stk with e | ⟨e,hf⟩
 ·rw[e] at hb;exact yj _ hb
 ·rw[e] at hb
  unfold frs at hb
  rw[yNa,hf] at hb
  exact hb
theorem Inv.stkFree(I:Inv X pins σ H s):∀b∈frs X.stack,H b=none:=fun b hb=>by
 rcases List.mem_cons.mp (I.stkSub b hb) with e | hb
 ·rw[e];exact I.free
 ·obtain⟨_,o,ho,_⟩:=I.ok.funs.mem hb
  exact I.base.free b o ho (I.ok.frf b hb) fun z=>I.ok.exfs b z hb
theorem Inv.step{g':Array GenState}{t':Nat}{d':Drawn}{ch:List Addr}(I:Inv X pins σ H s)
  (hch:∀b∈ch,(b∈X.ex∨X.s₀.heap.objs.size≤b)∧b≠X.env.locals∧(∀x c,X.env.cells.lookup x=some c→c≠b)∧∀p∈X.pn++pins,p.1≠b)
  (keep:∀b o,b≠X.env.locals→b∉X.fs→b∉ch→s.heap.get? b=some o→H b=none→h'.get? b=some o)
  (slot:∀b o,b≠X.env.locals→b∈X.fs→b∉ch→s.heap.get? b=some o→H b=none→∃sl,h'.get? b=some { o with slots:=sl }) (free:∀b o,b∉ch→s.heap.get? b=some o→H b=none→H' b=none)
  (there:∀b o,b∉ch→s.heap.get? b=some o→∃o',h'.get? b=some o')
  (tups:∀b xs,H b=some (.tup xs)→H' b=some (.tup xs)) (frzs:∀b o u,H b=some (.frz o u)→H' b=some (.frz o u)) (tbls:∀b ps,H b=some (.tbl ps)→∃more,H' b=some (.tbl (ps++more)))
  (ns:∀m,s.heap.Ns X.env.locals m→h'.Ns X.env.locals m) (hok:HOk X.prog X.w H' h') (hg:AllBare g') :
  Inv X pins σ H' { s with heap:=h',gens:=g',drawn:=d',toks:=t' }:=by
 have neL:∀b o,X.s₀.heap.get? b=some o→b≠X.env.locals:=fun b o e=>yE (yF (Heap.lt_size e) I.ok.above)
 have neC:∀b o,X.s₀.heap.get? b=some o→b∉X.ex→b∉ch:=fun b o e hx hb=>by
  rcases (hch b hb).1 with z | z
  ·exact hx z
  ·exact absurd (yF (Heap.lt_size e) z) (yia _)
 have cellK:∀x c,X.env.cells.lookup x=some c→∀v,s.heap.IsCell c v→h'.IsCell c v:=fun x c e v ⟨o,ho,hd⟩=>by
  have nch:c∉ch:=fun z=>(hch c z).2.2.1 x c e rfl
  by_cases hc:c∈X.fs
  ·obtain⟨sl,q⟩:=slot c o (I.cne x c e) hc nch ho (I.freeC x c e)
   exact⟨_,q,hd⟩
  ·exact⟨o,keep c o (I.cne x c e) hc nch ho (I.freeC x c e),hd⟩
 refine⟨I.ok,I.os,hg,⟨fun b o e n hb hx=>?_,fun b o e n hb hx=>?_,fun b o e n hx=>?_,fun b o e hx=>?_,fun b xs e=>tups b xs (I.base.tups b xs e),fun b o xs e=>frzs b o xs (I.base.frzs b o xs e),fun b ps e=>?_⟩,?_,fun x c e=>?_,?_,fun x c e=>?_,fun p hp=>?_,hok,I.len⟩
 ·exact keep b o (neL b o e) hb (neC b o e hx) (I.base.keep b o e n hb hx) (I.base.free b o e n hx)
 ·obtain⟨sl,e1⟩:=I.base.slot b o e n hb hx
  obtain⟨sl',e2⟩:=slot b _ (neL b o e) hb (neC b o e hx) e1 (I.base.free b o e n hx)
  exact⟨sl',e2⟩
 ·obtain⟨o',e1⟩:=I.base.there b o e hx
  exact free b o' (neC b o e hx) e1 (I.base.free b o e n hx)
 ·obtain⟨o',e1⟩:=I.base.there b o e hx
  exact there b o' (neC b o e hx) e1
 ·obtain⟨m1,e1⟩:=I.base.tbls b ps e
  obtain⟨m2,e2⟩:=tbls b _ e1
  exact⟨m1++m2,by rw[e2,yMb]⟩
 ·obtain⟨m,hn,hl⟩:=I.loc
  refine⟨m,ns m hn,fun i x v e1 e2 e3=>?_⟩
  obtain⟨u,r,l⟩:=hl i x v e1 e2 e3
  refine⟨u,r,?_⟩
  rcases l with l | ⟨k,c,e,z⟩
  ·exact .inl l
  ·exact .inr ⟨k,c,e,cellK x c e _ z⟩
 ·obtain⟨v,z⟩:=I.cell x c e
  exact⟨v,cellK x c e v z⟩
 ·obtain⟨m,⟨o,_,_,ho,_⟩,_⟩:=I.loc
  exact free _ o (fun z=>(hch _ z).2.1 rfl) ho I.free
 ·obtain⟨v,o,ho,hd⟩:=I.cell x c e
  exact free c o (fun z=>(hch c z).2.2.1 x c e rfl) ho (I.freeC x c e)
 ·obtain⟨e,n,ne,nf,d⟩:=I.pin p hp
  have nch:p.1∉ch:=fun z=>(hch p.1 z).2.2.2 p hp rfl
  exact⟨keep p.1 p.2 ne nf nch e n,free p.1 p.2 nch e n,ne,nf,d⟩
theorem Inv.un{t':Nat}(I:Inv X pins σ H s)(u:Un X.fs [] H H' s.heap h')(hok:HOk X.prog X.w H' h'):Inv X pins σ H' { s with heap:=h',toks:=t' }:=by
 obtain⟨m,⟨o,es,ep,ho,r⟩,_⟩:=id I.loc
 obtain⟨sl,hL⟩:=u.any ho I.free (by simp)
 exact I.step (g':=s.gens) (d':=s.drawn) (ch:=[]) (fun _ z=>nomatch z) (fun b o _ hb _ e n=>u.keep b o e n hb (by simp)) (fun b o _ hb _ e n=>u.slot b o e n hb (by simp)) (fun b o _ e n=>u.free b o e n (by simp)) (fun b o _ e=>u.there b o e (by simp)) u.tups u.frzs u.tbls (fun m' hm=>by
  obtain⟨o',es',ep',ho',r'⟩:=hm
  rw[ho] at ho'; cases ho'
  exact⟨_,es',ep',hL,r'⟩) hok I.bare
theorem Inv.call{g':Array GenState}{t':Nat}{d':Drawn}{ch:List Addr}(I:Inv X pins σ H s)(u:Un (frs X.stack) ch H H' s.heap h')(hok:HOk X.prog X.w H' h')(hg:AllBare g')
  (hch:∀b∈ch,(b∈X.ex∨X.s₀.heap.objs.size≤b)∧b≠X.env.locals∧(∀x c,X.env.cells.lookup x=some c→c≠b)∧∀p∈X.pn++pins,p.1≠b) :
  Inv X pins σ H' { s with heap:=h',gens:=g',drawn:=d',toks:=t' }:=by
 obtain⟨m,⟨o,es,ep,ho,r⟩,_⟩:=id I.loc
 obtain⟨sl,hL⟩:=u.any ho I.free fun z=>(hch _ z).2.1 rfl
 exact I.step (ch:=ch) hch (fun b o hL hb hc e n=>u.keep b o e n (fun z=>(List.mem_cons.mp (I.stkSub b z)).elim hL hb) hc) (fun b o _ _ hc e n=>u.any e n hc) (fun b o hc e n=>u.free b o e n hc) (fun b o hc e=>u.there b o e hc) u.tups u.frzs u.tbls (fun m' hm=>by
  obtain⟨o',es',ep',ho',r'⟩:=hm
  rw[ho] at ho'; cases ho'
  exact⟨_,es',ep',hL,r'⟩) hok hg
theorem Inv.turned{t':Nat}{it:Addr}(I:Inv X pins σ H s)(k:∀b o,b≠it→s.heap.get? b=some o→h'.get? b=some o)(hn:H it=none)(hL:it≠X.env.locals)
  (h1:it∈X.ex∨X.s₀.heap.objs.size≤it) (h2:∀x c,X.env.cells.lookup x=some c→c≠it) (h3:∀p∈X.pn++pins,p.1≠it):Inv X pins σ H { s with heap:=h',toks:=t' }:=by
 have nit:∀b u,H b=some u→b≠it:=fun b u e z=>by rw[z,hn] at e;cases e
 refine I.step (g':=s.gens) (d':=s.drawn) (ch:=[it]) (fun b hb=>?_) (fun b o _ _ hc e _=>k b o (fun z=>hc (by simp[z])) e) (fun b o _ _ hc e _=>⟨o.slots,k b o (fun z=>hc (by simp[z])) e⟩) (fun _ _ _ _ n=>n)
  (fun b o hc e=>⟨o,k b o (fun z=>hc (by simp[z])) e⟩) (fun _ _ e=>e) (fun _ _ _ e=>e) (fun b ps e=>⟨#[],by rw[e];simp⟩) (fun m hm=>?_) (fun b u e=>?_) I.bare
 ·have e:b=it:=by simpa using hb
  subst e
  exact⟨h1,hL,h2,h3⟩
 ·obtain⟨o,es,ep,ho,r⟩:=hm
  exact⟨o,es,ep,k _ o (yva hL) ho,r⟩
 ·refine(I.hok b u e).stay (fun c v hc q=>k c v ?_ q) (fun _ q=>q) fun _ _ q=>q
  rcases hc with z | z
  ·rw[z];exact nit b u e
  ·exact nit c _ z
theorem Inv.tok(I:Inv X pins σ H s)(t:Nat):Inv X pins σ H { s with toks:=t }:=I.un (h':=s.heap) (t':=t) Un.refl I.hok
theorem Inv.kept{t':Nat}(I:Inv X pins σ H s)(k:∀b u,s.heap.get? b=some u→h'.get? b=some u):Inv X pins σ H { s with heap:=h',toks:=t' }:=I.un (Un.kept k) (I.hok.kept k)
theorem Inv.laid{a:Addr}{o:HO}{t':Nat}(I:Inv X pins σ H s)(k:∀b u,s.heap.get? b=some u→h'.get? b=some u)(hp:s.heap.objs.size≤a)(new:br X.prog X.w (upd H a o) h' a o) :
  Inv X pins σ (upd H a o) { s with heap:=h',toks:=t' }:=I.un (Un.laid k hp (I.hok.fresh hp)) (I.hok.laid k hp new)
theorem Inv.write{x e:Addr}{o:HO}{t':Nat}(I:Inv X pins σ H s)(mu:Mut (H x))(he:e=x∨H e=some (.own x))(k:∀b u,b≠e→s.heap.get? b=some u→h'.get? b=some u)(heo:∃u,h'.get? e=some u)
  (new:br X.prog X.w (upd H x o) h' x o):Inv X pins σ (upd H x o) { s with heap:=h',toks:=t' }:=I.un (Un.write mu he k heo) (I.hok.write mu he k heo new)
theorem Inv.pins_of{pins':List (Addr×Obj)}(I:Inv X pins σ H s)(h:∀p∈pins',s.heap.get? p.1=some p.2∧H p.1=none∧p.1≠X.env.locals∧p.1∉X.fs∧∀v,p.2.data≠.cell v):Inv X pins' σ H s :=
 ⟨I.ok,I.os,I.bare,I.base,I.loc,I.cell,I.free,I.freeC,fun p hp=>(List.mem_append.mp hp).elim (fun z=>I.pin p (yha _ z)) (h p),I.hok,I.len⟩
theorem lH{N:List Str}(hN:N.Nodup){i j:Nat}{x:Str}(a:N[i]? = some x)(b:N[j]? = some x):i=j:=by
 obtain⟨h1,e1⟩:=List.getElem?_eq_some_iff.mp a
 obtain⟨h2,e2⟩:=List.getElem?_eq_some_iff.mp b
 exact(List.getElem_inj hN).mp (e1.trans e2.symm)
theorem jv{M:Model}{A:Around}{E:Value→Shared→Prop}{i:Nat}{x:Str}{v:V}{u:Value}{Q:Unit→Shared→Prop}(I:Inv X pins σ H s)(hN:X.N.Nodup)(hi:X.N[i]? = some x)(hx:Loc X.env.scope x)(r:aX v u)
  (h:∀s',Inv X pins (σ.set i (some v)) H s'→(∃a,Heap.SameBut a s.heap s'.heap∧(a=X.env.locals∨X.env.cells.lookup x=some a))→Q () s') (hf:X.fn x=true∨X.env.scope.names.lookup x=some .local:=by first | exact .inl rfl | exact .inr rfl | assumption):wpAny M A (storeName X.env x u) Q E s:=by
 obtain⟨m,hn,hl⟩:=id I.loc
 have hcls:(X.env.scope.kind == .class||(X.env.scope.kind == .module&&X.env.locals != X.env.globals))=false:=by rw[I.ok.kind];rfl
 have hiσ:i<σ.length:=by rw[I.len];exact(List.getElem?_eq_some_iff.mp hi).1
 have cne:=I.cne
 have tracked:∀{a:Addr} {h':Heap},(∃o,s.heap.get? a=some o∧H a=none)→Heap.SameBut a s.heap h'→HOk X.prog X.w H h':=fun {a h'} ha hs b ob e=>by
  obtain⟨_,_,hfree⟩:=ha
  refine(I.hok b ob e).stay (fun c w' hc q=>(hs.2 c ?_).trans q) (fun _ q=>q) fun _ _ q=>q
  rintro rfl
  rcases hc with rfl | hc
  ·rw[hfree] at e;cases e
  ·rw[hfree] at hc;cases hc
 rcases hx with hk | hk
 ·refine wpAny_storeName_local hk hn (fun h' hn' hs=>?_) hcls
  obtain⟨oL,_,_,hoL,_⟩:=id hn
  refine h _ ⟨I.ok,I.os,I.bare,⟨fun b o e n hb hx=>?_,fun b o e n hb hx=>?_,I.base.free,fun b o e hx=>?_,I.base.tups,I.base.frzs,I.base.tbls⟩,⟨_,hn',fun j y v' e1 e2 e3=>?_⟩,fun y c e=>?_,I.free,I.freeC,fun p hp=>?_,tracked ⟨oL,hoL,I.free⟩ hs,by simpa using I.len⟩ ⟨_,hs,.inl rfl⟩
  ·exact(hs.2 b (yE (yF (Heap.lt_size e) I.ok.above))).trans (I.base.keep b o e n hb hx)
  ·obtain⟨sl,e1⟩:=I.base.slot b o e n hb hx
   exact⟨sl,(hs.2 b (yE (yF (Heap.lt_size e) I.ok.above))).trans e1⟩
  ·obtain⟨o',e1⟩:=I.base.there b o e hx
   exact⟨o',(hs.2 b (yE (yF (Heap.lt_size e) I.ok.above))).trans e1⟩
  ·by_cases hj:j=i
   ·subst hj
    rw[hi] at e1;cases e1
    rw[yVa hiσ] at e2
    cases e2
    exact⟨u,r,.inl ⟨hk,by simp⟩⟩
   ·rw[yDb (yva hj)] at e2
    obtain⟨u',r',q⟩:=hl j y v' e1 e2 e3
    refine⟨u',r',?_⟩
    rcases q with ⟨k,e⟩ | ⟨k,c,e,z⟩
    ·refine .inl ⟨k,?_⟩
     have:y≠x:=fun e=>hj (lH hN e1 (e ▸ hi))
     simp[this,e]
    ·exact .inr ⟨k,c,e,z.sameBut hs (cne y c e)⟩
  ·obtain⟨w',z⟩:=I.cell y c e
   exact⟨w',z.sameBut hs (cne y c e)⟩
  ·obtain⟨e,n,ne,nf,d⟩:=I.pin p hp
   exact⟨(hs.2 p.1 ne).trans e,n,ne,nf,d⟩
 ·have hfn:X.fn x=true:=by
   rcases hf with z | z
   ·exact z
   ·rw[z] at hk;cases hk
  obtain⟨c,hc⟩:=I.ok.has x (.inl hk)
  obtain⟨w',z⟩:=I.cell x c hc
  refine wpAny_storeName_cell I.ok.kind hk hc z (fun h' hc' hs=>?_)
  obtain⟨oc,hoc,hocd⟩:=id z
  refine h { s with heap:=h' } ⟨I.ok,I.os,I.bare,⟨fun b o e n hb hx=>?_,fun b o e n hb hx=>?_,I.base.free,fun b o e hx=>?_,I.base.tups,I.base.frzs,I.base.tbls⟩,⟨m,hn.sameBut hs (yva (cne x c hc)),fun j y v' e1 e2 e3=>?_⟩,fun y c' e=>?_,I.free,I.freeC,fun p hp=>?_,tracked ⟨oc,hoc,I.freeC x c hc⟩ hs,by simpa using I.len⟩ ⟨c,hs,.inr hc⟩
  ·exact(hs.2 b (yE (yF (Heap.lt_size e) (I.ok.cab x c hfn hc)))).trans (I.base.keep b o e n hb hx)
  ·obtain⟨sl,e1⟩:=I.base.slot b o e n hb hx
   exact⟨sl,(hs.2 b (yE (yF (Heap.lt_size e) (I.ok.cab x c hfn hc)))).trans e1⟩
  ·obtain⟨o',e1⟩:=I.base.there b o e hx
   exact⟨o',(hs.2 b (yE (yF (Heap.lt_size e) (I.ok.cab x c hfn hc)))).trans e1⟩
  ·by_cases hj:j=i
   ·subst hj
    rw[hi] at e1;cases e1
    rw[yVa hiσ] at e2
    cases e2
    exact⟨u,r,.inr ⟨.inl hk,c,hc,hc'⟩⟩
   ·rw[yDb (yva hj)] at e2
    obtain⟨u',r',q⟩:=hl j y v' e1 e2 e3
    refine⟨u',r',?_⟩
    rcases q with q | ⟨k,c',e,z'⟩
    ·exact .inl q
    ·refine .inr ⟨k,c',e,z'.sameBut hs ?_⟩
     rintro rfl
     exact hj (lH hN e1 (I.ok.inj _ _ _ e hc ▸ hi))
  ·by_cases hcc:c'=c
   ·subst hcc;exact⟨_,hc'⟩
   ·obtain⟨w2,z2⟩:=I.cell y c' e
    exact⟨w2,z2.sameBut hs hcc⟩
  ·obtain⟨e,n,ne,nf,d⟩:=I.pin p hp
   refine⟨(hs.2 p.1 ?_).trans e,n,ne,nf,d⟩
   intro q
   rw[q,hoc] at e
   have q':oc=p.2:=yt e
   exact d w' (by rw[← q'];exact hocd)
theorem kS{M:Model}{A:Around}{E:Value→Shared→Prop}{i:Nat}{x:Str}{v:V}{u:Value}{Q:Unit→Shared→Prop}(I:Inv X pins σ H s)(hN:X.N.Nodup)(hi:X.N[i]? = some x)(hx:Loc X.env.scope x)(r:aX v u)
  (h:∀s',Inv X pins (σ.set i (some v)) H s'→Q () s') (hf:X.fn x=true∨X.env.scope.names.lookup x=some .local:=by first | exact .inl rfl | exact .inr rfl | assumption):wpAny M A (storeName X.env x u) Q E s :=
 jv I hN hi hx r (fun s' I' _=>h s' I') hf
theorem Inv.call'{s':Shared}{ch:List Addr}(I:Inv X pins σ H s)(ho:s'.os=s.os)(u:Un (frs X.stack) ch H H' s.heap s'.heap)(hok:HOk X.prog X.w H' s'.heap)(hg:AllBare s'.gens)
  (hch:∀b∈ch,(b∈X.ex∨X.s₀.heap.objs.size≤b)∧b≠X.env.locals∧(∀x c,X.env.cells.lookup x=some c→c≠b)∧∀p∈X.pn++pins,p.1≠b):Inv X pins σ H' s':=by
 obtain⟨h',g',d',t',o'⟩:=s'
 have e:o'=s.os:=ho
 subst e
 exact I.call (g':=g') (t':=t') (d':=d') u hok hg hch
end
noncomputable abbrev XK:=Value→Option Addr→Hp→Prop
noncomputable abbrev St:=List (Option V)
noncomputable abbrev VK:=V→Hp→Prop
noncomputable abbrev TE:=St→Hp→VK→Prop
noncomputable abbrev TT:=St→Hp→(Bool→Hp→Prop)→Prop
noncomputable abbrev TA:=St→Hp→(List V→Hp→Prop)→Prop
structure dG where
 nx:St→Hp→Prop
 rt:VK
 bk:St→Hp→Prop:=fun _ _=>False
 ct:St→Hp→Prop:=fun _ _=>False
noncomputable abbrev TS:=dG→St→Hp→Prop
noncomputable def EP(X:Cx)(pins:List (Addr×Obj))(σ:St)(Q:VK)(u:Value)(s':Shared):Prop:=∃v H',Inv X pins σ H' s'∧aX v u∧Q v H'
noncomputable def TP(X:Cx)(pins:List (Addr×Obj))(σ:St)(Q:Bool→Hp→Prop)(b:Bool)(s':Shared):Prop:=∃H',Inv X pins σ H' s'∧Q b H'
noncomputable def AP(X:Cx)(pins:List (Addr×Obj))(σ:St)(Q:List V→Hp→Prop)(us:List Value)(s':Shared):Prop:=∃vs H',Inv X pins σ H' s'∧aO vs us∧Q vs H'
noncomputable def SP(X:Cx)(pins:List (Addr×Obj))(D:dG)(f:Flow)(s':Shared):Prop :=
 match f with
 | .next=>∃σ' H',Inv X pins σ' H' s'∧D.nx σ' H'
 | .brk=>∃σ' H',Inv X pins σ' H' s'∧D.bk σ' H'
 | .cont=>∃σ' H',Inv X pins σ' H' s'∧D.ct σ' H'
 | .ret u=>∃v σ' H',Inv X pins σ' H' s'∧aX v u∧D.rt v H'
noncomputable def PE(X:Cx)(e:Expr)(t:TE):Prop :=
 ∀(pins:List (Addr×Obj)) (s:Shared) (σ:St) (H:Hp) (Q:VK),Inv X pins σ H s→t σ H Q→wpAny (model X.prog X.w) X.A (eval e X.env) (EP X pins σ Q) X.xe s
noncomputable def PT(X:Cx)(e:Expr)(t:TT):Prop :=
 ∀(pins:List (Addr×Obj)) (s:Shared) (σ:St) (H:Hp) (Q:Bool→Hp→Prop),Inv X pins σ H s→t σ H Q→wpAny (model X.prog X.w) X.A (isTrue e X.env (eval e X.env)) (TP X pins σ Q) X.xe s
noncomputable def PW(X:Cx)(e:Expr)(t:TT):Prop :=
 ∀(whole:Sem Value) (pins:List (Addr×Obj)) (s:Shared) (σ:St) (H:Hp) (Q:Bool→Hp→Prop),Inv X pins σ H s→t σ H Q→wpAny (model X.prog X.w) X.A (isTrue e X.env whole) (TP X pins σ Q) X.xe s
theorem PW.pt{X:Cx}{e:Expr}{t:TT}(h:PW X e t):PT X e t:=h _
noncomputable def PA(X:Cx)(es:List Expr)(t:TA):Prop :=
 ∀(pos:Pos) (pins:List (Addr×Obj)) (s:Shared) (σ:St) (H:Hp) (Q:List V→Hp→Prop),Inv X pins σ H s→t σ H Q→wpAny (model X.prog X.w) X.A (spliced (backTo pos (starEach es X.env))) (AP X pins σ Q) X.xe s
noncomputable def PS(X:Cx)(st:Stmt)(t:TS):Prop :=
 ∀(pins:List (Addr×Obj)) (s:Shared) (σ:St) (H:Hp) (D:dG),Inv X pins σ H s→t D σ H→wpAny (model X.prog X.w) X.A (exec st X.env) (SP X pins D) X.xe s
noncomputable def PSs(X:Cx)(st:List Stmt)(t:TS):Prop :=
 ∀(pins:List (Addr×Obj)) (s:Shared) (σ:St) (H:Hp) (D:dG),Inv X pins σ H s→t D σ H→wpAny (model X.prog X.w) X.A (execs st X.env) (SP X pins D) X.xe s
theorem thn{α:Type}{t:Sem α}{Q Q':α→Shared→Prop}{M:Model}{A:Around}{E:Value→Shared→Prop}{s:Shared}(h:wpAny M A t Q E s)(hQ:∀a s,Q a s→Q' a s):wpAny M A t Q' E s:=wpAny_mono h hQ fun _ _ x=>x
end L2
namespace L2
open PySem PySem.Spec PyProof.Rows
section
variable{X:Cx}
noncomputable def mP(i:Nat):TE:=fun σ H Q=>∃v,σ[i]? = some (some v)∧Q v H
noncomputable def tC(v:V):TE:=fun _ H Q=>Q v H
theorem y4{i:Nat}{x:Str}{pos:Pos}(hN:X.N[i]? = some x)(hv:Vis X.env.scope x)(hd:(x == ("__debug__":Str))=false:=by decide)(hcd:(x == ("__classdict__":Str))=false:=by decide):PE X (.Name x pos) (mP i):=by
 intro pins s σ H Q I h
 obtain⟨v,e,h⟩:=h
 obtain⟨m,hn,hl⟩:=I.loc
 obtain⟨u,r,l⟩:=hl i x v hN e hv
 have fin:EP X pins σ Q u s:=⟨v,H,I,r,h⟩
 rcases l with ⟨hk,hm⟩ | ⟨hk,c,hc,hcell⟩
 ·exact wpAny_Name (wpAny_loadName_local I.ok.kind hk hn hm fin) hd
 ·rcases hk with hk | hk
  ·exact wpAny_Name (wpAny_loadName_cell I.ok.kind hk hc hcell fin) hd
  ·exact wpAny_Name (wpAny_loadName_free I.ok.kind hk hc hcell fin hcd) hd
theorem aj{i j pos}:PE X (.Constant (.int i) j pos) (tC (.int i)):=fun _ _ _ H _ I h=>wpAny_Constant_int ⟨.int i,H,I.tok _,⟨_,rfl⟩,h⟩
theorem cF{b j pos}:PE X (.Constant (.bool b) j pos) (tC (.bl b)):=fun _ _ _ H _ I h=>Constant_bool ⟨.bl b,H,I,rfl,h⟩
theorem y8{j pos}:PE X (.Constant .none j pos) (tC .non):=fun _ _ _ H _ I h=>Constant_none ⟨.non,H,I,rfl,h⟩
theorem bT{x j pos}:PE X (.Constant (.str x) j pos) (tC (.str x)):=fun _ _ _ H _ I h=>Calls.Constant_str ⟨.str x,H,I.tok _,⟨_,rfl⟩,h⟩
noncomputable def Gl(X:Cx)(x:Str):Prop:=X.env.kindOf x=some .globalImplicit
theorem gS{E:Value→Shared→Prop}{pins:List (Addr×Obj)}{s:Shared}{σ:St}{H:Hp}{x:Str}{u:Value}{pos:Pos}{Q:Value→Shared→Prop}(I:Inv X pins σ H s)(hg:Gl X x)(hm:X.mg x=some u)(h:Q u s)
  (hd:(x == ("__debug__":Str))=false:=by decide):wpAny (model X.prog X.w) X.A (eval (.Name x pos) X.env) Q E s :=
 Calls.Name_function_global I.ok.kind hg (Calls.loadGlobal_global (by rw[I.ok.glob];exact I.mod.glob.keeps I.bk) hm h) hd
theorem dJ{E:Value→Shared→Prop}{pins:List (Addr×Obj)}{s:Shared}{σ:St}{H:Hp}{x:Str}{u:Value}{pos:Pos}{Q:Value→Shared→Prop}(I:Inv X pins σ H s)(hg:Gl X x)(hm:X.mg x=none)(hv:bootBuiltins x=some u)(h:Q u s)
  (hn:x ≠ "__name__" := by decide) (hd:(x == ("__debug__":Str))=false:=by decide):wpAny (model X.prog X.w) X.A (eval (.Name x pos) X.env) Q E s:=by
 obtain⟨mb,h1,h2⟩:=I.mod.blt
 exact Calls.Name_function_global I.ok.kind hg (Calls.loadGlobal_builtin (by rw[I.ok.glob];exact I.mod.glob.keeps I.bk) hm (by rw[I.ok.blt];exact h1.keeps I.bk) ((h2 x hn).trans hv) h) hd
theorem se{x:Str}{v:V}{u:Value}{pos:Pos}(hg:Gl X x)(hm:X.mg x=some u)(r:aX v u)(hd:(x == ("__debug__":Str))=false:=by decide):PE X (.Name x pos) (tC v) :=
 fun _ _ _ H _ I h=>gS I hg hm ⟨v,H,I,r,h⟩ hd
theorem nV{x:Str}{v:V}{u:Value}{pos:Pos}(hg:Gl X x)(hm:X.mg x=none)(hv:bootBuiltins x=some u)(r:aX v u)(hn:x ≠ "__name__" := by decide)(hd:(x == ("__debug__":Str))=false:=by decide):PE X (.Name x pos) (tC v) :=
 fun _ _ _ H _ I h=>dJ I hg hm hv ⟨v,H,I,r,h⟩ hn hd
variable{a b:Expr}{ta tb:TE}{pos:Pos}
noncomputable def PC(X:Cx)(op:CmpOp)(a b:Expr)(t:TE):Prop :=
 ∀(pins:List (Addr×Obj)) (s:Shared) (σ:St) (H:Hp) (Q:VK),Inv X pins σ H s→t σ H Q →
  wpAny (model X.prog X.w) X.A (eval a X.env) (fun v s₁=>wpAny (model X.prog X.w) X.A (eval b X.env) (fun u s₂=>wpAny (model X.prog X.w) X.A (compareOp op v u) (EP X pins σ Q) X.xe s₂) X.xe s₁) X.xe s
noncomputable def Cj(ta:TE):TE:=fun σ H Q=>ta σ H fun x H1=>Q (.bl (decide (x=.non))) H1
noncomputable def Ao(ta:TE):TE:=fun σ H Q=>ta σ H fun x H1=>Q (.bl (!decide (x=.non))) H1
noncomputable def tB(t:TE):TT:=fun σ H Q=>t σ H fun x H1=>∃c,x=.bl c∧Q c H1
theorem vf{op:CmpOp}{t:TE}(h:PC X op a b t)(h1:behindInMarks op b=false:=by first | exact nobehind _ (by decide) (by decide) | rfl):PE X (.Compare a [op] [b] pos) t:=fun pins s σ H Q I hw=>wpAny_Compare1 (h pins s σ H Q I hw) h1
theorem vT{op:CmpOp}{t:TE}(h:PC X op a b t)(h1:behindInMarks op b=false:=by first | exact nobehind _ (by decide) (by decide) | rfl):PT X (.Compare a [op] [b] pos) (tB t):=by
 intro pins s σ H Q I hw
 refine wpAny_isTrue_Compare1 (thn (h pins s σ H _ I hw) fun v s1 h1=>thn h1 fun u s2 h2=>thn h2 fun c s3 ⟨x,H1,I1,r1,q1⟩=>?_) h1
 obtain⟨d,rfl,q⟩:=q1
 cases r1
 exact wpAny_truthy_bool ⟨H1,I1,q⟩
theorem b8{e:Expr}{t:TE}(h:PE X e t)(he:∀whole,isTrue e X.env whole=(do let v←whole;standAt e.pos;holding [v] (truthy v)):=by intro _;rfl):PT X e (tB t):=by
 intro pins s σ H Q I hw
 refine isTrue_plain (thn (h pins s σ H _ I hw) fun v s1 ⟨x,H1,I1,r1,q1⟩=>?_) (he _)
 obtain⟨d,rfl,q⟩:=q1
 cases r1
 exact wpAny_truthy_bool ⟨H1,I1,q⟩
variable{tA tB':TT}{rest:List Expr}
noncomputable def AG(t u:TT):TT:=fun σ H Q=>t σ H fun c H1=>if c=true then u σ H1 Q else Q false H1
noncomputable def tOr(t u:TT):TT:=fun σ H Q=>t σ H fun c H1=>if c=true then Q true H1 else u σ H1 Q
noncomputable def Aw(t:TT):TT:=fun σ H Q=>t σ H fun c H1=>Q (!c) H1
theorem mU(ha:PT X a tA):PW X (.BoolOp .And [a] pos) tA:=by
 intro wh pins s σ H Q I h
 refine isTrue_and (thn (ha pins s σ H Q I h) fun c s1 e=>?_)
 cases c with
 | true=>exact isTrue_and_nil e
 | false=>exact e
theorem dW(ha:PT X a tA):PW X (.BoolOp .Or [a] pos) tA:=by
 intro wh pins s σ H Q I h
 refine isTrue_or (thn (ha pins s σ H Q I h) fun c s1 e=>?_)
 cases c with
 | false=>exact isTrue_or_nil e
 | true=>exact e
theorem qP(ha:PT X a tA)(hb:PW X (.BoolOp .And (b::rest) pos) tB'):PW X (.BoolOp .And (a::b::rest) pos) (AG tA tB'):=by
 intro wh pins s σ H Q I h
 refine isTrue_and (thn (ha pins s σ H _ I h) fun c s1 ⟨H1,I1,q1⟩=>?_)
 cases c with
 | true=>exact hb wh pins s1 σ H1 Q I1 q1
 | false=>exact⟨H1,I1,q1⟩
theorem gn(ha:PT X a tA)(hb:PW X (.BoolOp .Or (b::rest) pos) tB'):PW X (.BoolOp .Or (a::b::rest) pos) (tOr tA tB'):=by
 intro wh pins s σ H Q I h
 refine isTrue_or (thn (ha pins s σ H _ I h) fun c s1 ⟨H1,I1,q1⟩=>?_)
 cases c with
 | true=>exact⟨H1,I1,q1⟩
 | false=>exact hb wh pins s1 σ H1 Q I1 q1
theorem cG(ha:PT X a tA):PT X (.UnaryOp .Not a pos) (Aw tA):=by
 intro pins s σ H Q I h
 exact isTrue_not (ha pins s σ H (fun c H1=>Q (!c) H1) I h)
noncomputable def uc(ta tb:TE):TE:=fun σ H Q=>ta σ H fun x H1=>∃c,x=.bl c∧if c=true then tb σ H1 Q else Q (.bl false) H1
noncomputable def BU(ta tb:TE):TE:=fun σ H Q=>ta σ H fun x H1=>∃c,x=.bl c∧if c=true then Q (.bl true) H1 else tb σ H1 Q
noncomputable def Al(ta:TE):TE:=fun σ H Q=>ta σ H fun x H1=>∃c,x=.bl c∧Q (.bl (!c)) H1
theorem cp{op}{t:TE}(h:PE X a t):PE X (.BoolOp op [a] pos) t:=fun pins s σ H Q I hw=>BoolOp_one (h pins s σ H Q I hw)
theorem bM(ha:PE X a ta)(hb:PE X (.BoolOp .And (b::rest) pos) tb):PE X (.BoolOp .And (a::b::rest) pos) (uc ta tb):=by
 intro pins s σ H Q I h
 refine BoolOp_and (thn (ha pins s σ H _ I h) fun v s1 ⟨x,H1,I1,r1,q1⟩=>?_)
 obtain⟨c,rfl,q1⟩:=q1
 cases r1
 refine wpAny_truthy_bool ?_
 cases c with
 | true=>exact hb pins s1 σ H1 Q I1 q1
 | false=>exact⟨.bl false,H1,I1,rfl,q1⟩
noncomputable def tIf(t:TT)(ta tb:TE):TE:=fun σ H Q=>t σ H fun c H1=>if c=true then ta σ H1 Q else tb σ H1 Q
theorem qW{c:Expr}(hc:PT X c tA)(ha:PE X a ta)(hb:PE X b tb):PE X (.IfExp c a b pos) (tIf tA ta tb):=by
 intro pins s σ H Q I h
 refine wpAny_IfExp (thn (hc pins s σ H _ I h) fun d s1 ⟨H1,I1,q1⟩=>?_)
 cases d with
 | true=>exact ha pins s1 σ H1 Q I1 q1
 | false=>exact hb pins s1 σ H1 Q I1 q1
end
end L2
namespace L2
open PySem PySem.Spec PyProof.Rows
noncomputable def SqL(K:PySem.W.Frag)(H:Hp)(a:Addr)(xs:List V):Prop :=
 Rd H a (.lst xs) ∨
  ∃(o:Obj) (its:Array Value) (n:Nat),K.lookup a=some o∧o.cls=.type "list" ∧ o.dict=none∧o.data=.seq its n∧its.size≤sizeLine∧aO xs its.toList
noncomputable def SqT(K:PySem.W.Frag)(H:Hp)(a:Addr)(xs:List V):Prop :=
 Rd H a (.tup xs) ∨
  ∃(o:Obj) (its:Array Value) (n:Nat),K.lookup a=some o∧o.cls=.type "tuple" ∧ o.data=.seq its n∧its.size≤sizeLine∧aO xs its.toList
noncomputable def BF:Value→Option V
 | .none=>some .non
 | .bool b=>some (.bl b)
 | .int i _=>some (.int i)
 | .str x _=>some (.str x)
 | .bytes b _=>some (.byt b)
 | .float b _=>some (.flt b)
 | .ref a=>some (.ref a)
 | .type n=>some (.ty n)
 | _=>none
theorem aX.abs{x:V}{u:Value}(r:aX x u):BF u=some x:=by
 cases x with
 | non=>cases r;rfl
 | bl _=>cases r;rfl
 | int _=>obtain⟨t,rfl⟩:=r;rfl
 | str _=>obtain⟨t,rfl⟩:=r;rfl
 | byt _=>obtain⟨t,rfl⟩:=r;rfl
 | flt _=>obtain⟨t,rfl⟩:=r;rfl
 | ref _=>cases r;rfl
 | ty _=>cases r;rfl
theorem aX.inj{x y:V}{u:Value}(r:aX x u)(q:aX y u):x=y:=yt (r.abs.symm.trans q.abs)
theorem aO.inj:∀{xs ys:List V} {us:List Value},aO xs us→aO ys us→xs=ys
 | _,_,_,.nil,.nil=>rfl
 | _,_,_,.cons r t,.cons r' t'=>by rw[r.inj r',aO.inj t t']
section
variable{X:Cx}{pins:List (Addr×Obj)}{σ:St}{H:Hp}{s:Shared}{a:Addr}{xs ys:List V}
theorem SqL.of{K:PySem.W.Frag}(h:H a=some (.lst xs)):SqL K H a xs:=.inl (.inl h)
theorem SqT.of{K:PySem.W.Frag}(h:H a=some (.tup xs)):SqT K H a xs:=.inl (.inl h)
theorem Inv.list(I:Inv X pins σ H s)(h:SqL X.K H a xs):∃its:List Value,aO xs its∧PlainL s.heap a its.toArray∧xs.length≤sizeLine:=by
 rcases h with h | ⟨o,its,n,hk,hc,hd,hs,hz,r⟩
 ·obtain⟨z,its,n,r,e⟩:=h.ok I.hok
  exact⟨its,r,⟨_,n,e,rfl,rfl,rfl⟩,z⟩
 ·refine⟨its.toList,r,⟨o,n,I.kIn a o hk,hc,hd,by simpa using hs⟩,?_⟩
  have e:=r.length
  simp only[yka] at e
  omega
theorem Inv.tuple(I:Inv X pins σ H s)(h:SqT X.K H a xs):∃its:List Value,aO xs its∧IsTup s.heap a its.toArray∧xs.length≤sizeLine:=by
 rcases h with h | ⟨o,its,n,hk,hc,hs,hz,r⟩
 ·obtain⟨z,its,r,p⟩:=h.ok I.hok
  exact⟨its,r,p,z⟩
 ·refine⟨its.toList,r,⟨o,I.kIn a o hk,hc,n,by simpa using hs⟩,?_⟩
  have e:=r.length
  simp only[yka] at e
  omega
theorem Inv.list_inj(I:Inv X pins σ H s)(h:SqL X.K H a xs)(h':SqL X.K H a ys):xs=ys:=by
 obtain⟨its,r,⟨o,n,e,_,_,d⟩,_⟩:=I.list h
 obtain⟨its',r',⟨o',n',e',_,_,d'⟩,_⟩:=I.list h'
 rw[e] at e'; cases e'
 rw[d] at d'
 injection d' with d1 _
 have:its=its':=by simpa using congrArg Array.toList d1
 subst this
 exact r.inj r'
theorem Inv.tuple_inj(I:Inv X pins σ H s)(h:SqT X.K H a xs)(h':SqT X.K H a ys):xs=ys:=by
 obtain⟨its,r,⟨o,e,_,n,d⟩,_⟩:=I.tuple h
 obtain⟨its',r',⟨o',e',_,n',d'⟩,_⟩:=I.tuple h'
 rw[e] at e'; cases e'
 rw[d] at d'
 injection d' with d1 _
 have:its=its':=by simpa using congrArg Array.toList d1
 subst this
 exact r.inj r'
end
noncomputable abbrev Cx.wish(X:Cx)(E:Value→Shared→Prop):Cx:={ X with xe:=E }
noncomputable abbrev Cx.nox(X:Cx):Cx:=X.wish fun _ _=>False
theorem Cx.Ok.wish{X:Cx}(ok:X.Ok)(E:Value→Shared→Prop):(X.wish E).Ok :=
 ⟨ok.mod,ok.kind,ok.glob,ok.blt,ok.above,ok.inj,ok.has,ok.cab,ok.hd,ok.frames,ok.stk,ok.exf,ok.bs,ok.bsz,ok.noex,ok.exfs,ok.funs,ok.frf⟩
theorem Cx.Ok.unwish{X:Cx}{E:Value→Shared→Prop}(ok:(X.wish E).Ok):X.Ok :=
 ⟨ok.mod,ok.kind,ok.glob,ok.blt,ok.above,ok.inj,ok.has,ok.cab,ok.hd,ok.frames,ok.stk,ok.exf,ok.bs,ok.bsz,ok.noex,ok.exfs,ok.funs,ok.frf⟩
section
variable{X:Cx}{pins:List (Addr×Obj)}{σ:St}{H:Hp}{s:Shared}{E:Value→Shared→Prop}
theorem Inv.wish(I:Inv X pins σ H s)(E:Value→Shared→Prop):Inv (X.wish E) pins σ H s:=⟨I.ok.wish E,I.os,I.bare,I.base,I.loc,I.cell,I.free,I.freeC,I.pin,I.hok,I.len⟩
theorem Inv.unwish(I:Inv (X.wish E) pins σ H s):Inv X pins σ H s:=⟨I.ok.unwish,I.os,I.bare,I.base,I.loc,I.cell,I.free,I.freeC,I.pin,I.hok,I.len⟩
theorem SP.unwish{D:dG}{f:Flow}{s':Shared}(h:SP (X.wish E) pins D f s'):SP X pins D f s':=by
 cases f with
 | next=>obtain⟨σ',H',I,q⟩:=h;exact⟨σ',H',I.unwish,q⟩
 | brk=>obtain⟨σ',H',I,q⟩:=h;exact⟨σ',H',I.unwish,q⟩
 | cont=>obtain⟨σ',H',I,q⟩:=h;exact⟨σ',H',I.unwish,q⟩
 | ret u=>obtain⟨v,σ',H',I,r,q⟩:=h;exact⟨v,σ',H',I.unwish,r,q⟩
theorem PSs.nox{st:List Stmt}{t:TS}(h:PSs X.nox st t):PSs X st t:=fun pins s σ H D I hw =>
 wpAny_mono (h pins s σ H D (I.wish _) hw) (fun _ _ q=>q.unwish) fun _ _ z=>False.elim z
end
section
variable{X:Cx}{st:Stmt}{rest:List Stmt}{t u:TS}{e:Expr}{te:TE}{pos:Pos}
noncomputable def uJ:TS:=fun D σ H=>D.nx σ H
noncomputable def ze(t u:TS):TS:=fun D σ H=>t { D with nx:=u D } σ H
theorem aJ:PSs X [] uJ:=fun _ _ σ H _ I h=>wpAny_execs_nil ⟨σ,H,I,h⟩
theorem ak(h1:PS X st t)(h2:PSs X rest u):PSs X (st::rest) (ze t u):=by
 intro pins s σ H D I h
 refine wpAny_execs_cons (thn (h1 pins s σ H { D with nx:=u D } I h) fun f s1 q=>?_)
 cases f with
 | next =>
  obtain⟨σ',H',I',q⟩:=q
  exact h2 pins s1 σ' H' D I' q
 | ret v=>exact q
 | brk=>exact q
 | cont=>exact q
theorem am(h1:PS X st t):PSs X [st] t:=by
 intro pins s σ H D I h
 refine wpAny_execs_cons (thn (h1 pins s σ H D I h) fun f s1 q=>?_)
 cases f with
 | next=>exact wpAny_execs_nil q
 | ret v=>exact q
 | brk=>exact q
 | cont=>exact q
theorem Inv.quiet{pins:List (Addr×Obj)}{σ:St}{H:Hp}{s:Shared}(I:Inv X pins σ H s):interactive X.env=false:=by simp[interactive,I.ok.kind]
noncomputable def uG(te:TE):TS:=fun D σ H=>te σ H fun _ H1=>D.nx σ H1
theorem bO(he:PE X e te)(hs:swapsWith e none pos.line X.env=pure false:=by rfl):PS X (.Expr e pos) (uG te):=by
 intro pins s σ H D I h
 exact wpAny_Expr_any (thn (he pins s σ H _ I h) fun v s1 ⟨x,H1,I1,r1,q1⟩=>⟨σ,H1,I1,q1⟩) I.quiet hs
noncomputable def As(te:TE):TS:=fun D σ H=>te σ H D.rt
theorem ay(he:PE X e te):PS X (.Return (some e) pos) (As te):=by
 intro pins s σ H D I h
 exact wpAny_Return_some (thn (he pins s σ H _ I h) fun v s1 ⟨x,H1,I1,r1,q1⟩=>⟨x,σ,H1,I1,r1,q1⟩)
noncomputable def zH:TS:=fun D _ H=>D.rt .non H
noncomputable def oH(c:TT)(t u:TS):TS:=fun D σ H=>c σ H fun b H1=>if b=true then t D σ H1 else u D σ H1
theorem bh{c:Expr}{a b:List Stmt}{tc:TT}(hc:PT X c tc)(ha:PSs X a t)(hb:PSs X b u):PS X (.If c a b pos) (oH tc t u):=by
 intro pins s σ H D I h
 refine wpAny_If (thn (hc pins s σ H _ I h) fun d s1 ⟨H1,I1,q1⟩=>?_)
 cases d with
 | true=>exact ha pins s1 σ H1 D I1 q1
 | false=>exact hb pins s1 σ H1 D I1 q1
noncomputable def wz:TS:=fun _ _ _=>False
theorem fD:PS X st wz:=fun _ _ _ _ _ _ h=>h.elim
end
noncomputable abbrev TG:=V→St→Hp→(St→Hp→Prop)→Prop
noncomputable abbrev TGs:=List V→St→Hp→(St→Hp→Prop)→Prop
noncomputable def PG(X:Cx)(target:Expr)(t:TG):Prop :=
 ∀(pins:List (Addr×Obj)) (s:Shared) (σ:St) (H:Hp) (v:V) (u:Value) (Q:St→Hp→Prop),Inv X pins σ H s→aX v u→t v σ H Q →
  wpAny (model X.prog X.w) X.A (assign target X.env u) (fun _ s'=>∃σ' H',Inv X pins σ' H' s'∧Q σ' H') X.xe s
noncomputable def PGs(X:Cx)(ts:List Expr)(t:TGs):Prop :=
 ∀(pins:List (Addr×Obj)) (s:Shared) (σ:St) (H:Hp) (vs:List V) (us:List Value) (Q:St→Hp→Prop),Inv X pins σ H s→aO vs us→t vs σ H Q →
  wpAny (model X.prog X.w) X.A (assignInOrder ((assignEach ts X.env).map (·.2)) us) (fun _ s'=>∃σ' H',Inv X pins σ' H' s'∧Q σ' H') X.xe s
noncomputable abbrev xP:=V→V→V→Hp→(Hp→Prop)→Prop
noncomputable def Ar(X:Cx)(t:xP):Prop :=
 ∀(pins:List (Addr×Obj)) (s:Shared) (σ:St) (H:Hp) (o i v:V) (ov iv u:Value) (Q:Hp→Prop),Inv X pins σ H s→aX o ov→aX i iv→aX v u→t o i v H Q →
  wpAny (model X.prog X.w) X.A (setItem ov iv u) (fun _ s'=>∃H',Inv X pins σ H' s'∧Q H') X.xe s
section
variable{X:Cx}{pos:Pos}
noncomputable def nD(i:Nat):TG:=fun v σ H Q=>Q (σ.set i (some v)) H
theorem aq{i:Nat}{x:Str}(hN:X.N.Nodup)(hi:X.N[i]? = some x)(hx:Loc X.env.scope x)(hf:X.fn x=true∨X.env.scope.names.lookup x=some .local:=by first | exact .inl rfl | exact .inr rfl | assumption):PG X (.Name x pos) (nD i):=by
 intro pins s σ H v u Q I r h
 exact wpAny_assign_Name (kS I hN hi hx r (fun s' I'=>⟨_,H,I',h⟩) hf)
noncomputable def zK:TGs:=fun vs σ H Q=>vs=[]∧Q σ H
noncomputable def uq(t:TG)(u:TGs):TGs:=fun vs σ H Q=>∃v r,vs=v::r∧t v σ H fun σ' H'=>u r σ' H' Q
theorem bx:PGs X [] zK:=by
 intro pins s σ H vs us Q I r h
 obtain⟨e,h⟩:=h
 subst e
 cases r
 exact assignInOrder_nil ⟨σ,H,I,h⟩
theorem aB{e:Expr}{es:List Expr}{t:TG}{u:TGs}(h1:PG X e t)(h2:PGs X es u)
  (hs:(assignEach (e::es) X.env).map (·.2)=assign e X.env::(assignEach es X.env).map (·.2):=by rfl):PGs X (e::es) (uq t u):=by
 intro pins s σ H vs us Q I r h
 obtain⟨v,vr,e1,h⟩:=h
 subst e1
 cases r with
 | cons r rr =>
  rw[hs]
  refine assignInOrder_cons (thn (h1 pins s σ H _ _ _ I r h) fun _ s1 ⟨σ1,H1,I1,q1⟩=>?_)
  exact h2 pins s1 σ1 H1 _ _ Q I1 rr q1
noncomputable def sQ(K:PySem.W.Frag)(n:Nat)(t:TGs):TG:=fun v σ H Q=>∃a xs,v=.ref a∧SqT K H a xs∧xs.length=n∧t xs σ H Q
theorem cx{es:List Expr}{k:Nat}{t:TGs}{n:Nat}(hc:X.calm=true)(h:PGs X es t)
  (hn:(assignEach es X.env).length=n:=by rfl) (hst:(assignEach es X.env).findIdx? (·.1)=none:=by rfl):PG X (.Tuple es k pos) (sQ X.K n t):=by
 intro pins s σ H v u Q I r hw
 obtain⟨a,xs,e1,hq,hl,hw⟩:=hw
 subst e1
 cases r
 obtain⟨its,rv,ht,hz⟩:=I.tuple hq
 refine assign_Tuple_tuple (I.ok.hd hc) ht (by simp[hn,← hl,rv.length]) hst fun h' hx=>?_
 have I1:Inv X pins σ H { s with heap:=h' }:=I.kept (t':=s.toks) fun b o e=>hx b o (yE (Heap.lt_size e)) e
 exact h pins _ σ H xs _ Q I1 (by simpa using rv) hw
noncomputable def zZ(to ti:TE)(t:xP):TG:=fun v σ H Q=>to σ H fun o H1=>ti σ H1 fun i H2=>t o i v H2 fun H3=>Q σ H3
theorem ki{o i:Expr}{to ti:TE}{t:xP}(ho:PE X o to)(hi:PE X i ti)(hs:Ar X t)
  (ha:∀v,assign (.Subscript o i pos) X.env v=(do
   let ov←holding [v] (eval o X.env)
   let iv←holding [v,ov] (eval i X.env)
   standAt pos
   holding [v,ov,iv] (setItem ov iv v)
   release [v,ov,iv] []):=by intro _;rfl):PG X (.Subscript o i pos) (zZ to ti t):=by
 intro pins s σ H v u Q I r h
 rw[ha]
 refine wpAny_bind (wpAny_holding (thn (ho pins s σ H _ I h) fun ov s1 ⟨x,H1,I1,r1,q1⟩=>?_))
 refine wpAny_bind (wpAny_holding (thn (hi pins s1 σ H1 _ I1 q1) fun iv s2 ⟨y,H2,I2,r2,q2⟩=>?_))
 refine wpAny_bind (wpAny_standAt (wpAny_bind (wpAny_holding (thn (hs pins s2 σ H2 x y v ov iv u _ I2 r1 r2 r q2) fun _ s3 ⟨H3,I3,q3⟩=>?_))))
 exact wpAny_release ⟨σ,H3,I3,q3⟩
noncomputable def rR(te:TE)(g:TG):TS:=fun D σ H=>te σ H fun x H1=>g x σ H1 D.nx
theorem dH{tg e:Expr}{te:TE}{g:TG}(he:PE X e te)(hg:PG X tg g)(hs:swapsWithSole [tg] e pos.line X.env=pure false:=by rfl)(hw:swappedStores [tg] e X.env=pure none:=by rfl)
  (h1:(assignEach [tg] X.env).map (·.2)=[assign tg X.env]:=by rfl):PS X (.Assign [tg] e pos) (rR te g):=by
 intro pins s σ H D I h
 refine wpAny_Assign_stores (thn (he pins s σ H _ I h) fun v s1 ⟨x,H1,I1,r1,q1⟩=>?_) hs hw
 rw[h1]
 exact thn (hg pins s1 σ H1 x v _ I1 r1 q1) fun _ s2 q=>q
theorem aD{i:Nat}{x:Str}{e:Expr}{te:TE}{pos':Pos}(hN:X.N.Nodup)(hi:X.N[i]? = some x)(hx:Loc X.env.scope x)(he:PE X e te)(hs:swapsWith e (some (.Name x pos')) pos.line X.env=pure false:=by rfl)(hf:X.fn x=true∨X.env.scope.names.lookup x=some .local:=by first | exact .inl rfl | exact .inr rfl | assumption) :
  PS X (.Assign [.Name x pos'] e pos) (rR te (nD i)):=by
 intro pins s σ H D I h
 refine wpAny_Assign_Name (thn (he pins s σ H _ I h) fun v s1 ⟨y,H1,I1,r1,q1⟩=>?_) hs
 exact kS I1 hN hi hx r1 (fun s2 I2=>⟨_,H1,I2,q1⟩) hf
end
section
variable{X:Cx}{pos:Pos}
noncomputable def wW(c:TT)(tb:TS):TS:=fun D σ H=>∃W:Nat→St→Hp→Prop,(∃m,W m σ H)∧∀m σ H,W m σ H →
 c σ H fun b H1=>if b=true then ∃N:St→Hp→Prop,(∀σ' H',N σ' H'→∃m',m'<m∧W m' σ' H')∧tb { D with nx:=N,ct:=N,bk:=D.nx } σ H1 else D.nx σ H1
end
structure It where
 go:Nat→Hp→Prop
 yld:Nat→Hp→V→Hp→Prop
 stop:Nat→Hp→Prop
noncomputable def fq(X:Cx)(pins:List (Addr×Obj))(H:Hp)(b:Addr):Prop :=
 H b=none∧b≠X.env.locals∧b∉X.fs∧(b∈X.ex∨X.s₀.heap.objs.size≤b)∧(∀x c,X.env.cells.lookup x=some c→c≠b)∧∀p∈X.pn++pins,p.1≠b
theorem Inv.fpOk{X:Cx}{pins:List (Addr×Obj)}{σ:St}{H H':Hp}{s:Shared}{b:Addr}(I:Inv X pins σ H s)(hb:s.heap.objs.size≤b)(hn:H' b=none):fq X pins H' b:=by
 refine⟨hn,yNb (yF I.lt hb),I.nofs hb,.inr (yJ I.sz hb),fun x c e z=>?_,fun p hp z=>?_⟩
 ·obtain⟨v,q⟩:=I.cell x c e
  exact absurd (yF q.lt (by rw[z];exact hb)) (yia _)
 ·exact absurd (yF (Heap.lt_size (I.pin p hp).1) (by rw[z];exact hb)) (yia _)
structure kY(P:Program)(w:World)(K:PySem.W.Frag)(tg:Expr)(J:It)(fp:List Addr)(it:Addr)(tn:Nat→Heap→Prop):Prop where
 mem:it∈fp
 obj:∀i h,tn i h→∀b∈fp,∃o,h.get? b=some o∧∀v,o.data≠.cell v
 keep:∀i h h',tn i h→(∀b∈fp,∀o,h.get? b=some o→h'.get? b=some o)→tn i h'
 item:∀(X:Cx),X.prog=P→X.w=w→X.K=K→X.calm=true→∀(i:Nat) (pins:List (Addr×Obj)) (s:Shared) (σ:St) (H:Hp) (E:Value→Shared→Prop),Inv X pins σ H s→(∀b∈fp,fq X pins H b)→tn i s.heap→J.go i H →
  wpAny (model P w) X.A (pyNext (.ref it)) (fun r s1=>∃u,r=some u ∧
   wpAny (model P w) X.A (letOwnedTupleGo tg (.ref it) u) (fun _ s2=>∃x H',Inv X pins σ H' s2∧aX x u∧J.yld i H x H'∧tn (i+1) s2.heap∧∀b∈fp,H' b=none) E s1) E s
 done:∀(X:Cx),X.prog=P→X.w=w→X.K=K→X.calm=true→∀(i:Nat) (pins:List (Addr×Obj)) (s:Shared) (σ:St) (H:Hp) (E:Value→Shared→Prop),Inv X pins σ H s→(∀b∈fp,fq X pins H b)→tn i s.heap→J.stop i H →
  wpAny (model P w) X.A (pyNext (.ref it)) (fun r s1=>r=none∧Inv X pins σ H s1) E s
 self:∀(A:Around) (i:Nat) (s:Shared) (Q:Value→Shared→Prop) (E:Value→Shared→Prop),tn i s.heap→Q (.ref it) s→wpAny (model P w) A (pyIter (.ref it)) Q E s
noncomputable abbrev TI:=St→Hp→(It→Hp→Prop)→Prop
noncomputable def PIE(X:Cx)(pins:List (Addr×Obj))(σ:St)(tg:Expr)(R:It→Hp→Prop)(itv:Value)(s2:Shared):Prop :=
 ∃(it:Addr) (fp:List Addr) (tn:Nat→Heap→Prop) (J:It) (H':Hp),itv=.ref it∧Inv X pins σ H' s2∧kY X.prog X.w X.K tg J fp it tn∧tn 0 s2.heap∧(∀b∈fp,fq X pins H' b)∧R J H'
noncomputable def PI(X:Cx)(tg iter:Expr)(wi:TI):Prop :=
 ∀(pins:List (Addr×Obj)) (s:Shared) (σ:St) (H:Hp) (R:It→Hp→Prop),Inv X pins σ H s→wi σ H R →
  wpAny (model X.prog X.w) X.A (eval iter X.env) (fun v s1=>wpAny (model X.prog X.w) X.A (pyIter v) (PIE X pins σ tg R) X.xe s1) X.xe s
theorem kR{M:Model}{A:Around}{E:Value→Shared→Prop}{s:Shared}{tg:Expr}{it:Addr}{u:Value}{o:Obj}{n:String}{vs:Array Value}{Q:Unit→Shared→Prop}(ho:s.heap.get? it=some o)(hc:o.cls=.type n)(hd:o.data=.fields vs)
    (hn:["enumerate","zip","dict_itemiterator","dict_reverseitemiterator","odict_iterator","itertools.zip_longest","itertools.pairwise"].contains n=false) (hQ:Q () s):wpAny M A (letOwnedTupleGo tg (.ref it) u) Q E s:=by
  unfold letOwnedTupleGo
  cases tg <;> first
    | exact wpAny_pure hQ
    | (cases u <;> first
        | exact wpAny_pure hQ
        | (refine wpAny_bind (wpAny_load ho ?_)
           rw[hc,hd]
           show wpAny M A (if (["enumerate","zip","dict_itemiterator","dict_reverseitemiterator","odict_iterator","itertools.zip_longest","itertools.pairwise"].contains n&&vs[0]? == some (rawInt _))=true then _ else _) Q E s
           rw[if_neg (by intro h;rw[hn,yX] at h;cases h)]
           exact wpAny_pure hQ))
noncomputable def Itl(K:PySem.W.Frag)(a:Addr):It :=
 ⟨fun i H=>∃xs x,SqL K H a xs∧xs[i]? = some x,fun i H x H'=>H'=H∧∀xs,SqL K H a xs→xs[i]? = some x,fun i H=>∃xs,SqL K H a xs∧xs.length≤i⟩
noncomputable def Itt(K:PySem.W.Frag)(a:Addr):It :=
 ⟨fun i H=>∃xs x,SqT K H a xs∧xs[i]? = some x,fun i H x H'=>H'=H∧∀xs,SqT K H a xs→xs[i]? = some x,fun i H=>∃xs,SqT K H a xs∧xs.length≤i⟩
noncomputable def Itr(lo:Int)(n:Nat):It:=⟨fun i _=>i<n,fun i H x H'=>H'=H∧x=.int (lo+i),fun i _=>n≤i⟩
theorem oU{P:Program}{w:World}{K:PySem.W.Frag}{tg:Expr}(a it:Addr):kY P w K tg (Itl K a) [it] it (fun i h=>h.IsListIter it a i) where
 mem:=by simp
 obj:=fun i h st b hb=>by
  have e:b=it:=by simpa using hb
  subst e
  obtain⟨o,e,c,d⟩:=st
  exact⟨o,e,fun v z=>by rw[d] at z;cases z⟩
 keep:=fun i h h' st k=>st.at fun o e=>k it (by simp) o e
 item:=by
  intro X hP hw hK hc i pins s σ H E I hf st hg
  subst hP hw hK
  obtain⟨xs,x,hq,hx⟩:=hg
  obtain⟨its,rv,p,hz⟩:=I.list hq
  obtain⟨u,hu,ru⟩:=rv.get hx
  obtain⟨f0,f1,f2,f3,f4,f5⟩:=hf it (by simp)
  refine wpAny_pyNext_list_item st p.isList (x:=u) (by simpa using hu) fun h' st' sb=>?_
  have I1:Inv X pins σ H { s with heap:=h' }:=I.turned (t':=s.toks) (fun b o hb e=>(sb.2 b hb).trans e) f0 f1 f3 f4 f5
  obtain⟨o,e,c,d⟩:=id st'
  exact⟨u,rfl,kR (s:={ s with heap:=h' }) e c d (by decide) ⟨x,H,I1,ru,⟨rfl,fun ys hy=>by rw[I.list_inj hy hq];exact hx⟩,st',fun b hb=>(hf b hb).1⟩⟩
 done:=by
  intro X hP hw hK hc i pins s σ H E I hf st hg
  subst hP hw hK
  obtain⟨xs,hq,hx⟩:=hg
  obtain⟨its,rv,p,hz⟩:=I.list hq
  obtain⟨f0,f1,f2,f3,f4,f5⟩:=hf it (by simp)
  have hl:=rv.length
  exact wpAny_pyNext_list_end (I.ok.hd hc) st p.isList (by simp;omega) fun h' eb=>⟨rfl,I.turned (t':=s.toks) (fun b o hb e=>eb b o hb e) f0 f1 f3 f4 f5⟩
 self:=fun _ _ _ _ _ st h=>wpAny_pyIter_listiter st h
theorem mq{P:Program}{w:World}{K:PySem.W.Frag}{tg:Expr}(a it:Addr):kY P w K tg (Itt K a) [it] it (fun i h=>h.IsTupleIter it a i) where
 mem:=by simp
 obj:=fun i h st b hb=>by
  have e:b=it:=by simpa using hb
  subst e
  obtain⟨o,e,c,d⟩:=st
  exact⟨o,e,fun v z=>by rw[d] at z;cases z⟩
 keep:=fun i h h' st k=>st.at fun o e=>k it (by simp) o e
 item:=by
  intro X hP hw hK hc i pins s σ H E I hf st hg
  subst hP hw hK
  obtain⟨xs,x,hq,hx⟩:=hg
  obtain⟨its,rv,p,hz⟩:=I.tuple hq
  obtain⟨u,hu,ru⟩:=rv.get hx
  obtain⟨f0,f1,f2,f3,f4,f5⟩:=hf it (by simp)
  refine wpAny_pyNext_tuple_item st (show s.heap.IsTuple a its.toArray from p) (x:=u) (by simpa using hu) fun h' st' sb=>?_
  have I1:Inv X pins σ H { s with heap:=h' }:=I.turned (t':=s.toks) (fun b o hb e=>(sb.2 b hb).trans e) f0 f1 f3 f4 f5
  obtain⟨o,e,c,d⟩:=id st'
  exact⟨u,rfl,kR (s:={ s with heap:=h' }) e c d (by decide) ⟨x,H,I1,ru,⟨rfl,fun ys hy=>by rw[I.tuple_inj hy hq];exact hx⟩,st',fun b hb=>(hf b hb).1⟩⟩
 done:=by
  intro X hP hw hK hc i pins s σ H E I hf st hg
  subst hP hw hK
  obtain⟨xs,hq,hx⟩:=hg
  obtain⟨its,rv,p,hz⟩:=I.tuple hq
  obtain⟨f0,f1,f2,f3,f4,f5⟩:=hf it (by simp)
  have hl:=rv.length
  exact wpAny_pyNext_tuple_end (I.ok.hd hc) st (show s.heap.IsTuple a its.toArray from p) (by simp;omega) fun h' eb=>⟨rfl,I.turned (t':=s.toks) (fun b o hb e=>eb b o hb e) f0 f1 f3 f4 f5⟩
 self:=fun _ _ _ _ _ st h=>wpAny_pyIter_tupleiter st h
theorem l9{P:Program}{w:World}{K:PySem.W.Frag}{tg:Expr}(it:Addr)(lo:Int)(n:Nat):kY P w K tg (Itr lo n) [it] it (fun i h=>IsRangeIter h it (lo+(i:Nat)*1) ((n:Int)-(i:Nat)) 1) where
 mem:=by simp
 obj:=fun i h st b hb=>by
  have e:b=it:=by simpa using hb
  subst e
  exact⟨_,st,fun v z=>by
   have z':Data.fields _=Data.cell v:=z
   cases z'⟩
 keep:=fun i h h' st k=>k it (by simp) _ st
 item:=by
  intro X hP hw hK hc i pins s σ H E I hf st hg
  subst hP hw hK
  obtain⟨f0,f1,f2,f3,f4,f5⟩:=hf it (by simp)
  have W:=Walks.range (prog:=X.prog) (w:=X.w) (I.ok.hd hc) it lo 1 n
  refine W.item i s _ _ hg st fun v h' tk hv st' kk=>?_
  obtain⟨t,rfl⟩:=hv
  have I1:Inv X pins σ H { s with heap:=h',toks:=tk }:=I.turned (fun b o hb e=>kk b o (by simpa using hb) e) f0 f1 f3 f4 f5
  refine⟨_,rfl,kR (s:={ s with heap:=h',toks:=tk }) (n := "range_iterator") st' rfl rfl (by decide) ⟨.int (lo+i),H,I1,⟨t,?_⟩,⟨rfl,rfl⟩,st',fun b hb=>(hf b hb).1⟩⟩
  rw[Int.mul_one]
 done:=by
  intro X hP hw hK hc i pins s σ H E I hf st hg
  subst hP hw hK
  obtain⟨f0,f1,f2,f3,f4,f5⟩:=hf it (by simp)
  exact wpAny_pyNext_range_end (I.ok.hd hc) st (by have:n≤i:=hg;omega) fun h' eb=>⟨rfl,I.turned (t':=s.toks) (fun b o hb e=>eb b o hb e) f0 f1 f3 f4 f5⟩
 self:=fun _ _ _ _ _ st h=>wpAny_pyIter_rangeiter st h
end L2
namespace L2
open PySem PySem.Spec PyProof.Rows
section
variable{X:Cx}{tg:Expr}
noncomputable def uF(K:PySem.W.Frag)(tl:TE):TI:=fun σ H R=>tl σ H fun x H1=>∃a,x=.ref a∧(∃xs,SqL K H1 a xs)∧R (Itl K a) H1
noncomputable def zS(K:PySem.W.Frag)(tl:TE):TI:=fun σ H R=>tl σ H fun x H1=>∃a,x=.ref a∧(∃xs,SqT K H1 a xs)∧R (Itt K a) H1
theorem bG{l:Expr}{tl:TE}(hl:PE X l tl):PI X tg l (uF X.K tl):=by
 intro pins s σ H R I h
 refine thn (hl pins s σ H _ I h) fun v s1 ⟨x,H1,I1,r1,q1⟩=>?_
 obtain⟨a,e,⟨xs,hq⟩,q⟩:=q1
 subst e
 cases r1
 obtain⟨its,rv,p,hz⟩:=I1.list hq
 refine wpAny_pyIter_list p.isList ?_
 refine⟨s1.heap.objs.size,[s1.heap.objs.size],_,_,H1,rfl,I1.kept (t':=s1.toks) fun b o e=>Heap.get?_push_of_some _ e,oU a _,⟨_,Heap.get?_push_size _ rfl,rfl,rfl⟩,fun b hb=>?_,q⟩
 have e:b=s1.heap.objs.size:=by simpa using hb
 subst e
 exact I1.fpOk (yi _) (I1.hok.fresh (yi _))
theorem iy{l:Expr}{tl:TE}(hl:PE X l tl):PI X tg l (zS X.K tl):=by
 intro pins s σ H R I h
 refine thn (hl pins s σ H _ I h) fun v s1 ⟨x,H1,I1,r1,q1⟩=>?_
 obtain⟨a,e,⟨xs,hq⟩,q⟩:=q1
 subst e
 cases r1
 obtain⟨its,rv,p,hz⟩:=I1.tuple hq
 refine wpAny_pyIter_tuple (show s1.heap.IsTuple a its.toArray from p) ?_
 refine⟨s1.heap.objs.size,[s1.heap.objs.size],_,_,H1,rfl,I1.kept (t':=s1.toks) fun b o e=>Heap.get?_push_of_some _ e,mq a _,⟨_,Heap.get?_push_size _ rfl,rfl,rfl⟩,fun b hb=>?_,q⟩
 have e:b=s1.heap.objs.size:=by simpa using hb
 subst e
 exact I1.fpOk (yi _) (I1.hok.fresh (yi _))
theorem rp{pins:List (Addr×Obj)}{σ:St}{H:Hp}{s:Shared}{R:It→Hp→Prop}{E:Value→Shared→Prop}{lo hi:Int}{t u v:Tok}{tk:Nat}(I:Inv X pins σ H s)(h1:-(2 ^ 62)≤lo)(h2:lo<2 ^ 62)(h3:-(2 ^ 62)≤hi)(h4:hi<2 ^ 62)
  (q:R (Itr lo (hi-lo).toNat) H):wpAny (model X.prog X.w) X.A (pyIter (.ref s.heap.objs.size)) (PIE X pins σ tg R) E { s with heap:=s.heap.push { cls:=.type "range",data:=.fields #[.int lo t,.int hi u,.int 1 v] },toks:=tk }:=by
 refine wpAny_pyIter_range (IsRange.new ..) (small_one h1 h2 h3 h4) ?_
 have I1:Inv X pins σ H { s with heap:=s.heap.push { cls:=.type "range",data:=.fields #[.int lo t,.int hi u,.int 1 v] },toks:=tk }:=I.kept fun b o e=>Heap.get?_push_of_some _ e
 refine⟨(s.heap.push { cls:=.type "range",data:=.fields #[.int lo t,.int hi u,.int 1 v] }).objs.size,[(s.heap.push { cls:=.type "range",data:=.fields #[.int lo t,.int hi u,.int 1 v] }).objs.size],_,_,H,rfl,
  I1.kept (t':=tk) fun b o e=>Heap.get?_push_of_some _ e,l9 _ lo (hi-lo).toNat,?_,fun b hb=>?_,q⟩
 ·have e1:lo+((0:Nat):Int)*1=lo:=by simp
  have e2:(((hi-lo).toNat:Nat):Int)-((0:Nat):Int)=Builtin.Range.rangeSize lo hi 1:=by rw[rangeSize_one];split <;> omega
  show IsRangeIter _ _ (lo+((0:Nat):Int)*1) ((((hi-lo).toNat:Nat):Int)-((0:Nat):Int)) 1
  rw[e1,e2]
  exact Heap.get?_push_size _ rfl
 ·have e:b=(s.heap.push { cls:=.type "range",data:=.fields #[.int lo t,.int hi u,.int 1 v] }).objs.size:=by simpa using hb
  subst e
  exact I1.fpOk (yi _) (I1.hok.fresh (yi _))
noncomputable def uy(ta:TA):TI:=fun σ H R=>ta σ H fun vs H1=>∃j:Int,vs=[.int j]∧-(2 ^ 62)≤j∧j<2 ^ 62∧R (Itr 0 j.toNat) H1
noncomputable def Aj(ta:TA):TI:=fun σ H R=>ta σ H fun vs H1=>∃i j:Int,vs=[.int i,.int j]∧(-(2 ^ 62)≤i∧i<2 ^ 62∧-(2 ^ 62)≤j∧j<2 ^ 62)∧R (Itr i (j-i).toNat) H1
theorem bE{a:Expr}{ta:TA}{p pos:Pos}(hg:Gl X "range")(hm:X.mg "range" = none)(ha:PA X [a] ta)(hs:starEach [a] X.env=[(false,eval a X.env)]:=by rfl):PI X tg (.Call (.Name "range" p) [a] [] pos) (uy ta):=by
 intro pins s σ H R I h
 refine Call_ (dJ I hg hm boot_range (PyProof.Rows.callWith_type1 (thn (ha pos pins s σ H _ I h) fun us s1 ⟨vs,H1,I1,r1,q1⟩=>?_) hs rfl))
 obtain⟨j,e,q1,q2,q⟩:=q1
 subst e
 cases r1 with
 | cons r rr =>
  cases rr
  obtain⟨t,rfl⟩:=r
  exact call_range_1 (rp I1 (by omega) (by omega) q1 q2 (by simpa using q))
noncomputable def rS(wi:TI)(g:TG)(tb:TS):TS:=fun D σ H=>wi σ H fun J H1=>∃W:Nat→Nat→St→Hp→Prop,(∃m,W 0 m σ H1)∧∀i m σ H,W i m σ H →
 (J.stop i H∧D.nx σ H)∨(J.go i H∧∃N:St→Hp→Prop,(∀σ' H',N σ' H'→∃m',m'<m∧W (i+1) m' σ' H')∧∀x H',J.yld i H x H'→g x σ H' fun σ2 H2=>tb { D with nx:=N,ct:=N,bk:=D.nx } σ2 H2)
noncomputable def iw(fp:List Addr)(h:Heap):List (Addr×Obj):=fp.filterMap fun b=>(h.get? b).map fun o=>(b,o)
theorem dk{fp:List Addr}{h:Heap}{b:Addr}{o:Obj}(hb:b∈fp)(e:h.get? b=some o):(b,o)∈iw fp h:=List.mem_filterMap.mpr ⟨b,hb,by rw[e];rfl⟩
theorem oR{fp:List Addr}{h:Heap}{p:Addr×Obj}(hp:p∈iw fp h):p.1∈fp∧h.get? p.1=some p.2:=by
 obtain⟨b,hb,e⟩:=List.mem_filterMap.mp hp
 cases q:h.get? b with
 | none=>rw[q] at e;cases e
 | some o =>
  rw[q] at e
  have e':(b,o)=p:=yt e
  subst e'
  exact⟨hb,q⟩
theorem Inv.pinned{pins:List (Addr×Obj)}{σ:St}{H:Hp}{s:Shared}{fp:List Addr}(I:Inv X pins σ H s)(hf:∀b∈fp,fq X pins H b)(ho:∀b∈fp,∃o,s.heap.get? b=some o∧∀v,o.data≠.cell v):Inv X (pins++iw fp s.heap) σ H s :=
 I.pins_of fun p hp=>(List.mem_append.mp hp).elim (fun z=>I.pin p (yB _ z)) fun z=>by
  obtain⟨hb,e⟩:=oR z
  obtain⟨f0,f1,f2,_⟩:=hf p.1 hb
  obtain⟨o,e',d⟩:=ho p.1 hb
  rw[e] at e'; cases e'
  exact⟨e,f0,f1,f2,d⟩
theorem Inv.unpinned{pins pl:List (Addr×Obj)}{σ:St}{H:Hp}{s:Shared}(I:Inv X (pins++pl) σ H s):Inv X pins σ H s:=I.pins_of fun p hp=>I.pin p (yB _ (yha _ hp))
theorem bY{iter:Expr}{body:List Stmt}{wi:TI}{g:TG}{tb:TS}{pos:Pos}(hp:PassesOwn (model X.prog X.w) X.A X.env X.xe)(hc:X.calm=true)(hi:PI X tg iter wi)(hg:PG X tg g)(hb:PSs X body tb)
  (hs:∀x,foldedSetIterable iter X.env x=pure x:=by intro _;rfl):PS X (.For tg iter body [] pos) (rS wi g tb):=by
 intro pins s σ H D I h
 refine wpAny_For (thn (hi pins s σ H _ I h) fun v s1 h1=>thn h1 fun itv s2 h2=>?_) hs
 obtain⟨it,fp,tn,J,H2,e,I2,T,st2,f2,W,⟨m0,w0⟩,turn⟩:=h2
 subst e
 have stat:∀{H':Hp},(∀b∈fp,H' b=none)→∀b∈fp,fq X pins H' b:=fun hn b hb=>⟨hn b hb,(f2 b hb).2⟩
 refine codeAny_forLoop_any (fun n s'=>∃i σ' H',Inv X pins σ' H' s'∧tn i s'.heap∧(∀b∈fp,H' b=none)∧W i n σ' H') ?_ m0 ⟨0,σ,H2,I2,st2,fun b hb=>(f2 b hb).1,w0⟩
 rintro n s3 ⟨i,σ3,H3,I3,st3,fr3,w3⟩
 rcases turn i n σ3 H3 w3 with ⟨stop,qn⟩ | ⟨go,N,hN,step⟩
 ·refine wpAny_passesOwn hp (thn (T.done X rfl rfl rfl hc i pins s3 σ3 H3 X.xe I3 (stat fr3) st3 stop) fun r s4 ⟨hr,I4⟩=>?_)
  subst hr
  exact wpAny_execs_nil ⟨σ3,H3,I4,qn⟩
 ·refine wpAny_passesOwn hp (thn (T.item X rfl rfl rfl hc i pins s3 σ3 H3 X.xe I3 (stat fr3) st3 go) fun r s4 ⟨u,hr,h4⟩=>?_)
  subst hr
  refine wpAny_passesOwn hp (thn h4 fun _ s5 ⟨x,H5,I5,r5,y5,st5,fr5⟩=>?_)
  have I5':=I5.pinned (stat fr5) (T.obj _ _ st5)
  refine wpAny_passesOwn hp (thn (hg _ s5 σ3 H5 x u _ I5' r5 (step x H5 y5)) fun _ s6 ⟨σ6,H6,I6,q6⟩=>?_)
  refine wpAny_passesOwn hp (thn (hb _ s6 σ6 H6 _ I6 q6) fun f s7 q7=>?_)
  have again:∀{σ7:St} {H7:Hp},Inv X (pins++iw fp s5.heap) σ7 H7 s7→N σ7 H7→∃m,m<n∧∃i σ' H',Inv X pins σ' H' s7∧tn i s7.heap∧(∀b∈fp,H' b=none)∧W i m σ' H':=fun {σ7 H7} I7 n7=>by
   obtain⟨m',hm,w7⟩:=hN σ7 H7 n7
   refine⟨m',hm,i+1,σ7,H7,I7.unpinned,T.keep _ _ _ st5 fun b hb o e=>(I7.pin (b,o) (yB _ (yB _ (dk hb e)))).1,fun b hb=>?_,w7⟩
   obtain⟨o,e,d⟩:=T.obj _ _ st5 b hb
   exact(I7.pin (b,o) (yB _ (yB _ (dk hb e)))).2.1
  cases f with
  | next=>obtain⟨σ7,H7,I7,n7⟩:=q7;exact again I7 n7
  | cont=>obtain⟨σ7,H7,I7,n7⟩:=q7;exact again I7 n7
  | brk=>obtain⟨σ7,H7,I7,q7⟩:=q7;exact⟨σ7,H7,I7.unpinned,q7⟩
  | ret v=>obtain⟨x7,σ7,H7,I7,r7,q7⟩:=q7;exact⟨x7,σ7,H7,I7.unpinned,r7,q7⟩
end
end L2
namespace L2
open PySem PySem.Spec PyProof.Rows
noncomputable abbrev R2:=V→V→Hp→VK→Prop
noncomputable def OpR(X:Cx)(f:Value→Value→Sem Value)(r:R2):Prop :=
 ∀(pins:List (Addr×Obj)) (s:Shared) (σ:St) (H:Hp) (x y:V) (v u:Value) (Q:VK),Inv X pins σ H s→aX x v→aX y u→r x y H Q →
  wpAny (model X.prog X.w) X.A (f v u) (EP X pins σ Q) X.xe s
noncomputable def UnR(X:Cx)(f:Value→Sem Value)(r:V→Hp→VK→Prop):Prop :=
 ∀(pins:List (Addr×Obj)) (s:Shared) (σ:St) (H:Hp) (x:V) (v:Value) (Q:VK),Inv X pins σ H s→aX x v→r x H Q →
  wpAny (model X.prog X.w) X.A (f v) (EP X pins σ Q) X.xe s
noncomputable def b6(X:Cx)(f:Value)(r:List V→Hp→VK→Prop):Prop :=
 ∀(pins:List (Addr×Obj)) (s:Shared) (σ:St) (H:Hp) (xs:List V) (us:List Value) (Q:VK),Inv X pins σ H s→aO xs us→r xs H Q →
  wpAny (model X.prog X.w) X.A (call f us) (EP X pins σ Q) X.xe s
noncomputable def tOp(r:R2)(ta tb:TE):TE:=fun σ H Q=>ta σ H fun x H1=>tb σ H1 fun y H2=>r x y H2 Q
noncomputable def tUn(r:V→Hp→VK→Prop)(ta:TE):TE:=fun σ H Q=>ta σ H fun x H1=>r x H1 Q
noncomputable def rI(C:Int→Int→Prop)(g:Int→Int→V):R2:=fun x y H Q=>∃i j,x=.int i∧y=.int j∧C i j∧Q (g i j) H
noncomputable def rI0(g:Int→Int→V):R2:=fun x y H Q=>∃i j,x=.int i∧y=.int j∧Q (g i j) H
noncomputable def rU(g:Int→V):V→Hp→VK→Prop:=fun x H Q=>∃i,x=.int i∧Q (g i) H
section
variable{X:Cx}{a b c:Expr}{ta tb tc:TE}{pos:Pos}
theorem zm(ha:PE X a ta)(hb:PE X b tb){pins:List (Addr×Obj)}{s:Shared}{σ:St}{H:Hp}{R:V→V→Hp→Prop}(I:Inv X pins σ H s)
  (h:ta σ H fun x H1=>tb σ H1 fun y H2=>R x y H2) {Q:Value→Shared→Prop} {f:Value→Value→Sem Value}
  (hf:∀v u s2 x y H2,Inv X pins σ H2 s2→aX x v→aX y u→R x y H2→wpAny (model X.prog X.w) X.A (f v u) Q X.xe s2) :
  wpAny (model X.prog X.w) X.A (eval a X.env) (fun v s₁=>wpAny (model X.prog X.w) X.A (eval b X.env) (fun u s₂=>wpAny (model X.prog X.w) X.A (f v u) Q X.xe s₂) X.xe s₁) X.xe s:=by
 refine thn (ha pins s σ H _ I h) fun v s1 ⟨x,H1,I1,r1,q1⟩=>?_
 refine thn (hb pins s1 σ H1 _ I1 q1) fun u s2 ⟨y,H2,I2,r2,q2⟩=>?_
 exact hf v u s2 x y H2 I2 r1 r2 q2
theorem ax{op:Operator}{r:R2}(ho:OpR X (binaryOp op) r)(ha:PE X a ta)(hb:PE X b tb):PE X (.BinOp a op b pos) (tOp r ta tb):=by
 intro pins s σ H Q I h
 exact wpAny_BinOp (zm ha hb I h fun v u s2 x y H2 I2 rx ry q=>ho pins s2 σ H2 x y v u Q I2 rx ry q)
theorem dS{op:UnaryOp}{r:V→Hp→VK→Prop}(ho:UnR X (unaryOp op) r)(ha:PE X a ta):PE X (.UnaryOp op a pos) (tUn r ta):=by
 intro pins s σ H Q I h
 exact UnaryOp_ (thn (ha pins s σ H _ I h) fun v s1 ⟨x,H1,I1,r1,q1⟩=>ho pins s1 σ H1 x v Q I1 r1 q1)
theorem opI{f:Value→Value→Sem Value}{C:Int→Int→Prop}{g:Int→Int→Int}
  (rule:∀(i j:Int) (t u:Tok) (s:Shared) (Q:Value→Shared→Prop) (E:Value→Shared→Prop),C i j→Q (.int (g i j) s.toks) { s with toks:=s.toks+1 }→wpAny (model X.prog X.w) X.A (f (.int i t) (.int j u)) Q E s) :
  OpR X f (rI C fun i j=>.int (g i j)):=by
 intro pins s σ H x y v u Q I rx ry h
 obtain⟨i,j,rfl,rfl,hc,q⟩:=h
 obtain⟨t,rfl⟩:=rx
 obtain⟨t',rfl⟩:=ry
 exact rule i j t t' s _ _ hc ⟨.int (g i j),H,I.tok _,⟨_,rfl⟩,q⟩
theorem sh{f:Value→Value→Sem Value}{g:Int→Int→Int}
  (rule:∀(i j:Int) (t u:Tok) (s:Shared) (Q:Value→Shared→Prop) (E:Value→Shared→Prop),Q (.int (g i j) s.toks) { s with toks:=s.toks+1 }→wpAny (model X.prog X.w) X.A (f (.int i t) (.int j u)) Q E s) :
  OpR X f (rI0 fun i j=>.int (g i j)):=by
 intro pins s σ H x y v u Q I rx ry h
 obtain⟨i,j,rfl,rfl,q⟩:=h
 obtain⟨t,rfl⟩:=rx
 obtain⟨t',rfl⟩:=ry
 exact rule i j t t' s _ _ ⟨.int (g i j),H,I.tok _,⟨_,rfl⟩,q⟩
theorem rX{f:Value→Value→Sem Value}{g:Int→Int→Bool}
  (rule:∀(i j:Int) (t u:Tok) (s:Shared) (Q:Value→Shared→Prop) (E:Value→Shared→Prop),Q (.bool (g i j)) s→wpAny (model X.prog X.w) X.A (f (.int i t) (.int j u)) Q E s) :
  OpR X f (rI0 fun i j=>.bl (g i j)):=by
 intro pins s σ H x y v u Q I rx ry h
 obtain⟨i,j,rfl,rfl,q⟩:=h
 obtain⟨t,rfl⟩:=rx
 obtain⟨t',rfl⟩:=ry
 exact rule i j t t' s _ _ ⟨.bl (g i j),H,I,rfl,q⟩
noncomputable def DD(i j:Int):Prop:=0<j∧j<1073741824
noncomputable def zE(i j:Int):Prop:=0≤j∧j≤1000000∧i.natAbs<2 ^ 64
noncomputable def vm(i j:Int):Prop:=(-(2 ^ 64)<i∧i<2 ^ 64)∨(-(2 ^ 64)<j∧j<2 ^ 64)
theorem vm.ok{i j:Int}(h:vm i j):IntMulOk i j:=by
 rcases h with ⟨h1,h2⟩ | ⟨h1,h2⟩
 ·exact .of_left (intBits_le_64 h1 h2)
 ·exact .of_right (intBits_le_64 h1 h2)
theorem lP(k:Nat):(0:Int)≤2 ^ k:=by
 rw[two_pow_cast]
 exact yfa _
theorem bz:OpR X (binaryOp .Add) (rI0 fun i j=>.int (i+j)):=sh fun _ _ _ _ _ _ _ q=>add_int q
theorem cM:OpR X (binaryOp .Sub) (rI0 fun i j=>.int (i-j)):=sh fun _ _ _ _ _ _ _ q=>sub_int q
theorem gh:OpR X (binaryOp .Mult) (rI vm fun i j=>.int (i*j)):=opI fun _ _ _ _ _ _ _ hc q=>mul_int q hc.ok
theorem dv:OpR X (binaryOp .FloorDiv) (rI DD fun i j=>.int (i / j)):=opI fun i j _ _ _ _ _ hc q=>by
 have h1:(0:Int)<j:=hc.1
 have h2:j<1073741824:=hc.2
 exact floordiv_int (by omega) (by rw[ykb i (by omega)];exact q) (.inl (PyProof.noPylong_small (by omega)))
theorem bc:OpR X (binaryOp .Mod) (rI (fun _ j=>0<j) fun i j=>.int (i % j)):=opI fun i j _ _ _ _ _ hc q=>by
 have h1:(0:Int)<j:=hc
 exact mod_int' (by omega) (by rw[Int.fmod_eq_emod_of_nonneg i (by omega)];exact q)
theorem eX:OpR X (binaryOp .Pow) (rI zE fun i j=>.int (i ^ j.toNat)):=opI fun _ _ _ _ _ _ _ hc q=>pow_int_small hc.1 hc.2.1 hc.2.2 q
theorem mn:OpR X (binaryOp .LShift) (rI zE fun i j=>.int (i*2 ^ j.toNat)):=opI fun _ _ _ _ _ _ _ hc q=>lshift_int_small hc.1 hc.2.1 hc.2.2 q
theorem wF:OpR X (binaryOp .RShift) (rI (fun _ j=>0≤j) fun i j=>.int (i / 2 ^ j.toNat)):=opI fun i j _ _ _ _ _ hc q =>
 rshift_int hc (by rw[ykb i (lP _)];exact q)
theorem mI:OpR X (binaryOp .BitAnd) (rI0 fun i j=>.int (Builtin.bitAnd i j)):=sh fun _ _ _ _ _ _ _ q=>and_int q
theorem Az:OpR X (binaryOp .BitOr) (rI0 fun i j=>.int (Builtin.bitOr i j)):=sh fun _ _ _ _ _ _ _ q=>or_int q
theorem unI{f:Value→Sem Value}{g:Int→Int}
  (rule:∀(i:Int) (t:Tok) (s:Shared) (Q:Value→Shared→Prop) (E:Value→Shared→Prop),Q (.int (g i) s.toks) { s with toks:=s.toks+1 }→wpAny (model X.prog X.w) X.A (f (.int i t)) Q E s) :
  UnR X f (rU fun i=>.int (g i)):=by
 intro pins s σ H x v Q I rx h
 obtain⟨i,rfl,q⟩:=h
 obtain⟨t,rfl⟩:=rx
 exact rule i t s _ _ ⟨.int (g i),H,I.tok _,⟨_,rfl⟩,q⟩
theorem cY:UnR X (unaryOp .USub) (rU fun i=>.int (-i)):=unI fun _ _ _ _ _ q=>neg_int q
end
noncomputable def qj:V→V→Bool
 | .non,.non=>true | .non,.int _=>true | .int _,.non=>true | .non,.bl _=>true | .bl _,.non=>true | .non,.str _=>true | .str _,.non=>true
 | .int _,.int _=>true | .bl _,.bl _=>true | .str _,.str _=>true | .byt _,.byt _=>true
 | .int _,.str _=>true | .str _,.int _=>true | .bl _,.str _=>true | .str _,.bl _=>true
 | _,_=>false
noncomputable def rEq:R2:=fun x y H Q=>qj x y=true∧Q (.bl (decide (x=y))) H
noncomputable def rNe:R2:=fun x y H Q=>qj x y=true∧Q (.bl (!decide (x=y))) H
theorem nA{i j:Int}:decide (V.int i=V.int j)=(i == j):=by
 rw[yca]
 simp
theorem qY{i j:Bool}:decide (V.bl i=V.bl j)=(i == j):=by
 rw[yca]
 simp
theorem nj{i j:Str}:decide (V.str i=V.str j)=(i == j):=by
 rw[yca]
 simp
theorem nF{i j:Array UInt8}:decide (V.byt i=V.byt j)=(i.toList == j.toList):=by
 rw[yca]
 cases i
 cases j
 simp
section
variable{X:Cx}{a b c:Expr}{ta tb tc:TE}{pos:Pos}
theorem bj{pins:List (Addr×Obj)}{σ:St}{H:Hp}{s:Shared}{Q:VK}{k k':Bool}(I:Inv X pins σ H s)(q:Q (.bl k) H)(e:k=k'):EP X pins σ Q (.bool k') s:=by
 subst e
 exact⟨.bl k,H,I,rfl,q⟩
theorem bW:OpR X (compareOp .Eq) rEq:=by
 intro pins s σ H x y v u Q I rx ry h
 obtain⟨hs,q⟩:=h
 cases x with
 | non =>
  cases rx
  cases y with
  | non=>cases ry;exact PySem.EqNone.eq_none_none (bj I q (by simp))
  | bl j=>cases ry;exact PySem.EqNone.eq_none_bool (bj I q (by simp))
  | int j=>obtain⟨t',rfl⟩:=ry;exact PySem.EqNone.eq_none_int (bj I q (by simp))
  | str j=>obtain⟨t',rfl⟩:=ry;exact PySem.EqNone.eq_none_str (bj I q (by simp))
  | _=>exact absurd (show false=true from hs) yr
 | bl i =>
  cases rx
  cases y with
  | non=>cases ry;exact PySem.EqNone.eq_bool_none (bj I q (by simp))
  | bl j=>cases ry;exact eq_bool (bj I q qY)
  | str j=>obtain⟨t',rfl⟩:=ry;exact PySem.EqMixed.eq_bool_str (bj I q (by simp))
  | _=>exact absurd (show false=true from hs) yr
 | int i =>
  obtain⟨t,rfl⟩:=rx
  cases y with
  | non=>cases ry;exact PySem.EqNone.eq_int_none (bj I q (by simp))
  | int j=>obtain⟨t',rfl⟩:=ry;exact eq_int (bj I q nA)
  | str j=>obtain⟨t',rfl⟩:=ry;exact PySem.EqMixed.eq_int_str (bj I q (by simp))
  | _=>exact absurd (show false=true from hs) yr
 | str i =>
  obtain⟨t,rfl⟩:=rx
  cases y with
  | non=>cases ry;exact PySem.EqNone.eq_str_none (bj I q (by simp))
  | bl j=>cases ry;exact PySem.EqMixed.eq_str_bool (bj I q (by simp))
  | int j=>obtain⟨t',rfl⟩:=ry;exact PySem.EqMixed.eq_str_int (bj I q (by simp))
  | str j=>obtain⟨t',rfl⟩:=ry;exact eq_str (bj I q nj)
  | _=>exact absurd (show false=true from hs) yr
 | byt i =>
  obtain⟨t,rfl⟩:=rx
  cases y with
  | byt j=>obtain⟨t',rfl⟩:=ry;exact PySem.W.eq_bytes (bj I q nF)
  | _=>exact absurd (show false=true from hs) yr
 | _=>cases y <;> exact absurd (show false=true from hs) yr
theorem pG:OpR X (compareOp .NotEq) rNe:=by
 intro pins s σ H x y v u Q I rx ry h
 obtain⟨hs,q⟩:=h
 cases x with
 | non =>
  cases rx
  cases y with
  | non=>cases ry;exact PySem.EqNone.ne_none_none (bj I q (by simp))
  | bl j=>cases ry;exact PySem.EqNone.ne_none_bool (bj I q (by simp))
  | int j=>obtain⟨t',rfl⟩:=ry;exact PySem.EqNone.ne_none_int (bj I q (by simp))
  | str j=>obtain⟨t',rfl⟩:=ry;exact PySem.EqNone.ne_none_str (bj I q (by simp))
  | _=>exact absurd (show false=true from hs) yr
 | bl i =>
  cases rx
  cases y with
  | non=>cases ry;exact PySem.EqNone.ne_bool_none (bj I q (by simp))
  | bl j=>cases ry;exact ne_bool (bj I q (congrArg not qY))
  | str j=>obtain⟨t',rfl⟩:=ry;exact PySem.EqMixed.ne_bool_str (bj I q (by simp))
  | _=>exact absurd (show false=true from hs) yr
 | int i =>
  obtain⟨t,rfl⟩:=rx
  cases y with
  | non=>cases ry;exact PySem.EqNone.ne_int_none (bj I q (by simp))
  | int j=>obtain⟨t',rfl⟩:=ry;exact ne_int (bj I q (congrArg not nA))
  | str j=>obtain⟨t',rfl⟩:=ry;exact PySem.EqMixed.ne_int_str (bj I q (by simp))
  | _=>exact absurd (show false=true from hs) yr
 | str i =>
  obtain⟨t,rfl⟩:=rx
  cases y with
  | non=>cases ry;exact PySem.EqNone.ne_str_none (bj I q (by simp))
  | bl j=>cases ry;exact PySem.EqMixed.ne_str_bool (bj I q (by simp))
  | int j=>obtain⟨t',rfl⟩:=ry;exact PySem.EqMixed.ne_str_int (bj I q (by simp))
  | str j=>obtain⟨t',rfl⟩:=ry;exact ne_str (bj I q (congrArg not nj))
  | _=>exact absurd (show false=true from hs) yr
 | byt i =>
  obtain⟨t,rfl⟩:=rx
  cases y with
  | byt j=>obtain⟨t',rfl⟩:=ry;exact PySem.W.ne_bytes (bj I q (congrArg not nF))
  | _=>exact absurd (show false=true from hs) yr
 | _=>cases y <;> exact absurd (show false=true from hs) yr
theorem cR:OpR X (compareOp .Lt) (rI0 fun i j=>.bl (decide (i<j))):=rX fun _ _ _ _ _ _ _ q=>lt_int q
theorem cu:OpR X (compareOp .LtE) (rI0 fun i j=>.bl (decide (i≤j))):=rX fun _ _ _ _ _ _ _ q=>le_int q
theorem gx:OpR X (compareOp .Gt) (rI0 fun i j=>.bl (decide (j<i))):=rX fun _ _ _ _ _ _ _ q=>gt_int q
theorem kX:OpR X (compareOp .GtE) (rI0 fun i j=>.bl (decide (j≤i))):=rX fun _ _ _ _ _ _ _ q=>ge_int q
theorem aH(b:Expr){op:CmpOp}(h:op≠.In:=by decide)(h2:op≠.NotIn:=by decide):behindInMarks op b=false:=by
 have e1:(op == CmpOp.In)=false:=by cases op <;> first | rfl | exact absurd rfl h
 have e2:(op == CmpOp.NotIn)=false:=by cases op <;> first | rfl | exact absurd rfl h2
 cases b <;> simp[behindInMarks,e1,e2]
theorem bJ{op:CmpOp}{r:R2}(ho:OpR X (compareOp op) r)(ha:PE X a ta)(hb:PE X b tb)(hm:behindInMarks op b=false):PE X (.Compare a [op] [b] pos) (tOp r ta tb):=by
 intro pins s σ H Q I h
 exact wpAny_Compare1 (zm ha hb I h fun v u s2 x y H2 I2 rx ry q=>ho pins s2 σ H2 x y v u Q I2 rx ry q) hm
noncomputable def rh(t:TE):TT:=fun σ H Q=>t σ H fun x H'=>∃k,x=.bl k∧Q k H'
theorem aK{op:CmpOp}{r:R2}(ho:OpR X (compareOp op) r)(ha:PE X a ta)(hb:PE X b tb)(hm:behindInMarks op b=false):PT X (.Compare a [op] [b] pos) (rh (tOp r ta tb)):=by
 intro pins s σ H Q I h
 refine wpAny_isTrue_Compare1 (thn (ha pins s σ H _ I h) fun v s1 ⟨x,H1,I1,r1,q1⟩=>thn (hb pins s1 σ H1 _ I1 q1) fun u s2 ⟨y,H2,I2,r2,q2⟩ =>
  thn (ho pins s2 σ H2 x y v u _ I2 r1 r2 q2) fun c s3 ⟨z,H3,I3,r3,k,e,q3⟩=>?_) hm
 subst e
 cases r3
 exact wpAny_truthy_bool ⟨H3,I3,q3⟩
noncomputable def lR(r r':R2)(ta tb tc:TE):TE:=fun σ H Q=>ta σ H fun x H1=>tb σ H1 fun y H2=>r x y H2 fun z H3=>∃k,z=.bl k ∧
 (if k=true then tc σ H3 fun w' H4=>r' y w' H4 Q else Q (.bl false) H3)
theorem bU{op op':CmpOp}{r r':R2}(ho:OpR X (compareOp op) r)(ho':OpR X (compareOp op') r')(ha:PE X a ta)(hb:PE X b tb)(hc:PE X c tc)
  (hm:lastMarks [op,op'] [b,c]=false:=by with_unfolding_all rfl):PE X (.Compare a [op,op'] [b,c] pos) (lR r r' ta tb tc):=by
 intro pins s σ H Q I h
 refine Compare_chain (thn (ha pins s σ H _ I h) fun v s1 ⟨x,H1,I1,r1,q1⟩=>chain_link (thn (hb pins s1 σ H1 _ I1 q1) fun u s2 ⟨y,H2,I2,r2,q2⟩ =>
  thn (ho pins s2 σ H2 x y v u _ I2 r1 r2 q2) fun d s3 ⟨z,H3,I3,r3,k,e,q3⟩=>?_)) hm
 subst e
 cases r3
 refine wpAny_truthy_bool ?_
 cases k with
 | false=>exact ite_ff ⟨.bl false,H3,I3,rfl,q3⟩
 | true=>exact ite_tt (chain_last (thn (hc pins s3 σ H3 _ I3 q3) fun w' s4 ⟨z',H4,I4,r4,q4⟩=>ho' pins s4 σ H4 y z' u w' Q I4 r2 r4 q4))
theorem lp{op op':CmpOp}{r r':R2}(ho:OpR X (compareOp op) r)(ho':OpR X (compareOp op') r')(ha:PE X a ta)(hb:PE X b tb)(hc:PE X c tc)
  (hm:lastMarks [op,op'] [b,c]=false:=by with_unfolding_all rfl):PT X (.Compare a [op,op'] [b,c] pos) (rh (lR r r' ta tb tc)):=by
 intro pins s σ H Q I h
 refine isTrue_chain (thn (ha pins s σ H _ I h) fun v s1 ⟨x,H1,I1,r1,q1⟩=>test_link (thn (hb pins s1 σ H1 _ I1 q1) fun u s2 ⟨y,H2,I2,r2,q2⟩ =>
  thn (ho pins s2 σ H2 x y v u _ I2 r1 r2 q2) fun d s3 ⟨z,H3,I3,r3,k,e,q3⟩=>?_)) hm
 subst e
 cases r3
 refine wpAny_truthy_bool ?_
 cases k with
 | false =>
  obtain⟨k',e',q'⟩:=q3
  cases e'
  exact ite_ff ⟨H3,I3,q'⟩
 | true =>
  refine ite_tt (test_last (thn (hc pins s3 σ H3 _ I3 q3) fun w' s4 ⟨z',H4,I4,r4,q4⟩=>thn (ho' pins s4 σ H4 y z' u w' _ I4 r2 r4 q4) fun d' s5 ⟨z2,H5,I5,r5,k2,e2,q5⟩=>?_))
  subst e2
  cases r5
  exact wpAny_truthy_bool ⟨H5,I5,q5⟩
theorem ir:(sizeLine:Nat)<2 ^ 63:=by rw[sizeLine_eq];decide
theorem dY{x:V}{us:List Value}(r:aO [x] us):∃u,us=[u]∧aX x u:=by
 cases r with
 | cons r1 r2=>cases r2;exact⟨_,rfl,r1⟩
theorem m5{x y:V}{us:List Value}(r:aO [x,y] us):∃u w',us=[u,w']∧aX x u∧aX y w':=by
 cases r with
 | cons r1 r2 =>
  cases r2 with
  | cons r3 r4=>cases r4;exact⟨_,_,rfl,r1,r3⟩
theorem oN(hc:X.calm=true):b6 X (.builtin "max") (fun xs H Q=>∃i j,xs=[.int i,.int j]∧Q (.int (if j>i then j else i)) H):=by
 intro pins s σ H xs us Q I r h
 obtain⟨i,j,rfl,q⟩:=h
 obtain⟨u,w',rfl,⟨t,rfl⟩,⟨t',rfl⟩⟩:=m5 r
 refine max_two_ints (I.ok.hd hc) fun h' tk k=>⟨_,H,I.kept k,?_,q⟩
 by_cases hj:j>i
 ·rw[if_pos hj,if_pos hj];exact⟨_,rfl⟩
 ·rw[if_neg hj,if_neg hj];exact⟨_,rfl⟩
theorem jt(hc:X.calm=true):b6 X (.builtin "min") (fun xs H Q=>∃i j,xs=[.int i,.int j]∧Q (.int (if j<i then j else i)) H):=by
 intro pins s σ H xs us Q I r h
 obtain⟨i,j,rfl,q⟩:=h
 obtain⟨u,w',rfl,⟨t,rfl⟩,⟨t',rfl⟩⟩:=m5 r
 refine min_two_ints (I.ok.hd hc) fun h' tk k=>⟨_,H,I.kept k,?_,q⟩
 by_cases hj:j<i
 ·rw[if_pos hj,if_pos hj];exact⟨_,rfl⟩
 ·rw[if_neg hj,if_neg hj];exact⟨_,rfl⟩
theorem oq:b6 X (.type "int") (fun xs H Q=>(∃i,xs=[.int i]∧Q (.int i) H)∨∃k,xs=[.bl k]∧Q (.int (if k then 1 else 0)) H):=by
 intro pins s σ H xs us Q I r h
 rcases h with ⟨i,rfl,q⟩ | ⟨k,rfl,q⟩
 ·obtain⟨u,rfl,t,rfl⟩:=dY r
  exact call_int_int ⟨.int i,H,I,⟨_,rfl⟩,q⟩
 ·obtain⟨u,rfl,r1⟩:=dY r
  cases r1
  exact call_int_bool ⟨.int (if k then 1 else 0),H,I.tok _,⟨_,rfl⟩,q⟩
end
end L2
namespace L2
open PySem PySem.Spec PyProof.Rows
structure mz(h:Heap)(x dx C:Addr)(mA:Str→Option Value):Prop where
 obj:h.get? x=some (PySem.W.instObj C dx)
 ns:h.Ns1 dx mA
 ne:dx≠x
theorem oS{h:Heap}{dx:Addr}{mA:Str→Option Value}(n:h.Ns1 dx mA):∃od,h.get? dx=some od∧∀name,PySem.W.lookIn name od=some (mA name):=by
 obtain⟨o,es,ep,ho,hd,hk,_,hm⟩:=n
 refine⟨o,ho,fun name=>?_⟩
 have e:=hm name
 unfold nsFind findBy at e
 rw[← Array.find?_toList] at e
 unfold PySem.W.lookIn
 rw[hd]
 dsimp only
 split
 ·rename_i y q
  rw[q] at e
  exact congrArg some e
 ·rename_i q
  rw[q] at e
  have a:es.toList.any (·.refKey)=false:=by
   rw[List.any_eq_false]
   intro y hy
   obtain⟨z,t,hkey⟩:=hk y (Array.mem_toList_iff.mp hy)
   simp[DictEntry.refKey,hkey]
  have a':¬ es.toList.any (·.refKey)=true:=by rw[a];exact yr
  rw[if_neg a']
  exact congrArg some e
theorem mz.look{h:Heap}{x dx C:Addr}{mA:Str→Option Value}(I:mz h x dx C mA):∃od,PySem.W.InstAt h x (PySem.W.instObj C dx) C (some od)∧∀name,PySem.W.lookIn name od=some (mA name) :=
 let ⟨od,ho,hl⟩:=oS I.ns
 ⟨od,⟨I.obj,rfl,rfl,ho⟩,hl⟩
section
variable{prog:Program}{w:World}{A:Around}{E:Value→Shared→Prop}{s:Shared}{K:PySem.W.Frag}{x dx C f:Addr}{mA:Str→Option Value}{name:Str}{v:Value}
theorem sy{expr:Bool}{Q:Value→Shared→Prop}(X:K.In s.heap)(I:mz s.heap x dx C mA)(hg:PySem.W.plainGet K C name=true)(hh:PySem.W.hasDictIn K C=true)
  (ha:PySem.W.findIn K (.ref C) name=some none) (hv:mA name=some v) (hv':PySem.W.handedIn v=true) (h:Q v { s with toks:=s.toks+1 }) :
  wpAny (model prog w) A (getAttr (.ref x) name expr) Q E s:=by
 obtain⟨od,J,hl⟩:=I.look
 exact PySem.W.get_value X J (PySem.W.plainGet_of hg).1 (PySem.W.findObj_own hh ha rfl (by rw[hl,hv])) hv' h
theorem rH{pl:Sem Bool}{Q:Value×List Value→Shared→Prop}(X:K.In s.heap)(I:mz s.heap x dx C mA)(hg:PySem.W.plainGet K C name=true)
  (hf:PySem.W.findIn K (.ref C) name=some (some (.ref f))) (ht:PySem.W.isFn K (.ref f)=true) (hv:mA name=none) (h:Q (.ref f,[.ref x]) s) :
  wpAny (model prog w) A (getMethod (.ref x) name pl) Q E s:=by
 obtain⟨od,J,hl⟩:=I.look
 exact PySem.W.method_fn X J (PySem.W.plainGet_of hg).1 (PySem.W.plainGet_of hg).2 hf (beq_iff_eq.mp ht) (by show(PySem.W.lookIn name od).map (·.isSome)=some false;rw[hl,hv];rfl) h
theorem sX{ns:List Str}{Q:Unit→Shared→Prop}(X:K.In s.heap)(I:mz s.heap x dx C mA)
  (hs:PySem.W.findIn K (.ref C) "__setattr__" = some (some (.builtin "object.__setattr__"))) (hp:PySem.W.plainOver K C=true) (ht:PySem.W.takerIn K C name=some none) (hh:PySem.W.hasDictIn K C=true)
  (hw:PySem.Within mA ns) (hsz:ns.length≤sizeLine)
  (h:∀h',mz h' x dx C (fun y=>if y=name then some v else mA y)→Heap.SameBut dx s.heap h'→Q () { s with heap:=h',toks:=s.toks+2 }) :
  wpAny (model prog w) A (setAttr (.ref x) name v) Q E s:=by
 obtain⟨od,J,hl⟩:=I.look
 refine PySem.W.set_plain X J hs (PySem.W.osa_open (s:={ s with toks:=s.toks+1 }) (r:=none) X J hp ht fun b=>?_)
 obtain⟨cd,hc,hd'⟩:=PySem.W.any_some hh
 have hx:s.heap.get? x=some ⟨.ref C,some dx,.plain,#[]⟩:=I.obj
 refine wpAny_bind (wpAny_pure (wpAny_bind (wpAny_bind (wpAny_loadPart hx (wpAny_bind (PySem.W.Looks.here (s:={ s with toks:=s.toks+1 }) (PySem.W.looks_clsIn X hc) ?_))))))
 rw[hd']
 refine wpAny_pure (a:=some dx) (wpAny_bind (wpAny_pure (wpAny_bind ?_)))
 refine wpAny_nsSet1 (s:={ s with toks:=s.toks+1 }) I.ns fun h' hn2 hs2=>?_
 obtain⟨oD,esD,epD,hoD,hdD,hcD⟩:=hn2.count (PySem.Within.cons name v hw)
 refine wpAny_bind (wpAny_lookBehind hoD (by rw[hdD];exact pastItsLine_dict (yJ hcD (by rw[yp];omega))) ?_)
 exact wpAny_pure (h _ ⟨(hs2.2 _ (yva I.ne)).trans I.obj,hn2,I.ne⟩ hs2)
theorem rq{R:Result→Shared→Prop}{vs:List Value}{kw:List (Str×Value)}(X:K.In s.heap)(hm:PySem.W.makesIn K C=true)
  (hi:PySem.W.findIn K (.ref C) "__init__" = some (some (.ref f))) (hf:PySem.W.typeIn K (.ref f)=some (.type "function"))
  (h:codeAny (model prog w) (A.under (.builtin "type.__call__" ⟨.ref C::vs,kw⟩)) (.call (.ref f) ⟨.ref (s.heap.objs.size+1)::vs,kw⟩) (PySem.W.InitBack (s.heap.objs.size+1) R)
   { s with heap:=(s.heap.push PySem.W.emptyDict).push (PySem.W.instObj C s.heap.objs.size) }) :
  codeAny (model prog w) A (.call (.ref C) ⟨vs,kw⟩) R s:=by
 obtain⟨hh,g,d,t,os⟩:=s
 exact PySem.W.make_core (PySem.W.makes_of X hm) (PySem.W.looks_findIn X hi) (fun self=>PySem.W.bind_fn X self hf) (.inl rfl) h
end
noncomputable def bn(f:Str)(v:V):List (Str×V)→List (Str×V)
 | []=>[(f,v)]
 | (g,x)::r=>if g=f then (g,v)::r else (g,x)::bn f v r
theorem ap(f g:Str)(v:V):∀fs:List (Str×V),(bn f v fs).lookup g=if g=f then some v else fs.lookup g
 | []=>by
  show List.lookup g [(f,v)]=_
  by_cases h:g=f
  ·have hb:(g == f)=true:=beq_iff_eq.mpr h
   simp only[List.lookup,hb,if_pos h]
  ·have hb:(g == f)=false:=beq_eq_false_iff_ne.mpr h
   simp only[List.lookup,hb,if_neg h]
 | (k,x)::r=>by
  have ih:=ap f g v r
  rw[show bn f v ((k,x)::r)=(if k=f then (k,v)::r else (k,x)::bn f v r) from rfl]
  by_cases hk:k=f
  ·rw[if_pos hk]
   by_cases h:g=k
   ·have hb:(g == k)=true:=beq_iff_eq.mpr h
    simp only[List.lookup,hb,if_pos (h.trans hk)]
   ·have hb:(g == k)=false:=beq_eq_false_iff_ne.mpr h
    simp only[List.lookup,hb,if_neg (fun e:g=f=>h (e.trans hk.symm))]
  ·rw[if_neg hk]
   by_cases h:g=k
   ·have hb:(g == k)=true:=beq_iff_eq.mpr h
    simp only[List.lookup,hb,if_neg (fun e:g=f=>hk (h.symm.trans e))]
   ·have hb:(g == k)=false:=beq_eq_false_iff_ne.mpr h
    simp only[List.lookup,hb]
    exact ih
theorem fW(f:Str)(v:V):∀fs:List (Str×V),f∈(bn f v fs).map (·.1)∧∀g,g∈fs.map (·.1)→g∈(bn f v fs).map (·.1)
 | []=>⟨by simp[bn],fun g h=>by simp at h⟩
 | (k,x)::r=>by
  obtain⟨i1,i2⟩:=fW f v r
  rw[show bn f v ((k,x)::r)=(if k=f then (k,v)::r else (k,x)::bn f v r) from rfl]
  by_cases hk:k=f
  ·rw[if_pos hk]
   subst hk
   exact⟨by simp,fun g h=>by simpa using h⟩
  ·rw[if_neg hk]
   refine⟨?_,fun g h=>?_⟩
   ·rw[ym]
    exact yj _ i1
   ·rw[ym] at h ⊢
    rcases List.mem_cons.mp h with e | e
    ·exact List.mem_cons.mpr (.inl e)
    ·exact yj _ (i2 g e)
theorem aZ(f:Str)(v:V):∀fs:List (Str×V),(bn f v fs).length≤fs.length+1
 | []=>by simp[bn]
 | (k,x)::r=>by
  have ih:=aZ f v r
  rw[show bn f v ((k,x)::r)=(if k=f then (k,v)::r else (k,x)::bn f v r) from rfl]
  by_cases hk:k=f
  ·rw[if_pos hk,yp,yp];omega
  ·rw[if_neg hk,yp,yp];omega
theorem dF.some_of{v:V}{o:Option Value}(r:dF (some v) o):∃u,o=some u∧aX v u:=by
 cases o with
 | none=>exact(show False from r).elim
 | some u=>exact⟨u,rfl,r⟩
theorem dF.none_of{o:Option Value}(r:dF none o):o=none:=by
 cases o with
 | none=>rfl
 | some u=>exact(show False from r).elim
theorem o7{v:V}{u:Value}(r:aX v u):PySem.W.handedIn u=true:=by
 cases v with
 | non=>cases (show u=Value.none from r);rfl
 | bl b=>cases (show u=Value.bool b from r);rfl
 | int i=>obtain⟨t,e⟩:=(show ∃t,u=Value.int i t from r);cases e;rfl
 | str x=>obtain⟨t,e⟩:=(show ∃t,u=Value.str x t from r);cases e;rfl
 | byt b=>obtain⟨t,e⟩:=(show ∃t,u=Value.bytes b t from r);cases e;rfl
 | flt b=>obtain⟨t,e⟩:=(show ∃t,u=Value.float b t from r);cases e;rfl
 | ref a=>cases (show u=Value.ref a from r);rfl
 | ty n=>cases (show u=Value.type n from r);rfl
section
variable{P:Program}{w:World}{H H':Hp}{h h':Heap}{a C dx:Addr}{fs fs':List (Str×V)}
theorem gZ(hok:HOk P w H h)(e:H a=some (.ins C dx fs)):∃mA,mz h a dx C mA∧(∀f,dF (fs.lookup f) (mA f))∧PySem.Within mA (fs.map (·.1))∧fs.length≤1000∧H dx=some (.own a):=by
 obtain⟨d,z,ne,ob,mA,n,r,q⟩:=(show br P w H h a (.ins C dx fs) from hok a _ e)
 exact⟨mA,⟨ob,n,ne⟩,r,q,z,d⟩
end
structure Cls(K:PySem.W.Frag)(C:Addr):Prop where
 pg:PySem.W.plainGet K C Str.empty=true
 hd:PySem.W.hasDictIn K C=true
 po:PySem.W.plainOver K C=true
 sa:PySem.W.findIn K (.ref C) "__setattr__" = some (some (.builtin "object.__setattr__"))
theorem Cls.get{K:PySem.W.Frag}{C:Addr}(c:Cls K C)(f:Str):PySem.W.plainGet K C f=true:=c.pg
noncomputable def bH(K:PySem.W.Frag)(C:Addr)(f:Str):Prop:=PySem.W.findIn K (.ref C) f=some none
theorem bH.taker{K:PySem.W.Frag}{C:Addr}{f:Str}(n:bH K C f):PySem.W.takerIn K C f=some none:=by
 unfold PySem.W.takerIn
 rw[show PySem.W.findIn K (.ref C) f=some none from n]
 rfl
structure gM(K:PySem.W.Frag)(C:Addr)(m:Str)(f:Addr):Prop where
 at_:PySem.W.findIn K (.ref C) m=some (some (.ref f))
 fn:PySem.W.isFn K (.ref f)=true
 kp:PySem.W.keepIn K (.ref f)=true
section
variable{X:Cx}{pins:List (Addr×Obj)}{σ:St}{H:Hp}{s:Shared}{a C dx:Addr}{fs:List (Str×V)}{f:Str}{v:V}{A:Around}{E:Value→Shared→Prop}
theorem mx{b:Bool}{Q:Value→Shared→Prop}(I:Inv X pins σ H s)(e:H a=some (.ins C dx fs))(c:Cls X.K C)(n:bH X.K C f)(l:fs.lookup f=some v)
  (h:∀u s',Inv X pins σ H s'→aX v u→Q u s'):wpAny (model X.prog X.w) A (getAttr (.ref a) f b) Q E s:=by
 obtain⟨mA,O,r,_,_,_⟩:=gZ I.hok e
 obtain⟨u,hu,ru⟩:=dF.some_of (v:=v) (o:=mA f) (by rw[← l];exact r f)
 exact sy I.kIn O (c.get f) c.hd n hu (o7 ru) (h u _ (I.tok _) ru)
theorem lS{m:Str}{g:Addr}{pl:Sem Bool}{Q:Value×List Value→Shared→Prop}(I:Inv X pins σ H s)(e:H a=some (.ins C dx fs))(c:Cls X.K C)(k:gM X.K C m g)(l:fs.lookup m=none)
  (h:Q (.ref g,[.ref a]) s):wpAny (model X.prog X.w) A (getMethod (.ref a) m pl) Q E s:=by
 obtain⟨mA,O,r,_,_,_⟩:=gZ I.hok e
 have hn:mA m=none:=dF.none_of (by rw[← l];exact r m)
 exact rH I.kIn O (c.get m) k.at_ k.fn hn h
theorem my{y:V}{u:Value}{Q:Unit→Shared→Prop}(I:Inv X pins σ H s)(e:H a=some (.ins C dx fs))(c:Cls X.K C)(n:bH X.K C f)(hl:fs.length<1000)(ry:aX y u)
  (h:∀s',Inv X pins σ (upd H a (.ins C dx (bn f y fs))) s'→Q () s'):wpAny (model X.prog X.w) A (setAttr (.ref a) f u) Q E s:=by
 obtain⟨mA,O,r,wi,_,ho⟩:=gZ I.hok e
 have hz:(fs.map (·.1)).length≤sizeLine:=by rw[ya,sizeLine_eq];omega
 refine sX I.kIn O c.sa c.po n.taker c.hd wi hz fun h' O' sb=>h _ ?_
 have hd:∃o,h'.get? dx=some o:=let ⟨o,_,_,e',_⟩:=O'.ns;⟨o,e'⟩
 refine I.write (x:=a) (e:=dx) (by rw[e];exact True.intro) (.inr ho) (fun b q hb z=>(sb.2 b hb).trans z) hd ?_
 refine⟨by rw[av O.ne];exact ho,?_,O.ne,O'.obj,_,O'.ns,fun g=>?_,fun g hg=>?_⟩
 ·have:=aZ f y fs;omega
 ·show dF ((bn f y fs).lookup g) (if g=f then some u else mA g)
  rw[ap]
  by_cases q:g=f
  ·rw[if_pos q,if_pos q];exact ry
  ·rw[if_neg q,if_neg q];exact r g
 ·by_cases q:g=f
  ·rw[q];exact(fW f y fs).1
  ·refine(fW f y fs).2 g (wi g fun z=>hg ?_)
   show(if g=f then some u else mA g)=none
   rw[if_neg q];exact z
theorem Inv.made(I:Inv X pins σ H s):Inv X pins σ (upd (upd H s.heap.objs.size (.own (s.heap.objs.size+1))) (s.heap.objs.size+1) (.ins C s.heap.objs.size []))
  { s with heap:=(s.heap.push PySem.W.emptyDict).push (PySem.W.instObj C s.heap.objs.size) }:=by
 have e1:(s.heap.push PySem.W.emptyDict).get? s.heap.objs.size=some PySem.W.emptyDict:=Heap.get?_push_size s.heap rfl
 have e2:((s.heap.push PySem.W.emptyDict).push (PySem.W.instObj C s.heap.objs.size)).get? (s.heap.objs.size+1)=some (PySem.W.instObj C s.heap.objs.size):=by
  have:=Heap.get?_push_size (s.heap.push PySem.W.emptyDict) (o:=PySem.W.instObj C s.heap.objs.size) rfl
  rwa [Heap.size_push] at this
 have e3:(s.heap.push PySem.W.emptyDict).Ns s.heap.objs.size (fun _=>none):=⟨PySem.W.emptyDict,#[],_,e1,rfl,(fun e he=>absurd he (by simp)),fun _=>rfl⟩
 have I1:=I.laid (a:=s.heap.objs.size) (o:=.own (s.heap.objs.size+1)) (h':=s.heap.push PySem.W.emptyDict) (t':=s.toks) (fun b u q=>Heap.get?_push_of_some _ q) (yi _) ⟨_,e1⟩
 refine I1.laid (a:=s.heap.objs.size+1) (o:=.ins C s.heap.objs.size []) (t':=s.toks) (fun b u q=>Heap.get?_push_of_some _ q) (Nat.le_of_eq (Heap.size_push _ _)) ?_
 have ne:s.heap.objs.size≠s.heap.objs.size+1:=yE (ysb _)
 refine⟨by rw[av ne,af],yH _,ne,e2,fun _=>none,(Heap.Ns1.of_empty e3).at fun o q=>Heap.get?_push_of_some _ q,fun _=>True.intro,fun y hy=>absurd rfl hy⟩
theorem sR{prog:Program}{w:World}{env:Env}{e:Expr}{f:Str}{pos:Pos}{s:Shared}{Q:Value→Shared→Prop}(hb:attributeBase e f env (eval e env)=eval e env)
  (h:wpAny (model prog w) A (eval e env) (fun o s₁=>wpAny (model prog w) A (getAttr o f true) Q E s₁) E s):wpAny (model prog w) A (eval (.Attribute e f pos) env) Q E s :=
 Attribute_any_ h (by rw[arm_eval_Attribute,hb])
end
noncomputable def uZ(K:PySem.W.Frag)(ta:TE)(f:Str):TE:=fun σ H Q=>ta σ H fun x H1=>∃a C dx fs v,x=.ref a∧H1 a=some (.ins C dx fs)∧Cls K C∧bH K C f∧fs.lookup f=some v∧Q v H1
noncomputable def zF(K:PySem.W.Frag)(ta tv:TE)(f:Str):TS:=fun D σ H=>tv σ H fun y H1=>ta σ H1 fun x H2=>∃a C dx fs,x=.ref a∧H2 a=some (.ins C dx fs)∧Cls K C∧bH K C f∧fs.length<1000 ∧
 D.nx σ (upd H2 a (.ins C dx (bn f y fs)))
section
variable{X:Cx}{o e value:Expr}{f:Str}{pos pos' tpos:Pos}{ta tv:TE}
theorem aU(he:PE X e ta)(hb:attributeBase e f X.env (eval e X.env)=eval e X.env):PE X (.Attribute e f pos) (uZ X.K ta f):=by
 intro pins s σ H Q I h
 refine sR hb (thn (he pins s σ H _ I h) fun u s1 ⟨x,H1,I1,rx,a,C,dx,fs,v,ex,ea,c,n,l,q⟩=>?_)
 subst ex
 obtain rfl:u=Value.ref a:=rx
 exact mx I1 ea c n l fun u' s2 I2 ru=>⟨v,H1,I2,ru,q⟩
theorem cE(ha:PE X o ta)(hv:PE X value tv)(hs:swapsWith value (some (.Attribute o f pos')) pos.line X.env=pure false):PS X (.Assign [.Attribute o f pos'] value pos) (zF X.K ta tv f):=by
 intro pins s σ H D I h
 refine plainObj_wpAny_Assign_Attribute (thn (hv pins s σ H _ I h) fun u s1 ⟨y,H1,I1,ry,q⟩=>thn (ha pins s1 σ H1 _ I1 q) fun ov s2 ⟨x,H2,I2,rx,a,C,dx,fs,ex,ea,c,n,l,q2⟩=>?_) hs
 subst ex
 obtain rfl:ov=Value.ref a:=rx
 exact my I2 ea c n l ry fun s3 I3=>⟨σ,_,I3,q2⟩
end
section
variable{X:Cx}{pins:List (Addr×Obj)}{σ:St}{H:Hp}{s:Shared}{A:Around}{E:Value→Shared→Prop}{Q:Value→Shared→Prop}{c:Value}{b:Bool}
inductive fU(K:PySem.W.Frag)(H:Hp):V→Value→Prop where
 | non:fU K H .non (.type "NoneType")
 | bl (x:Bool):fU K H (.bl x) (.type "bool")
 | int (i:Int):fU K H (.int i) (.type "int")
 | str (x:Str):fU K H (.str x) (.type "str")
 | flt (x:UInt64):fU K H (.flt x) (.type "float")
 | lst {a:Addr} {xs:List V} (e:H a=some (.lst xs)):fU K H (.ref a) (.type "list")
 | frz {a:Addr} {o:Obj} {xs:List V} (e:H a=some (.frz o (.lst xs))):fU K H (.ref a) (.type "list")
 | tup {a:Addr} {xs:List V} (e:H a=some (.tup xs)):fU K H (.ref a) (.type "tuple")
 | dK {a:Addr} {kvs:List (Key×V)} (e:H a=some (.dK kvs)):fU K H (.ref a) (.type "dict")
 | dT {a:Addr} {kvs:List (List Key×V)} (e:H a=some (.dT kvs)):fU K H (.ref a) (.type "dict")
 | ins {a C dx:Addr} {fs:List (Str×V)} (e:H a=some (.ins C dx fs)) (cl:Cls K C) (ha:PySem.W.findIn K (.ref C) "__class__" = some (some (.builtin "object.__class__")))
   (hn:PySem.W.specialIn K (.builtin "object.__class__") "__get__" = some (some (.builtin "getset_descriptor.__get__"))) (htk:PySem.W.takesIn K (.builtin "object.__class__")=some true)
   (hm:PySem.W.mroIn K C (.type "object")=some true):fU K H (.ref a) (.ref C)
theorem oP{x:V}{u t:Value}(I:Inv X pins σ H s)(rx:aX x u)(ty:fU X.K H x t)(e:PySem.W.kitOne X.K t c=some b)(h:∀tk,Q (.bool b) { s with toks:=tk }) :
  wpAny (model X.prog X.w) A (call (.builtin "isinstance") [u,c]) Q E s:=by
 cases ty with
 | non=>cases (show u=Value.none from rx);exact PySem.W.kia_one PySem.W.kitx_none I.kIn True.intro e (fun z=>nomatch z) h
 | bl y=>cases (show u=Value.bool y from rx);exact PySem.W.kia_one PySem.W.kitx_bool I.kIn True.intro e (fun z=>nomatch z) h
 | int i=>obtain⟨t,q⟩:=(show ∃t,u=Value.int i t from rx);cases q;exact PySem.W.kia_one PySem.W.kitx_int I.kIn True.intro e (fun z=>nomatch z) h
 | str y=>obtain⟨t,q⟩:=(show ∃t,u=Value.str y t from rx);cases q;exact PySem.W.kia_one PySem.W.kitx_str I.kIn True.intro e (fun z=>nomatch z) h
 | flt y=>obtain⟨t,q⟩:=(show ∃t,u=Value.float y t from rx);cases q;exact PySem.W.kia_one PySem.W.kitx_float I.kIn True.intro e (fun z=>nomatch z) h
 | @lst a xs ea =>
  cases (show u=Value.ref a from rx)
  obtain⟨_,_,n,_,h1⟩:=(show br X.prog X.w H s.heap a (.lst xs) from I.hok a _ ea)
  exact PySem.W.kia_one PySem.W.kitx_list I.kIn ⟨_,h1,rfl⟩ e (fun z=>nomatch z) h
 | @frz a ob xs ea =>
  cases (show u=Value.ref a from rx)
  obtain⟨_,_,_,n,_,h1⟩:=(show br X.prog X.w H s.heap a (.frz ob (.lst xs)) from I.hok a _ ea)
  exact PySem.W.kia_one PySem.W.kitx_list I.kIn ⟨_,h1,rfl⟩ e (fun z=>nomatch z) h
 | @tup a xs ea =>
  cases (show u=Value.ref a from rx)
  obtain⟨_,_,_,p⟩:=(show br X.prog X.w H s.heap a (.tup xs) from I.hok a _ ea)
  obtain⟨o,h1,h2,_⟩:=p
  exact PySem.W.kia_one PySem.W.kitx_tuple I.kIn ⟨o,h1,h2⟩ e (fun z=>nomatch z) h
 | @dK a kvs ea =>
  cases (show u=Value.ref a from rx)
  obtain⟨_,_,vs,_,p⟩:=(show br X.prog X.w H s.heap a (.dK kvs) from I.hok a _ ea)
  obtain⟨o,es,ep,h1,h2,_⟩:=p
  exact PySem.W.kia_one PySem.W.kitx_dict I.kIn ⟨o,h1,h2.1⟩ e (fun z=>nomatch z) h
 | @dT a kvs ea =>
  cases (show u=Value.ref a from rx)
  obtain⟨_,_,xs,_,o,es,ep,h1,h2,_⟩:=(show br X.prog X.w H s.heap a (.dT kvs) from I.hok a _ ea)
  exact PySem.W.kia_one PySem.W.kitx_dict I.kIn ⟨o,h1,h2.1⟩ e (fun z=>nomatch z) h
 | @ins a C dx fs ea cl ha hn htk hm =>
  cases (show u=Value.ref a from rx)
  obtain⟨mA,O,_⟩:=gZ I.hok ea
  obtain⟨od,J,_⟩:=O.look
  exact PySem.W.kia_one (PySem.W.kitx_own (cl.get _) cl.hd ha hn htk hm) I.kIn J e (fun z=>nomatch z) h
end
end L2
namespace L2
open PySem PySem.Spec PyProof.Rows
structure b4(k:Nat)(A:Around):Prop where
 hd:A.handled=none
 dp:A.depth+3*k+5<recursionLimit
 un:A.units+16*k+200<cLine
theorem b4.mono{j k:Nat}{A:Around}(r:b4 k A)(h:j≤k):b4 j A:=⟨r.hd,by have:=r.dp;omega,by have:=r.un;omega⟩
theorem b4.deeper{k:Nat}{A:Around}(r:b4 (k+1) A)(env:Env):b4 k (A.deeper env) :=
 ⟨r.hd,by have:=r.dp;show A.depth+1+3*k+5<_;omega,by have:=r.un;show A.units+3+16*k+200<_;omega⟩
theorem mj{A:Around}{C:Addr}{us:List Value}{kw:List (Str×Value)}:(A.under (.builtin "type.__call__" ⟨.ref C::us,kw⟩)).depth=A.depth+1:=by
 first | rfl | simp[Around.under,Code.weight,Code.isCreation,Code.isGuard,Code.isCaller,Code.frames,Code.isFrame,guardIds]
theorem lV{A:Around}{C:Addr}{us:List Value}{kw:List (Str×Value)}:(A.under (.builtin "type.__call__" ⟨.ref C::us,kw⟩)).units=A.units+1:=by
 first | rfl | simp[Around.under,Code.cUnits,Code.frames,Code.isFrame]
theorem b4.make{k:Nat}{A:Around}(r:b4 (k+1) A)(C:Addr)(us:List Value)(kw:List (Str×Value)):b4 k (A.under (.builtin "type.__call__" ⟨.ref C::us,kw⟩)) :=
 ⟨r.hd,by have:=r.dp;rw[mj];omega,by have:=r.un;rw[lV];omega⟩
theorem b4.depth{k:Nat}{A:Around}(r:b4 k A):A.depth<recursionLimit:=by have:=r.dp;omega
theorem b4.units{k:Nat}{A:Around}(r:b4 k A):A.units+64<cLine:=by have:=r.un;omega
noncomputable def zM:TA:=fun _ H Q=>Q [] H
noncomputable def uH(ta:TE)(tr:TA):TA:=fun σ H Q=>ta σ H fun x H1=>tr σ H1 fun xs H2=>Q (x::xs) H2
section
variable{X:Cx}{e:Expr}{es:List Expr}{te:TE}{t:TA}{pos:Pos}
theorem ag:PA X [] zM:=fun _ _ _ _ H Q I h=>Calls.spliced_nil ⟨[],H,I,.nil,h⟩
theorem ae(ha:PE X e te)(hr:PA X es t)(hs:starEach (e::es) X.env=(false,eval e X.env)::starEach es X.env:=by rfl):PA X (e::es) (uH te t):=by
 intro pos pins s σ H Q I h
 rw[hs]
 show wpAny _ _ (spliced ((false,eval e X.env)::backTo pos (starEach es X.env))) _ _ s
 refine Calls.spliced_cons (thn (ha pins s σ H _ I h) fun u s1 ⟨x,H1,I1,r1,q1⟩=>?_)
 exact thn (hr pos pins s1 σ H1 _ I1 q1) fun us s2 ⟨xs,H2,I2,r2,q2⟩=>⟨x::xs,H2,I2,.cons r1 r2,q2⟩
noncomputable def Ax(t:TA):TE:=fun σ H Q=>t σ H fun xs H1=>xs.length≤sizeLine∧∀p,H1 p=none→Q (.ref p) (upd H1 p (.tup xs))
noncomputable def Ak(t:TA):TE:=fun σ H Q=>t σ H fun xs H1=>xs.length≤sizeLine∧∀p,H1 p=none→Q (.ref p) (upd H1 p (.lst xs))
theorem aV{x1}(h:PA X es t):PE X (.Tuple es x1 pos) (Ax t):=by
 intro pins s σ H Q I hq
 refine wpAny_Tuple_spliced (thn (h pos pins s σ H _ I hq) fun us s1 ⟨xs,H1,I1,r,z,q⟩=>⟨by rw[← r.length];exact z,?_⟩)
 have hf:H1 s1.heap.objs.size=none:=I1.hok.fresh (yi _)
 refine⟨.ref s1.heap.objs.size,upd H1 s1.heap.objs.size (.tup xs),I1.laid (t':=s1.toks) (fun b u e=>Heap.get?_push_of_some _ e) (yi _) ?_,rfl,q _ hf⟩
 exact⟨z,us,r,⟨_,Heap.get?_push_size _ rfl,rfl,_,rfl⟩⟩
theorem aY(h:PA X es t):PE X (.List es pos) (Ak t):=by
 intro pins s σ H Q I hq
 refine wpAny_List_spliced (thn (h pos pins s σ H _ I hq) fun us s1 ⟨xs,H1,I1,r,z,q⟩=>⟨by rw[← r.length];exact z,?_⟩)
 have hf:H1 s1.heap.objs.size=none:=I1.hok.fresh (yi _)
 refine⟨.ref s1.heap.objs.size,upd H1 s1.heap.objs.size (.lst xs),I1.laid (t':=s1.toks) (fun b u e=>Heap.get?_push_of_some _ e) (yi _) ?_,rfl,q _ hf⟩
 exact⟨z,us,0,r,Heap.get?_push_size _ rfl⟩
end
noncomputable abbrev Sp:=List V→Hp→VK→XK→Prop
noncomputable abbrev CXT:=List Env→Hp→Shared→XK→Value→Shared→Prop
structure mD(P:Program)(w:World)(K:PySem.W.Frag)(mg:Str→Option Value)(base:Heap)(A:Around)(outer:List Env)(s:Shared)(H:Hp):Prop where
 frames:A.frames=some outer
 mod:Mod K mg base
 bs:∀b o,base.get? b=some o→s.heap.get? b=some o∧H b=none
 bsz:base.objs.size≤s.heap.objs.size
 funs:s.heap.FunFrames base outer
 frf:∀b∈frs outer,H b=none
 hok:HOk P w H s.heap
 bare:AllBare s.gens
noncomputable def CE(outer:List Env)(P:Program)(w:World)(H:Hp)(s:Shared)(Q:VK)(u:Value)(s':Shared):Prop :=
 ∃v H',s'.os=s.os∧AllBare s'.gens∧Un (frs outer) [] H H' s.heap s'.heap∧HOk P w H' s'.heap∧aX v u∧Q v H'
noncomputable def CR(CX:CXT)(outer:List Env)(P:Program)(w:World)(H:Hp)(s:Shared)(Q:VK)(E:XK)(r:Result)(s':Shared):Prop :=
 match r with
 | .ok (.ret u)=>CE outer P w H s Q u s'
 | .ok _=>False
 | .error e=>CX outer H s E e s'
structure aN(P:Program)(w:World)(K:PySem.W.Frag)(mg:Str→Option Value)(base:Heap)(CX:CXT)(k:Nat)(f:Addr)(fd:FuncData)(ps:List Str)(sp:Sp):Prop where
 len:∀vs H Q E,sp vs H Q E→vs.length=ps.length
 run:∀(A:Around) (outer:List Env) (s:Shared) (H:Hp) (args:Args) (us:List Value) (vs:List V) (Q:VK) (E:XK),b4 k A→mD P w K mg base A outer s H→BindsTo s fd args (ps.zip us)→aO vs us→sp vs H Q E →
  codeAny (model P w) A (.call (.ref f) args) (CR CX outer P w H s Q E) s
theorem mD.make{P:Program}{w:World}{K:PySem.W.Frag}{mg:Str→Option Value}{base:Heap}{A:Around}{outer:List Env}{s:Shared}{H:Hp}(e:mD P w K mg base A outer s H)(C:Addr)(us:List Value)(kw:List (Str×Value)) :
  mD P w K mg base (A.under (.builtin "type.__call__" ⟨.ref C::us,kw⟩)) outer s H:=⟨by first | exact e.frames | (simpa [Around.under,Code.envs,Code.isFrame,pushEnvs] using e.frames),e.mod,e.bs,e.bsz,e.funs,e.frf,e.hok,e.bare⟩
section
variable{X:Cx}{pins:List (Addr×Obj)}{σ:St}{H:Hp}{s s':Shared}
theorem Inv.env0(I:Inv X pins σ H s):mD X.prog X.w X.K X.mg X.base X.A X.stack s H :=
 ⟨I.ok.frames,I.ok.mod,I.bs,yJ I.ok.bsz I.sz,I.stack,I.stkFree,I.hok,I.bare⟩
theorem Inv.after{Q:VK}{u:Value}(I:Inv X pins σ H s)(h:CE X.stack X.prog X.w H s Q u s'):EP X pins σ Q u s':=by
 obtain⟨v,H',os,bare,un,hok,r,q⟩:=h
 obtain⟨hh,g,d,t,os'⟩:=s'
 obtain rfl:os'=s.os:=os
 exact⟨v,H',I.call (h':=hh) (g':=g) (d':=d) (t':=t) (ch:=[]) un hok bare (fun b z=>absurd z (by simp)),r,q⟩
end
noncomputable def nL(sp:Sp)(dvs:List V)(E:XK)(t:TA):TE:=fun σ H Q=>t σ H fun vs H1=>sp (vs++dvs) H1 Q E
noncomputable def pU(C:Addr)(m:Str)(sp:Sp)(dvs:List V)(E:XK)(ta:TE)(t:TA):TE:=fun σ H Q=>ta σ H fun x H1=>∃a dx fs,x=.ref a∧H1 a=some (.ins C dx fs)∧fs.lookup m=none ∧
 t σ H1 fun vs H2=>sp (x::(vs++dvs)) H2 Q E
noncomputable def pb(C:Addr)(sp:Sp)(dvs:List V)(E:XK)(t:TA):TE:=fun σ H Q=>t σ H fun vs H1=>∀x dx,H1 x=none→H1 dx=none→dx≠x →
 sp (.ref x::(vs++dvs)) (upd (upd H1 dx (.own x)) x (.ins C dx [])) (fun v H2=>v=.non∧Q (.ref x) H2) E
noncomputable def b7(K:PySem.W.Frag)(fd:FuncData)(ps:List Str)(ds:List Value):Prop :=
 ∀(s:Shared) (us:List Value),K.In s.heap→(us++ds).length=ps.length→BindsTo s fd ⟨us,[]⟩ (ps.zip (us++ds))
theorem b7.all{K:PySem.W.Frag}{fd:FuncData}{ps:List Str}(h:∀us:List Value,us.length=ps.length→bindArgs fd ⟨us,[]⟩=pure (ps.zip us)):b7 K fd ps []:=fun s us _ hl=>by
 rw[yI] at hl ⊢
 exact .of_eq (h us hl)
noncomputable def dB(CX:CXT)(X:Cx)(E:XK):Prop:=∀(pins:List (Addr×Obj)) (σ:St) (H:Hp) (s:Shared) (e:Value) (s':Shared),Inv X pins σ H s→CX X.stack H s E e s'→X.xe e s'
section
variable{X:Cx}{CX:CXT}{k:Nat}{f C:Addr}{fd:FuncData}{ps:List Str}{sp:Sp}{dvs:List V}{ds:List Value}{E:XK}{x m:Str}{p pos apos:Pos}{e o:Expr}{es:List Expr}{ta:TE}{t:TA}
theorem px{pins:List (Addr×Obj)}{σ:St}{H:Hp}{s:Shared}{Q:VK}{us:List Value}{vs:List V}(F:aN X.prog X.w X.K X.mg X.base CX k f fd ps sp)(hr:b4 k X.A)(hb:b7 X.K fd ps ds)(hd:aO dvs ds)(hx:dB CX X E)
  (I:Inv X pins σ H s) (r:aO vs us) (h:sp (vs++dvs) H Q E):wpAny (model X.prog X.w) X.A (call (.ref f) us) (EP X pins σ Q) X.xe s:=by
 have r2:aO (vs++dvs) (us++ds):=r.append hd
 have hl:(us++ds).length=ps.length:=by rw[← r2.length];exact F.len _ _ _ _ h
 refine wpAny_call (codeAny_mono (F.run X.A X.stack s H ⟨us,[]⟩ (us++ds) (vs++dvs) Q E hr I.env0 (hb s us I.kIn hl) r2 h) fun r s' hq=>?_)
 cases r with
 | error e=>exact hx pins σ H s e s' I hq
 | ok fl =>
  cases fl with
  | ret u=>exact I.after hq
  | next=>exact False.elim hq
  | brk=>exact False.elim hq
  | cont=>exact False.elim hq
theorem na(F:aN X.prog X.w X.K X.mg X.base CX k f fd ps sp)(hr:b4 k X.A)(hg:Gl X x)(hm:X.mg x=some (.ref f))(hk:PySem.W.keepIn X.K (.ref f)=true)(hb:b7 X.K fd ps ds)(hd:aO dvs ds)(hx:dB CX X E)
  (ha:PA X (e::es) t) (hdb:(x == ("__debug__":Str))=false:=by decide) (he:starEach (e::es) X.env=(false,eval e X.env)::starEach es X.env:=by rfl) (hpl:(backTo pos (starEach es X.env)).any (·.1)=false:=by rfl) :
  PE X (.Call (.Name x p) (e::es) [] pos) (nL sp dvs E t):=by
 intro pins s σ H Q I h
 refine wpAny_Call_Name_kw (gS I hg hm ?_ hdb)
 refine PySem.W.callWith_K (h₀:=X.base) I.ok.mod.kin hk (thn (ha pos pins s σ H _ I h) fun us s1 ⟨vs,H1,I1,r,q⟩=>⟨I1.kIn,?_⟩) he hpl
 exact px F hr hb hd hx I1 r q
theorem sE{pl:Sem Bool}(he:PE X o ta)(c:Cls X.K C)(hm:gM X.K C m f)(F:aN X.prog X.w X.K X.mg X.base CX k f fd ps sp)(hr:b4 k X.A)(hb:b7 X.K fd ps ds)(hd:aO dvs ds)(hx:dB CX X E)(ha:PA X (e::es) t)
  (hst:starEach (e::es) X.env=(false,eval e X.env)::starEach es X.env:=by rfl) (hpl:(backTo pos (starEach es X.env)).any (·.1)=false:=by rfl)
  (ht:eval (.Call (.Attribute o m apos) (e::es) [] pos) X.env=(do
   let ov←eval o X.env
   standAt apos.atName
   let (f,first)←holding [ov] (getMethod ov m pl)
   callWith pos f first (backTo pos (starEach (e::es) X.env)) (backToKw pos (keywordEach [] X.env))):=by rfl) :
  PE X (.Call (.Attribute o m apos) (e::es) [] pos) (pU C m sp dvs E ta t):=by
 intro pins s σ H Q I h
 refine PySem.W.methodCall_KW (pl:=pl) (thn (he pins s σ H _ I h) fun u s1 ⟨x,H1,I1,rx,a,dx,fs,ex,ea,l,q⟩=>?_) ht
 subst ex
 obtain rfl:u=Value.ref a:=rx
 refine lS I1 ea c hm l ?_
 refine PySem.W.callWith_K (first:=[.ref a]) (h₀:=X.base) I.ok.mod.kin hm.kp (thn (ha pos pins s1 σ H1 _ I1 q) fun us s2 ⟨vs,H2,I2,r,q2⟩=>⟨I2.kIn,?_⟩) hst hpl
 exact px (us:=.ref a::us) (vs:=.ref a::vs) F hr hb hd hx I2 (.cons rfl r) q2
structure Mk(K:PySem.W.Frag)(C f:Addr):Prop where
 makes:PySem.W.makesIn K C=true
 init:PySem.W.findIn K (.ref C) "__init__" = some (some (.ref f))
 fn:PySem.W.isFn K (.ref f)=true
 kp:PySem.W.keepIn K (.ref C)=true
theorem qQ{pins:List (Addr×Obj)}{σ:St}{H:Hp}{s:Shared}{Q:VK}{us:List Value}{vs:List V}(M:Mk X.K C f)(F:aN X.prog X.w X.K X.mg X.base CX k f fd ps sp)(hr:b4 (k+1) X.A)(hb:b7 X.K fd ps ds)(hd:aO dvs ds)
  (hx:dB CX X E) (I:Inv X pins σ H s) (r:aO vs us)
  (h:∀x dx,H x=none→H dx=none→dx≠x→sp (.ref x::(vs++dvs)) (upd (upd H dx (.own x)) x (.ins C dx [])) (fun v H2=>v=.non∧Q (.ref x) H2) E) :
  wpAny (model X.prog X.w) X.A (call (.ref C) us) (EP X pins σ Q) X.xe s:=by
 have hq:=h (s.heap.objs.size+1) s.heap.objs.size (I.hok.fresh (yBb _)) (I.hok.fresh (yi _)) (yE (ysb _))
 have I2:=Inv.made (C:=C) I
 have r2:aO (V.ref (s.heap.objs.size+1)::(vs++dvs)) (Value.ref (s.heap.objs.size+1)::(us++ds)):=.cons rfl (r.append hd)
 have hl:(Value.ref (s.heap.objs.size+1)::us++ds).length=ps.length:=by
  have e:=r2.length
  rw[F.len _ _ _ _ hq] at e
  exact e.symm
 refine wpAny_call (rq (f:=f) I.kIn M.makes M.init (beq_iff_eq.mp M.fn) (codeAny_mono (F.run _ X.stack _ _ ⟨Value.ref (s.heap.objs.size+1)::us,[]⟩ (Value.ref (s.heap.objs.size+1)::(us++ds)) _ _ E (hr.make C us [])
  (I2.env0.make C us []) (hb _ (Value.ref (s.heap.objs.size+1)::us) I2.kIn hl) r2 hq) fun r s' hq'=>?_))
 cases r with
 | error e=>exact hx pins σ _ _ e s' I2 hq'
 | ok fl =>
  cases fl with
  | ret u =>
   obtain⟨v,H',I3,rv,ev,q3⟩:=I2.after hq'
   subst ev
   exact⟨rv,⟨V.ref (s.heap.objs.size+1),H',I3,rfl,q3⟩⟩
  | next=>exact False.elim hq'
  | brk=>exact False.elim hq'
  | cont=>exact False.elim hq'
theorem sw(M:Mk X.K C f)(F:aN X.prog X.w X.K X.mg X.base CX k f fd ps sp)(hr:b4 (k+1) X.A)(hg:Gl X x)(hm:X.mg x=some (.ref C))(hb:b7 X.K fd ps ds)(hd:aO dvs ds)(hx:dB CX X E)
  (ha:PA X (e::es) t) (hdb:(x == ("__debug__":Str))=false:=by decide) (he:starEach (e::es) X.env=(false,eval e X.env)::starEach es X.env:=by rfl) (hpl:(backTo pos (starEach es X.env)).any (·.1)=false:=by rfl) :
  PE X (.Call (.Name x p) (e::es) [] pos) (pb C sp dvs E t):=by
 intro pins s σ H Q I h
 refine wpAny_Call_Name_kw (gS I hg hm ?_ hdb)
 refine PySem.W.callWith_K (h₀:=X.base) I.ok.mod.kin M.kp (thn (ha pos pins s σ H _ I h) fun us s1 ⟨vs,H1,I1,r,q⟩=>⟨I1.kIn,?_⟩) he hpl
 exact qQ M F hr hb hd hx I1 r q
end
section
variable{X:Cx}{CX:CXT}{k:Nat}{f C:Addr}{fd:FuncData}{ps ks:List Str}{sp:Sp}{E:XK}{x m:Str}{p pos apos kpos:Pos}{e o:Expr}{es:List Expr}{kws:List Keyword}{te ta:TE}{t tk:TA}{nm:Option Str}
variable{g:List Value→List Value→List Value}{gV:List V→List V→List V}
end
structure aw(N P:List Str)(sc:Scope):Prop where
 kind:sc.kind=.function
 co:sc.isCoroutine=false
 gen:sc.isGenerator=false
 nd:N.Nodup
 pre:N.take P.length=P
 par:∀x∈P,sc.names.lookup x=some .local∨sc.names.lookup x=some .cell
 nofree:∀y∈sc.names,y.2≠.free
theorem jm{kindOf:Str→Option NameKind}{x:Str}:∀{binds:List (Str×Value)} {m:Str→Option Value},(∀v,(x,v)∉binds)→bindL kindOf binds m x=m x
 | [],_,_=>rfl
 | (n,v)::r,m,h=>by
  unfold bindL
  rw[jm fun w hw=>h w (yj _ hw)]
  split
  ·have:x≠n:=by rintro rfl;exact h v yq
   simp[this]
  ·rfl
theorem jy{kindOf:Str→Option NameKind}{x:Str}:∀{binds:List (Str×Value)} {m:Str→Option Value},(∀v,(x,v)∉binds)→bindC kindOf binds m x=m x
 | [],_,_=>rfl
 | (n,v)::r,m,h=>by
  unfold bindC
  rw[jy fun w hw=>h w (yj _ hw)]
  split
  ·rfl
  ·have:x≠n:=by rintro rfl;exact h v yq
   simp[this]
theorem jh{kindOf:Str→Option NameKind}{x:Str}{v:Value}:∀{P:List Str} {vs:List Value} {i:Nat} {m:Str→Option Value},P.Nodup→P[i]? = some x→vs[i]? = some v→kindOf x=some .local →
  bindL kindOf (P.zip vs) m x=some v
 | [],_,_,_,_,h,_,_=>by simp at h
 | _::_,[],_,_,_,_,h,_=>by simp at h
 | p::P,w::vs,0,m,nd,h1,h2,hk=>by
  simp at h1 h2;subst h1;subst h2
  show bindL kindOf ((p,w)::P.zip vs) m p=_
  unfold bindL
  rw[jm fun v hv=>(yW.mp nd).1 (yAb hv).1,if_pos hk]
  simp
 | p::P,w::vs,i+1,m,nd,h1,h2,hk=>by
  show bindL kindOf ((p,w)::P.zip vs) m x=_
  unfold bindL
  exact jh (i:=i) (yW.mp nd).2 (by simpa using h1) (by simpa using h2) hk
theorem jH{kindOf:Str→Option NameKind}{x:Str}{v:Value}:∀{P:List Str} {vs:List Value} {i:Nat} {m:Str→Option Value},P.Nodup→P[i]? = some x→vs[i]? = some v→kindOf x≠some .local →
  bindC kindOf (P.zip vs) m x=some v
 | [],_,_,_,_,h,_,_=>by simp at h
 | _::_,[],_,_,_,_,h,_=>by simp at h
 | p::P,w::vs,0,m,nd,h1,h2,hk=>by
  simp at h1 h2;subst h1;subst h2
  show bindC kindOf ((p,w)::P.zip vs) m p=_
  unfold bindC
  rw[jy fun v hv=>(yW.mp nd).1 (yAb hv).1,if_neg hk]
  simp
 | p::P,w::vs,i+1,m,nd,h1,h2,hk=>by
  show bindC kindOf ((p,w)::P.zip vs) m x=_
  unfold bindC
  exact jH (i:=i) (yW.mp nd).2 (by simpa using h1) (by simpa using h2) hk
noncomputable def start(N:List Str)(vs:List V):St:=vs.map some++List.replicate (N.length-vs.length) none
noncomputable def eQ(CX:CXT)(P:Program)(w:World)(K:PySem.W.Frag)(mg:Str→Option Value)(base:Heap)(N:List Str)(qual:Str)(scope:Scope)(f:Addr)(cd:Value)(A:Around)(outer:List Env)(s:Shared)(H:Hp)(E:XK):Cx where
 prog:=P
 w:=w
 K:=K
 mg:=mg
 base:=base
 A:=A.deeper (envOfC qual scope s.heap.objs.size f cd)
 N:=N
 s₀:=s
 H₀:=H
 env:=envOfC qual scope s.heap.objs.size f cd
 outer:=outer
 stack:=envOfC qual scope s.heap.objs.size f cd::outer
 ex:=[]
 calm:=true
 fn:=fun _=>true
 pn:=[]
 xe:=fun e s'=>wpAny (model P w) (A.deeper (envOfC qual scope s.heap.objs.size f cd)) (leaving (envOfC qual scope s.heap.objs.size f cd) e) (fun _ s''=>CX outer H s E e s'') (fun e' s''=>CX outer H s E e' s'') s'
theorem lj{sc:Scope}{n:Nat}{x:Str}(h:sc.names.lookup x=some .cell):∃c,(cellsFrom n sc.names []).lookup x=some c:=by
 have q:=PySem.W.cellsFrom_some sc.names n [] (.inl h)
 exact Option.isSome_iff_exists.mp q
theorem oh{CX:CXT}{P:Program}{w:World}{K:PySem.W.Frag}{mg:Str→Option Value}{base:Heap}{N ps:List Str}{qual:Str}{scope:Scope}{f:Addr}{cd:Value}{A:Around}{outer:List Env}{s s1:Shared}{H:Hp}{E:XK}{us:List Value}{vs:List V}
  (S:aw N ps scope) (hd:A.handled=none) (e0:mD P w K mg base A outer s H) (hl:vs.length=ps.length) (r:aO vs us)
  (x:InCallC s s.heap.objs.size (bindL (envOfC qual scope s.heap.objs.size f cd).kindOf (ps.zip us) fun _=>none) (cellsFrom (s.heap.objs.size+1) scope.names []) (bindC (envOfC qual scope s.heap.objs.size f cd).kindOf (ps.zip us) fun _=>none) s1) :
  Inv (eQ CX P w K mg base N qual scope f cd A outer s H E) [] (start N vs) H s1:=by
 have hpl:ps.length≤N.length:=by have:=congrArg List.length S.pre;rw[yf] at this;omega
 obtain⟨h1,tk,rfl,hk⟩:=x.done
 have noA:∀b:Addr,b∉(eQ CX P w K mg base N qual scope f cd A outer s H E).ex:=fun b z=>absurd (show b∈([]:List Addr) from z) (by simp)
 refine⟨⟨e0.mod,S.kind,rfl,rfl,yi _,fun y z c h1 h2=>?_,fun y hy=>?_,fun y c _ h=>?_,fun _=>hd,Around.frames_deeper e0.frames,.inr ⟨rfl,rfl⟩,fun b z=>absurd z (noA b),e0.bs,e0.bsz,fun b _ _=>noA b,fun b z=>absurd z (noA b),e0.funs,e0.frf⟩,
  rfl,e0.bare,Un.kept hk,⟨_,x.toInCall.ns,fun i y v h1 h2 h3=>?_⟩,fun y c h=>⟨_,x.cell y c h⟩,e0.hok.fresh (yi _),fun y c h=>?_,fun p hp=>absurd (show p∈([]:List (Addr×Obj)) from hp) (by simp),e0.hok.kept hk,?_⟩
 ·exact name_of_addr x.apart (PySem.mem_of_lookup h1) (PySem.mem_of_lookup h2)
 ·have hy:scope.names.lookup y=some .cell∨scope.names.lookup y=some .free:=hy
  rcases hy with hy | hy
  ·exact lj hy
  ·exact absurd rfl (S.nofree _ (PySem.mem_of_lookup hy))
 ·exact yQa (x.above y c (PySem.mem_of_lookup h))
 ·have hi:i<vs.length:=by
   unfold start at h2
   by_cases hi:i<vs.length
   ·exact hi
   ·rw[yM (by simpa using hi)] at h2
    rw[yV] at h2
    split at h2 <;> cases h2
  have ha:vs[i]? = some v:=by
   unfold start at h2
   rw[yZ (by simpa using hi),yc] at h2
   cases e:vs[i]? with
   | none=>rw[e] at h2;cases h2
   | some a=>rw[e] at h2;cases h2;rfl
  obtain⟨u,hu,rv⟩:=r.get ha
  have hp:ps[i]? = some y:=by
   rw[← S.pre,List.getElem?_take_of_lt (by omega)];exact h1
  have ndP:ps.Nodup:=by rw[← S.pre];exact S.nd.sublist (List.take_sublist _ _)
  refine⟨u,rv,?_⟩
  rcases S.par y (yk hp) with k | k
  ·exact .inl ⟨k,jh ndP hp hu k⟩
  ·obtain⟨c,e⟩:=lj (n:=s.heap.objs.size+1) k
   refine .inr ⟨.inl k,c,e,?_⟩
   have q:=x.cell y c e
   rw[jH ndP hp hu (by show scope.names.lookup y≠_;rw[k];decide)] at q
   exact q
 ·exact e0.hok.fresh (yQa (x.above y c (PySem.mem_of_lookup h)))
 ·unfold start
  show _=N.length
  rw[yd,ya,yG]
  omega
theorem ug{CX:CXT}{P:Program}{w:World}{K:PySem.W.Frag}{mg:Str→Option Value}{base:Heap}{k:Nat}{f:Addr}{name qual:Str}{params:Arguments}{body:List Stmt}{scope:Scope}{dV kV doc pm cdv ct oc:Value}{an od:Option Addr}
  {osl:Array (Option Value)} {N ps:List Str} {sp:Sp} (lk:K.lookup f=some ⟨oc,od,.func (PySem.W.fnOf name qual params body scope dV kV doc pm an cdv ct),osl⟩) (hcd:PySem.W.codeIn K cdv qual=true) (S:aw N ps scope)
  (len:∀vs H Q E,sp vs H Q E→vs.length=ps.length)
  (hbody:∀(A:Around) (outer:List Env) (s:Shared) (H:Hp) (vs:List V) (Q:VK) (E:XK),b4 k (A.deeper (envOfC qual scope s.heap.objs.size f cdv))→sp vs H Q E →
   ∃t,PSs (eQ CX P w K mg base N qual scope f cdv A outer s H E) body t∧t { nx:=fun _ H'=>Q .non H',rt:=Q } (start N vs) H) :
  aN P w K mg base CX (k+1) f (PySem.W.fnOf name qual params body scope dV kV doc pm an cdv ct) ps sp:=by
 refine⟨len,fun A outer s H args us vs Q E hr e0 hb r hsp=>?_⟩
 have hl:=len _ _ _ _ hsp
 have KX:K.In s.heap:=e0.mod.kin.keeps fun b o e=>(e0.bs b o e).1
 have lim:s.heap.NoLimit:=e0.mod.nolimit.keeps fun b o e=>(e0.bs b o e).1
 have hkind:∀y∈ps.zip us,scope.names.lookup y.1=some .local∨(scope.names.lookup y.1=some .cell∧((cellsFrom (s.heap.objs.size+1) scope.names []).lookup y.1).isSome=true):=fun⟨n,v⟩ hy=>by
  rcases S.par n (yAb hy).1 with q | q
  ·exact .inl q
  ·exact .inr ⟨q,PySem.W.cellsFrom_some _ _ _ (.inl q)⟩
 refine codeAny_call_function hr.depth (KX _ _ lk) rfl S.co S.gen rfl (PySem.W.codeRec_of KX hcd) (hb _ _ _ _ ?_)
 refine wpAny_newFunctionEnv_cells S.kind hkind fun env he s1 x=>?_
 subst he
 refine⟨lim.keeps x.toInCall.keep,codeAny_func ?_⟩
 obtain⟨t,ht,hq⟩:=hbody A outer s H vs Q E (hr.deeper _) hsp
 have I:Inv (eQ CX P w K mg base N qual scope f cdv A outer s H E) [] (start N vs) H s1:=oh S hr.hd e0 hl r x
 refine wpAny_mono (ht [] s1 (start N vs) H _ I hq) (fun fl s' hs=>?_) fun e s' hs=>hs
 have fin:∀{σ':St} {H':Hp} {v:V} {u:Value},Inv (eQ CX P w K mg base N qual scope f cdv A outer s H E) [] σ' H' s'→aX v u→Q v H'→CE outer P w H s Q u s' :=
  fun {σ' H' v u} J rv q=>⟨v,H',J.os,J.bare,J.base,J.hok,rv,q⟩
 cases fl with
 | ret u =>
  obtain⟨v,σ',H',J,rv,q⟩:=hs
  exact fin J rv q
 | next =>
  obtain⟨σ',H',J,q⟩:=hs
  exact fin (v:=V.non) (u:=Value.none) J rfl q
 | brk =>
  obtain⟨_,_,_,q⟩:=hs
  exact False.elim q
 | cont =>
  obtain⟨_,_,_,q⟩:=hs
  exact False.elim q
end L2
namespace L2
open PySem PySem.Spec PyProof.Rows
section
variable{X:Cx}{x:Str}{p pos:Pos}{e:Expr}{es:List Expr}{t:TA}{id T:String}{r:List V→Hp→VK→Prop}
noncomputable def tCB(r:List V→Hp→VK→Prop)(t:TA):TE:=fun σ H Q=>t σ H fun vs H1=>r vs H1 Q
theorem aC(hc:b6 X (.builtin id) r)(hg:Gl X x)(hm:X.mg x=none)(hv:bootBuiltins x=some (.builtin id))(ha:PA X (e::es) t)(hn:x ≠ "__name__" := by decide)(hdb:(x == ("__debug__":Str))=false:=by decide)
  (he:starEach (e::es) X.env=(false,eval e X.env)::starEach es X.env:=by rfl) (hpl:(backTo pos (starEach es X.env)).any (·.1)=false:=by rfl):PE X (.Call (.Name x p) (e::es) [] pos) (tCB r t):=by
 intro pins s σ H Q I h
 refine wpAny_Call_Name_kw (dJ I hg hm hv ?_ hn hdb)
 exact PyProof.Rows.callWith_builtin1 (thn (ha pos pins s σ H _ I h) fun us s1 ⟨vs,H1,I1,r1,q1⟩=>hc pins s1 σ H1 vs us Q I1 r1 q1) he hpl
theorem aS(hc:b6 X (.type T) r)(hg:Gl X x)(hm:X.mg x=none)(hv:bootBuiltins x=some (.type T))(ha:PA X (e::es) t)(hn:x ≠ "__name__" := by decide)(hdb:(x == ("__debug__":Str))=false:=by decide)
  (he:starEach (e::es) X.env=(false,eval e X.env)::starEach es X.env:=by rfl) (hpl:(backTo pos (starEach es X.env)).any (·.1)=false:=by rfl):PE X (.Call (.Name x p) (e::es) [] pos) (tCB r t):=by
 intro pins s σ H Q I h
 refine wpAny_Call_Name_kw (dJ I hg hm hv ?_ hn hdb)
 exact PyProof.Rows.callWith_type1 (thn (ha pos pins s σ H _ I h) fun us s1 ⟨vs,H1,I1,r1,q1⟩=>hc pins s1 σ H1 vs us Q I1 r1 q1) he hpl
end
end L2
namespace HT
open PySem PyProof.Rows
section
open PySem.SeqAt
open PySem.AutoSeq1 (wpAny_loadPart')
open PySem.MeetsSeq PySem.MeetsSeq2 PySem.MeetsSeq3
end
section
variable{prog:Program}{w:World}{A:Around}{E:Value→Shared→Prop}{s:Shared}
theorem cat_tup{t b:Addr}{vs ws:List Value}{Q:Value→Shared→Prop}(ht:IsTup s.heap t vs.toArray)(hb:IsTup s.heap b ws.toArray)(hv:vs≠[])
  (h1:ws=[]→Q (.ref t) s) (h2:ws≠[]→Q (.ref s.heap.objs.size) { s with heap:=s.heap.push { cls:=.type "tuple",data:=.seq (vs++ws).toArray } })
  (hsz:vs.length+ws.length≤sizeLine):wpAny (model prog w) A (binaryOp .Add (.ref t) (.ref b)) Q E s:=by
 obtain⟨⟨cls,dd,data,sl⟩,ho,hc,n,hd⟩:=id ht
 obtain⟨⟨cls2,dd2,data2,sl2⟩,ho2,hc2,n2,hd2⟩:=id hb
 simp only at hc hd hc2 hd2
 subst hc hd hc2 hd2
 have e:vs.toArray++ws.toArray=(vs++ws).toArray:=by simp
 by_cases hw:ws=[]
 ·exact concat_meets ⟨_,ho,rfl⟩ ⟨_,ho2,rfl⟩ noFill_tuple_add seq_tuple_add PySem.F.slot_tuple_add PySem.F.entry_tuple_add (PySem.F.args_tuple_add_2 _ _)
   (tuple_addW1 t b vs.toArray ws.toArray n n2 dd dd2 sl sl2 (by simpa using hv) (by simp[hw])) ⟨ho,ho2,h1 hw⟩
 ·refine concat_meets ⟨_,ho,rfl⟩ ⟨_,ho2,rfl⟩ noFill_tuple_add seq_tuple_add PySem.F.slot_tuple_add PySem.F.entry_tuple_add (PySem.F.args_tuple_add_2 _ _)
   (tuple_addW2 t b vs.toArray ws.toArray n n2 dd dd2 sl sl2 (by simpa using hv) (by simpa using hw) (by rw[ye,ye];exact hsz)) ⟨ho,ho2,?_⟩
  rw[e]
  exact h2 hw
noncomputable def sIx(n d:Nat):Option Int→Nat
 | none=>d
 | some v=>if v<0 then (v+(n:Int)).toNat else min v.toNat n
theorem sIx_none(n d:Nat):sIx n d none=d:=rfl
theorem sIx_nat(n d k:Nat):sIx n d (some (k:Int))=min k n:=by
 show(if (k:Int)<0 then ((k:Int)+(n:Int)).toNat else min (k:Int).toNat n)=min k n
 rw[if_neg (by omega),yh]
theorem xX(n d:Nat)(hd:d≤n)(o:Option Int):sIx n d o≤n:=by
 cases o with
 | none=>exact hd
 | some v =>
  show(if v<0 then (v+(n:Int)).toNat else min v.toNat n)≤n
  by_cases hv:v<0
  ·rw[if_pos hv];omega
  ·rw[if_neg hv];exact Nat.min_le_right _ _
theorem m7(v:Int)(n d:Nat):(if v<0 then max (v+(n:Int)) 0 else min v (n:Int))=((sIx n d (some v):Nat):Int):=by
 show(if v<0 then max (v+(n:Int)) 0 else min v (n:Int))=(((if v<0 then (v+(n:Int)).toNat else min v.toNat n):Nat):Int)
 by_cases hv:v<0
 ·simp only[if_pos hv];omega
 ·simp only[if_neg hv];omega
theorem mC(lo hi:Option Int)(n:Nat):Builtin.Slice.sliceAdjust lo hi 1 (n:Int)=(((sIx n 0 lo:Nat):Int),((sIx n n hi:Nat):Int)):=by
 have h1:¬((1:Int)<0):=by omega
 unfold Builtin.Slice.sliceAdjust
 simp only[h1,if_false]
 refine Prod.ext ?_ ?_
 ·cases lo with
  | none=>rfl
  | some v=>exact m7 v n 0
 ·cases hi with
  | none=>rfl
  | some v=>exact m7 v n n
theorem mJ(i j:Nat):Builtin.Slice.slicePlaces (i:Int) (j:Int) 1=j-i:=by
 unfold Builtin.Slice.slicePlaces
 have h1:(1:Int)>0:=by omega
 simp only[h1,if_true,Int.ediv_one]
 split <;> omega
theorem iN{v:Value}{o:Option Int}{Q:Option Int→Shared→Prop}(p:IsPart v o)(h:Q o s):wpAny (model prog w) A (Builtin.Slice.slicePartIndex v) Q E s:=by
 cases p with
 | none=>exact slicePart_none h
 | int i t=>exact slicePart_int h
theorem fS{sl:Addr}{vl vu:Value}{lo hi:Option Int}{n:Nat}{Q:Int×Int×Nat→Shared→Prop}(hs:s.heap.IsSliceOf sl vl vu .none)(pl:IsPart vl lo)(pu:IsPart vu hi)
  (h:Q (((sIx n 0 lo:Nat):Int),1,sIx n n hi-sIx n 0 lo) s):wpAny (model prog w) A (Builtin.Slice.sliceApplied (.ref sl) (pure (n:Int))) Q E s:=by
 obtain⟨os,hos,hcs,hds⟩:=id hs
 unfold Builtin.Slice.sliceApplied Builtin.Slice.sliceFields
 refine wpAny_bind (wpAny_bind (wpAny_field hos hds (x:=vl) rfl (wpAny_bind (wpAny_field hos hds (x:=vu) rfl (wpAny_bind (wpAny_field hos hds (x:=.none) rfl (wpAny_pure ?_)))))))
 refine wpAny_bind (slicePart_none ?_)
 show wpAny _ _ (if ((1:Int) == 0)=true then _ else _) _ _ s
 rw[if_neg (by decide)]
 refine wpAny_bind (iN pl (wpAny_bind (iN pu (wpAny_bind (wpAny_pure ?_)))))
 show wpAny _ _ (match Builtin.Slice.sliceAdjust lo hi 1 (n:Int) with | (lo,hi)=>pure (lo,(1:Int),Builtin.Slice.slicePlaces lo hi 1)) _ _ s
 rw[mC lo hi n]
 show wpAny _ _ (pure (((sIx n 0 lo:Nat):Int),(1:Int),Builtin.Slice.slicePlaces ((sIx n 0 lo:Nat):Int) ((sIx n n hi:Nat):Int) 1)) _ _ s
 rw[mJ]
 exact wpAny_pure h
theorem pS(xs:Array Value)(i k:Nat):((List.range k).filterMap fun(m:Nat)=>xs[((i:Int)+(m:Int)*1).toNat]?).toArray=((xs.toList.drop i).take k).toArray:=by
 have e:(fun(m:Nat)=>xs[((i:Int)+(m:Int)*1).toNat]?)=fun m=>xs[i+m]?:=by
  funext m
  have:((i:Int)+(m:Int)*1).toNat=i+m:=by omega
  rw[this]
 rw[e]
 have:=pick_run xs i k
 rw[List.filterMap_map] at this
 have e2:((fun x=>xs[x]?) ∘ fun x=>i+x)=fun m=>xs[i+m]?:=rfl
 rw[e2] at this
 rw[this]
theorem getItem_tuple_cut{t sl:Addr}{items:Array Value}{vl vu:Value}{lo hi:Option Int}{Q:Value→Shared→Prop}(ht:IsTup s.heap t items)(hs:s.heap.IsSliceOf sl vl vu .none)(pl:IsPart vl lo)(pu:IsPart vu hi)
  (hw:¬(sIx items.size 0 lo=0∧sIx items.size items.size hi=items.size))
  (h:Q (.ref s.heap.objs.size) { s with heap:=s.heap.push { cls:=.type "tuple",data:=.seq ((items.toList.drop (sIx items.size 0 lo)).take (sIx items.size items.size hi-sIx items.size 0 lo)).toArray } })
  (hsz:items.size≤sizeLine):wpAny (model prog w) A (getItem (.ref t) (.ref sl)) Q E s:=by
 have htake:sizeOk (.seq ((items.toList.drop (sIx items.size 0 lo)).take (sIx items.size items.size hi-sIx items.size 0 lo)).toArray):=by
  show((items.toList.drop (sIx items.size 0 lo)).take (sIx items.size items.size hi-sIx items.size 0 lo)).toArray.size≤sizeLine
  rw[ye,yf,yw,yka]
  omega
 have hj:sIx items.size items.size hi≤items.size:=xX _ _ (yi _) hi
 obtain⟨os,hos,hcs,hds⟩:=id hs
 have hTs:s.TypeIs (.ref sl) "slice" := ⟨os,hos,hcs⟩
 unfold getItem
 try with_reducible refine wpAny_holding ?_
 first | refine wpAny_bind (wpAny_pure ?_) | skip
 refine wpAny_bind (wpAny_sequenceKey ht.typeIs (by decide) ?_)
 refine wpAny_bind (wpAny_callSpecial?_slot (name:=Str.ofString "__getitem__") ht.typeIs PyProof.Rows.slot_tuple_getitem
  (wpAny_call_entry PyProof.Rows.slot_tuple_getitem ht.typeIs entry_tuple_getitem ?_ (args_tuple_getitem _ _)))
 show wpAny _ _ (Builtin.Tuple.tupleItemsOf (.ref t) >>= _) _ _ s
 refine wpAny_bind (tupleItemsOf_ ht ?_)
 refine wpAny_bind (wpAny_typeOf hTs ?_)
 rw[if_pos (by decide)]
 refine wpAny_bind (fS hs pl pu ?_)
 have hno:¬((((sIx items.size 0 lo:Nat):Int) == 0&&(1:Int) == 1&&(sIx items.size items.size hi-sIx items.size 0 lo) == items.size)=true):=by
  intro q
  rw[yK,yK] at q
  have q1:((sIx items.size 0 lo:Nat):Int)=0:=eq_of_beq q.1.1
  have q2:sIx items.size items.size hi-sIx items.size 0 lo=items.size:=eq_of_beq q.2
  exact hw ⟨by omega,by omega⟩
 show wpAny _ _ (if (((sIx items.size 0 lo:Nat):Int) == 0&&(1:Int) == 1&&(sIx items.size items.size hi-sIx items.size 0 lo) == items.size)=true then _ else _) _ _ s
 rw[if_neg hno,pS]
 first
  | exact wpAny_bind (m:=Builtin.Tuple.tupleExact _) (wpAny_newObj_type (wpAny_pure ⟨_,rfl,wpAny_pure h⟩) htake)
  | exact wpAny_bind (m:=Builtin.Tuple.tupleExact _) (wpAny_newObj_type (wpAny_bind (wpAny_pure (wpAny_pure ⟨_,rfl,wpAny_pure h⟩))) htake)
  | exact wpAny_bind (wpAny_bind (m:=Builtin.Tuple.tupleExact _) (wpAny_newObj_type (wpAny_pure (wpAny_pure ⟨_,rfl,wpAny_pure h⟩)) htake))
  | exact wpAny_bind (wpAny_bind (m:=Builtin.Tuple.tupleExact _) (wpAny_newObj_type (wpAny_pure ⟨_,rfl,wpAny_pure h⟩) htake))
end
end HT
namespace L2
open PySem PySem.Spec PyProof.Rows
noncomputable abbrev TO:=St→Hp→(Option Int→Hp→Prop)→Prop
noncomputable def PO(X:Cx)(e:Option Expr)(t:TO):Prop :=
 ∀(pins:List (Addr×Obj)) (s:Shared) (σ:St) (H:Hp) (Q:Option Int→Hp→Prop),Inv X pins σ H s→t σ H Q →
  wpAny (model X.prog X.w) X.A (evalPart e X.env) (fun u s'=>∃o H',Inv X pins σ H' s'∧IsPart u o∧Q o H') X.xe s
noncomputable def nR:TO:=fun _ H Q=>Q none H
noncomputable def uu(t:TE):TO:=fun σ H Q=>t σ H fun x H1=>∃i,x=.int i∧Q (some i) H1
theorem mT{ns:List Int}:∀{us:List Value},aO (ns.map V.int) us→IntsAre us ns:=by
 induction ns with
 | nil=>intro us r;rw[ycb] at r;cases r;exact .nil
 | cons n ns ih =>
  intro us r
  rw[ym] at r
  cases r with
  | cons r1 r2 =>
   obtain⟨t,e⟩:=r1
   subst e
   exact .cons n t (ih r2)
section
variable{X:Cx}{e:Expr}{te:TE}{lo hi:Option Expr}{tl th:TO}{pos p2:Pos}
theorem bf:PO X none nR:=by
 intro pins s σ H Q I h
 rw[evalPart_none]
 exact wpAny_pure ⟨none,H,I,.none,h⟩
theorem bd(h:PE X e te):PO X (some e) (uu te):=by
 intro pins s σ H Q I hw
 rw[evalPart_some]
 refine thn (h pins s σ H _ I hw) fun u s1 ⟨x,H1,I1,r1,q1⟩=>?_
 obtain⟨i,rfl,q⟩:=q1
 obtain⟨t,rfl⟩:=r1
 exact⟨some i,H1,I1,.int i t,q⟩
noncomputable def SlR(X:Cx)(r:V→Option Int→Option Int→Hp→VK→Prop):Prop :=
 ∀(pins:List (Addr×Obj)) (s:Shared) (σ:St) (H:Hp) (x:V) (v vl vu:Value) (lo hi:Option Int) (sl:Addr) (Q:VK),Inv X pins σ H s→aX x v→s.heap.IsSliceOf sl vl vu .none→IsPart vl lo→IsPart vu hi→r x lo hi H Q →
  ∃T id,typeLookup (.type T) "__getitem__" = pure (some (.builtin id))∧s.TypeIs v T∧wpAny (model X.prog X.w) X.A (getItem v (.ref sl)) (EP X pins σ Q) X.xe s
noncomputable def tSl(r:V→Option Int→Option Int→Hp→VK→Prop)(te:TE)(tl th:TO):TE:=fun σ H Q=>te σ H fun x H1=>tl σ H1 fun l H2=>th σ H2 fun u H3=>r x l u H3 Q
theorem aQ{r:V→Option Int→Option Int→Hp→VK→Prop}(hr:SlR X r)(he:PE X e te)(hl:PO X lo tl)(hu:PO X hi th):PE X (.Subscript e (.Slice lo hi none p2) pos) (tSl r te tl th):=by
 intro pins s σ H Q I h
 refine Subscript_ (thn (he pins s σ H _ I h) fun v s1 ⟨x,H1,I1,r1,q1⟩=>?_)
 refine wpAny_Slice (thn (hl pins s1 σ H1 _ I1 q1) fun vl s2 ⟨l,H2,I2,pl,q2⟩=>thn (hu pins s2 σ H2 _ I2 q2) fun vu s3 ⟨u,H3,I3,pu,q3⟩=>?_)
 rw[evalPart_none]
 refine wpAny_pure ?_
 have I4:Inv X pins σ H3 { s3 with heap:=s3.heap.push { cls:=.type "slice",data:=.fields #[vl,vu,.none] } }:=I3.kept (t':=s3.toks) fun b ob q=>Heap.get?_push_of_some _ q
 obtain⟨T,id,hT,ht,hg⟩:=hr pins { s3 with heap:=s3.heap.push { cls:=.type "slice",data:=.fields #[vl,vu,.none] } } σ H3 x v vl vu l u s3.heap.objs.size Q I4 r1 (Heap.IsSliceOf.new ..) pl pu q3
 show wpAny (model X.prog X.w) X.A (subscriptTail e (.Slice lo hi none p2) v (.ref s3.heap.objs.size)) (EP X pins σ Q) X.xe { s3 with heap:=s3.heap.push { cls:=.type "slice",data:=.fields #[vl,vu,.none] } }
 exact tail_any (ops:=[.ref s3.heap.objs.size,v]) ht hT hg (by with_unfolding_all rfl)
noncomputable def eJ(xs:List V)(lo hi:Option Int):List V:=(xs.drop (HT.sIx xs.length 0 lo)).take (HT.sIx xs.length xs.length hi-HT.sIx xs.length 0 lo)
theorem gC(xs:List V)(lo hi:Option Int):(eJ xs lo hi).length≤xs.length:=by
 unfold eJ
 rw[yf,yw]
 omega
noncomputable def AD(K:PySem.W.Frag):V→Option Int→Option Int→Hp→VK→Prop:=fun x lo hi H Q=>∃a xs,x=.ref a∧SqT K H a xs ∧
 ¬(HT.sIx xs.length 0 lo=0∧HT.sIx xs.length xs.length hi=xs.length)∧∀p,H p=none→Q (.ref p) (upd H p (.tup (eJ xs lo hi)))
theorem jW:SlR X (AD X.K):=by
 intro pins s σ H x v vl vu lo hi sl Q I rx hs pl pu h
 obtain⟨a,xs,rfl,hx,hw,q⟩:=h
 cases rx
 obtain⟨its,r,ht,hz⟩:=I.tuple hx
 have hlen:its.toArray.size=xs.length:=by rw[ye];exact r.length.symm
 refine⟨"tuple",_,PyProof.Rows.slot_tuple_getitem.lookup,ht.typeIs,?_⟩
 refine HT.getItem_tuple_cut ht hs pl pu (by rw[hlen];exact hw) ?_ (by rw[hlen];exact hz)
 rw[hlen]
 refine⟨.ref s.heap.objs.size,_,I.laid (t':=s.toks) (o:=.tup (eJ xs lo hi)) (fun b ob q=>Heap.get?_push_of_some _ q) (yi _) ?_,rfl,q _ (I.hok.fresh (yi _))⟩
 exact⟨yJ (gC xs lo hi) hz,_,(r.drop (HT.sIx xs.length 0 lo)).take (HT.sIx xs.length xs.length hi-HT.sIx xs.length 0 lo),IsTup.new _ _⟩
noncomputable def Ab(K:PySem.W.Frag):R2:=fun x y H Q=>∃a b xs ys,x=.ref a∧y=.ref b∧SqT K H a xs∧SqT K H b ys∧xs≠[]∧xs.length+ys.length≤sizeLine ∧
 (ys=[]→Q (.ref a) H)∧(ys≠[]→∀p,H p=none→Q (.ref p) (upd H p (.tup (xs++ys))))
theorem aO.nil_iff{xs:List V}{us:List Value}(r:aO xs us):us=[]↔xs=[]:=by
 cases r with
 | nil=>simp
 | cons _ _=>simp
theorem tR:OpR X (binaryOp .Add) (Ab X.K):=by
 intro pins s σ H x y v u Q I rx ry h
 obtain⟨a,b,xs,ys,rfl,rfl,ha,hb,hx,hz,q1,q2⟩:=h
 cases rx
 cases ry
 obtain⟨its,r1,p1,_⟩:=I.tuple ha
 obtain⟨its2,r2,p2,_⟩:=I.tuple hb
 refine HT.cat_tup p1 p2 (fun z=>hx (r1.nil_iff.mp z)) (fun z=>⟨.ref a,H,I,rfl,q1 (r2.nil_iff.mp z)⟩) (fun z=>?_) (by rw[← r1.length,← r2.length];exact hz)
 refine⟨.ref s.heap.objs.size,_,I.laid (t':=s.toks) (o:=.tup (xs++ys)) (fun b ob q=>Heap.get?_push_of_some _ q) (yi _) ?_,rfl,q2 (fun w=>z (r2.nil_iff.mpr w)) _ (I.hok.fresh (yi _))⟩
 exact⟨by rw[yd];exact hz,_,r1.append r2,IsTup.new _ _⟩
end
end L2
namespace L2
open PySem PySem.Spec PyProof.Rows
noncomputable def ixN(n:Nat)(i:Int):Option Nat:=if 0≤i then (if i<n then some i.toNat else none) else if -(n:Int)≤i then some (i+n).toNat else none
noncomputable def atI{α:Type}(xs:List α)(i:Int):Option α:=(ixN xs.length i).bind fun j=>xs[j]?
theorem j9{n:Nat}{i:Int}{j:Nat}(h:ixN n i=some j):seqIndex? i n=some j∧j<n∧-(n:Int)≤i∧i<n:=by
 unfold ixN at h
 by_cases h0:0≤i
 ·rw[if_pos h0] at h
  by_cases h1:i<n
  ·rw[if_pos h1] at h
   have e:i.toNat=j:=yt h
   exact⟨by rw[seqIndex_of h0 h1,e],by omega,by omega,h1⟩
  ·rw[if_neg h1] at h;cases h
 ·rw[if_neg h0] at h
  by_cases h1:-(n:Int)≤i
  ·rw[if_pos h1] at h
   have e:(i+n).toNat=j:=yt h
   exact⟨by rw[seqIndex_neg (by omega) h1,e],by omega,h1,by omega⟩
  ·rw[if_neg h1] at h;cases h
theorem nG{α:Type}{xs:List α}{i:Int}{v:α}(h:atI xs i=some v):∃j,seqIndex? i xs.length=some j∧xs[j]? = some v∧j<xs.length∧-(xs.length:Int)≤i∧i<xs.length:=by
 unfold atI at h
 cases e:ixN xs.length i with
 | none=>rw[e] at h;cases h
 | some j =>
  rw[e] at h
  obtain⟨h1,h2,h3,h4⟩:=j9 e
  exact⟨j,h1,h,h2,h3,h4⟩
theorem aR{α:Type}{xs:List α}{j:Nat}{v:α}(h:xs[j]? = some v):atI xs (j:Int)=some v:=by
 have hj:j<xs.length:=(List.getElem?_eq_some_iff.mp h).1
 have e:ixN xs.length (j:Int)=some j:=by
  unfold ixN
  rw[if_pos (by omega),if_pos (by omega)];simp
 unfold atI;rw[e];exact h
theorem ly{α:Type}(xs:List α)(v:α):atI (xs++[v]) (-1)=some v:=by
 have hl:(xs++[v]).length=xs.length+1:=by simp
 have e:ixN (xs++[v]).length (-1)=some xs.length:=by
  unfold ixN
  rw[hl,if_neg (by decide),if_pos (by omega)]
  congr 1
  omega
 unfold atI
 rw[e]
 show(xs++[v])[xs.length]? = some v
 simp
noncomputable def r6(b:Expr):Prop:=∀o i,subscripted b false o i=operate [o,i] (getItem o i)
noncomputable def IxR(X:Cx)(r:R2):Prop :=
 ∀(value slice:Expr) (pins:List (Addr×Obj)) (s:Shared) (σ:St) (H:Hp) (x y:V) (v u:Value) (Q:VK),Inv X pins σ H s→aX x v→aX y u→r x y H Q →
  subscripted slice false v u=operate [v,u] (getItem v u)→wpAny (model X.prog X.w) X.A (subscriptTail value slice v u) (EP X pins σ Q) X.xe s
noncomputable def MtR(X:Cx)(id:String)(r:V→List V→Hp→VK→Prop):Prop :=
 ∀(pins:List (Addr×Obj)) (s:Shared) (σ:St) (H:Hp) (x:V) (xs:List V) (v:Value) (us:List Value) (Q:VK),Inv X pins σ H s→aX x v→aO xs us→r x xs H Q →
  wpAny (model X.prog X.w) X.A (call (.builtin id) (v::us)) (EP X pins σ Q) X.xe s
section
variable{X:Cx}{a b:Expr}{ta tb:TE}{pos:Pos}
theorem aM{r:R2}(hr:IxR X r)(ha:PE X a ta)(hb:PE X b tb)(hs:r6 b):PE X (.Subscript a b pos) (tOp r ta tb):=by
 intro pins s σ H Q I h
 exact Subscript_ (zm ha hb I h fun v u s2 x y H2 I2 rx ry q=>hr a b pins s2 σ H2 x y v u Q I2 rx ry q (hs _ _))
noncomputable def tO(K:PySem.W.Frag):R2:=fun x y H Q=>∃p xs i v,x=.ref p∧y=.int i∧SqL K H p xs∧atI xs i=some v∧Q v H
noncomputable def sB(K:PySem.W.Frag):R2:=fun x y H Q=>∃p xs i v,x=.ref p∧y=.int i∧SqT K H p xs∧atI xs i=some v∧Q v H
theorem aW:IxR X (tO X.K):=by
 intro value slice pins s σ H x y v u Q I rx ry h hs
 obtain⟨p,xs,i,z,rfl,rfl,hq,he,q⟩:=h
 cases rx
 obtain⟨t,rfl⟩:=ry
 obtain⟨its,r,pl,hz⟩:=I.list hq
 obtain⟨j,h1,h2,h3,h4,h5⟩:=nG he
 obtain⟨w,ew,rw'⟩:=r.get h2
 have hl:=r.length
 have hn:=ir
 have fin:EP X pins σ Q w s:=⟨z,H,I,rw',q⟩
 by_cases h0:0≤i
 ·have hj:i.toNat=j:=by
   rw[seqIndex_of h0 h5] at h1
   exact yt h1
  exact item_listR pl.isList h0 (by omega) (by rw[hj];simpa using ew) fin hs
 ·have hj:(i+(its.toArray.size:Int)).toNat=j:=by
   rw[seqIndex_neg (by omega) h4] at h1
   rw[ye,← hl]
   exact yt h1
  exact subscriptTail_builtinR (x:=w) pl.isList.typeIs slot_list_getitem.lookup
   (wpAny_getItem_list_neg (Q:=fun r s'=>r=w∧EP X pins σ Q r s') pl.isList (by omega) (by rw[ye] <;> omega) (by omega) (by rw[hj];simpa using ew) ⟨rfl,fin⟩) hs
theorem bi:IxR X (sB X.K):=by
 intro value slice pins s σ H x y v u Q I rx ry h hs
 obtain⟨p,xs,i,z,rfl,rfl,hq,he,q⟩:=h
 cases rx
 obtain⟨t,rfl⟩:=ry
 obtain⟨its,r,pl,hz⟩:=I.tuple hq
 obtain⟨j,h1,h2,h3,h4,h5⟩:=nG he
 obtain⟨w,ew,rw'⟩:=r.get h2
 have hl:=r.length
 have hn:=ir
 have fin:EP X pins σ Q w s:=⟨z,H,I,rw',q⟩
 exact subscriptTail_builtinR (x:=w) pl.typeIs slot_tuple_getitem.lookup
  (getItem_tuple (j:=j) (Q:=fun r s'=>r=w∧EP X pins σ Q r s') pl (by omega) (by omega) (by rw[ye,← hl];exact h1) (by simpa using ew) ⟨rfl,fin⟩) hs
theorem lQ(its:List Value)(n j:Nat)(u:Value):Obj.mapSeq (·.setIfInBounds j u) { cls:=.type "list",data:=.seq its.toArray n } = { cls:=.type "list",data:=.seq (its.set j u).toArray n }:=by
 simp[Obj.mapSeq]
theorem Inv.lst{pins:List (Addr×Obj)}{σ:St}{H:Hp}{s:Shared}{p:Addr}{xs:List V}(I:Inv X pins σ H s)(h:H p=some (.lst xs)) :
  ∃(its:List Value) (n:Nat),aO xs its∧s.heap.get? p=some { cls:=.type "list",data:=.seq its.toArray n }∧xs.length≤sizeLine:=by
 obtain⟨z,its,n,r,e⟩:=I.hok p _ h
 exact⟨its,n,r,e,z⟩
theorem Inv.lstUpd{pins:List (Addr×Obj)}{σ:St}{H:Hp}{s:Shared}{p:Addr}{xs ys:List V}{its its':List Value}{n n':Nat}{f:Obj→Obj}(I:Inv X pins σ H s)(h:H p=some (.lst xs))
  (ho:s.heap.get? p=some { cls:=.type "list",data:=.seq its.toArray n }) (hf:f { cls:=.type "list",data:=.seq its.toArray n } = { cls:=.type "list",data:=.seq its'.toArray n' }) (r:aO ys its') (hz:ys.length≤sizeLine) (t:Nat) :
  Inv X pins σ (upd H p (.lst ys)) { s with heap:=s.heap.update p f,toks:=t }:=by
 have e:(s.heap.update p f).get? p=some { cls:=.type "list",data:=.seq its'.toArray n' }:=by
  rw[Heap.get?_update_self f ho (by rw[hf] <;> rfl),hf]
 refine I.write (x:=p) (e:=p) (by rw[h];trivial) (.inl rfl) (fun b u hb q=>(Heap.get?_update_other _ _ (yva hb)).trans q) ⟨_,e⟩ ?_
 exact⟨hz,its',n',r,e⟩
noncomputable def qH:V→V→V→Hp→(Hp→Prop)→Prop:=fun o i v H Q=>∃p xs k j,o=.ref p∧i=.int k∧H p=some (.lst xs)∧ixN xs.length k=some j∧Q (upd H p (.lst (xs.set j v)))
theorem fQ:Ar X qH:=by
 intro pins s σ H o i v ov iv u Q I ro ri rv h
 obtain⟨p,xs,k,j,rfl,rfl,hp,hj,q⟩:=h
 cases ro
 obtain⟨t,rfl⟩:=ri
 obtain⟨its,n,r,ho,hz⟩:=I.lst hp
 obtain⟨h1,h2,h3,h4⟩:=j9 hj
 have hl:=r.length
 have hn:=ir
 have I':Inv X pins σ (upd H p (.lst (xs.set j v))) { s with heap:=s.heap.update p (Obj.mapSeq (·.setIfInBounds j u)) } :=
  I.lstUpd hp ho (lQ its n j u) (r.set rv j) (by rw[yFa];exact hz) s.toks
 by_cases h0:0≤k
 ·have hk:k.toNat=j:=by
   rw[seqIndex_of h0 h4] at h1
   exact yt h1
  exact PySem.W.ki_setAt ho h0 (by omega) (by rw[ye,← hl];exact h4) (by rw[hk];exact⟨_,I',q⟩)
 ·have hk:(k+(its.toArray.size:Int)).toNat=j:=by
   rw[seqIndex_neg (by omega) h3] at h1
   rw[ye,← hl]
   exact yt h1
  exact PySem.W.ki_setBack ho (by omega) (by rw[ye,← hl];exact h3) (by omega) (by rw[hk];exact⟨_,I',q⟩)
theorem jN(lo hi:Option Int)(n:Nat):(sliceBounds lo hi none n).1=((HT.sIx n 0 lo:Nat):Int)∧(sliceBounds lo hi none n).2.1=((HT.sIx n n hi:Nat):Int)∧(sliceBounds lo hi none n).2.2=1:=by
 refine⟨?_,?_,rfl⟩
 ·cases lo with
  | none=>simp[sliceBounds,HT.sIx]
  | some i =>
   simp only[sliceBounds,HT.sIx,Option.getD_none,show(1:Int)>0 by decide,if_true]
   by_cases h:i<0
   ·simp only[h,if_true] <;> omega
   ·simp only[h,if_false] <;> omega
 ·cases hi with
  | none=>simp[sliceBounds,HT.sIx]
  | some i =>
   simp only[sliceBounds,HT.sIx,Option.getD_none,show(1:Int)>0 by decide,if_true]
   by_cases h:i<0
   ·simp only[h,if_true] <;> omega
   ·simp only[h,if_false] <;> omega
theorem i6(its:List Value)(lo hi:Option Int):slicePick its.toArray lo hi none=((its.drop (HT.sIx its.length 0 lo)).take (HT.sIx its.length its.length hi-HT.sIx its.length 0 lo)).toArray:=by
 obtain⟨h1,h2,h3⟩:=jN lo hi its.toArray.size
 unfold slicePick
 rw[h1,h2,h3]
 simp only[sliceRange_one,pick_run,ye] <;> rfl
noncomputable def x6(K:PySem.W.Frag):V→Option Int→Option Int→Hp→VK→Prop:=fun x lo hi H Q=>∃a xs,x=.ref a∧SqL K H a xs∧∀p,H p=none→Q (.ref p) (upd H p (.lst (eJ xs lo hi)))
theorem bu:SlR X (x6 X.K):=by
 intro pins s σ H x v vl vu lo hi sl Q I rx hs pl pu h
 obtain⟨a,xs,rfl,hx,q⟩:=h
 cases rx
 obtain⟨its,r,ht,hz⟩:=I.list hx
 have hlen:=r.length
 refine⟨"list",_,slot_list_getitem.lookup,ht.isList.typeIs,?_⟩
 refine wpAny_getItem_list_slice ht.isList hs pl pu .none (by simp) ?_ (by rw[ye] <;> omega)
 rw[i6,← hlen]
 refine⟨.ref s.heap.objs.size,_,I.laid (t':=s.toks) (o:=.lst (eJ xs lo hi)) (fun b ob q=>Heap.get?_push_of_some _ q) (yi _) ?_,rfl,q _ (I.hok.fresh (yi _))⟩
 exact⟨yJ (gC xs lo hi) hz,_,0,(r.drop (HT.sIx xs.length 0 lo)).take (HT.sIx xs.length xs.length hi-HT.sIx xs.length 0 lo),Heap.get?_push_size _ rfl⟩
noncomputable def eV:V→Bool
 | .non=>true
 | .bl _=>true
 | .int _=>true
 | .str _=>true
 | _=>false
noncomputable def eqV:V→V→Bool
 | .non,.non=>true
 | .bl a,.bl b=>a == b
 | .bl a,.int b=>(if a then 1 else 0) == b
 | .int a,.bl b=>a == (if b then 1 else 0)
 | .int a,.int b=>a == b
 | .str a,.str b=>a == b
 | _,_=>false
theorem vU{A:Around}{s:Shared}{y x:V}{u v:Value}(ry:aX y u)(rx:aX x v)(fy:eV y=true)(fx:eV x=true):SeqAt.EqAt A s u v (eqV y x):=by
 cases y with
 | non =>
  cases ry
  cases x with
  | non=>cases rx;exact SeqAt.EqAt.same _
  | bl b=>cases rx;exact SeqAt.EqAt.none_bool b
  | int b=>obtain⟨t,rfl⟩:=rx;exact SeqAt.EqAt.none_int b t
  | str b=>obtain⟨t,rfl⟩:=rx;exact SeqAt.EqAt.none_str b t
  | _=>exact absurd (show false=true from fx) yr
 | bl a =>
  cases ry
  cases x with
  | non=>cases rx;exact SeqAt.EqAt.bool_none a
  | bl b=>cases rx;exact SeqAt.EqAt.bool_bool a b
  | int b=>obtain⟨t,rfl⟩:=rx;exact SeqAt.EqAt.bool_int a b t
  | str b=>obtain⟨t,rfl⟩:=rx;exact SeqAt.EqAt.bool_str a b t
  | _=>exact absurd (show false=true from fx) yr
 | int a =>
  obtain⟨t',rfl⟩:=ry
  cases x with
  | non=>cases rx;exact SeqAt.EqAt.int_none a t'
  | bl b=>cases rx;exact SeqAt.EqAt.int_bool a t' b
  | int b=>obtain⟨t,rfl⟩:=rx;exact SeqAt.EqAt.int_int a t' b t
  | str b=>obtain⟨t,rfl⟩:=rx;exact SeqAt.EqAt.int_str a t' b t
  | _=>exact absurd (show false=true from fx) yr
 | str a =>
  obtain⟨t',rfl⟩:=ry
  cases x with
  | non=>cases rx;exact SeqAt.EqAt.str_none a t'
  | bl b=>cases rx;exact SeqAt.EqAt.str_bool a t' b
  | int b=>obtain⟨t,rfl⟩:=rx;exact SeqAt.EqAt.str_int a t' b t
  | str b=>obtain⟨t,rfl⟩:=rx;exact SeqAt.EqAt.str_str a t' b t
  | _=>exact absurd (show false=true from fx) yr
 | _=>exact absurd (show false=true from fy) yr
noncomputable def eqU(x:V)(u:Value):Bool:=match u with
 | .none=>eqV .non x
 | .bool b=>eqV (.bl b) x
 | .int i _=>eqV (.int i) x
 | .str z _=>eqV (.str z) x
 | _=>false
theorem rG{x y:V}{u:Value}(r:aX y u)(f:eV y=true):eqU x u=eqV y x:=by
 cases y with
 | non=>cases r;rfl
 | bl b=>cases r;rfl
 | int i=>obtain⟨t,rfl⟩:=r;rfl
 | str z=>obtain⟨t,rfl⟩:=r;rfl
 | _=>exact absurd (show false=true from f) yr
theorem fG{x:V}:∀{xs:List V} {us:List Value},aO xs us→xs.all eV=true→us.any (eqU x)=xs.any fun y=>eqV y x
 | _,_,.nil,_=>rfl
 | y::xs,u::us,.cons r t,f=>by
  rw[yJb,yK] at f
  rw[yLa,yLa,rG r f.1,fG t f.2]
theorem dM{A:Around}{s:Shared}{x:V}{v:Value}(rx:aX x v)(fx:eV x=true):∀{xs:List V} {us:List Value},aO xs us→xs.all eV=true→∀u∈us,SeqAt.EqAt A s u v (eqU x u)
 | _,_,.nil,_=>fun u hu=>by cases hu
 | y::xs,u::us,.cons r t,f=>fun u' hu=>by
  rw[yJb,yK] at f
  rcases List.mem_cons.mp hu with rfl | hu
  ·rw[rG r f.1];exact vU r rx f.1 fx
  ·exact dM rx fx t f.2 u' hu
noncomputable def inV(x:V)(xs:List V):Bool:=xs.any fun y=>eqV y x
noncomputable def rIn(K:PySem.W.Frag)(neg:Bool):R2:=fun x y H Q=>∃p xs,y=.ref p∧(SqL K H p xs∨SqT K H p xs)∧eV x=true∧xs.all eV=true∧Q (.bl (if neg then !inV x xs else inV x xs)) H
theorem om:OpR X (compareOp .In) (rIn X.K false):=by
 intro pins s σ H x y v u Q I rx ry h
 obtain⟨p,xs,rfl,hq,fx,fs,q⟩:=h
 cases ry
 rcases hq with hq | hq
 ·obtain⟨its,r,pl,hz⟩:=I.list hq
  refine SeqAt.in_listAt (eqU x) pl.isList (fun w hw=>dM rx fx r fs w (by simpa using hw)) ⟨.bl _,H,I,rfl,?_⟩
  rw[show its.toArray.any (eqU x)=its.any (eqU x) by simp,fG r fs]
  exact q
 ·obtain⟨its,r,pl,hz⟩:=I.tuple hq
  refine SeqAt.in_tupleAt (eqU x) pl (fun w hw=>dM rx fx r fs w (by simpa using hw)) ⟨.bl _,H,I,rfl,?_⟩
  rw[show its.toArray.any (eqU x)=its.any (eqU x) by simp,fG r fs]
  exact q
theorem j5:OpR X (compareOp .NotIn) (rIn X.K true):=by
 intro pins s σ H x y v u Q I rx ry h
 obtain⟨p,xs,rfl,hq,fx,fs,q⟩:=h
 cases ry
 rcases hq with hq | hq
 ·obtain⟨its,r,pl,hz⟩:=I.list hq
  refine SeqAt.notIn_listAt (eqU x) pl.isList (fun w hw=>dM rx fx r fs w (by simpa using hw)) ⟨.bl _,H,I,rfl,?_⟩
  rw[show its.toArray.any (eqU x)=its.any (eqU x) by simp,fG r fs]
  exact q
 ·obtain⟨its,r,pl,hz⟩:=I.tuple hq
  refine SeqAt.notIn_tupleAt (eqU x) pl (fun w hw=>dM rx fx r fs w (by simpa using hw)) ⟨.bl _,H,I,rfl,?_⟩
  rw[show its.toArray.any (eqU x)=its.any (eqU x) by simp,fG r fs]
  exact q
theorem kf:b6 X (.builtin "len") (fun xs H Q=>∃p ys,xs=[.ref p]∧(SqL X.K H p ys∨SqT X.K H p ys)∧Q (.int ys.length) H):=by
 intro pins s σ H xs us Q I r h
 obtain⟨p,ys,rfl,hq,q⟩:=h
 obtain⟨u,rfl,rx⟩:=dY r
 cases rx
 have hn:=ir
 rcases hq with hq | hq
 ·obtain⟨its,r',pl,hz⟩:=I.list hq
  have hlen:=r'.length
  exact Calls.call_len_list pl.isList (by simp only[ye] <;> omega) ⟨.int ys.length,H,I.tok _,⟨s.toks+1,by rw[ye,hlen]⟩,q⟩
 ·obtain⟨its,r',pl,hz⟩:=I.tuple hq
  have hlen:=r'.length
  exact len_tuple pl (by simp only[ye] <;> omega) ⟨.int ys.length,H,I.tok _,⟨s.toks+1,by rw[ye,hlen]⟩,q⟩
theorem jP:b6 X (.type "list") (fun xs H Q=>∃p ys,xs=[.ref p]∧(SqL X.K H p ys∨SqT X.K H p ys)∧∀l,H l=none→Q (.ref l) (upd H l (.lst ys))):=by
 intro pins s σ H xs us Q I r h
 obtain⟨p,ys,rfl,hq,q⟩:=h
 obtain⟨u,rfl,rx⟩:=dY r
 cases rx
 have fin:∀(its:List Value),aO ys its→ys.length≤sizeLine→∀(h':Heap) (c':Nat),(∀b o',s.heap.get? b=some o'→h'.get? b=some o') →
   h'.get? s.heap.objs.size=some { cls:=.type "list",dict:=none,data:=.seq its.toArray c',slots:=#[] }→EP X pins σ Q (.ref s.heap.objs.size) { s with heap:=h' }:=fun its r' hz h' c' kp e =>
  ⟨.ref s.heap.objs.size,_,I.laid (t':=s.toks) kp (yi _) (show br X.prog X.w _ h' _ (.lst ys) from ⟨hz,its,c',r',e⟩),rfl,q _ (I.hok.fresh (yi _))⟩
 rcases hq with hq | hq
 ·obtain⟨its,r',pl,hz⟩:=I.list hq
  have hlen:=r'.length
  obtain⟨o,ho,hc,n,hd⟩:=pl.isList
  exact call_list_seq p (.inl rfl) ho hc hd (fun h' c' kp e=>fin its r' hz h' c' kp e) (by simp only[ye] <;> omega)
 ·obtain⟨its,r',pl,hz⟩:=I.tuple hq
  have hlen:=r'.length
  obtain⟨o,ho,hc,n,hd⟩:=pl
  exact call_list_seq p (.inr rfl) ho hc hd (fun h' c' kp e=>fin its r' hz h' c' kp e) (by simp only[ye] <;> omega)
theorem jc:b6 X (.type "tuple") (fun xs H Q=>∃p ys,xs=[.ref p]∧((SqL X.K H p ys∧∀l,H l=none→Q (.ref l) (upd H l (.tup ys)))∨(SqT X.K H p ys∧Q (.ref p) H))):=by
 intro pins s σ H xs us Q I r h
 obtain⟨p,ys,rfl,h⟩:=h
 obtain⟨u,rfl,rx⟩:=dY r
 cases rx
 rcases h with ⟨hq,q⟩ | ⟨hq,q⟩
 ·obtain⟨its,r',pl,hz⟩:=I.list hq
  have hlen:=r'.length
  refine call_tuple_list pl.isList (fun h' kp=>?_) (by simp only[ye] <;> omega)
  have I1:Inv X pins σ H { s with heap:=h' }:=I.kept (t':=s.toks) kp
  have I2:Inv X pins σ (upd H h'.objs.size (.tup ys)) { s with heap:=h'.push { cls:=.type "tuple",data:=.seq its.toArray } } :=
   I1.laid (t':=s.toks) (fun b o e=>Heap.get?_push_of_some _ e) (yi _) (show br X.prog X.w _ _ _ (.tup ys) from ⟨hz,its,r',IsTup.new _ _⟩)
  exact⟨.ref h'.objs.size,_,I2,rfl,q _ (I1.hok.fresh (yi _))⟩
 ·obtain⟨its,r',pl,hz⟩:=I.tuple hq
  exact call_tuple_same pl ⟨.ref p,H,I,rfl,q⟩
noncomputable def tyV(K:PySem.W.Frag)(T:String)(x:V)(H:Hp):Prop:=match x with
 | .str _=>T = "str"
 | .int _=>T = "int"
 | .ref p=>(T = "list" ∧ ∃xs,SqL K H p xs)∨(T = "tuple" ∧ ∃o,K.lookup p=some o∧o.cls=.type "tuple" ∧ o.dict=none) ∨
   (T = "dict" ∧ ((∃kvs,H p=some (.dK kvs))∨∃kvs,H p=some (.dT kvs)))∨(T = "set" ∧ ∃S n,H p=some (.set S n))
 | _=>False
theorem pz{pins:List (Addr×Obj)}{σ:St}{H:Hp}{s:Shared}{T:String}{x:V}{v:Value}(I:Inv X pins σ H s)(r:aX x v)(ty:tyV X.K T x H) :
  s.TypeIs v T∧∀a,v=.ref a→∃ob,s.heap.get? a=some ob∧ob.dict=none:=by
 cases x with
 | str z =>
  obtain⟨t,rfl⟩:=r
  cases (show T = "str" from ty)
  exact⟨typeIs_str s z t,fun _ e=>nomatch e⟩
 | int i =>
  obtain⟨t,rfl⟩:=r
  cases (show T = "int" from ty)
  exact⟨typeIs_int s i t,fun _ e=>nomatch e⟩
 | ref p =>
  cases r
  rcases ty with ⟨rfl,xs,hq⟩ | ⟨rfl,o,hk,hc,hd⟩ | ⟨rfl,hk⟩ | ⟨rfl,S,n,hk⟩
  ·obtain⟨its,_,pl,_⟩:=I.list hq
   refine⟨pl.isList.typeIs,fun a e=>?_⟩
   cases e
   obtain⟨o,n,e,c,hd,_⟩:=pl
   exact⟨o,e,hd⟩
  ·refine⟨⟨o,I.kIn p o hk,hc⟩,fun a e=>?_⟩
   cases e
   exact⟨o,I.kIn _ o hk,hd⟩
  ·have z:∃o,s.heap.get? p=some o∧o.ExactDict:=by
    rcases hk with ⟨kvs,hk⟩ | ⟨kvs,hk⟩
    ·obtain⟨_,_,_,_,o,_,_,e,ex,_⟩:=I.hok p _ hk
     exact⟨o,e,ex⟩
    ·obtain⟨_,_,_,_,o,_,_,e,ex,_⟩:=I.hok p _ hk
     exact⟨o,e,ex⟩
   obtain⟨o,e,ex⟩:=z
   refine⟨⟨o,e,ex.1⟩,fun a e2=>?_⟩
   cases e2
   exact⟨o,e,ex.2.1⟩
  ·obtain⟨o,_,_,_,e,ex,_⟩:=I.hok p _ hk
   refine⟨⟨o,e,ex.1⟩,fun a e2=>?_⟩
   cases e2
   exact⟨o,e,ex.2.1⟩
 | _=>exact False.elim ty
noncomputable def Ac(K:PySem.W.Frag)(T:String)(r:V→List V→Hp→VK→Prop)(to:TE):TE:=fun σ H Q=>to σ H fun x H1=>tyV K T x H1∧r x [] H1 Q
noncomputable def tBM(K:PySem.W.Frag)(T:String)(r:V→List V→Hp→VK→Prop)(to:TE)(t:TA):TE:=fun σ H Q=>to σ H fun x H1=>tyV K T x H1∧t σ H1 fun xs H2=>r x xs H2 Q
variable{o e:Expr}{es:List Expr}{to:TE}{t:TA}{name:Str}{apos cpos:Pos}{T id:String}{r:V→List V→Hp→VK→Prop}
theorem pL(pa:PlainAttrs T)(slot:Slot T name id)(hty:typeOf (.builtin id)=pure (.type "method_descriptor"))(hm:MtR X id r)(ho:PE X o to)
  (hbase:attributeBase o name X.env (eval o X.env)=eval o X.env:=by rfl) (hline:(apos.endLine == cpos.line)=true:=by rfl):PE X (.Call (.Attribute o name apos) [] [] cpos) (Ac X.K T r to):=by
 intro pins s σ H Q I h
 refine wpAny_Call_method0_late hbase hline (thn (ho pins s σ H _ I h) fun v s1 ⟨x,H1,I1,r1,ty,q1⟩=>?_)
 obtain⟨h1,h2⟩:=pz I1 r1 ty
 exact⟨T,id,pa,slot,hty,h1,h2,Calls.callWith_builtin rfl (PySem.evalArgs_none (hm pins s1 σ H1 x [] v [] Q I1 r1 .nil q1))⟩
theorem dD(pa:PlainAttrs T)(slot:Slot T name id)(hty:typeOf (.builtin id)=pure (.type "method_descriptor"))(hm:MtR X id r)(ho:PE X o to)(ha:PA X (e::es) t)
  (hbase:attributeBase o name X.env (eval o X.env)=eval o X.env:=by rfl)
  (hfew:((backTo cpos (starEach (e::es) X.env)).all (fun x=>!x.1)&&(backToKw cpos (keywordEach [] X.env)).all (fun x=>x.1.isSome)
   && decide ((e::es).length+([]:List Keyword).length+(if ([]:List Keyword).isEmpty then 0 else 1)<30))=true:=by rfl)
  (hline:(apos.endLine == cpos.line)=true:=by rfl) (hs:starEach (e::es) X.env=(false,eval e X.env)::starEach es X.env:=by rfl) (hplain:(backTo cpos (starEach es X.env)).any (·.1)=false:=by rfl) :
  PE X (.Call (.Attribute o name apos) (e::es) [] cpos) (tBM X.K T r to t):=by
 intro pins s σ H Q I h
 refine wpAny_Call_method_late hbase hfew hline rfl (thn (ho pins s σ H _ I h) fun v s1 ⟨x,H1,I1,r1,ty,q1⟩=>?_)
 obtain⟨h1,h2⟩:=pz I1 r1 ty
 refine⟨T,id,pa,slot,hty,h1,h2,?_⟩
 have hA:=ha cpos pins s1 σ H1 _ I1 q1
 rw[hs] at hA ⊢
 refine Calls.callWith_builtin (by show(false||(backTo cpos (starEach es X.env)).any (·.1))=false;rw[hplain] <;> rfl) (Calls.evalArgs_plain ?_)
 exact thn hA fun us s2 ⟨vs,H2,I2,r2,q2⟩=>hm pins s2 σ H2 x vs v us Q I2 r1 r2 q2
/- xs.append(e),list.index on a module's tuple .. are MtR facts of 06m -/
end
end L2
namespace L2
open PySem PySem.Spec PyProof.Rows
noncomputable def MtM(X:Cx)(id:String)(r:V→List V→Hp→VK→Prop):Prop :=
 ∀(pins:List (Addr×Obj)) (s:Shared) (σ:St) (H:Hp) (x:V) (xs:List V) (v:Value) (us:List Value) (Q:VK),Inv X pins σ H s→aX x v→aO xs us→r x xs H Q →
  wpAny (model X.prog X.w) X.A (call (.builtin id) (v::us)) (EP X pins σ Q) X.xe s
theorem aO.one:∀{x:V} {us:List Value},aO [x] us→∃u,us=[u]∧aX x u
 | _,_,.cons r .nil=>⟨_,rfl,r⟩
theorem aO.two:∀{x y:V} {us:List Value},aO [x,y] us→∃u v,us=[u,v]∧aX x u∧aX y v
 | _,_,_,.cons r (.cons q .nil)=>⟨_,_,rfl,r,q⟩
theorem aO.zero:∀{us:List Value},aO [] us→us=[]
 | _,.nil=>rfl
theorem aO.dropLast{xs:List V}{us:List Value}(h:aO xs us):aO xs.dropLast us.dropLast:=by
 induction h with
 | nil=>exact .nil
 | cons r t ih =>
  cases t with
  | nil=>exact .nil
  | cons q t'=>exact .cons r ih
theorem aO.eraseIdx:∀{xs:List V} {us:List Value} (i:Nat),aO xs us→aO (xs.eraseIdx i) (us.eraseIdx i)
 | _,_,_,.nil=>.nil
 | _,_,0,.cons _ t=>t
 | _,_,i+1,.cons r t=>.cons r (aO.eraseIdx i t)
theorem aO.rep{xs:List V}{us:List Value}(h:aO xs us):∀k:Nat,aO (List.replicate k xs).flatten (List.replicate k us).flatten
 | 0=>.nil
 | k+1=>by
  rw[yU,yU,yxa,yxa]
  exact aO.append h (aO.rep h k)
theorem mF{α:Type}(l:List α):l.eraseIdx (l.length-1)=l.dropLast:=by
 induction l with
 | nil=>rfl
 | cons a r ih =>
  cases r with
  | nil=>rfl
  | cons b r =>
   have e:(a::b::r).length-1=((b::r).length-1)+1:=by
    have h1:(a::b::r).length=r.length+2:=rfl
    have h2:(b::r).length=r.length+1:=rfl
    omega
   rw[e,List.eraseIdx_cons_succ,ih]
   all_goals rfl
theorem jA{α:Type}:∀(l:List α) (i:Nat),(l.eraseIdx i).length≤l.length
 | [],_=>yi _
 | _::_,0=>yBb _
 | _::r,i+1=>yIa (jA r i)
theorem jF(its:List Value):∀(k:Nat) (acc:List Value),
  List.foldl (fun x1 x2=>x1++x2) acc.toArray (List.replicate k its.toArray)=(acc++(List.replicate k its).flatten).toArray
 | 0,acc=>by simp
 | k+1,acc=>by
  have e:acc.toArray++its.toArray=(acc++its).toArray:=by simp
  have e2:(acc++its)++(List.replicate k its).flatten=acc++(List.replicate (k+1) its).flatten:=by
   rw[yU,yxa,yHa]
  rw[← e2,← jF its k (acc++its),← e,yU,yQ]
section
variable{X:Cx}{pins:List (Addr×Obj)}{σ:St}{H:Hp}{s:Shared}{l b:Addr}{xs ys zs:List V}
theorem Inv.lset{its its':List Value}{n:Nat}{f:Array Value→Array Value}{t':Nat}(I:Inv X pins σ H s)(hH:H l=some (.lst xs))
  (e:s.heap.get? l=some { cls:=.type "list",data:=.seq its.toArray n }) (hf:f its.toArray=its'.toArray) (hv:aO ys its') (hz:ys.length≤sizeLine) :
  Inv X pins σ (upd H l (.lst ys)) { s with heap:=s.heap.update l (Obj.mapSeq f),toks:=t' }:=by
 have q:=PySem.IsL.update e f
 rw[hf] at q
 refine I.write (x:=l) (e:=l) (by rw[hH];exact trivial) (.inl rfl) (fun b' u hb hu=>(Heap.get?_update_other s.heap (Obj.mapSeq f) (yva hb)).trans hu) ⟨_,q⟩ ?_
 exact⟨hz,its',_,hv,q⟩
theorem Inv.lnew{its:List Value}{t':Nat}(I:Inv X pins σ H s)(hv:aO ys its)(hz:ys.length≤sizeLine) :
  Inv X pins σ (upd H s.heap.objs.size (.lst ys)) { s with heap:=s.heap.push { cls:=.type "list",data:=.seq its.toArray },toks:=t' } :=
 I.laid (fun _ _ q=>Heap.get?_push_of_some _ q) (yi _) ⟨hz,its,0,hv,Heap.get?_push_size _ rfl⟩
theorem Inv.fresh(I:Inv X pins σ H s):H s.heap.objs.size=none:=I.hok.fresh (yi _)
theorem Inv.lstM(I:Inv X pins σ H s)(hH:H l=some (.lst xs)):xs.length≤sizeLine∧∃(its:List Value) (n:Nat),aO xs its∧xs.length=its.length∧s.heap.get? l=some { cls:=.type "list",data:=.seq its.toArray n }:=by
 obtain⟨z,its,n,r,e⟩:=I.hok l _ hH
 exact⟨z,its,n,r,r.length,e⟩
theorem kL{n:Nat}(h:n≤sizeLine):Builtin.List.listTooLong n=false:=by
 unfold Builtin.List.listTooLong
 exact decide_eq_false (by omega)
end
section
variable{X:Cx}
noncomputable def j7:V→List V→Hp→VK→Prop:=fun x vs H Q=>∃l xs y,x=.ref l∧vs=[y]∧H l=some (.lst xs)∧xs.length<sizeLine∧Q .non (upd H l (.lst (xs++[y])))
theorem b5:MtM X "list.append" j7:=by
 intro pins s σ H x vs v us Q I rx rv h
 obtain⟨l,xs,y,rfl,rfl,hH,hz,q⟩:=h
 cases rx
 obtain⟨u,rfl,ru⟩:=rv.one
 obtain⟨z,its,n,r,hl,e⟩:=I.lstM hH
 refine call_meets F.slot_list_append ⟨_,e,rfl⟩ F.entry_list_append (F.args_list_append_2 _ _) (PySem.list_append l its.toArray n u (by rw[ye];omega)) ⟨e,?_⟩
 refine⟨.non,_,I.lset (its':=its++[u]) hH e (by simp) (r.append (.cons ru .nil)) ?_,rfl,q⟩
 rw[yd,yx]
 omega
noncomputable def oa:V→List V→Hp→VK→Prop:=fun x vs H Q=>∃l b xs zs,x=.ref l∧vs=[.ref b]∧H l=some (.lst xs)∧H b=some (.lst zs)∧xs.length+zs.length≤sizeLine∧Q .non (upd H l (.lst (xs++zs)))
theorem jz:MtM X "list.extend" oa:=by
 intro pins s σ H x vs v us Q I rx rv h
 obtain⟨l,b,xs,zs,rfl,rfl,hH,hB,hz,q⟩:=h
 cases rx
 obtain⟨u,rfl,ru⟩:=rv.one
 cases ru
 obtain⟨z,its,n,r,hl,e⟩:=I.lstM hH
 obtain⟨z2,its2,n2,r2,hl2,e2⟩:=I.lstM hB
 have hsz:its.toArray.size+its2.toArray.size≤sizeLine:=by rw[ye,ye];omega
 have hlong:¬(!its.toArray.isEmpty&&Builtin.List.listTooLong (its.toArray.size+its2.toArray.size))=true:=by
  rw[kL hsz,yja]
  exact yr
 refine call_meets F.slot_list_extend ⟨_,e,rfl⟩ F.entry_list_extend (F.args_list_extend_2 _ _)
  (AutoSeq1.list_extend_list_list_0 l its.toArray n b its2.toArray n2 hlong (by rw[ye];omega) (by omega)) ⟨e,e2,?_⟩
 refine⟨.non,_,I.lset (its':=its++its2) hH e (by simp) (r.append r2) ?_,rfl,q⟩
 rw[yd]
 omega
noncomputable def CS:V→List V→Hp→VK→Prop:=fun x vs H Q=>∃l xs y,x=.ref l∧vs=[]∧H l=some (.lst xs)∧xs[xs.length-1]? = some y∧Q y (upd H l (.lst xs.dropLast))
theorem zc:MtM X "list.pop" CS:=by
 intro pins s σ H x vs v us Q I rx rv h
 obtain⟨l,xs,y,rfl,rfl,hH,hy,q⟩:=h
 cases rx
 have hus:=rv.zero
 subst hus
 obtain⟨z,its,n,r,hl,e⟩:=I.lstM hH
 obtain⟨u,hu,ru⟩:=r.get hy
 have hy':its.toArray[its.toArray.size-1]? = some u:=by
  show its.toArray[its.length-1]? = some u
  rw[← yZa,← hl]
  exact hu
 refine call_meets F.slot_list_pop ⟨_,e,rfl⟩ F.entry_list_pop (F.args_list_pop_1 _) (MeetsSeq.list_pop_last l its.toArray n u hy' (by rw[ye];omega)) ⟨e,?_⟩
 refine⟨y,_,I.lset (its':=its.dropLast) hH e ?_ r.dropLast ?_,ru,q⟩
 ·show its.toArray.eraseIdxIfInBounds (its.toArray.size-1)=its.dropLast.toArray
  rw[ye,ybb,mF]
 ·rw[yEb]
  omega
noncomputable def vL:V→List V→Hp→VK→Prop:=fun x vs H Q=>∃l xs i k y,x=.ref l∧vs=[.int i]∧H l=some (.lst xs)∧-(2 ^ 63)≤i∧i<2 ^ 63∧seqIndex? i xs.length=some k∧xs[k]? = some y∧Q y (upd H l (.lst (xs.eraseIdx k)))
theorem pZ:MtM X "list.pop" vL:=by
 intro pins s σ H x vs v us Q I rx rv h
 obtain⟨l,xs,i,k,y,rfl,rfl,hH,h1,h2,hk,hy,q⟩:=h
 cases rx
 obtain⟨u,rfl,ru⟩:=rv.one
 obtain⟨t,rfl⟩:=ru
 obtain⟨z,its,n,r,hl,e⟩:=I.lstM hH
 obtain⟨w,hw,rw'⟩:=r.get hy
 refine call_meets F.slot_list_pop ⟨_,e,rfl⟩ F.entry_list_pop (F.args_list_pop_2 _ _)
  (MeetsSeq.list_pop_at l its.toArray n i t k w (fitsIndex_both h1 h2) (by rw[ye,← hl];exact hk) (by rw[← yZa];exact hw) (by rw[ye];omega)) ⟨e,?_⟩
 refine⟨y,_,I.lset (its':=its.eraseIdx k) hH e ?_ (r.eraseIdx k) ?_,rw',q⟩
 ·show its.toArray.eraseIdxIfInBounds k=(its.eraseIdx k).toArray
  rw[ybb]
 ·have:=jA xs k
  omega
noncomputable def vB:V→List V→Hp→VK→Prop:=fun x vs H Q=>∃l xs,x=.ref l∧vs=[]∧H l=some (.lst xs)∧Q .non (upd H l (.lst []))
noncomputable def zk:R2:=fun x y H Q=>∃l b xs zs,x=.ref l∧y=.ref b∧H l=some (.lst xs)∧H b=some (.lst zs)∧xs.length+zs.length≤sizeLine∧∀p,H p=none→Q (.ref p) (upd H p (.lst (xs++zs)))
theorem bS:OpR X (binaryOp .Add) zk:=by
 intro pins s σ H x y v u Q I rx ry h
 obtain⟨l,b,xs,zs,rfl,rfl,hH,hB,hz,q⟩:=h
 cases rx
 cases ry
 obtain⟨z,its,n,r,hl,e⟩:=I.lstM hH
 obtain⟨z2,its2,n2,r2,hl2,e2⟩:=I.lstM hB
 refine PySem.P.add_list e e2 ?_ (by rw[ye,ye];omega)
 have ea:its.toArray++its2.toArray=(its++its2).toArray:=by simp
 rw[ea]
 exact⟨.ref _,_,I.lnew (t':=s.toks) (r.append r2) (by rw[yd];omega),rfl,q _ I.fresh⟩
noncomputable def AI:R2:=fun x y H Q=>∃l k xs,x=.ref l∧y=.int k∧H l=some (.lst xs)∧-(2 ^ 63)≤k∧k<2 ^ 63∧xs.length*k.toNat≤sizeLine ∧
 ∀p,H p=none→Q (.ref p) (upd H p (.lst (List.replicate k.toNat xs).flatten))
theorem tS{α:Type}(xs:List α)(k:Nat):(List.replicate k xs).flatten.length=k*xs.length:=by
 induction k with
 | zero=>simp
 | succ k ih=>rw[yU,yxa,yd,ih,ytb,Nat.add_comm]
theorem mG:OpR X (binaryOp .Mult) AI:=by
 intro pins s σ H x y v u Q I rx ry h
 obtain⟨l,k,xs,rfl,rfl,hH,h1,h2,hz,q⟩:=h
 cases rx
 obtain⟨t,rfl⟩:=ry
 obtain⟨z,its,n,r,hl,e⟩:=I.lstM hH
 have hlen:its.toArray.size*k.toNat≤sizeLine:=by rw[ye,← hl];exact hz
 have hcap:¬ its.toArray.size*k.toNat>(2 ^ 63-1) / 8:=by
  have:(sizeLine:Nat)≤(2 ^ 63-1) / 8:=by decide
  omega
 have hfit:¬(!Builtin.List.listFitsIndex k)=true:=by
  rw[fitsIndex_both h1 h2]
  exact yr
 have hlong:¬ Builtin.List.listTooLong (its.toArray.size*k.toNat)=true:=by
  rw[kL hlen]
  exact yr
 have hnew:List.foldl (fun x1 x2=>x1++x2) #[] (List.replicate (if its.toArray.isEmpty=true then 0 else k.toNat) its.toArray)=(List.replicate k.toNat its).flatten.toArray:=by
  have f0:∀m:Nat,List.foldl (fun x1 x2=>x1++x2) #[] (List.replicate m its.toArray)=(List.replicate m its).flatten.toArray:=fun m=>by
   have:=jF its m []
   rw[List.nil_append] at this
   exact this
  rw[f0]
  cases its with
  | nil=>simp
  | cons a r'=>rw[if_neg (by simp)]
 refine wpAny_binaryOp_repeat_ref (T := "list") (U := "int") (by decide) ⟨_,e,rfl⟩ (fun s'=>typeIs_int s' k t) noFill_list_mul F.fills_int_mul F.slot_int_rmul repeat_list F.slot_int_index.lookup
  (call_meets F.slot_int_rmul (typeIs_int s k t) F.entry_int_rmul (F.args_int_rmul_2 _ _) (int___rmul___int_list k t l its.toArray n)
   ⟨e,rfl,⟨_,e,rfl⟩,call_meets F.slot_list_mul ⟨_,e,rfl⟩ F.entry_list_mul (F.args_list_mul_2 _ _) (AutoListH.list___mul___list_int_3 l its.toArray n k t hfit hcap hlong) ⟨e,?_⟩⟩)
 rw[hnew]
 exact⟨.ref _,_,I.lnew (t':=s.toks) (r.rep k.toNat) (by rw[tS,Nat.mul_comm];exact hz),rfl,q _ I.fresh⟩
end
section
variable{prog:Program}{w:World}{A:Around}{E:Value→Shared→Prop}{s:Shared}
end
section
variable{X:Cx}
end
end L2
namespace Att
open PySem PySem.W PySem.Calls PyProof.Rows
theorem gD{P:Params}{h:Heap}:∀(ns:List Int) (vs:List Value),WellAll P h vs (ns.map WData.int)→IntsAre vs ns:=by
 intro ns
 induction ns with
 | nil =>
  intro vs w
  rw[ycb] at w
  cases w
  exact .nil
 | cons n ns ih =>
  intro vs w
  rw[ym] at w
  cases w with
  | cons a b =>
   cases a
   exact .cons _ _ (ih _ b)
theorem o4{l:OpenLaw}{n:Nat}(hn:l.most=some n){P:Params}{h:Heap}{args:List WData}{vals:List Value}
  (hpre:l.row.toRowW.claim.pre args=true) (hwl:WellAll P h vals args) :
  ∃a vs ns,vals=[Value.ref a]∧args=[WData.list (ns.map WData.int)]∧h.get? a=some { cls:=.type "list",data:=.seq vs.toArray }∧IntsAre vs ns∧ns.length≤n:=by
 have hsh:WShape.hasAll [] args [.list .int]=true:=(pre_splitW hpre).1
 have hc:l.pre.holds [] { args:=args } = true:=(pre_splitW hpre).2
 obtain⟨d,r,rfl,h1,h2⟩:=hasAllW_cons hsh
 obtain rfl:=hasAllW_nil h2
 obtain⟨xs,rfl,h3⟩:=hasW_list h1
 obtain⟨ns,rfl⟩:=items_int h3
 have hlen:ns.length≤n:=by
  unfold OpenLaw.pre at hc
  have h4:(WTm.not (.lt (.lit (.int (n:Int))) (.len (.arg 0)))).holds [] { args:=[.list (ns.map .int)] } = true:=by
   have h4:=(holds_andW hc).1
   rw[hn] at h4
   exact h4
  have h5:=condW_of h4 (w_not (w_lt w_lit (w_len_list (w_arg rfl))))
  rw[ya] at h5
  refine Nat.le_of_not_lt fun q=>?_
  have q':(n:Int)<((ns.length:Nat):Int):=by omega
  first
   | (rw[decide_eq_true q'] at h5;exact absurd h5 (by decide))
   | (simp at h5;omega)
 cases hwl with
 | cons w1 w2 =>
  cases w2
  cases w1 with
  | list ho hall=>exact⟨_,_,ns,rfl,rfl,ho,gD ns _ hall,hlen⟩
theorem oW(l:OpenLaw)(args:List WData):l.row.toRowW.claim.post args (.bool true) args=true :=
 postW_of (r:=l.row.toRowW) (X:=(true == true))
  (show WShape.has [] (.bool true) .bool=true by first | rfl | decide | simp[WShape.has,WShape.arms,WShape.armsAll])
  (show(WTm.eq .res (.lit (.bool true))).value [] { args:=args,res:=some (.bool true),after:=args } = some (.bool (true == true)) from w_eq_bool (w_res rfl) w_lit) rfl
theorem attach_call{l:OpenLaw}{n:Nat}{q:Program}{loose:List Str}{XP:(Str→Option Value)→Heap→Prop}{YP:World→Heap→Prop}{d:DefRec}
  (hn:l.most=some n) (hdf:d.params.defaults=[])
  (call:∀(w:World) (s₀ s₁:Shared) (mg mb:Str→Option Value) (fa:Addr) (o:Obj) (pm cd doc:Value) (a:Addr) (vs:List Value) (ns:List Int),
   Ground q loose [] XP w s₀ mg mb s₁.heap→YP w s₁.heap →
   s₁.heap.get? fa=some o→o.data=.func (docDef d.name d.params d.body d.scope pm cd doc)→s₁.heap.CodeRec cd d.name→mg d.name=some (.ref fa) →
   s₁.heap.get? a=some { cls:=.type "list",data:=.seq vs.toArray }→IntsAre vs ns→ns.length≤n→s₁.gens = #[] →
   codeAny (model l.prog w) callerA (.call (.ref fa) ⟨[.ref a],[]⟩) (fun r s'=>r=.ok (.ret (.bool true))∧OldK s₁.heap s'.heap∧s'.os=s₁.os∧AllBare s'.gens) s₁) :
  WalkO q loose XP YP l.row.toRowW d [] (fun f vs=>PySem.call f vs):=by
 intro w s₀ s₁ mg mb G Y fa o pm cd doc dV kV ho hd hcd hD hmg hg args vals as hpre hlay hrd hwl hlo
 obtain rfl:dV=.none:=Dflts.none hD hdf
 obtain rfl:kV=.none:=Dflts.noKw hD
 obtain⟨a,vs,ns,rfl,rfl,hobj,hints,hlen⟩:=o4 hn hpre hwl
 refine enter_call (codeAny_mono (call w s₀ s₁ mg mb fa o pm cd doc a vs ns G Y ho (fd_plain hd) hcd hmg hobj hints hlen hg) fun r s' hq=>?_)
 obtain⟨rfl,h2,h3,h4⟩:=hq
 exact⟨.inl ⟨.bool true,.bool true,[],rfl,fun _=>rfl,.bool true,oW l _,fun _=>⟨List.Pairwise.nil,fun _ hm=>(nomatch hm)⟩⟩,h2,h3,h4⟩
section
variable{prog:Program}{w:World}{A:Around}{E:Value→Shared→Prop}{s:Shared}{K:Frag}
end
end Att
namespace L2
open PySem PySem.Spec PyProof.Rows
theorem jJ:∀{vs:List Value} {ns:List Int},IntsAre vs ns→aO (ns.map V.int) vs
 | _,_,.nil=>.nil
 | _,_,.cons n t h=>.cons ⟨t,rfl⟩ (jJ h)
noncomputable def wD(H:Hp):Prop:=∀b,H b=none∨∃o xs,H b=some (.frz o (.lst xs))
theorem rE{P:Program}{w:World}{K:PySem.W.Frag}{mg mb:Str→Option Value}{CX:CXT}{k:Nat}{fa a:Addr}{fd:FuncData}{x:Str}{sp:Sp}{s₁:Shared}{vs:List Value}{ns:List Int}
  (KX:K.In s₁.heap) (hns:s₁.heap.Ns mainGlobals mg) (hb:s₁.heap.Ns builtinsNs mb) (hbb:∀x:Str,x ≠ "__name__" → mb x=bootBuiltins x) (hlim:s₁.heap.NoLimit) (hg:s₁.gens = #[])
  (ha:s₁.heap.get? a=some { cls:=.type "list",data:=.seq vs.toArray }) (hi:IntsAre vs ns) (hl:ns.length≤sizeLine) (hr:b4 k callerA)
  (F:∀base:Heap,K.In base→base.Ns mainGlobals mg→aN P w K mg base CX k fa fd [x] sp) (hbind:∀(s:Shared) (u:Value),BindsTo s fd ⟨[u],[]⟩ [(x,u)])
  (hsp:∀H:Hp,wD H→SqL K H a (ns.map V.int)→sp [.ref a] H (fun v _=>v=.bl true) fun _ _ _=>False)
  (hCX:∀H e s',CX [] H s₁ (fun _ _ _=>False) e s'→False) :
  codeAny (model P w) callerA (.call (.ref fa) ⟨[.ref a],[]⟩) (fun r s'=>r=.ok (.ret (.bool true))∧OldK s₁.heap s'.heap∧s'.os=s₁.os∧AllBare s'.gens) s₁:=by
 have rv:=jJ hi
 have lenV:=hi.length
 have core:∀H:Hp,wD H→SqL K H a (ns.map V.int)→HOk P w H s₁.heap→(∀b,H b≠none→b=a)→(H a≠none→K.lookup a=none) →
   codeAny (model P w) callerA (.call (.ref fa) ⟨[.ref a],[]⟩) (fun r s'=>r=.ok (.ret (.bool true))∧OldK s₁.heap s'.heap∧s'.os=s₁.os∧AllBare s'.gens) s₁:=by
  intro H hO hS hok hA hK
  have base_of:∀{b:Addr} {o:Obj},s₁.heap.get? b=some o→H b=none→(km s₁.heap H).get? b=some o:=fun e n=>ql e n
  have noA:∀{b:Addr} {o:Obj} {es:Array DictEntry} {ep:Nat},s₁.heap.get? b=some o→o.data=.dict es ep→H b=none:=fun {b o es ep} e d=>by
   cases q:H b with
   | none=>rfl
   | some u =>
    have e':b=a:=hA b (by rw[q];simp)
    subst e'
    rw[ha] at e;cases e
    have d':Data.seq vs.toArray _=Data.dict es ep:=d
    cases d'
  have nsK:∀{b:Addr} {m:Str→Option Value},s₁.heap.Ns b m→(km s₁.heap H).Ns b m:=fun {b m} ⟨o,es,ep,e,d,r⟩=>⟨o,es,ep,base_of e (noA e d),d,r⟩
  have hKb:K.In (km s₁.heap H):=fun b o e=>base_of (KX b o e) (by
   cases q:H b with
   | none=>rfl
   | some u =>
    have e':b=a:=hA b (by rw[q];simp)
    subst e'
    rw[hK (by rw[q];simp)] at e;cases e)
  have hM:Mod K mg (km s₁.heap H):=⟨hKb,nsK hns,⟨mb,nsK hb,hbb⟩,let ⟨mc,h1,h2⟩:=hlim;⟨mc,nsK h1,h2⟩⟩
  have e0:mD P w K mg (km s₁.heap H) callerA [] s₁ H:=⟨rfl,hM,fun b o e=>tE e,Nat.le_of_eq (oM _ _),trivial,fun b hb=>absurd (show b∈([]:List Addr) from hb) (by simp),hok,.of_eq hg⟩
  refine codeAny_mono ((F _ hKb (nsK hns)).run callerA [] s₁ H ⟨[.ref a],[]⟩ [.ref a] [.ref a] _ _ hr e0 (hbind s₁ (.ref a)) (.cons rfl .nil) (hsp H hO hS)) fun r s' h=>?_
  cases r with
  | error e=>exact(hCX H e s' h).elim
  | ok fl =>
   cases fl with
   | next=>exact False.elim h
   | brk=>exact False.elim h
   | cont=>exact False.elim h
   | ret u =>
    obtain⟨v,H',os,bare,un,hok',r',q⟩:=h
    have q':v=.bl true:=q
    subst q'
    obtain rfl:u=Value.bool true:=r'
    refine⟨rfl,OldK.of_keep fun b o e=>?_,os,bare⟩
    cases q:H b with
    | none=>exact un.keep b o e q (by intro z;exact absurd (show b∈([]:List Addr) from z) (by simp)) (by simp)
    | some u =>
     rcases hO b with z | ⟨ob,xs,z⟩
     ·rw[q] at z;cases z
     ·have z2:=un.frzs b ob _ z
      obtain⟨e1,_⟩:=hok b _ z
      obtain⟨e2,_⟩:=hok' b _ z2
      rw[e] at e1;cases e1
      exact e2
 cases hk:K.lookup a with
 | some o =>
  have e:=KX a o hk
  rw[ha] at e
  cases e
  refine core (fun _=>none) (fun _=>.inl rfl) (.inr ⟨_,vs.toArray,_,hk,rfl,rfl,rfl,by rw[ye,lenV];exact hl,by simpa using rv⟩) (fun b u z=>by have z':(none:Option HO)=some u:=z;cases z') (fun b z=>absurd rfl z) fun z=>absurd rfl z
 | none =>
  refine core (fun b=>if b=a then some (.frz { cls:=.type "list",data:=.seq vs.toArray } (.lst (ns.map V.int))) else none) (fun b=>?_) (.inl (.inr ⟨{ cls:=.type "list",data:=.seq vs.toArray },if_pos rfl⟩)) (fun b u z=>?_) (fun b z=>?_) fun _=>hk
  ·by_cases hb:b=a
   ·exact .inr ⟨_,_,if_pos hb⟩
   ·exact .inl (if_neg hb)
  ·by_cases hb:b=a
   ·have z':=(if_pos hb).symm.trans z
    cases z'
    subst hb
    exact⟨ha,by rw[ya];exact hl,vs,_,rv,ha⟩
   ·have z':=(if_neg hb).symm.trans z
    cases z'
  ·by_cases hb:b=a
   ·exact hb
   ·exact absurd (if_neg hb) z
end L2
namespace L2
open PySem PySem.Spec PyProof.Rows
theorem sC{l:PySem.W.OpenLaw}{n k:Nat}{q:Program}{loose:List Str}{XP:(Str→Option Value)→Heap→Prop}{YP:World→Heap→Prop}{d:DefRec}{K:Params→PySem.W.Frag}{CX:World→CXT}{sp:World→Sp}{x:Str}
  (hn:l.most=some n) (hn2:n≤sizeLine) (hdf:d.params.defaults=[]) (hr:b4 k callerA)
  (hY:∀(w:World) (h:Heap),YP w h→(K w.params).In h)
  (F:∀(w:World) (mg:Str→Option Value) (fa:Addr) (h:Heap),(K w.params).In h→h.Ns mainGlobals mg→mg d.name=some (.ref fa) →
   ∃fd:FuncData,(∀(s:Shared) (u:Value),BindsTo s fd ⟨[u],[]⟩ [(x,u)]) ∧
    ∀base:Heap,(K w.params).In base→base.Ns mainGlobals mg→aN l.prog w (K w.params) mg base (CX w) k fa fd [x] (sp w))
  (hsp:∀(w:World) (H:Hp) (a:Addr) (ns:List Int),ns.length≤n→wD H→SqL (K w.params) H a (ns.map V.int)→sp w [.ref a] H (fun v _=>v=.bl true) fun _ _ _=>False)
  (hCX:∀(w:World) (H:Hp) (s:Shared) (e:Value) (s':Shared),CX w [] H s (fun _ _ _=>False) e s'→False) :
  PySem.W.WalkO q loose XP YP l.row.toRowW d [] (fun f vs=>PySem.call f vs):=by
 refine Att.attach_call hn hdf fun w s₀ s₁ mg mb fa o pm cd doc a vs ns G Y ho hd hcd hmg hobj hints hlen hg=>?_
 have KX:=hY w _ Y
 obtain⟨fd,hb,hF⟩:=F w mg fa _ KX G.T.g hmg
 exact rE KX G.T.g G.T.b G.T.builtins G.T.nolimit hg hobj hints (yJ hlen hn2) hr hF hb (fun H hO hS=>hsp w H a ns hlen hO hS) fun H e s'=>hCX w H s₁ e s'
end L2
/- THE LAST THEOREM (shape;LID,My.* are yours):
  My.Adr: a structure of the addresses that your layer names (classes,functions);My.Txt K t: a structure (Prop) of the equations over K;
  My.txt_mk:{K} {implicit addresses ..} (e1:nsIn K mainGlobals "law" = some (some (.ref f))) (e2:K.lookup f=some ⟨oc,od,.func (fnOf "law" "law" params body scope dV kV doc pm an cdv ct),sl⟩) (e3:codeIn K cdv "law" = true) ..:∃t,My.Txt K t
(the tactic k_is has no namespace: write k_is) -/
namespace L2
open PySem PySem.Spec PyProof.Rows
noncomputable def cc(s:Stmt)(j:Nat):Stmt:=match s with
 | .ClassDef _ _ _ body _ _ _ _ _ _ _=>body.getD j (.Pass ⟨0,0,0,0⟩)
 | _=>.Pass ⟨0,0,0,0⟩
noncomputable def cH(s:Stmt):Arguments:=match s with
 | .FunctionDef _ a _ _ _ _ _ _ _ _=>a
 | _=>{ posonlyargs:=[],args:=[],vararg:=none,kwonlyargs:=[],kw_defaults:=[],kwarg:=none,defaults:=[] }
noncomputable def cg(s:Stmt):List Stmt:=match s with
 | .FunctionDef _ _ b _ _ _ _ _ _ _=>b
 | _=>[]
noncomputable def ao(s:Stmt):Scope:=match s with
 | .FunctionDef _ _ _ _ _ _ sc _ _ _=>sc
 | _=>{ kind:=.function,names:=[],isGenerator:=false,isCoroutine:=false }
noncomputable abbrev CX0:CXT:=fun _ _ _ _ _ _=>False
noncomputable abbrev E0:XK:=fun _ _ _=>False
theorem qV{X:Cx}:dB CX0 X E0:=fun _ _ _ _ _ _ _ h=>h.elim
structure Fun(K:PySem.W.Frag)(x qual:Str)(st:Stmt)(f:Addr)(fd:FuncData):Prop where
 ex:∃(oc:Value) (od:Option Addr) (kV doc pm:Value) (an:Option Addr) (cdv ct:Value) (osl:Array (Option Value)),
  fd=PySem.W.fnOf x qual (cH st) (cg st) (ao st) .none kV doc pm an cdv ct∧K.lookup f=some ⟨oc,od,.func fd,osl⟩∧PySem.W.codeIn K cdv qual=true
 kp:PySem.W.keepIn K (.ref f)=true
section
variable{P:Program}{w:World}{K:PySem.W.Frag}{mg:Str→Option Value}{base:Heap}
theorem Fun.ok{x qual:Str}{st:Stmt}{f:Addr}{fd:FuncData}{N ps:List Str}{k:Nat}{sp:Sp}(F:Fun K x qual st f fd)(S:aw N ps (ao st))(len:∀vs H Q E,sp vs H Q E→vs.length=ps.length)
  (hbody:∀(cdv:Value) (A:Around) (outer:List Env) (s:Shared) (H:Hp) (vs:List V) (Q:VK) (E:XK),b4 k (A.deeper (envOfC qual (ao st) s.heap.objs.size f cdv))→sp vs H Q E →
   ∃t,PSs (eQ CX0 P w K mg base N qual (ao st) f cdv A outer s H E).nox (cg st) t∧t { nx:=fun _ H'=>Q .non H',rt:=Q } (start N vs) H):aN P w K mg base CX0 (k+1) f fd ps sp:=by
 obtain⟨oc,od,kV,doc,pm,an,cdv,ct,osl,rfl,lk,hcd⟩:=F.ex
 refine ug lk hcd S len fun A outer s H vs Q E hr hsp=>?_
 obtain⟨t,h,q⟩:=hbody cdv A outer s H vs Q E hr hsp
 exact⟨t,h.nox,q⟩
theorem Fun.binds{x qual:Str}{st:Stmt}{f:Addr}{fd:FuncData}{ps:List Str}(F:Fun K x qual st f fd)
  (h:∀(kV doc pm:Value) (an:Option Addr) (cdv ct:Value) (us:List Value),us.length=ps.length→bindArgs (PySem.W.fnOf x qual (cH st) (cg st) (ao st) .none kV doc pm an cdv ct) ⟨us,[]⟩=pure (ps.zip us)):b7 K fd ps []:=by
 obtain⟨oc,od,kV,doc,pm,an,cdv,ct,osl,rfl,lk,hcd⟩:=F.ex
 exact .all (h kV doc pm an cdv ct)
theorem xV{x qual:Str}{st:Stmt}{f:Addr}{oc:Value}{od an:Option Addr}{osl:Array (Option Value)}{kV doc pm cdv ct:Value}(l:K.lookup f=some ⟨oc,od,.func (PySem.W.fnOf x qual (cH st) (cg st) (ao st) .none kV doc pm an cdv ct),osl⟩)
  (c:PySem.W.codeIn K cdv qual=true) (k:PySem.W.keepIn K (.ref f)=true):Fun K x qual st f (PySem.W.fnOf x qual (cH st) (cg st) (ao st) .none kV doc pm an cdv ct):=⟨⟨oc,od,kV,doc,pm,an,cdv,ct,osl,rfl,l,c⟩,k⟩
end
theorem iQ{A:Around}{k:Nat}(hr:b4 k A):A.units+1<cLine:=yS (Nat.add_le_add_left (by decide:1≤64) _) hr.units
theorem aE{n:Nat}(h:n≤1000):n<sizeLine:=yS h (by decide)
section
variable{X:Cx}
theorem pv(i:Nat){x:Str}{pos:Pos}(hN:X.N[i]? = some x:=by rfl)(hv:Vis X.env.scope x:=by first | exact Or.inl rfl | exact Or.inr (Or.inl rfl) | exact Or.inr (Or.inr rfl))(hd:(x == ("__debug__":Str))=false:=by decide)
  (hcd:(x == ("__classdict__":Str))=false:=by decide):PE X (.Name x pos) (mP i):=y4 hN hv hd hcd
end
noncomputable def aA(H H':Hp):Prop:=∀b o,H b=some o→H' b=some o
theorem aA.refl(H:Hp):aA H H:=fun _ _ h=>h
theorem aA.trans{H H1 H2:Hp}(a:aA H H1)(b:aA H1 H2):aA H H2:=fun c o h=>b c o (a c o h)
theorem aA.free{H H':Hp}(e:aA H H'){l:Addr}(h:H' l=Option.none):H l=Option.none:=by
 cases q:H l with
 | none=>rfl
 | some o =>
  rw[e l o q] at h
  cases h
theorem aA.seq{K:PySem.W.Frag}{H H':Hp}{a:Addr}{xs:List V}(e:aA H H')(h:SqL K H a xs):SqL K H' a xs:=by
 rcases h with (h | ⟨o,h⟩) | h
 ·exact .inl (.inl (e _ _ h))
 ·exact .inl (.inr ⟨o,e _ _ h⟩)
 ·exact .inr h
end L2
set_option maxHeartbeats 4000000
namespace L2
open PySem PySem.Spec PyProof.Rows
structure Cal(P:Program)(w:World)(K:PySem.W.Frag)(mg:Str→Option Value)(base:Heap)(x:Str)(ps:List Str)(k:Nat)(sp:Sp):Prop where
 ex:∃(f:Addr) (fd:FuncData),aN P w K mg base CX0 k f fd ps sp∧b7 K fd ps []∧PySem.W.keepIn K (.ref f)=true∧mg x=some (.ref f)
theorem ar{X:Cx}{x:Str}{ps:List Str}{k:Nat}{sp:Sp}{e:Expr}{es:List Expr}{t:TA}{p pos:Pos}(C:Cal X.prog X.w X.K X.mg X.base x ps k sp)(hr:b4 k X.A)(hg:Gl X x)(ha:PA X (e::es) t)
  (hdb:(x == ("__debug__":Str))=false:=by decide) (he:starEach (e::es) X.env=(false,eval e X.env)::starEach es X.env:=by rfl) (hpl:(backTo pos (starEach es X.env)).any (·.1)=false:=by rfl) :
  PE X (.Call (.Name x p) (e::es) [] pos) (nL sp [] E0 t):=by
 obtain⟨f,fd,F,b,hk,hm⟩:=C.ex
 exact na F hr hg hm hk b .nil qV ha hdb he hpl
noncomputable def kb(n T:String):Bool:=n == T||(n == "bool" && T == "int")
noncomputable def tyN(H:Hp)(x:V)(n:String):Prop:=match x with
 | .bl _=>n = "bool"
 | .int _=>n = "int"
 | .str _=>n = "str"
 | .ref a=>(n = "list" ∧ ∃xs,H a=some (.lst xs))∨(n = "tuple" ∧ ∃xs,H a=some (.tup xs))
 | _=>False
theorem rP{H:Hp}{i:Int}{n:String}:tyN H (.int i) n=(n = "int"):=rfl
theorem wk{H:Hp}{i:Bool}{n:String}:tyN H (.bl i) n=(n = "bool"):=rfl
theorem sS{H:Hp}{i:Str}{n:String}:tyN H (.str i) n=(n = "str"):=rfl
theorem rN{H:Hp}{a:Addr}{n:String}:tyN H (.ref a) n=((n = "list" ∧ ∃xs,H a=some (.lst xs))∨(n = "tuple" ∧ ∃xs,H a=some (.tup xs))):=rfl
noncomputable def okT(T:String):Prop:=T = "int" ∨ T = "bool" ∨ T = "str" ∨ T = "list" ∨ T = "tuple"
theorem rW{K:PySem.W.Frag}{n T:String}(hn:okT n)(hT:okT T):PySem.W.kitOne K (.type n) (.type T)=some (kb n T):=by
 rcases hn with rfl | rfl | rfl | rfl | rfl <;> rcases hT with rfl | rfl | rfl | rfl | rfl <;> rfl
theorem wj{K:PySem.W.Frag}{H:Hp}{x:V}{n:String}(h:tyN H x n):fU K H x (.type n)∧okT n:=by
 cases x with
 | bl b=>cases (show n = "bool" from h);exact⟨.bl b,by simp[okT]⟩
 | int i=>cases (show n = "int" from h);exact⟨.int i,by simp[okT]⟩
 | str i=>cases (show n = "str" from h);exact⟨.str i,by simp[okT]⟩
 | ref a =>
  rcases (show(n = "list" ∧ ∃xs,H a=some (.lst xs))∨(n = "tuple" ∧ ∃xs,H a=some (.tup xs)) from h) with ⟨rfl,xs,e⟩ | ⟨rfl,xs,e⟩
  ·exact⟨.lst e,by simp[okT]⟩
  ·exact⟨.tup e,by simp[okT]⟩
 | _=>exact False.elim h
theorem tZ:okT "int" := by simp[okT]
theorem pA:okT "bool" := by simp[okT]
theorem sO:okT "str" := by simp[okT]
theorem qe:okT "list" := by simp[okT]
theorem ox:okT "tuple" := by simp[okT]
theorem sL:kb "int" "int" = true:=rfl
theorem sG:kb "int" "bool" = false:=rfl
theorem rV:kb "bool" "bool" = true:=rfl
theorem rO:kb "bool" "int" = true:=rfl
theorem rY:kb "str" "str" = true:=rfl
theorem rQ:kb "list" "list" = true:=rfl
theorem sN:kb "tuple" "tuple" = true:=rfl
noncomputable def AJ:List V→Hp→VK→Prop:=fun xs H Q=>∃x T n,xs=[x,.ty T]∧okT T∧tyN H x n∧Q (.bl (kb n T)) H
theorem lv{X:Cx}:b6 X (.builtin "isinstance") AJ:=by
 intro pins s σ H xs us Q I r h
 obtain⟨x,T,n,rfl,hT,ty,q⟩:=h
 obtain⟨u,u',rfl,rx,rT⟩:=m5 r
 obtain rfl:u'=Value.type T:=rT
 obtain⟨ty',hn⟩:=wj (K:=X.K) ty
 exact oP I rx ty' (rW hn hT) fun tk=>⟨.bl _,H,I.tok _,rfl,q⟩
theorem tj{i j:Int}:qj (.int i) (.int j)=true:=rfl
theorem sJ{i j:Bool}:qj (.bl i) (.bl j)=true:=rfl
theorem tK{i j:Str}:qj (.str i) (.str j)=true:=rfl
theorem uM{i j:Int}:decide (V.int i=V.int j)=decide (i=j):=by
 by_cases h:i=j
 ·subst h;simp
 ·have:¬ V.int i=V.int j:=fun e=>h (V.int.inj e)
  simp[h,this]
noncomputable def Aa(t u:TS):TS:=fun D σ H=>∃R:St→Hp→Prop,t { D with nx:=R } σ H∧∀σ' H',R σ' H'→u D σ' H'
theorem jR{X:Cx}{st:Stmt}{rest:List Stmt}{t u:TS}(h1:PS X st t)(h2:PSs X rest u):PSs X (st::rest) (Aa t u):=by
 intro pins s σ H D I h
 obtain⟨R,ha,hb⟩:=h
 refine wpAny_execs_cons (thn (h1 pins s σ H { D with nx:=R } I ha) fun f s1 q=>?_)
 cases f with
 | next =>
  obtain⟨σ',H',I',q⟩:=q
  exact h2 pins s1 σ' H' D I' (hb σ' H' q)
 | ret v=>exact q
 | brk=>exact q
 | cont=>exact q
theorem mo{t u:TS}{D:dG}{σ:St}{H:Hp}(R:St→Hp→Prop)(h1:t { D with nx:=R } σ H)(h2:∀σ' H',R σ' H'→u D σ' H'):Aa t u D σ H:=⟨R,h1,h2⟩
theorem bw{lo:Int}{n:Nat}{σ:St}{H:Hp}{DN:St→Hp→Prop}{B:(St→Hp→Prop)→V→St→Hp→Prop}(Pv:Nat→St→Hp→Prop)(h0:Pv 0 σ H)
  (hs:∀i σ H,i<n→Pv i σ H→B (Pv (i+1)) (.int (lo+i)) σ H) (hd:∀σ H,Pv n σ H→DN σ H) :
  ∃W:Nat→Nat→St→Hp→Prop,(∃m,W 0 m σ H)∧∀i m σ H,W i m σ H →
   ((Itr lo n).stop i H∧DN σ H)∨((Itr lo n).go i H∧∃N:St→Hp→Prop,(∀σ' H',N σ' H'→∃m',m'<m∧W (i+1) m' σ' H')∧∀x H',(Itr lo n).yld i H x H'→B N x σ H'):=by
 refine⟨fun i m σ H=>m=n-i∧i≤n∧Pv i σ H,⟨n,by simp,yH _,h0⟩,?_⟩
 rintro i m σ H ⟨rfl,hi,p⟩
 by_cases hlt:i<n
 ·refine .inr ⟨hlt,Pv (i+1),fun σ' H' p'=>⟨n-(i+1),by omega,rfl,hlt,p'⟩,fun x H' y=>?_⟩
  obtain⟨e,y⟩:=y
  subst e y
  exact hs i σ _ hlt p
 ·have e:i=n:=by lia
  subst e
  exact .inl ⟨yi _,hd σ H p⟩
theorem bg{K:PySem.W.Frag}{a:Addr}{xs:List V}{σ:St}{H:Hp}{DN:St→Hp→Prop}{B:(St→Hp→Prop)→V→St→Hp→Prop}(Pv:Nat→St→Hp→Prop)(h0:Pv 0 σ H)
  (hl:∀i σ H,i≤xs.length→Pv i σ H→SqL K H a xs)
  (hs:∀i x σ H,xs[i]? = some x→Pv i σ H→B (Pv (i+1)) x σ H) (hd:∀σ H,Pv xs.length σ H→DN σ H) :
  ∃W:Nat→Nat→St→Hp→Prop,(∃m,W 0 m σ H)∧∀i m σ H,W i m σ H →
   ((Itl K a).stop i H∧DN σ H)∨((Itl K a).go i H∧∃N:St→Hp→Prop,(∀σ' H',N σ' H'→∃m',m'<m∧W (i+1) m' σ' H')∧∀x H',(Itl K a).yld i H x H'→B N x σ H'):=by
 refine⟨fun i m σ H=>m=xs.length-i∧i≤xs.length∧Pv i σ H,⟨xs.length,by simp,yH _,h0⟩,?_⟩
 rintro i m σ H ⟨rfl,hi,p⟩
 have q:=hl i σ H hi p
 by_cases hlt:i<xs.length
 ·refine .inr ⟨⟨xs,xs[i],q,by simp[hlt]⟩,Pv (i+1),fun σ' H' p'=>⟨xs.length-(i+1),by omega,rfl,hlt,p'⟩,fun x H' y=>?_⟩
  obtain⟨e,y⟩:=y
  subst e
  exact hs i x σ _ (y xs q) p
 ·have e:i=xs.length:=by lia
  subst e
  exact .inl ⟨⟨xs,q,yi _⟩,hd σ H p⟩
theorem dX{K:PySem.W.Frag}{a:Addr}{xs:List V}{σ:St}{H:Hp}{DN:St→Hp→Prop}{B:(St→Hp→Prop)→V→St→Hp→Prop}(Pv:Nat→St→Hp→Prop)(h0:Pv 0 σ H)
  (hl:∀i σ H,i≤xs.length→Pv i σ H→SqT K H a xs)
  (hs:∀i x σ H,xs[i]? = some x→Pv i σ H→B (Pv (i+1)) x σ H) (hd:∀σ H,Pv xs.length σ H→DN σ H) :
  ∃W:Nat→Nat→St→Hp→Prop,(∃m,W 0 m σ H)∧∀i m σ H,W i m σ H →
   ((Itt K a).stop i H∧DN σ H)∨((Itt K a).go i H∧∃N:St→Hp→Prop,(∀σ' H',N σ' H'→∃m',m'<m∧W (i+1) m' σ' H')∧∀x H',(Itt K a).yld i H x H'→B N x σ H'):=by
 refine⟨fun i m σ H=>m=xs.length-i∧i≤xs.length∧Pv i σ H,⟨xs.length,by simp,yH _,h0⟩,?_⟩
 rintro i m σ H ⟨rfl,hi,p⟩
 have q:=hl i σ H hi p
 by_cases hlt:i<xs.length
 ·refine .inr ⟨⟨xs,xs[i],q,by simp[hlt]⟩,Pv (i+1),fun σ' H' p'=>⟨xs.length-(i+1),by omega,rfl,hlt,p'⟩,fun x H' y=>?_⟩
  obtain⟨e,y⟩:=y
  subst e
  exact hs i x σ _ (y xs q) p
 ·have e:i=xs.length:=by lia
  subst e
  exact .inl ⟨⟨xs,q,yi _⟩,hd σ H p⟩
end L2
namespace L2
open PySem PySem.Spec PyProof.Rows
noncomputable def dh(env:Env)(cs:List (Str×Addr))(y:Str×NameKind):List (Str×Addr):=if y.2 == .free then (y.1,(env.cells.lookup y.1).getD 0)::cs else cs
noncomputable def jS(names:List (Str×NameKind))(env:Env):List (Str×Addr):=names.foldl (dh env) []
theorem ij{env:Env}:∀(names:List (Str×NameKind)) (acc:List (Str×Addr)),(∀y∈names,y.2=.free→∃c,env.cells.lookup y.1=some c) →
  (forIn names acc fun(x:Str×NameKind) (cs:List (Str×Addr))=>if (x.2 == NameKind.free)=true then (do let a←cellOf env x.1;pure (ForInStep.yield ((x.1,a)::cs))) else (pure (ForInStep.yield cs):Sem (ForInStep (List (Str×Addr)))))=pure (names.foldl (dh env) acc)
 | [],_,_=>rfl
 | y::r,acc,h=>by
  have ih:=ij (env:=env) r
  rw[List.forIn_cons]
  by_cases hk:y.2=.free
  ·obtain⟨c,hc⟩:=h y yq hk
   have hb:(y.2 == NameKind.free)=true:=by rw[hk];rfl
   have e:cellOf env y.1=pure c:=by unfold cellOf;rw[hc]
   rw[if_pos hb,e]
   show(forIn r ((y.1,c)::acc) _:Sem _)=_
   rw[ih _ fun z hz=>h z (yj _ hz),yQ]
   show _=pure (r.foldl (dh env) (if (y.2 == NameKind.free)=true then (y.1,(env.cells.lookup y.1).getD 0)::acc else acc))
   rw[if_pos hb,hc];rfl
  ·have hb:¬(y.2 == NameKind.free)=true:=by simpa using hk
   rw[if_neg hb]
   show(forIn r acc _:Sem _)=_
   rw[ih _ fun z hz=>h z (yj _ hz),yQ]
   show _=pure (r.foldl (dh env) (if (y.2 == NameKind.free)=true then (y.1,(env.cells.lookup y.1).getD 0)::acc else acc))
   rw[if_neg hb]
theorem im{scope:Scope}{env:Env}(h:∀y∈scope.names,y.2=.free→∃c,env.cells.lookup y.1=some c):closureFor scope env=pure (jS scope.names env):=by
 have e:=ij scope.names [] h
 unfold closureFor jS
 refine Eq.trans ?_ (congrArg (fun t=>t >>= fun(r:List (Str×Addr))=>(pure r:Sem (List (Str×Addr)))) e)
 rfl
theorem qp{env:Env}:∀{names:List (Str×NameKind)} {acc:List (Str×Addr)} {p:Str×Addr},p∈names.foldl (dh env) acc→p∈acc∨((p.1,NameKind.free)∈names∧p.2=(env.cells.lookup p.1).getD 0)
 | [],_,_,h=>.inl h
 | y::r,acc,p,h=>by
  rw[yQ] at h
  rcases qp h with h | ⟨h,e⟩
  ·unfold dh at h
   split at h
   ·rename_i hk
    rcases List.mem_cons.mp h with rfl | h
    ·have:y.2=.free:=by simpa using hk
     exact .inr ⟨by rw[← this];exact yq,rfl⟩
    ·exact .inl h
   ·exact .inl h
  ·exact .inr ⟨yj _ h,e⟩
theorem mf{env:Env}{x:Str}:∀{names:List (Str×NameKind)} {acc:List (Str×Addr)},((∃c,(x,c)∈acc)∨(x,NameKind.free)∈names)→∃c,(x,c)∈names.foldl (dh env) acc
 | [],_,h=>by
  rcases h with h | h
  ·exact h
  ·cases h
 | y::r,acc,h=>by
  rw[yQ]
  refine mf ?_
  rcases h with ⟨c,h⟩ | h
  ·refine .inl ⟨c,?_⟩
   unfold dh
   split
   ·exact yj _ h
   ·exact h
  ·rcases List.mem_cons.mp h with rfl | h
   ·refine .inl ⟨(env.cells.lookup x).getD 0,?_⟩
    unfold dh
    exact yq
   ·exact .inr h
theorem cj{x:Str}{c:Addr}:∀{l:List (Str×Addr)},(x,c)∈l→∃c',l.lookup x=some c'
 | [],h=>by cases h
 | (y,d)::r,h=>by
  rw[List.lookup_cons]
  by_cases e:x == y
  ·rw[e];exact⟨d,rfl⟩
  ·have e':(x == y)=false:=by simpa using e
   rw[e']
   rcases List.mem_cons.mp h with z | z
   ·cases z;simp at e
   ·exact cj z
noncomputable def Cx.comp(X:Cx)(scope:Scope)(N':List Str)(s₀:Shared)(H₀:Hp)(fp:List Addr)(C:Addr):Cx where
 prog:=X.prog
 w:=X.w
 K:=X.K
 mg:=X.mg
 base:=X.base
 A:=X.A
 N:=N'
 s₀:=s₀
 H₀:=H₀
 env:=compEnvC scope (jS scope.names X.env) C X.env
 outer:=X.stack
 stack:=X.stack
 ex:=fp
 fn:=fun _=>false
 calm:=X.calm
 pn:=[]
 xe:=fun _ _=>False
structure cZ(X:Cx)(scope:Scope)(N' own fnames:List Str)(fr:List Nat):Prop where
 kind:scope.kind=.function
 nocell:(scope.names.all fun y=>y.2 != .cell)=true
 free:(scope.names.all fun y=>y.2 != .free||X.env.kindOf y.1 == some .cell)=true
 loc:(scope.names.all fun y=>y.2 != .local||scope.names.lookup y.1 == some .local)=true
 fn:(fnames.all fun x=>X.env.kindOf x == some .cell&&(relabel scope X.env).names.lookup x == some .cell)=true
 N:N'=own++fnames
 fr:fr.map (fun j=>X.N[j]?)=fnames.map some
noncomputable def fb(k:Nat)(fr:List Nat)(σ:St):St:=List.replicate k none++fr.map fun j=>(σ[j]?).getD none
noncomputable def PTs(X:Cx)(ifs:List Expr)(t:TT):Prop :=
 ∀(pins:List (Addr×Obj)) (s:Shared) (σ:St) (H:Hp) (Q:Bool→Hp→Prop),Inv X pins σ H s→t σ H Q →
  wpAny (model X.prog X.w) X.A (forIn ifs true fun c r=>if r=true then do let ok←isTrue c X.env (eval c X.env);pure (ForInStep.yield ok) else pure (ForInStep.yield r)) (TP X pins σ Q) X.xe s
noncomputable def uk:TT:=fun _ H Q=>Q true H
theorem bo{X:Cx}:PTs X [] uk:=fun pins s σ H Q I h=>wpAny_pure ⟨H,I,h⟩
theorem dA{X:Cx}{c:Expr}{t:TT}(hc:PT X c t):PTs X [c] t:=by
 intro pins s σ H Q I h
 rw[List.forIn_cons]
 refine wpAny_bind ?_
 rw[if_pos rfl]
 refine wpAny_bind (thn (hc pins s σ H Q I h) fun b s1 q=>wpAny_pure ?_)
 exact wpAny_pure q
section
variable{X:Cx}{scope:Scope}{N' own fnames:List Str}{fr:List Nat}{pins:List (Addr×Obj)}{σ:St}{H:Hp}{s₃:Shared}{fp:List Addr}
theorem cZ.has(S:cZ X scope N' own fnames fr)(ok:X.Ok):∀y∈scope.names,y.2=.free→∃c,X.env.cells.lookup y.1=some c:=fun y hy hf=>by
 have h:=yL.mp S.free y hy
 rw[hf] at h
 exact ok.has _ (.inl (by simpa using h))
theorem cZ.cell(S:cZ X scope N' own fnames fr)(ok:X.Ok){y:Str}{c:Addr}(h:(jS scope.names X.env).lookup y=some c):X.env.cells.lookup y=some c:=by
 rcases qp (PySem.mem_of_lookup h) with z | ⟨z,e⟩
 ·cases z
 ·obtain⟨d,hd⟩:=S.has ok _ z rfl
  have hd':X.env.cells.lookup y=some d:=hd
  have e':c=(X.env.cells.lookup y).getD 0:=e
  rw[hd'] at e'
  rw[hd',e'];rfl
theorem dL{x:Str}{k:NameKind}:∀{l:List (Str×NameKind)},l.lookup x=some k→(x,k)∈l
 | [],h=>by simp at h
 | (y,d)::r,h=>by
  rw[List.lookup_cons] at h
  by_cases e:x == y
  ·rw[e] at h
   have e1:x=y:=by simpa using e
   cases h;subst e1
   exact yq
  ·have e':(x == y)=false:=by simpa using e
   rw[e'] at h
   exact yj _ (dL h)
theorem cZ.names(S:cZ X scope N' own fnames fr){y:Str}{k:NameKind}(h:(relabel scope X.env).names.lookup y=some k)(hk:k=.cell∨k=.free):(y,NameKind.free)∈scope.names:=by
 have hm:=dL h
 unfold relabel at hm
 obtain⟨⟨n,k0⟩,hn,e⟩:=List.mem_map.mp hm
 dsimp only at e
 split at e
 ·rename_i hc
  have:k0=.free:=by
   simp only[yK,beq_iff_eq] at hc
   exact hc.1.1
  cases e;subst this;exact hn
 ·cases e
  rcases hk with rfl | rfl
  ·have:=yL.mp S.nocell _ hn
   simp at this
  ·exact hn
theorem sT{C:Addr}(S:cZ X scope N' own fnames fr)(I:Inv X pins σ H s₃)(hC:s₃.heap.objs.size≤C)(hf:∀b∈fp,fq X pins H b)(hlt:∀b∈fp,b<s₃.heap.objs.size):(X.comp scope N' s₃ H fp C).Ok:=by
 have cellI:∀y c,(jS scope.names X.env).lookup y=some c→X.env.cells.lookup y=some c:=fun y c h=>S.cell I.ok h
 refine⟨I.ok.mod,S.kind,I.ok.glob,I.ok.blt,hC,fun x y c h1 h2=>I.ok.inj x y c (cellI x c h1) (cellI y c h2),fun x hx=>?_,fun x c h=>(by cases h),I.ok.hd,I.ok.frames,.inl rfl,fun b hb=>⟨?_,fun x c h=>(hf b hb).2.2.2.2.1 x c (cellI x c h)⟩,fun b o e=>I.bs b o e,yJ I.ok.bsz I.sz,fun b o e hb=>?_,fun b hb hb'=>?_,I.stack,I.stkFree⟩
 ·have hm:(x,NameKind.free)∈scope.names:=by
   rcases hx with h | h
   ·exact S.names (show(relabel scope X.env).names.lookup x=some .cell from h) (.inl rfl)
   ·exact S.names (show(relabel scope X.env).names.lookup x=some .free from h) (.inr rfl)
  obtain⟨c,hc⟩:=mf (env:=X.env) (acc:=[]) (.inr hm)
  exact cj hc
 ·intro z
  have h1:=hlt b hb
  have z':b=C:=z
  rw[z'] at h1
  exact absurd (yF h1 hC) (yia _)
 ·obtain⟨_,_,_,h3,_⟩:=hf b hb
  rcases h3 with h3 | h3
  ·exact I.ok.noex b o e h3
  ·exact absurd (yF (Heap.lt_size e) (yJ I.ok.bsz h3)) (yia _)
 ·obtain⟨_,h1,h2,_⟩:=hf b hb
  rcases List.mem_cons.mp (I.stkSub b hb') with z | z
  ·exact h1 z
  ·exact h2 z
theorem ma{h₄:Heap}{t₄:Nat}{m:Str→Option Value}(S:cZ X scope N' own fnames fr)(I:Inv X pins σ H s₃)(hf:∀b∈fp,fq X pins H b)(hlt:∀b∈fp,b<s₃.heap.objs.size)
  (k:∀b o,s₃.heap.get? b=some o→h₄.get? b=some o) (hn:h₄.Ns s₃.heap.objs.size m) :
  Inv (X.comp scope N' s₃ H fp s₃.heap.objs.size) [] (fb own.length fr σ) H { s₃ with heap:=h₄,toks:=t₄ }:=by
 have hlen:fr.length=fnames.length:=by simpa using congrArg List.length S.fr
 refine⟨sT S I (yi _) hf hlt,rfl,I.bare,Un.kept k,⟨m,hn,fun i x v e1 e2 e3=>?_⟩,fun y c h=>?_,I.hok.fresh (yi _),fun y c h=>I.freeC y c (S.cell I.ok h),fun p hp=>absurd (show p∈([]:List (Addr×Obj)) from hp) (by simp),I.hok.kept k,?_⟩
 ·have e1':(own++fnames)[i]? = some x:=by rw[← S.N];exact e1
  have hi:own.length≤i:=by
   refine Nat.le_of_not_lt fun z=>?_
   unfold fb at e2
   rw[yZ (by simpa using z),yV,if_pos z] at e2
   cases e2
  unfold fb at e2
  rw[yM (by simpa using hi),yG,yc] at e2
  rw[yM hi] at e1'
  cases q:fr[i-own.length]? with
  | none=>rw[q] at e2;cases e2
  | some t =>
   rw[q] at e2
   have e2':(σ[t]?).getD none=some v:=yt e2
   have hσ:σ[t]? = some (some v):=by
    cases z:σ[t]? with
    | none=>rw[z] at e2'; cases e2'
    | some o=>rw[z] at e2'; exact congrArg some e2'
   have hN:X.N[t]? = some x:=by
    have z:=congrArg (fun l=>l[i-own.length]?) S.fr
    simp only[yc,q,e1',yT] at z
    exact yt z
   have hx:x∈fnames:=yk e1'
   have hk:=yL.mp S.fn x hx
   simp only[yK,beq_iff_eq] at hk
   obtain⟨mX,_,hl⟩:=I.loc
   obtain⟨u,r,l⟩:=hl t x v hN hσ (.inr (.inl hk.1))
   refine⟨u,r,?_⟩
   rcases l with ⟨kl,_⟩ | ⟨_,c,hc,o,ho,hd⟩
   ·rw[hk.1] at kl;cases kl
   ·obtain⟨d,hd'⟩:=mf (env:=X.env) (acc:=[]) (.inr (S.names hk.2 (.inl rfl)))
    obtain⟨c',hc'⟩:=cj hd'
    have z:=S.cell I.ok hc'
    rw[hc] at z
    cases z
    exact .inr ⟨.inl hk.2,c,hc',o,k c o ho,hd⟩
 ·obtain⟨v,o,ho,hd⟩:=I.cell y c (S.cell I.ok h)
  exact⟨v,o,k c o ho,hd⟩
 ·unfold fb
  show _=N'.length
  rw[S.N,yd,yd,yG,ya,hlen]
noncomputable def xM(k:Nat)(fr:List Nat)(g:TG)(tt:TT)(te:TE)(J:It)(σ:St)(H1:Hp)(Q:VK):Prop :=
 ∀D,H1 D=none→∃W:Nat→Nat→St→Hp→Prop,(∃m,W 0 m (fb k fr σ) (upd H1 D (.lst [])))∧∀i m σ' H',W i m σ' H' →
  (J.stop i H'∧Q (.ref D) H')∨(J.go i H'∧∃N:St→Hp→Prop,(∀σ2 H2,N σ2 H2→∃m',m'<m∧W (i+1) m' σ2 H2)∧∀x H2,J.yld i H' x H2 →
   g x σ' H2 fun σ2 H3=>tt σ2 H3 fun b H4=>if b=true then te σ2 H4 fun v H5=>∃xs,H5 D=some (.lst xs)∧xs.length<sizeLine∧N σ2 (upd H5 D (.lst (xs++[v]))) else N σ2 H4)
noncomputable def py(wi:TI)(k:Nat)(fr:List Nat)(g:TG)(tt:TT)(te:TE):TE:=fun σ H Q=>wi σ H fun J H1=>xM k fr g tt te J σ H1 Q
theorem kE{elt tg iter:Expr}{ifs:List Expr}{pos:Pos}{g:TG}{tt:TT}{te:TE}{s₂:Shared}{H2:Hp}{J:It}{it:Addr}{tn:Nat→Heap→Prop}{RR:Value→Addr→Result→Shared→Prop}{E:Value→Shared→Prop}{Q:VK}
  (S:cZ X scope N' own fnames fr) (hc:X.calm=true)
  (hb:∀(s₀:Shared) (H₀:Hp) (fp:List Addr) (C:Addr),PG (X.comp scope N' s₀ H₀ fp C) tg g∧PTs (X.comp scope N' s₀ H₀ fp C) ifs tt∧PE (X.comp scope N' s₀ H₀ fp C) elt te)
  (I2:Inv X pins σ H2 s₂) (T:kY X.prog X.w X.K tg J fp it tn) (st2:tn 0 s₂.heap) (f2:∀b∈fp,fq X pins H2 b) (hq:xM own.length fr g tt te J σ H2 Q)
  (hRR:∀D C H' s',Inv X pins σ H' s'→(∃m,s'.heap.Ns C m)→fq X pins H' C→Q (.ref D) H'→RR (.ref D) C (.ok .next) s') :
  wpAny (model X.prog X.w) X.A (newList []) (fun acc s₃=>wpAny (model X.prog X.w) X.A (newFunctionEnv scope X.env.globals (jS scope.names X.env) [] X.env.qual none .none (some X.env)) (fun cenv s₄ =>
   codeAny (model X.prog X.w) X.A (.compStart (.ListComp elt [⟨tg,iter,ifs,0⟩] scope pos) 0 (.ref it) acc { cenv with scope:=relabel scope X.env }) (RR acc cenv.locals) s₄) E s₃) E s₂:=by
 have nocell:∀y∈scope.names,y.2≠.cell:=fun y hy z=>by
  have:=yL.mp S.nocell y hy
  rw[z] at this
  simp at this
 refine wpAny_newObj_type (wpAny_newFunctionEnv nocell (by intro y hy;simp at hy) (fun h₁ hns₁ hsb₁=>?_) S.kind)
 have hlt2:∀b∈fp,b<s₂.heap.objs.size:=fun b hb'=>by
  obtain⟨o,e,_⟩:=T.obj _ _ st2 b hb'
  exact Heap.lt_size e
 have I3:Inv X pins σ (upd H2 s₂.heap.objs.size (.lst [])) { s₂ with heap:=s₂.heap.push { cls:=.type "list",data:=.seq ([]:List Value).toArray },toks:=s₂.toks }:=I2.lnew (its:=[]) (ys:=[]) .nil (yH _)
 have hD:H2 s₂.heap.objs.size=none:=I2.fresh
 obtain⟨W,⟨m0,w0⟩,turn⟩:=hq _ hD
 generalize hs3:({ s₂ with heap:=s₂.heap.push { cls:=.type "list",data:=.seq ([]:List Value).toArray },toks:=s₂.toks }:Shared)=s₃ at I3
 have eh:s₃.heap=s₂.heap.push { cls:=.type "list",data:=.seq ([]:List Value).toArray }:=by rw[← hs3]
 have hsz:s₃.heap.objs.size=s₂.heap.objs.size+1:=by rw[eh,Heap.size_push]
 have f3:∀b∈fp,fq X pins (upd H2 s₂.heap.objs.size (.lst [])) b:=fun b hb'=>by
  refine⟨?_,(f2 b hb').2⟩
  rw[av (yE (hlt2 b hb'))]
  exact(f2 b hb').1
 have hlt3:∀b∈fp,b<s₃.heap.objs.size:=fun b hb'=>by rw[hsz];exact ySa (hlt2 b hb')
 have old:∀b o,s₃.heap.get? b=some o→h₁.get? b=some o:=fun b o e=>by
  have hb1:b≠s₃.heap.objs.size:=yE (Heap.lt_size e)
  refine hsb₁.extBut b o ?_ ?_
  ·show b≠(s₂.heap.push _).objs.size
   rw[← eh];exact hb1
  ·show(Heap.push (s₂.heap.push _) _).get? b=some o
   rw[← eh]
   exact Heap.get?_push_of_some _ e
 have hns:∃m,h₁.Ns s₃.heap.objs.size m:=⟨_,by rw[eh];exact hns₁⟩
 obtain⟨m1,hns⟩:=hns
 have I4:Inv (X.comp scope N' s₃ (upd H2 s₂.heap.objs.size (.lst [])) fp s₃.heap.objs.size) [] (fb own.length fr σ) (upd H2 s₂.heap.objs.size (.lst [])) { s₃ with heap:=h₁,toks:=s₂.toks+([]:List (Str×Value)).length } :=
  ma S I3 f3 hlt3 old hns
 have st4:tn 0 h₁:=T.keep _ _ _ st2 fun b hb' o e=>old b o (by rw[eh];exact Heap.get?_push_of_some _ e)
 obtain⟨hpg,hpt,hpe⟩:=hb s₃ (upd H2 s₂.heap.objs.size (.lst [])) fp s₃.heap.objs.size
 have fpok:∀{H':Hp},(∀b∈fp,H' b=none)→∀b∈fp,fq (X.comp scope N' s₃ (upd H2 s₂.heap.objs.size (.lst [])) fp s₃.heap.objs.size) [] H' b:=fun hn b hb' =>
  ⟨hn b hb',fun z=>by
    have h1:=hlt3 b hb'
    have z':b=s₃.heap.objs.size:=z
    rw[z'] at h1
    exact absurd h1 (yia _),fun z=>I4.ok.exfs b hb' z,.inl hb',fun x c e=>(I4.ok.exf b hb').2 x c e,fun p hp=>absurd (show p∈([]:List (Addr×Obj)) from hp) (by simp)⟩
 have loop:∀s4:Shared,s4 = { s₃ with heap:=h₁,toks:=s₂.toks+([]:List (Str×Value)).length } →
   codeAny (model X.prog X.w) X.A (.compLoop (.ListComp elt [⟨tg,iter,ifs,0⟩] scope pos) 0 (.ref it) (.ref s₂.heap.objs.size) (compEnvC scope (jS scope.names X.env) s₃.heap.objs.size X.env)) (RR (.ref s₂.heap.objs.size) s₃.heap.objs.size) s4:=by
  rintro s4 rfl
  refine codeAny_loop rfl (fun n s=>∃i σ' H',Inv (X.comp scope N' s₃ (upd H2 s₂.heap.objs.size (.lst [])) fp s₃.heap.objs.size) [] σ' H' s∧tn i s.heap∧(∀b∈fp,H' b=none)∧W i n σ' H') ?_ m0
   ⟨0,_,_,I4,st4,fun b hb'=>(f3 b hb').1,w0⟩
  rintro n s5 ⟨i,σ5,H5,I5,st5,fr5,w5⟩
  show wpAny _ X.A ((compTurn (.ListComp elt [⟨tg,iter,ifs,0⟩] scope pos) 0 (.ref it) (.ref s₂.heap.objs.size) (compEnvC scope (jS scope.names X.env) s₃.heap.objs.size X.env)).onRaise (fun x=>do noteFrame x (compEnvC scope (jS scope.names X.env) s₃.heap.objs.size X.env);theTreesLotGoes x)) _ _ s5
  refine wpAny_noted ?_
  rw[compTurn_list]
  refine wpAny_bind (wpAny_standAt (wpAny_bind ?_))
  rcases turn i n σ5 H5 w5 with ⟨stop,q⟩ | ⟨go,N,hN,step⟩
  ·refine wpAny_mono (T.done (X.comp scope N' s₃ (upd H2 s₂.heap.objs.size (.lst [])) fp s₃.heap.objs.size) rfl rfl rfl hc i [] s5 σ5 H5 (fun _ _=>False) I5 (fpok fr5) st5 stop) (fun r s6 hr=>?_) fun _ _ z=>z.elim
   obtain⟨rfl,I6⟩:=hr
   refine wpAny_pure ?_
   obtain⟨m6,hn6,_⟩:=id I6.loc
   have I7:Inv X pins σ H5 s6:=I3.call' (ch:=fp) I6.os I6.base I6.hok I6.bare fun b hb'=>by
    obtain⟨_,h1,_,h3,h4,h5⟩:=f3 b hb'
    exact⟨h3,h1,h4,h5⟩
   exact hRR _ _ H5 s6 I7 ⟨m6,hn6⟩ (I3.fpOk (yi _) I6.free) q
  ·refine wpAny_mono (T.item (X.comp scope N' s₃ (upd H2 s₂.heap.objs.size (.lst [])) fp s₃.heap.objs.size) rfl rfl rfl hc i [] s5 σ5 H5 (fun _ _=>False) I5 (fpok fr5) st5 go) (fun r s6 hr=>?_) fun _ _ z=>z.elim
   obtain⟨u,rfl,h6⟩:=hr
   refine wpAny_bind (wpAny_mono h6 (fun _ s7 h7=>?_) fun _ _ z=>z.elim)
   obtain⟨x,H7,I7,r7,y7,st7,fr7⟩:=h7
   have I7':=I7.pinned (fpok fr7) (T.obj _ _ st7)
   refine wpAny_bind (wpAny_mono (hpg _ s7 σ5 H7 x u _ I7' r7 (step x H7 y7)) (fun _ s8 h8=>?_) fun _ _ z=>z.elim)
   obtain⟨σ8,H8,I8,q8⟩:=h8
   have again':∀{σ9:St} {H9:Hp} {s9:Shared},Inv (X.comp scope N' s₃ (upd H2 s₂.heap.objs.size (.lst [])) fp s₃.heap.objs.size) ([]++iw fp s7.heap) σ9 H9 s9→N σ9 H9 →
     ∃m,m<n∧∃i σ' H',Inv (X.comp scope N' s₃ (upd H2 s₂.heap.objs.size (.lst [])) fp s₃.heap.objs.size) [] σ' H' s9∧tn i s9.heap∧(∀b∈fp,H' b=none)∧W i m σ' H':=fun {σ9 H9 s9} I9 n9=>by
    obtain⟨m',hm,w9⟩:=hN σ9 H9 n9
    refine⟨m',hm,i+1,σ9,H9,I9.unpinned,T.keep _ _ _ st7 fun b hb' o e=>(I9.pin (b,o) (yB _ (yB _ (dk hb' e)))).1,fun b hb'=>?_,w9⟩
    obtain⟨o,e,d⟩:=T.obj _ _ st7 b hb'
    exact(I9.pin (b,o) (yB _ (yB _ (dk hb' e)))).2.1
   refine wpAny_bind (wpAny_mono (hpt _ s8 σ8 H8 _ I8 q8) (fun b s9 h9=>?_) fun _ _ z=>z.elim)
   obtain⟨H9,I9,q9⟩:=h9
   cases b with
   | false =>
    rw[if_neg yr] at q9
    exact wpAny_pure ⟨rfl,again' I9 q9⟩
   | true =>
    rw[if_pos rfl] at q9
    refine wpAny_bind (wpAny_bind (wpAny_mono (hpe _ s9 σ8 H9 _ I9 q9) (fun v s10 h10=>?_) fun _ _ z=>z.elim))
    obtain⟨y,H10,I10,r10,xs,hx,hz,q10⟩:=h10
    refine wpAny_bind (wpAny_mono (b5 (X:=X.comp scope N' s₃ (upd H2 s₂.heap.objs.size (.lst [])) fp s₃.heap.objs.size) _ s10 σ8 H10 (.ref s₂.heap.objs.size) [y] (.ref s₂.heap.objs.size) [v] (fun _ H'=>N σ8 H') I10 rfl (.cons r10 .nil) ⟨_,xs,y,rfl,rfl,hx,hz,q10⟩) (fun r s11 h11=>?_) fun _ _ z=>z.elim)
    obtain⟨_,H11,I11,_,q11⟩:=h11
    exact wpAny_pure (wpAny_pure ⟨rfl,again' I11 q11⟩)
 have e3:({ s₂ with heap:=s₂.heap.push { cls:=.type "list",data:=.seq ([]:List Value).toArray } }:Shared)=s₃:=hs3
 have go4:=codeAny_compStart_list (loop _ rfl) (T.self X.A 0 _ _ _ st4 (loop _ rfl))
 subst hs3
 exact go4
theorem bp{elt tg iter:Expr}{ifs:List Expr}{pos:Pos}{wi:TI}{g:TG}{tt:TT}{te:TE}(S:cZ X scope N' own fnames fr)(hc:X.calm=true)(hi:PI X tg iter wi)
  (hb:∀(s₀:Shared) (H₀:Hp) (fp:List Addr) (C:Addr),PG (X.comp scope N' s₀ H₀ fp C) tg g∧PTs (X.comp scope N' s₀ H₀ fp C) ifs tt∧PE (X.comp scope N' s₀ H₀ fp C) elt te)
  (hs:∀x,foldedSetIterable iter X.env x=pure x:=by intro _;rfl):PE X (.ListComp elt [⟨tg,iter,ifs,0⟩] scope pos) (py wi own.length fr g tt te):=by
 intro pins s σ H Q I h
 rw[eval_ListComp]
 refine wpAny_comprehension_free (use:=none) rfl hs (im (S.has I.ok)) S.kind (fun y hy hl=>?_) (wpAny_mono (hi pins s σ H _ I h) (fun xv s₁ h₁=>wpAny_mono h₁ (fun itv s₂ h₂=>?_) fun _ _ e=>e) fun _ _ e=>e)
 ·have:=yL.mp S.loc y hy
  rw[hl] at this
  simpa using this
 ·obtain⟨it,fp,tn,J,H2,rfl,I2,T,st2,f2,q2⟩:=h₂
  refine kE S hc hb I2 T st2 f2 q2 (RR:=fun acc C=>compPost (model X.prog X.w) X.A X.xe none (EP X pins σ Q) acc C) fun D C H' s' I' hn fC q=>?_
  obtain⟨m,hn⟩:=hn
  obtain⟨f0,f1,f2',f3,f4,f5⟩:=fC
  exact⟨m,hn,fun h' hs'=>⟨.ref D,H',I'.turned (t':=s'.toks) (fun b o hb' e=>(hs'.2 b hb').trans e) f0 f1 f3 f4 f5,rfl,q⟩⟩
theorem da{i:Nat}{x:Str}{pos' spos:Pos}{elt tg iter:Expr}{ifs:List Expr}{pos:Pos}{wi:TI}{g:TG}{tt:TT}{te:TE}(hN:X.N.Nodup)(hi':X.N[i]? = some x)(hx:X.env.scope.names.lookup x=some .local)(S:cZ X scope N' own fnames fr)(hc:X.calm=true)(hi:PI X tg iter wi)
  (hb:∀(s₀:Shared) (H₀:Hp) (fp:List Addr) (C:Addr),PG (X.comp scope N' s₀ H₀ fp C) tg g∧PTs (X.comp scope N' s₀ H₀ fp C) ifs tt∧PE (X.comp scope N' s₀ H₀ fp C) elt te)
  (hsw:swapsWith (.ListComp elt [⟨tg,iter,ifs,0⟩] scope pos) (some (.Name x pos')) spos.line X.env=pure true:=by rfl)
  (hs:∀x,foldedSetIterable iter X.env x=pure x:=by intro _;rfl):PS X (.Assign [.Name x pos'] (.ListComp elt [⟨tg,iter,ifs,0⟩] scope pos) spos) (rR (py wi own.length fr g tt te) (nD i)):=by
 intro pins s σ H D I h
 rw[exec_Assign_Name_used _ _ _ _ hsw]
 refine wpAny_bind (wpAny_standAt (wpAny_bind ?_))
 show wpAny _ X.A (do let _←comprehension (.ListComp elt [⟨tg,iter,ifs,0⟩] scope pos) scope X.env _ (newList []) false (eval iter X.env) (some (assign (.Name x pos') X.env))) _ _ s
 refine wpAny_bind (wpAny_mono (wpAny_comprehension_free (use:=some (assign (.Name x pos') X.env)) (Q:=fun _ s'=>SP X pins D .next s') rfl hs (im (S.has I.ok)) S.kind (fun y hy hl=>?_)
  (wpAny_mono (hi pins s σ H _ I h) (fun xv s₁ h₁=>wpAny_mono h₁ (fun itv s₂ h₂=>?_) fun _ _ e=>e) fun _ _ e=>e)) (fun _ s' hq=>wpAny_pure (wpAny_pure hq)) fun _ _ e=>e)
 ·have:=yL.mp S.loc y hy
  rw[hl] at this
  simpa using this
 ·obtain⟨it,fp,tn,J,H2,rfl,I2,T,st2,f2,q2⟩:=h₂
  refine kE S hc hb I2 T st2 f2 q2 (RR:=fun acc C=>compPost (model X.prog X.w) X.A X.xe (some (assign (.Name x pos') X.env)) (fun _ s'=>SP X pins D .next s') acc C) fun D' C H' s' I' hn fC q=>?_
  obtain⟨m,hn⟩:=hn
  obtain⟨f0,f1,f2',f3,f4,f5⟩:=fC
  show wpAny _ X.A (assign (.Name x pos') X.env (.ref D')) _ _ _
  refine wpAny_assign_Name (jv I' hN hi' (.inl hx) (v:=.ref D') rfl (fun s'' I'' hch=>?_) (.inr hx))
  obtain⟨a,hsa,hca⟩:=hch
  have hCa:C≠a:=by
   rcases hca with z | z
   ·rw[z];exact f1
   ·exact fun e=>f4 x a z e.symm
  refine⟨m,hn.sameBut hsa hCa,fun h' hs'=>⟨_,H',I''.turned (t':=s''.toks) (fun b o hb' e=>(hs'.2 b hb').trans e) f0 f1 f3 f4 f5,q⟩⟩
end
end L2
namespace L2
open PySem PySem.Spec PyProof.Rows
inductive DV where
 | int (i:Int) | bl (b:Bool) | str (x:Str) | non | lst (xs:List DV) | tup (xs:List DV)
noncomputable def Den(K:PySem.W.Frag)(H:Hp):Nat→V→DV→Prop
 | _,.int i,.int j=>i=j
 | _,.bl i,.bl j=>i=j
 | _,.str i,.str j=>i=j
 | _,.non,.non=>True
 | n+1,.ref a,.lst ds=>∃xs,SqL K H a xs∧Paired (Den K H n) xs ds
 | n+1,.ref a,.tup ds=>∃xs,SqT K H a xs∧Paired (Den K H n) xs ds
 | _,_,_=>False
noncomputable def fw:Nat→DV→DV→Prop
 | _,.int _,.int _=>True
 | _,.bl _,.bl _=>True
 | _,.str _,.str _=>True
 | _,.non,.non=>True
 | n+1,.lst ds,.lst es=>ds.length=es.length→∀(i:Nat) d e,ds[i]? = some d→es[i]? = some e→fw n d e
 | n+1,.tup ds,.tup es=>∀(i:Nat) d e,ds[i]? = some d→es[i]? = some e→fw n d e
 | _,_,_=>False
theorem Paired.get'{α β:Type}{F:α→β→Prop}:∀{xs:List α} {ys:List β} {i:Nat} {x:α},Paired F xs ys→xs[i]? = some x→∃y,ys[i]? = some y∧F x y
 | _,_,_,_,.nil,e=>by simp at e
 | _,_,0,_,.cons r _,e=>by simp at e;subst e;exact⟨_,rfl,r⟩
 | _,_,i+1,x,.cons _ t,e=>by
  obtain⟨u,h1,h2⟩:=Paired.get' (i:=i) (x:=x) t (by simpa using e)
  exact⟨u,by simpa using h1,h2⟩
section
variable{X:Cx}{pins:List (Addr×Obj)}{σ:St}{H:Hp}{s:Shared}
theorem c8{α β:Type}{F:α→β→Prop}(hF:∀x d e,F x d→F x e→d=e):∀{xs:List α} {ds es:List β},Paired F xs ds→Paired F xs es→ds=es
 | _,_,_,.nil,.nil=>rfl
 | _,_,_,.cons a b,.cons c d=>by rw[hF _ _ _ a c,c8 hF b d]
theorem ll(I:Inv X pins σ H s){a:Addr}{xs ys:List V}(h:SqL X.K H a xs)(h':SqT X.K H a ys):False:=by
 obtain⟨its,_,⟨o,n,e,c,_⟩,_⟩:=I.list h
 obtain⟨its',_,⟨o',e',c',_⟩,_⟩:=I.tuple h'
 rw[e] at e'; cases e'
 rw[c] at c'
 exact absurd c' (by decide)
theorem nN(I:Inv X pins σ H s):∀(n:Nat) (x:V) (d e:DV),Den X.K H n x d→Den X.K H n x e→d=e:=by
 intro n
 induction n with
 | zero =>
  intro x d e h1 h2
  cases x <;> cases d <;> simp only[Den] at h1 <;> cases e <;> simp only[Den] at h2 <;> first | rfl | (subst h1;subst h2;rfl)
 | succ n ih =>
  intro x d e h1 h2
  cases x with
  | ref a =>
   cases d with
   | lst ds =>
    obtain⟨xs,hs,hp⟩:∃xs,SqL X.K H a xs∧Paired (Den X.K H n) xs ds:=h1
    cases e with
    | lst es =>
     obtain⟨ys,hs',hp'⟩:∃xs,SqL X.K H a xs∧Paired (Den X.K H n) xs es:=h2
     rw[I.list_inj hs' hs] at hp'
     rw[c8 ih hp hp']
    | tup es =>
     obtain⟨ys,hs',hp'⟩:∃xs,SqT X.K H a xs∧Paired (Den X.K H n) xs es:=h2
     exact(ll I hs hs').elim
    | _=>exact False.elim h2
   | tup ds =>
    obtain⟨xs,hs,hp⟩:∃xs,SqT X.K H a xs∧Paired (Den X.K H n) xs ds:=h1
    cases e with
    | tup es =>
     obtain⟨ys,hs',hp'⟩:∃xs,SqT X.K H a xs∧Paired (Den X.K H n) xs es:=h2
     rw[I.tuple_inj hs' hs] at hp'
     rw[c8 ih hp hp']
    | lst es =>
     obtain⟨ys,hs',hp'⟩:∃xs,SqL X.K H a xs∧Paired (Den X.K H n) xs es:=h2
     exact(ll I hs' hs).elim
    | _=>exact False.elim h2
   | _=>exact False.elim h1
  | int i=>cases d <;> simp only[Den] at h1 <;> cases e <;> simp only[Den] at h2 <;> (subst h1;subst h2;rfl)
  | bl i=>cases d <;> simp only[Den] at h1 <;> cases e <;> simp only[Den] at h2 <;> (subst h1;subst h2;rfl)
  | str i=>cases d <;> simp only[Den] at h1 <;> cases e <;> simp only[Den] at h2 <;> (subst h1;subst h2;rfl)
  | non=>cases d <;> simp only[Den] at h1 <;> cases e <;> simp only[Den] at h2 <;> rfl
  | _=>cases d <;> exact False.elim h1
open Classical in
noncomputable def eqD(d e:DV):Bool:=decide (d=e)
theorem dP(d:DV):eqD d d=true:=by simp[eqD]
theorem fc{ds es:List DV}(h:ds.length=es.length):((List.range ds.length).all fun j=>eqD (ds[j]?.getD (.int 0)) (es[j]?.getD (.int 0)))=eqD (.lst ds) (.lst es):=by
 rw[yca]
 simp only[yL,yu,eqD,decide_eq_true_eq,DV.lst.injEq]
 constructor
 ·intro hj
  refine yma fun i=>?_
  by_cases hi:i<ds.length
  ·have:=hj i hi
   rw[yb hi,yb (by lia:i<es.length)] at this ⊢
   simpa using this
  ·rw[yC (by lia),yC (by lia)]
 ·rintro rfl j _
  rfl
theorem gm{ds es:List DV}:(((List.range (min ds.length es.length)).all fun j=>eqD (ds[j]?.getD (.int 0)) (es[j]?.getD (.int 0)))&&ds.length == es.length)=eqD (.tup ds) (.tup es):=by
 by_cases h:ds.length=es.length
 ·have e:eqD (.tup ds) (.tup es)=eqD (.lst ds) (.lst es):=by simp[eqD]
  rw[e,← fc h,h]
  simp[h]
 ·have:¬ ds=es:=fun e=>h (congrArg List.length e)
  have e:eqD (.tup ds) (.tup es)=false:=by simp[eqD,this]
  rw[e]
  simp[h]
theorem qL(I:Inv X pins σ H s):∀(n:Nat) (A:Around) (x y:V) (d e:DV) (u v:Value),Den X.K H n x d→Den X.K H n y e→fw n d e→aX x u→aX y v→A.units+n<cLine→SeqAt.EqAt A s u v (eqD d e):=by
 intro n
 have leaf:∀(n:Nat) (A:Around) (x y:V) (d e:DV) (u v:Value),(∀a,x≠.ref a)→Den X.K H n x d→Den X.K H n y e→fw n d e→aX x u→aX y v→SeqAt.EqAt A s u v (eqD d e):=by
  intro n A x y d e u v hx h1 h2 hl r1 r2
  cases x with
  | ref a=>exact absurd rfl (hx a)
  | non =>
   cases d <;> simp only[Den] at h1
   cases e <;> simp only[fw] at hl
   cases y <;> simp only[Den] at h2
   cases r1
   cases r2
   rw[dP]
   exact SeqAt.EqAt.same _
  | int i =>
   cases d <;> simp only[Den] at h1
   subst h1
   cases e <;> simp only[fw] at hl
   cases y <;> simp only[Den] at h2
   subst h2
   obtain⟨t,rfl⟩:=r1
   obtain⟨t',rfl⟩:=r2
   rename_i j
   have e1:eqD (.int i) (.int j)=(i == j):=by
    rw[yca];simp[eqD]
   rw[e1]
   exact SeqAt.EqAt.int_int i t j t'
  | bl i =>
   cases d <;> simp only[Den] at h1
   subst h1
   cases e <;> simp only[fw] at hl
   cases y <;> simp only[Den] at h2
   subst h2
   cases r1
   cases r2
   rename_i j
   have e1:eqD (.bl i) (.bl j)=(i == j):=by
    rw[yca];simp[eqD]
   rw[e1]
   exact SeqAt.EqAt.bool_bool i j
  | str i =>
   cases d <;> simp only[Den] at h1
   subst h1
   cases e <;> simp only[fw] at hl
   cases y <;> simp only[Den] at h2
   subst h2
   obtain⟨t,rfl⟩:=r1
   obtain⟨t',rfl⟩:=r2
   rename_i j
   have e1:eqD (.str i) (.str j)=(i == j):=by
    rw[yca];simp[eqD]
   rw[e1]
   exact SeqAt.EqAt.str_str i t j t'
  | _=>cases n <;> cases d <;> exact False.elim h1
 induction n with
 | zero =>
  intro A x y d e u v h1 h2 hl r1 r2 hu
  refine leaf 0 A x y d e u v (fun a z=>?_) h1 h2 hl r1 r2
  subst z
  cases d <;> exact False.elim h1
 | succ n ih =>
  intro A x y d e u v h1 h2 hl r1 r2 hu
  cases x with
  | ref a =>
   cases r1
   cases d with
   | lst ds =>
    obtain⟨xs,hs,hp⟩:∃xs,SqL X.K H a xs∧Paired (Den X.K H n) xs ds:=h1
    cases e with
    | lst es =>
     cases y with
     | ref b =>
      cases r2
      obtain⟨ys,hs',hp'⟩:∃xs,SqL X.K H b xs∧Paired (Den X.K H n) xs es:=h2
      by_cases hab:a=b
      ·subst hab
       rw[I.list_inj hs' hs] at hp'
       rw[c8 (nN I n) hp hp',dP]
       exact SeqAt.EqAt.same _
      ·refine SeqAt.EqAt.of_refs hab ?_
       obtain⟨its,ri,pl,_⟩:=I.list hs
       obtain⟨its',ri',pl',_⟩:=I.list hs'
       have l1:=ri.length
       have l2:=ri'.length
       have l3:xs.length=ds.length:=Paired.length hp
       have l4:ys.length=es.length:=Paired.length hp'
       by_cases hlen:ds.length=es.length
       ·rw[← fc hlen]
        have hsz:its.toArray.size=its'.toArray.size:=by rw[ye,ye];lia
        have:=SeqAt.RcAt.lists (e:=fun j=>eqD (ds[j]?.getD (.int 0)) (es[j]?.getD (.int 0))) pl.isList pl'.isList hsz (by lia:A.units<cLine) (fun j h1' h2'=>?_)
        ·rw[ye,← l1,l3] at this
         exact this
        ·rw[ye] at h1' h2'
         have hj1:xs[j]? = some xs[j]:=yb (by lia)
         have hj2:ys[j]? = some ys[j]:=yb (by lia)
         obtain⟨d',hd,hdd⟩:=Paired.get' hp hj1
         obtain⟨e',he,hee⟩:=Paired.get' hp' hj2
         obtain⟨u',hu',ru'⟩:=ri.get hj1
         obtain⟨v',hv',rv'⟩:=ri'.get hj2
         have eu:its.toArray[j]=u':=by
          have:its[j]? = some its[j]:=yb h1'
          rw[this] at hu'; simpa using yt hu'
         have ev:its'.toArray[j]=v':=by
          have:its'[j]? = some its'[j]:=yb h2'
          rw[this] at hv'; simpa using yt hv'
         rw[eu,ev,hd,he]
         exact ih A.in1 _ _ d' e' u' v' hdd hee (hl hlen j d' e' hd he) ru' rv' (by show A.units+1+n<cLine;lia)
       ·have hne:¬ ds=es:=fun z=>hlen (congrArg List.length z)
        have e1:eqD (.lst ds) (.lst es)=false:=by simp[eqD,hne]
        rw[e1]
        exact SeqAt.RcAt.lists_lengths pl.isList pl'.isList (by simp only[ye,bne_iff_ne,ne_eq];lia) (by lia)
     | _=>exact False.elim h2
    | _=>exact False.elim hl
   | tup ds =>
    obtain⟨xs,hs,hp⟩:∃xs,SqT X.K H a xs∧Paired (Den X.K H n) xs ds:=h1
    cases e with
    | tup es =>
     cases y with
     | ref b =>
      cases r2
      obtain⟨ys,hs',hp'⟩:∃xs,SqT X.K H b xs∧Paired (Den X.K H n) xs es:=h2
      by_cases hab:a=b
      ·subst hab
       rw[I.tuple_inj hs' hs] at hp'
       rw[c8 (nN I n) hp hp',dP]
       exact SeqAt.EqAt.same _
      ·refine SeqAt.EqAt.of_refs hab ?_
       obtain⟨its,ri,pl,_⟩:=I.tuple hs
       obtain⟨its',ri',pl',_⟩:=I.tuple hs'
       have l1:=ri.length
       have l2:=ri'.length
       have l3:xs.length=ds.length:=Paired.length hp
       have l4:ys.length=es.length:=Paired.length hp'
       rw[← gm]
       have:=SeqAt.RcAt.tuples (e:=fun j=>eqD (ds[j]?.getD (.int 0)) (es[j]?.getD (.int 0))) (show s.heap.IsTuple a its.toArray from pl) (show s.heap.IsTuple b its'.toArray from pl') (by lia:A.units<cLine) (fun j h1' h2'=>?_)
       ·rw[ye,ye,← l1,l3,← l2,l4] at this
        exact this
       ·rw[ye] at h1' h2'
        have hj1:xs[j]? = some xs[j]:=yb (by lia)
        have hj2:ys[j]? = some ys[j]:=yb (by lia)
        obtain⟨d',hd,hdd⟩:=Paired.get' hp hj1
        obtain⟨e',he,hee⟩:=Paired.get' hp' hj2
        obtain⟨u',hu',ru'⟩:=ri.get hj1
        obtain⟨v',hv',rv'⟩:=ri'.get hj2
        have eu:its.toArray[j]=u':=by
         have:its[j]? = some its[j]:=yb h1'
         rw[this] at hu'; simpa using yt hu'
        have ev:its'.toArray[j]=v':=by
         have:its'[j]? = some its'[j]:=yb h2'
         rw[this] at hv'; simpa using yt hv'
        rw[eu,ev,hd,he]
        exact ih A.in1 _ _ d' e' u' v' hdd hee (hl j d' e' hd he) ru' rv' (by show A.units+1+n<cLine;lia)
     | _=>exact False.elim h2
    | _=>exact False.elim hl
   | _=>exact False.elim h1
  | int i=>exact leaf (n+1) A (.int i) y d e u v (fun _ z=>nomatch z) h1 h2 hl r1 r2
  | bl i=>exact leaf (n+1) A (.bl i) y d e u v (fun _ z=>nomatch z) h1 h2 hl r1 r2
  | str i=>exact leaf (n+1) A (.str i) y d e u v (fun _ z=>nomatch z) h1 h2 hl r1 r2
  | non=>exact leaf (n+1) A .non y d e u v (fun _ z=>nomatch z) h1 h2 hl r1 r2
  | _=>cases d <;> exact False.elim h1
end
section
variable{X:Cx}{pins:List (Addr×Obj)}{σ:St}{H:Hp}{s:Shared}
theorem hZ(I:Inv X pins σ H s){n:Nat}{A:Around}{a b:Addr}{ds es:List DV}(h1:Den X.K H (n+1) (.ref a) (.lst ds))(h2:Den X.K H (n+1) (.ref b) (.lst es))(hl:fw (n+1) (.lst ds) (.lst es))(hu:A.units+n+1<cLine) :
  SeqAt.RcAt A s (.ref a) (.ref b) (eqD (.lst ds) (.lst es))∧SeqAt.RcNeAt A s (.ref a) (.ref b) (!eqD (.lst ds) (.lst es)):=by
 obtain⟨xs,hs,hp⟩:∃xs,SqL X.K H a xs∧Paired (Den X.K H n) xs ds:=h1
 obtain⟨ys,hs',hp'⟩:∃xs,SqL X.K H b xs∧Paired (Den X.K H n) xs es:=h2
 obtain⟨its,ri,pl,_⟩:=I.list hs
 obtain⟨its',ri',pl',_⟩:=I.list hs'
 have l1:=ri.length
 have l2:=ri'.length
 have l3:xs.length=ds.length:=Paired.length hp
 have l4:ys.length=es.length:=Paired.length hp'
 have go:∀j (h1':j<its.toArray.size) (h2':j<its'.toArray.size),ds.length=es.length→SeqAt.EqAt A.in1 s its.toArray[j] its'.toArray[j] (eqD (ds[j]?.getD (.int 0)) (es[j]?.getD (.int 0))):=fun j h1' h2' hlen=>by
  rw[ye] at h1' h2'
  have hj1:xs[j]? = some xs[j]:=yb (by lia)
  have hj2:ys[j]? = some ys[j]:=yb (by lia)
  obtain⟨d',hd,hdd⟩:=Paired.get' hp hj1
  obtain⟨e',he,hee⟩:=Paired.get' hp' hj2
  obtain⟨u',hu',ru'⟩:=ri.get hj1
  obtain⟨v',hv',rv'⟩:=ri'.get hj2
  have eu:its.toArray[j]=u':=by
   have:its[j]? = some its[j]:=yb h1'
   rw[this] at hu'; simpa using yt hu'
  have ev:its'.toArray[j]=v':=by
   have:its'[j]? = some its'[j]:=yb h2'
   rw[this] at hv'; simpa using yt hv'
  rw[eu,ev,hd,he]
  exact qL I n A.in1 _ _ d' e' u' v' hdd hee (hl hlen j d' e' hd he) ru' rv' (by show A.units+1+n<cLine;lia)
 by_cases hlen:ds.length=es.length
 ·rw[← fc hlen]
  have hsz:its.toArray.size=its'.toArray.size:=by rw[ye,ye];lia
  have r1:=SeqAt.RcAt.lists (e:=fun j=>eqD (ds[j]?.getD (.int 0)) (es[j]?.getD (.int 0))) pl.isList pl'.isList hsz (by lia:A.units<cLine) (fun j h1' h2'=>go j h1' h2' hlen)
  have r2:=SeqAt.RcNeAt.lists (e:=fun j=>eqD (ds[j]?.getD (.int 0)) (es[j]?.getD (.int 0))) pl.isList pl'.isList hsz (by lia:A.units<cLine) (fun j h1' h2'=>go j h1' h2' hlen)
  rw[ye,← l1,l3] at r1 r2
  exact⟨r1,r2⟩
 ·have hne:¬ ds=es:=fun z=>hlen (congrArg List.length z)
  have e1:eqD (.lst ds) (.lst es)=false:=by simp[eqD,hne]
  rw[e1]
  exact⟨SeqAt.RcAt.lists_lengths pl.isList pl'.isList (by simp only[ye,bne_iff_ne,ne_eq];lia) (by lia),SeqAt.RcNeAt.lists_lengths pl.isList pl'.isList (by simp only[ye,bne_iff_ne,ne_eq];lia) (by lia)⟩
theorem jj(I:Inv X pins σ H s){n:Nat}{A:Around}{a b:Addr}{ds es:List DV}(h1:Den X.K H (n+1) (.ref a) (.tup ds))(h2:Den X.K H (n+1) (.ref b) (.tup es))(hl:fw (n+1) (.tup ds) (.tup es))(hu:A.units+n+1<cLine) :
  SeqAt.RcAt A s (.ref a) (.ref b) (eqD (.tup ds) (.tup es))∧SeqAt.RcNeAt A s (.ref a) (.ref b) (!eqD (.tup ds) (.tup es)):=by
 obtain⟨xs,hs,hp⟩:∃xs,SqT X.K H a xs∧Paired (Den X.K H n) xs ds:=h1
 obtain⟨ys,hs',hp'⟩:∃xs,SqT X.K H b xs∧Paired (Den X.K H n) xs es:=h2
 obtain⟨its,ri,pl,_⟩:=I.tuple hs
 obtain⟨its',ri',pl',_⟩:=I.tuple hs'
 have l1:=ri.length
 have l2:=ri'.length
 have l3:xs.length=ds.length:=Paired.length hp
 have l4:ys.length=es.length:=Paired.length hp'
 have go:∀j (h1':j<its.toArray.size) (h2':j<its'.toArray.size),SeqAt.EqAt A.in1 s its.toArray[j] its'.toArray[j] (eqD (ds[j]?.getD (.int 0)) (es[j]?.getD (.int 0))):=fun j h1' h2'=>by
  rw[ye] at h1' h2'
  have hj1:xs[j]? = some xs[j]:=yb (by lia)
  have hj2:ys[j]? = some ys[j]:=yb (by lia)
  obtain⟨d',hd,hdd⟩:=Paired.get' hp hj1
  obtain⟨e',he,hee⟩:=Paired.get' hp' hj2
  obtain⟨u',hu',ru'⟩:=ri.get hj1
  obtain⟨v',hv',rv'⟩:=ri'.get hj2
  have eu:its.toArray[j]=u':=by
   have:its[j]? = some its[j]:=yb h1'
   rw[this] at hu'; simpa using yt hu'
  have ev:its'.toArray[j]=v':=by
   have:its'[j]? = some its'[j]:=yb h2'
   rw[this] at hv'; simpa using yt hv'
  rw[eu,ev,hd,he]
  exact qL I n A.in1 _ _ d' e' u' v' hdd hee (hl j d' e' hd he) ru' rv' (by show A.units+1+n<cLine;lia)
 rw[← gm]
 have r1:=SeqAt.RcAt.tuples (e:=fun j=>eqD (ds[j]?.getD (.int 0)) (es[j]?.getD (.int 0))) (show s.heap.IsTuple a its.toArray from pl) (show s.heap.IsTuple b its'.toArray from pl') (by lia:A.units<cLine) go
 have r2:=SeqAt.RcNeAt.tuples (e:=fun j=>eqD (ds[j]?.getD (.int 0)) (es[j]?.getD (.int 0))) (show s.heap.IsTuple a its.toArray from pl) (show s.heap.IsTuple b its'.toArray from pl') (by lia:A.units<cLine) go
 rw[ye,ye,← l1,l3,← l2,l4] at r1 r2
 exact⟨r1,r2⟩
end
noncomputable def Ah(K:PySem.W.Frag)(n:Nat):R2:=fun x y H Q=>∃a b d e,x=.ref a∧y=.ref b∧Den K H (n+1) (.ref a) d∧Den K H (n+1) (.ref b) e∧fw (n+1) d e∧Q (.bl (eqD d e)) H
noncomputable def Av(K:PySem.W.Frag)(n:Nat):R2:=fun x y H Q=>∃a b d e,x=.ref a∧y=.ref b∧Den K H (n+1) (.ref a) d∧Den K H (n+1) (.ref b) e∧fw (n+1) d e∧Q (.bl (!eqD d e)) H
theorem qT{X:Cx}{k:Nat}(n:Nat)(hr:b4 k X.A)(hn:n≤9:=by decide):OpR X (compareOp .Eq) (Ah X.K n):=by
 intro pins s σ H x y v u Q I rx ry h
 obtain⟨a,b,d,e,rfl,rfl,hd,he,hl,q⟩:=h
 cases rx;cases ry
 have hu:=hr.units
 cases d with
 | lst ds =>
  cases e with
  | lst es=>exact(hZ I (A:=X.A) hd he hl (by lia)).1 _ _ _ _ ⟨.bl _,H,I,rfl,q⟩
  | _=>exact False.elim hl
 | tup ds =>
  cases e with
  | tup es=>exact(jj I (A:=X.A) hd he hl (by lia)).1 _ _ _ _ ⟨.bl _,H,I,rfl,q⟩
  | _=>exact False.elim hl
 | _=>exact False.elim hd
theorem pc{X:Cx}{k:Nat}(n:Nat)(hr:b4 k X.A)(hn:n≤9:=by decide):OpR X (compareOp .NotEq) (Av X.K n):=by
 intro pins s σ H x y v u Q I rx ry h
 obtain⟨a,b,d,e,rfl,rfl,hd,he,hl,q⟩:=h
 cases rx;cases ry
 have hu:=hr.units
 cases d with
 | lst ds =>
  cases e with
  | lst es=>exact(hZ I (A:=X.A) hd he hl (by lia)).2 _ _ _ _ ⟨.bl _,H,I,rfl,q⟩
  | _=>exact False.elim hl
 | tup ds =>
  cases e with
  | tup es=>exact(jj I (A:=X.A) hd he hl (by lia)).2 _ _ _ _ ⟨.bl _,H,I,rfl,q⟩
  | _=>exact False.elim hl
 | _=>exact False.elim hd
theorem gk{F:V→DV→Prop}(hF:∀i:Int,F (.int i) (.int i)):∀ns:List Int,Paired F (ns.map V.int) (ns.map DV.int)
 | []=>.nil
 | i::r=>.cons (hF i) (gk hF r)
theorem cS{K:PySem.W.Frag}{H:Hp}{n:Nat}{i:Int}:Den K H n (.int i) (.int i):=by cases n <;> rfl
theorem fH{K:PySem.W.Frag}{H:Hp}{n:Nat}{a:Addr}{ns:List Int}(h:SqL K H a (ns.map V.int)):Den K H (n+1) (.ref a) (.lst (ns.map DV.int)):=⟨_,h,gk (fun _=>cS) ns⟩
theorem o0{X:Cx}:MtR X "int.bit_length" (fun x xs H Q=>∃i,x=.int i∧xs=[]∧Q (.int (Builtin.Int.intBits i)) H):=by
 intro pins s σ H x xs v us Q I rx rs h
 obtain⟨i,rfl,rfl,q⟩:=h
 obtain⟨t,rfl⟩:=rx
 cases rs
 exact call_int_bit_length ⟨.int _,H,I.tok _,⟨_,rfl⟩,q⟩
end L2
namespace L2
open PySem PySem.Spec PyProof.Rows
section
variable{X:Cx}
theorem iF:b6 X (.type "range") (fun xs H Q=>∃j:Int,xs=[.int j]∧∀p,H p=none→Q (.ref p) (upd H p (.rng 0 j))):=by
 intro pins s σ H xs us Q I r h
 obtain⟨j,rfl,q⟩:=h
 obtain⟨u,rfl,t,rfl⟩:=dY r
 refine call_range_1 ⟨.ref s.heap.objs.size,_,I.laid (fun b o e=>Heap.get?_push_of_some _ e) (yi _) ?_,rfl,q _ I.fresh⟩
 exact⟨_,_,_,Heap.get?_push_size _ rfl⟩
theorem iV(hc:X.calm=true):b6 X (.type "list") (fun xs H Q=>∃p,∃j:Int,xs=[.ref p]∧H p=some (.rng 0 j)∧0≤j∧j≤1000∧∀l,H l=none→Q (.ref l) (upd H l (.lst (((List.range j.toNat).map fun i:Nat=>(i:Int)).map V.int)))):=by
 intro pins s σ H xs us Q I r h
 obtain⟨p,j,rfl,hp,j0,j1,q⟩:=h
 obtain⟨u,rfl,ru⟩:=dY r
 cases ru
 obtain⟨t,u',v,e⟩:=I.hok p _ hp
 have hn:Builtin.Range.rangeSize 0 j 1=(j.toNat:Int):=by rw[rangeSize_one];split <;> lia
 refine call_list_range (I.ok.hd hc) (a:=0) (b:=j) (c:=1) e (small_one (by lia) (by lia) (by lia) (by omega)) hn (by lia) fun h' tk acc' c' hk hS hacc=>?_
 refine⟨.ref s.heap.objs.size,_,I.laid hk (yi _) (o:=.lst (((List.range j.toNat).map fun i:Nat=>(i:Int)).map V.int)) ?_,rfl,q _ I.fresh⟩
 refine⟨by simp only[ya,yo];rw[sizeLine_eq];lia,acc'.toList,c',?_,by simpa using hS⟩
 have go:∀(n k:Nat) (l:List Value),l.length=n→(∀(i:Nat) (v:Value),l[i]? = some v→∃t,v=Value.int (0+((i+k:Nat):Int)*1) t)→aO (((List.range' k n).map fun i:Nat=>(i:Int)).map V.int) l:=by
  intro n
  induction n with
  | zero =>
   intro k l hl _
   cases l with
   | nil=>exact .nil
   | cons a b=>simp at hl
  | succ n ih =>
   intro k l hl hv
   cases l with
   | nil=>simp at hl
   | cons a b =>
    rw[List.range'_succ,ym,ym]
    refine .cons ?_ (ih (k+1) b (by simpa using hl) fun i v hi=>?_)
    ·obtain⟨t,e⟩:=hv 0 a (by simp)
     exact⟨t,by rw[e];congr 1;lia⟩
    ·obtain⟨t,e⟩:=hv (i+1) v (by simpa using hi)
     exact⟨t,by rw[e];congr 1;lia⟩
 have:=go j.toNat 0 acc'.toList (by simp[hacc.1]) fun i v hi=>hacc.2 i v (by simpa using hi)
 rw[← yFb] at this
 exact this
theorem dZ(hc:X.calm=true):b6 X (.builtin "all") (fun xs H Q=>∃(p:Addr) (bs:List Bool),xs=[.ref p]∧SqL X.K H p (bs.map V.bl)∧Q (.bl (bs.all id)) H):=by
 intro pins s σ H xs us Q I r h
 obtain⟨p,bs,rfl,hp,q⟩:=h
 obtain⟨u,rfl,ru⟩:=dY r
 cases ru
 obtain⟨its,ri,pl,hz⟩:=I.list hp
 have hl:=ri.length
 rw[ya] at hl
 refine call_all_walk (wpAny_pyIter_list pl.isList ?_)
 have hlt:p<s.heap.objs.size:=by obtain⟨o,e,_⟩:=pl.isList;exact Heap.lt_size e
 refine⟨s.heap.objs.size,_,_,_,_,_,fun i=>bs[i]?.getD true,rfl,Walks.list (A:=X.A.in1) (I.ok.hd hc) s.heap.objs.size p (yE hlt) its.toArray,⟨⟨_,Heap.get?_push_size _ rfl,rfl,rfl⟩,pl.isList.at fun o e=>Heap.get?_push_of_some _ e⟩,?_,?_⟩
 ·intro i v s' Q' E' hv hq
  have hv':its[i]? = some v:=by simpa using hv
  have hi:i<its.length:=(List.getElem?_eq_some_iff.mp hv').1
  have hb:(bs.map V.bl)[i]? = some (.bl (bs[i]'(by lia))):=by rw[yc,yb (by lia)];rfl
  obtain⟨w',e,rw'⟩:=ri.get hb
  rw[hv'] at e
  cases e
  obtain rfl:v=Value.bool _:=rw'
  dsimp only at hq
  rw[yb (by omega)] at hq
  exact wpAny_truthy_bool hq
 ·intro h' tk hk
  have e:(List.range its.toArray.size).all (fun i=>bs[i]?.getD true)=bs.all id:=by
   rw[ye,← hl,yca]
   simp only[yL,yu,id]
   constructor
   ·intro h x hx
    obtain⟨i,hi,e⟩:=yKb hx
    have:=h i hi
    rw[yb hi] at this
    rw[← e];exact this
   ·intro h i hi
    rw[yb hi]
    exact h _ (yO hi)
  rw[e]
  refine⟨.bl _,H,I.kept fun b o e=>hk b o ?_ (Heap.get?_push_of_some _ e),rfl,q⟩
  intro z
  have z':b=s.heap.objs.size:=by simpa using z
  exact absurd (Heap.lt_size e) (by rw[z'];exact yia _)
theorem gv(ns:List Int):∀j:Nat,j≤ns.length→preSum (fun i=>ns[i]?.getD 0) j=(ns.take j).sum
 | 0,_=>by simp[preSum]
 | j+1,h=>by
  rw[preSum,gv ns j (by lia),← List.take_append_getElem (by lia:j<ns.length),yda,yb (by lia:j<ns.length)]
  simp
end
end L2
namespace L2
open PySem PySem.Spec PyProof.Rows
section
variable{prog:Program}{w:World}{A:Around}{E:Value→Shared→Prop}{s:Shared}
theorem mE{it tp:Addr}{j:Nat}{vs:Array Value}{y:Value}{R:Value→Shared→Prop}(hi:s.heap.IsTupleIter it tp j)(ht:s.heap.IsTuple tp vs)(hy:vs[j]? = some y)
  (k:∀g,g.IsTupleIter it tp (j+1)→Heap.SameBut it s.heap g→R y { s with heap:=g }):wpAny (model prog w) A (Builtin.SmallTypes.nextOf (.ref it)) R E s:=by
 obtain⟨oi,ei,ci,di⟩:=id hi
 obtain⟨ot,et,_,nt,dt⟩:=ht
 unfold Builtin.SmallTypes.nextOf
 refine wpAny_bind (wpAny_callSpecial?_slot (name:=Str.ofString "__next__") hi.typeIs F.slot_tuple_iterator_next (wpAny_call_entry F.slot_tuple_iterator_next hi.typeIs F.entry_tuple_iterator_next ?_ (F.args_tuple_iterator_next_1 _)))
 show wpAny (model prog w) A.in1 (field (.ref it) 0 >>= _) _ _ s
 refine wpAny_bind (wpAny_field ei di (x:=.ref tp) rfl ?_)
 show wpAny (model prog w) A.in1 (if (Value.ref tp == Value.none)=true then _ else _) _ _ s
 rw[if_neg (show ¬(Value.ref tp == Value.none)=true from yr)]
 show wpAny (model prog w) A.in1 (field (.ref it) 1 >>= _) _ _ s
 refine wpAny_bind (wpAny_field ei di (x:=.int j 0) rfl ?_)
 show wpAny (model prog w) A.in1 (seqItems? (.ref tp) >>= _) _ _ s
 refine wpAny_bind (wpAny_seqItems et dt ?_)
 simp only[yh,hy]
 refine wpAny_bind (wpAny_setField ei di (by simp) (wpAny_pure ⟨y,rfl,wpAny_pure (k _ ⟨_,Heap.get?_update_self _ ei (Obj.isFreed_of_fields (Obj.data_mapFields di _)),(Obj.cls_mapFields ..).trans ci,?_⟩ (Heap.SameBut.update ..))⟩))
 rw[Obj.data_mapFields di]
 simp[rawInt]
theorem ic{it tp:Addr}{j:Nat}{vs:Array Value}{R:Value→Shared→Prop}(hh:A.handled=none)(hi:s.heap.IsTupleIter it tp j)(ht:s.heap.IsTuple tp vs)(hy:vs[j]? = none)
  (k:∀g x,Heap.ExtBut it s.heap g→(∃o,g.get? x=some o∧o.cls=.type "StopIteration")→E (.ref x) { s with heap:=g }):wpAny (model prog w) A (Builtin.SmallTypes.nextOf (.ref it)) R E s:=by
 obtain⟨oi,ei,ci,di⟩:=id hi
 obtain⟨ot,et,_,nt,dt⟩:=ht
 unfold Builtin.SmallTypes.nextOf
 refine wpAny_bind (wpAny_callSpecial?_slot (name:=Str.ofString "__next__") hi.typeIs F.slot_tuple_iterator_next (wpAny_call_entry F.slot_tuple_iterator_next hi.typeIs F.entry_tuple_iterator_next ?_ (F.args_tuple_iterator_next_1 _)))
 show wpAny (model prog w) A.in1 (field (.ref it) 0 >>= _) _ _ s
 refine wpAny_bind (wpAny_field ei di (x:=.ref tp) rfl ?_)
 show wpAny (model prog w) A.in1 (if (Value.ref tp == Value.none)=true then _ else _) _ _ s
 rw[if_neg (show ¬(Value.ref tp == Value.none)=true from yr)]
 show wpAny (model prog w) A.in1 (field (.ref it) 1 >>= _) _ _ s
 refine wpAny_bind (wpAny_field ei di (x:=.int j 0) rfl ?_)
 show wpAny (model prog w) A.in1 (seqItems? (.ref tp) >>= _) _ _ s
 refine wpAny_bind (wpAny_seqItems et dt ?_)
 simp only[yh,hy]
 refine wpAny_bind (wpAny_rule (wpAny_bind (wpAny_setField ei di (by simp) ?_)))
 show wpAny (model prog w) A.in1 (newExc (.type "StopIteration") [] >>= _) _ _ _
 refine wpAny_bind ?_
 simp only[newExc,newTuple]
 refine wpAny_bind (wpAny_newObj_type (wpAny_bind (m:=firstArgMember _ _) (wpAny_of_eq (a:=Value.none) (by first | rfl | (simp only[firstArgMember];rfl)) (wpAny_newObj_type ?_ (by size_fits)))) (by size_fits))
 simp only[raiseNew]
 refine wpAny_bind (wpAny_handled ?_)
 rw[show A.in1.handled=none from hh]
 refine wpAny_bind (wpAny_pure (wpAny_throw (k _ _ (((Heap.SameBut.update ..).extBut.push _).push _) ⟨_,Heap.get?_push_size _ rfl,rfl⟩)))
end
set_option maxHeartbeats 4000000 in
theorem oX(l:Addr)(vs:Array Value)(t:Tok) :
  Meets (Builtin.«enumerate.__new__» ⟨[.type "enumerate",.ref l],[("start",.int 1 t)]⟩) (fun _ R s=>s.heap.IsList l vs ∧
   R (.ok (.ret (.ref (s.heap.push { cls:=.type "list_iterator",data:=.fields #[.ref l,.int 0 0] }).objs.size)))
    { s with heap:=(s.heap.push { cls:=.type "list_iterator",data:=.fields #[.ref l,.int 0 0] }).push { cls:=.type "enumerate",data:=.fields #[.none,.bool false,.ref s.heap.objs.size,rawInt 1,.none,.none] } }) :=
 .of_wp fun prog w A R s h=>by
  obtain⟨hp,g,d,tk,os⟩:=s;obtain⟨hL,h⟩:=h
  obtain⟨⟨c,dc,dt,sl⟩,hl,hc,n,hd⟩:=id hL
  replace hc:c=.type "list" := hc
  replace hd:dt=.seq vs n:=hd
  subst hc hd
  have hsub:=sub_enumerate
  wp_walk using PySem.AutoSeq1.wpAny_loadPart' hl
  refine wpAny_stack_any fun st=>wpAny_pure ?_
  dsimp only
  split
  ·split
   all_goals
    refine wpAny_bind (wpAny_of_eq (a:=(Value.ref l,some (Value.int 1 t))) ?e ?_)
    case e=>rfl
    show wpAny _ _ (Builtin.SmallTypes.indexObject _ (Value.int 1 t) >>= _) _ _ _
    wp_walk using wpAny_pyIter_list hL
    exact⟨_,rfl,h⟩
  ·rw[if_neg yr]
   refine wpAny_bind (wpAny_of_eq (a:=(Value.ref l,some (Value.int 1 t))) ?e ?_)
   case e=>rfl
   show wpAny _ _ (Builtin.SmallTypes.indexObject _ (Value.int 1 t) >>= _) _ _ _
   wp_walk using wpAny_pyIter_list hL
   exact⟨_,rfl,h⟩
set_option maxHeartbeats 4000000 in
theorem oK(l:Addr)(vs:Array Value)(t:Tok) :
  Meets (Builtin.«enumerate.__new__» ⟨[.type "enumerate",.ref l],[("start",.int 1 t)]⟩) (fun _ R s=>s.heap.IsTuple l vs ∧
   R (.ok (.ret (.ref (s.heap.push { cls:=.type "tuple_iterator",data:=.fields #[.ref l,.int 0 0] }).objs.size)))
    { s with heap:=(s.heap.push { cls:=.type "tuple_iterator",data:=.fields #[.ref l,.int 0 0] }).push { cls:=.type "enumerate",data:=.fields #[.none,.bool false,.ref s.heap.objs.size,rawInt 1,.none,.none] } }) :=
 .of_wp fun prog w A R s h=>by
  obtain⟨hp,g,d,tk,os⟩:=s;obtain⟨hL,h⟩:=h
  obtain⟨⟨c,dc,dt,sl⟩,hl,hc,n,hd⟩:=id hL
  replace hc:c=.type "tuple" := hc
  replace hd:dt=.seq vs n:=hd
  subst hc hd
  have hsub:=sub_enumerate
  wp_walk using PySem.AutoSeq1.wpAny_loadPart' hl
  refine wpAny_stack_any fun st=>wpAny_pure ?_
  dsimp only
  split
  ·split
   all_goals
    refine wpAny_bind (wpAny_of_eq (a:=(Value.ref l,some (Value.int 1 t))) ?e ?_)
    case e=>rfl
    show wpAny _ _ (Builtin.SmallTypes.indexObject _ (Value.int 1 t) >>= _) _ _ _
    wp_walk using wpAny_pyIter_tuple hL
    exact⟨_,rfl,h⟩
  ·rw[if_neg yr]
   refine wpAny_bind (wpAny_of_eq (a:=(Value.ref l,some (Value.int 1 t))) ?e ?_)
   case e=>rfl
   show wpAny _ _ (Builtin.SmallTypes.indexObject _ (Value.int 1 t) >>= _) _ _ _
   wp_walk using wpAny_pyIter_tuple hL
   exact⟨_,rfl,h⟩
section
variable{prog:Program}{w:World}{A:Around}{E:Value→Shared→Prop}{s:Shared}
theorem nQ{T newId:String}{Bn:Builtin}{a:Value}{args:List Value}{kw:List (Str×Value)}{S:PySem.Spec}{R:Value→Shared→Prop}(ft:TypeCalled T newId "object.__init__")(hne:(some newId != some "object.__new__")=true)
  (hct:checkTypeCall T ⟨a::args,kw⟩=pure ()) (hcn:checkBuiltinCall newId ⟨.type T::a::args,kw⟩=pure ()) (hok:∀obj,argsOk "object.__init__" ⟨obj::a::args,kw⟩) (eN:entryFor table newId=some Bn) (gN:Meets (Bn ⟨.type T::a::args,kw⟩) S)
  (h:S A.in1 (wants (fun obj s1=>s1.TypeIs obj T∧R obj s1) E) s):wpAny (model prog w) A (call (.type T) (a::args) kw) R E s:=by
 obtain⟨c,tl,hmro⟩:=ft.mro
 have hmade:=ft.made
 have hsub:=ft.sub
 refine wpAny_call (codeAny_of_tree ?_)
 show wpAny (model prog w) _ (callAny (.type T) _) _ _ _
 refine wpAny_pure ⟨Code.quiet_builtin _ k!,codeAny_builtin F.entry_type_call ?_⟩
 rw[Around.under_plain (weight_type_call_type T (a::args) kw) (units_type_call_type T (a::args) kw)]
 have h1:=ft.notType
 have h2:=ft.canCreate
 repeat (any_goals (first | assumption | wp_step))
 refine codeAny_mono (codeAny_call_builtin ft.plain eN (wpAny_of_eq hcn (gN prog w A.in1 _ s h))) fun r s1 hr=>?_
 cases r with
 | error e=>exact hr
 | ok fl =>
  cases fl with
  | ret obj =>
   obtain⟨hT,hq⟩:=hr
   have hli:=ft.init.lookup
   have hbi:=ft.init.bind obj
   repeat (any_goals (first | assumption | wp_step))
   have gi:Meets (Builtin.«object.__init__» ⟨obj::a::args,kw⟩) (fun _ R s=>s.TypeIs obj T∧R (.ok (.ret .none)) s):=by
    refine Meets.of_wp fun prog w A R s hs=>?_
    obtain⟨hT,hq⟩:=hs
    have hm:=ft.made
    have hl:=ft.init.lookup
    repeat (any_goals (first | assumption | wp_step))
    exact⟨_,rfl,hq⟩
   refine codeAny_mono (codeAny_call_builtin ft.init.plain F.entry_object_init (ft.init.check _ _ _ _ _ _ _ _ hT (hok obj) (gi prog w A.in1 (wants (fun r s2=>r=.none∧R obj s2) E) s1 ⟨hT,rfl,hq⟩))) fun r2 s2 hr2=>?_
   cases r2 with
   | error e=>exact hr2
   | ok fl2 =>
    cases fl2 with
    | ret r =>
     obtain⟨rfl,hq⟩:=hr2
     repeat (any_goals (first | assumption | wp_step))
    | _=>exact hr2.elim
  | _=>exact hr.elim
theorem ni(a v:Value):checkTypeCall "enumerate" ⟨[a],[("start",v)]⟩=pure ():=by kernel_rfl
theorem nE(a v:Value):checkBuiltinCall "enumerate.__new__" ⟨[.type "enumerate",a],[("start",v)]⟩=pure ():=by kernel_rfl
theorem nB(o a v:Value):argsOk "object.__init__" ⟨[o,a],[("start",v)]⟩:=by unfold argsOk;kernel_rfl
theorem mQ{l:Addr}{vs:Array Value}{t:Tok}{R:Value→Shared→Prop}(hL:s.heap.IsList l vs)
  (k:∀g,IsEnum g (s.heap.objs.size+1) s.heap.objs.size 1 .none→g.IsListIter s.heap.objs.size l 0→(∀b o,s.heap.get? b=some o→g.get? b=some o)→R (.ref (s.heap.objs.size+1)) { s with heap:=g }) :
  wpAny (model prog w) A (call (.type "enumerate") [.ref l] [("start",.int 1 t)]) R E s:=by
 refine nQ F.called_enumerate (by decide) (ni _ _) (nE _ _) (fun o=>nB o _ _) F.entry_enumerate_new (oX l vs t) ⟨hL,?_⟩
 have hz:(s.heap.push { cls:=.type "list_iterator",data:=.fields #[.ref l,.int 0 0] }).objs.size=s.heap.objs.size+1:=Heap.size_push ..
 have he:=Heap.get?_push_size (s.heap.push { cls:=.type "list_iterator",data:=.fields #[.ref l,.int 0 0] }) (o:={ cls:=.type "enumerate",data:=.fields #[.none,.bool false,.ref s.heap.objs.size,rawInt 1,.none,.none] }) rfl
 show _∧_
 rw[hz] at he ⊢
 exact⟨⟨_,he,rfl⟩,k _ he ⟨_,Heap.get?_push_of_some _ (Heap.get?_push_size _ rfl),rfl,rfl⟩ fun b o q=>Heap.get?_push_of_some _ (Heap.get?_push_of_some _ q)⟩
theorem l5{l:Addr}{vs:Array Value}{t:Tok}{R:Value→Shared→Prop}(hL:s.heap.IsTuple l vs)
  (k:∀g,IsEnum g (s.heap.objs.size+1) s.heap.objs.size 1 .none→g.IsTupleIter s.heap.objs.size l 0→(∀b o,s.heap.get? b=some o→g.get? b=some o)→R (.ref (s.heap.objs.size+1)) { s with heap:=g }) :
  wpAny (model prog w) A (call (.type "enumerate") [.ref l] [("start",.int 1 t)]) R E s:=by
 refine nQ F.called_enumerate (by decide) (ni _ _) (nE _ _) (fun o=>nB o _ _) F.entry_enumerate_new (oK l vs t) ⟨hL,?_⟩
 have hz:(s.heap.push { cls:=.type "tuple_iterator",data:=.fields #[.ref l,.int 0 0] }).objs.size=s.heap.objs.size+1:=Heap.size_push ..
 have he:=Heap.get?_push_size (s.heap.push { cls:=.type "tuple_iterator",data:=.fields #[.ref l,.int 0 0] }) (o:={ cls:=.type "enumerate",data:=.fields #[.none,.bool false,.ref s.heap.objs.size,rawInt 1,.none,.none] }) rfl
 show _∧_
 rw[hz] at he ⊢
 exact⟨⟨_,he,rfl⟩,k _ he ⟨_,Heap.get?_push_of_some _ (Heap.get?_push_size _ rfl),rfl,rfl⟩ fun b o q=>Heap.get?_push_of_some _ (Heap.get?_push_of_some _ q)⟩
end
end L2
set_option maxHeartbeats 400000
namespace L2
open PySem PySem.Spec PyProof.Rows
noncomputable def me(S:Hp→Addr→List V→Prop)(a:Addr)(k:Nat):It :=
 ⟨fun i H=>∃xs x,S H a xs∧xs[i]? = some x,fun i H x H'=>∃t y,x=.ref t∧H t=none∧H'=upd H t (.tup [.int (((k+i:Nat)):Int),y])∧∀xs,S H a xs→xs[i]? = some y,fun i H=>∃xs,S H a xs∧xs.length=i⟩
section
variable{X:Cx}{pins:List (Addr×Obj)}{σ:St}{H:Hp}{s:Shared}
theorem Inv.pair{e it t:Addr}{g:Heap}{tk:Nat}{o:HO}(I:Inv X pins σ H s)(fe:fq X pins H e)(fi:fq X pins H it)(ht:s.heap.objs.size≤t)
  (k:∀b o,b≠e→b≠it→s.heap.get? b=some o→g.get? b=some o) (new:br X.prog X.w (upd H t o) g t o):Inv X pins σ (upd H t o) { s with heap:=g,toks:=tk }:=by
 have hn:H t=none:=I.hok.fresh ht
 obtain⟨e0,e1,e2,e3,e4,e5⟩:=fe
 obtain⟨i0,i1,i2,i3,i4,i5⟩:=fi
 have nt:∀b o,s.heap.get? b=some o→b≠t:=fun b o q z=>by
  subst z
  exact absurd (yF (Heap.lt_size q) ht) (yia _)
 have nch:∀b,b∉[e,it]→b≠e∧b≠it:=fun b hb=>⟨fun z=>hb (by simp[z]),fun z=>hb (by simp[z])⟩
 have ne:∀b u,H b=some u→b≠e∧b≠it:=fun b u q=>⟨aG q e0,aG q i0⟩
 refine I.step (g':=s.gens) (d':=s.drawn) (ch:=[e,it]) (fun b hb=>?_) (fun b o _ _ hc q _=>k b o (nch b hc).1 (nch b hc).2 q) (fun b o _ _ hc q _=>⟨o.slots,k b o (nch b hc).1 (nch b hc).2 q⟩) (fun b o _ q n=>by rw[av (nt b o q)];exact n)
  (fun b o hc q=>⟨o,k b o (nch b hc).1 (nch b hc).2 q⟩) (fun b xs q=>by rw[av (aG q hn)];exact q) (fun b o u q=>by rw[av (aG q hn)];exact q) (fun b ps q=>⟨#[],by rw[av (aG q hn),q];simp⟩) (fun m hm=>?_) (fun b u q=>?_) I.bare
 ·rcases List.mem_cons.mp hb with z | z
  ·subst z;exact⟨e3,e1,e4,e5⟩
  ·have z':b=it:=by simpa using z
   subst z'; exact⟨i3,i1,i4,i5⟩
 ·obtain⟨ol,es,ep,ho,r⟩:=hm
  exact⟨ol,es,ep,k _ ol (yva e1) (yva i1) ho,r⟩
 ·by_cases hb:b=t
  ·subst hb;rw[af] at q;cases q;exact new
  ·rw[av hb] at q
   refine(I.hok b u q).stay (fun c v hc z=>k c v ?_ ?_ z) (fun c z=>by rw[av (aG z hn)];exact z) fun c xs z=>by rw[av (aG z hn)];exact z
   ·rcases hc with z' | z'
    ·rw[z'];exact(ne b u q).1
    ·exact(ne c _ z').1
   ·rcases hc with z' | z'
    ·rw[z'];exact(ne b u q).2
    ·exact(ne c _ z').2
end
structure jI(P:Program)(w:World)(K:PySem.W.Frag)(S:Hp→Addr→List V→Prop)(a it:Addr)(sq:Heap→Array Value→Prop)(ti:Nat→Heap→Prop):Prop where
 obj:∀i h,ti i h→∃o,h.get? it=some o∧∀v,o.data≠.cell v
 keep:∀i h h',ti i h→(∀o,h.get? it=some o→h'.get? it=some o)→ti i h'
 sk:∀h h' vs,sq h vs→(∀o,h.get? a=some o→h'.get? a=some o)→sq h' vs
 ne:∀h vs i,sq h vs→ti i h→a≠it
 nee:∀h vs e j old,sq h vs→IsEnum h e it j old→a≠e
 abs:∀(X:Cx) (pins:List (Addr×Obj)) (σ:St) (H:Hp) (s:Shared) (xs:List V),X.K=K→Inv X pins σ H s→S H a xs→∃its:List Value,aO xs its∧sq s.heap its.toArray
 one:∀(X:Cx) (pins:List (Addr×Obj)) (σ:St) (H:Hp) (s:Shared) (xs ys:List V),X.K=K→Inv X pins σ H s→S H a xs→S H a ys→xs=ys
 item:∀(A:Around) (i:Nat) (s:Shared) (vs:Array Value) (u:Value) (Q:Value→Shared→Prop) (E:Value→Shared→Prop),ti i s.heap→sq s.heap vs→vs[i]? = some u →
  (∀g,ti (i+1) g→Heap.SameBut it s.heap g→Q u { s with heap:=g })→wpAny (model P w) A (Builtin.SmallTypes.nextOf (.ref it)) Q E s
 done:∀(A:Around) (i:Nat) (s:Shared) (vs:Array Value) (Q:Value→Shared→Prop) (E:Value→Shared→Prop),A.handled=none→ti i s.heap→sq s.heap vs→vs[i]? = none →
  (∀g e,Heap.ExtBut it s.heap g→(∃o,g.get? e=some o∧o.cls=.type "StopIteration")→E (.ref e) { s with heap:=g })→wpAny (model P w) A (Builtin.SmallTypes.nextOf (.ref it)) Q E s
theorem kQ{P:Program}{w:World}{K:PySem.W.Frag}(a it:Addr):jI P w K (SqL K) a it (fun h vs=>h.IsList a vs) (fun i h=>h.IsListIter it a i) where
 obj:=fun i h st=>by
  obtain⟨o,e,c,d⟩:=st
  exact⟨o,e,fun v z=>by rw[d] at z;cases z⟩
 keep:=fun i h h' st k=>st.at k
 sk:=fun h h' vs q k=>q.at k
 ne:=fun h vs i q st z=>by
  obtain⟨o,e,c,_⟩:=q
  obtain⟨o',e',c',_⟩:=st
  rw[z,e'] at e
  cases e
  rw[c'] at c
  exact absurd (Value.type.inj c) (by decide)
 nee:=fun h vs e j old q en z=>by
  obtain⟨o,q,c,_⟩:=q
  subst z
  rw[show h.get? a=_ from en] at q
  cases q
  exact absurd (Value.type.inj c) (by decide)
 abs:=fun X pins σ H s xs hK I hq=>by
  subst hK
  obtain⟨its,rv,p,hz⟩:=I.list hq
  exact⟨its,rv,p.isList⟩
 one:=fun X pins σ H s xs ys hK I h1 h2=>by subst hK;exact I.list_inj h1 h2
 item:=fun A i s vs u Q E st q hx k=>wpAny_nextOf_list_item st q hx k
 done:=fun A i s vs Q E hh st q hx k=>wpAny_nextOf_list_end hh st q hx k
theorem nY{P:Program}{w:World}{K:PySem.W.Frag}(a it:Addr):jI P w K (SqT K) a it (fun h vs=>h.IsTuple a vs) (fun i h=>h.IsTupleIter it a i) where
 obj:=fun i h st=>by
  obtain⟨o,e,c,d⟩:=st
  exact⟨o,e,fun v z=>by rw[d] at z;cases z⟩
 keep:=fun i h h' st k=>by
  obtain⟨o,e,r⟩:=st
  exact⟨o,k o e,r⟩
 sk:=fun h h' vs q k=>by
  obtain⟨o,e,r⟩:=q
  exact⟨o,k o e,r⟩
 ne:=fun h vs i q st z=>by
  obtain⟨o,e,c,_⟩:=q
  obtain⟨o',e',c',_⟩:=st
  rw[z,e'] at e
  cases e
  rw[c'] at c
  exact absurd (Value.type.inj c) (by decide)
 nee:=fun h vs e j old q en z=>by
  obtain⟨o,q,c,_⟩:=q
  subst z
  rw[show h.get? a=_ from en] at q
  cases q
  exact absurd (Value.type.inj c) (by decide)
 abs:=fun X pins σ H s xs hK I hq=>by
  subst hK
  obtain⟨its,rv,p,hz⟩:=I.tuple hq
  exact⟨its,rv,p⟩
 one:=fun X pins σ H s xs ys hK I h1 h2=>by subst hK;exact I.tuple_inj h1 h2
 item:=fun A i s vs u Q E st q hx k=>mE st q hx k
 done:=fun A i s vs Q E hh st q hx k=>ic hh st q hx k
theorem jI.draws{P:Program}{w:World}{K:PySem.W.Frag}{S:Hp→Addr→List V→Prop}{a it:Addr}{sq:Heap→Array Value→Prop}{ti:Nat→Heap→Prop}(O:jI P w K S a it sq ti){A:Around}(hh:A.handled=none)(k:Nat)(vs:Array Value) :
  Draws P w A it [it,a] (k+vs.size) (fun j y=>∃i,j=k+i∧vs[i]? = some y) (fun j h=>∃i,j=k+i∧ti i h∧sq h vs) where
 live:=fun j h q=>by
  obtain⟨i,_,st,_⟩:=q
  obtain⟨o,e,_⟩:=O.obj i h st
  exact⟨o,e⟩
 frame:=fun j h h' q kk=>by
  obtain⟨i,e,st,sv⟩:=q
  exact⟨i,e,O.keep i h h' st fun o z=>kk it (by simp) o z,O.sk h h' vs sv fun o z=>kk a (by simp) o z⟩
 item:=fun j s Q E hj q kq=>by
  obtain⟨i,rfl,st,sv⟩:=q
  have hi:i<vs.size:=by lia
  refine O.item A i s vs vs[i] Q E st sv (by simp[hi]) fun g st' sb=>?_
  exact kq _ g s.toks ⟨i,rfl,by simp[hi]⟩ ⟨i+1,by lia,st',O.sk _ _ vs sv fun o z=>(sb.2 a (O.ne _ vs i sv st)).trans z⟩ sb
 done:=fun s Q E q kq=>by
  obtain⟨i,hi,st,sv⟩:=q
  have:i=vs.size:=by lia
  subst this
  exact O.done A _ s vs Q E hh st sv (by simp) kq
theorem o6{P:Program}{w:World}{K:PySem.W.Frag}{S:Hp→Addr→List V→Prop}{elts:List Expr}{x1:Nat}{tp:Pos}(a e it:Addr)(k:Nat)(hei:e≠it){sq:Heap→Array Value→Prop}{ti:Nat→Heap→Prop}(O:jI P w K S a it sq ti) :
  kY P w K (.Tuple elts x1 tp) (me S a k) [e,it] e (fun i h=>(∃old,IsEnum h e it (((k+i:Nat)):Int) old)∧ti i h) where
 mem:=by simp
 obj:=fun i h st b hb=>by
  obtain⟨⟨old,he⟩,st⟩:=st
  rcases List.mem_cons.mp hb with z | z
  ·subst z
   exact⟨_,he,fun v z=>by
    have z':Data.fields _=Data.cell v:=z
    cases z'⟩
  ·have z':b=it:=by simpa using z
   subst z'
   exact O.obj i h st
 keep:=fun i h h' st kk=>by
  obtain⟨⟨old,he⟩,st⟩:=st
  exact⟨⟨old,kk e (by simp) _ he⟩,O.keep i h h' st fun o q=>kk it (by simp) o q⟩
 item:=by
  intro X hP hw hK hc i pins s σ H E I hf st hg
  obtain⟨⟨old,he⟩,st⟩:=st
  obtain⟨xs,x,hq,hx⟩:=hg
  have fe:=hf e (by simp)
  have fi:=hf it (by simp)
  obtain⟨its,rv,sv⟩:=O.abs X pins σ H s xs hK I hq
  obtain⟨u,hu,ru⟩:=rv.get hx
  have hlt:i<its.toArray.size:=by
   rw[ye]
   exact(List.getElem?_eq_some_iff.mp hu).1
  have hef:e∉[it,a]:=fun z=>by
   rcases List.mem_cons.mp z with z | z
   ·exact hei z
   ·exact O.nee _ _ _ _ _ sv he (by simpa using z:e=a).symm
  have hel:e<s.heap.objs.size:=Heap.lt_size he
  have hil:it<s.heap.objs.size:=by obtain⟨o,q,_⟩:=O.obj i _ st;exact Heap.lt_size q
  refine wpAny_pyNext_enum_itemD (O.draws (A:=X.A.in1) (I.ok.hd hc) k its.toArray) he ⟨i,rfl,st,sv⟩ (by lia) hei hef fun y g tk hy ho hst hT hsz hk=>?_
  obtain⟨i',e1,hy⟩:=hy
  have e2:i'=i:=by lia
  subst e2
  have e3:y=u:=by
   have hu':its.toArray[i']? = some u:=by simpa using hu
   rw[hu'] at hy
   exact(yt hy).symm
  subst e3
  refine⟨_,rfl,wpAny_letOwnedTupleGo_enum ho fun g2 he2 hs2=>?_⟩
  have nse:s.heap.objs.size≠e:=yNb hel
  have hT2:g2.get? s.heap.objs.size=some { cls:=.type "tuple",data:=.seq #[.int ((k+i':Nat):Int) tk,y] }:=(hs2.2 _ nse).trans hT
  have I2:Inv X pins σ (upd H s.heap.objs.size (.tup [.int (((k+i':Nat)):Int),x])) { s with heap:=g2,toks:=tk+1 }:=by
   refine I.pair fe fi (yi _) (fun b o h1 h2 q=>(hs2.2 b h1).trans (hk b o h1 h2 q)) ?_
   exact⟨by show 2≤sizeLine;decide,[.int ((k+i':Nat):Int) tk,y],.cons ⟨tk,rfl⟩ (.cons ru .nil),⟨_,hT2,rfl,0,rfl⟩⟩
  obtain⟨i2,e4,st2,_⟩:=hst
  have e5:i2=i'+1:=by lia
  subst e5
  refine⟨.ref s.heap.objs.size,_,I2,rfl,⟨_,x,rfl,I.fresh,rfl,fun ys hys=>?_⟩,⟨⟨y,?_⟩,O.keep _ _ _ st2 fun o q=>(hs2.2 it (yva hei)).trans q⟩,fun b hb=>?_⟩
  ·rw[O.one X pins σ H s ys xs hK I hys hq]
   exact hx
  ·have:(((k+(i'+1):Nat)):Int)=((k+i':Nat):Int)+1:=by lia
   rw[this]
   exact he2
  ·rcases List.mem_cons.mp hb with z | z
   ·subst z
    rw[av (yva nse)]
    exact fe.1
   ·have z':b=it:=by simpa using z
    subst z'
    rw[av (yE hil)]
    exact fi.1
 done:=by
  intro X hP hw hK hc i pins s σ H E I hf st hg
  obtain⟨⟨old,he⟩,st⟩:=st
  obtain⟨xs,hq,hx⟩:=hg
  obtain⟨its,rv,sv⟩:=O.abs X pins σ H s xs hK I hq
  have hl:=rv.length
  obtain⟨f0,f1,f2,f3,f4,f5⟩:=hf it (by simp)
  exact wpAny_pyNext_enum_endD (O.draws (A:=X.A.in1) (I.ok.hd hc) k its.toArray) he ⟨i,by simp;lia,st,sv⟩ fun g eb=>⟨rfl,I.turned (t':=s.toks) (fun b o hb q=>eb b o hb q) f0 f1 f3 f4 f5⟩
 self:=fun A i s Q E st h=>by
  obtain⟨⟨old,he⟩,st⟩:=st
  exact wpAny_pyIter_enum he h
theorem bZ{S:Hp→Addr→List V→Prop}{a:Addr}{k:Nat}{xs:List V}{σ:St}{H:Hp}{DN:St→Hp→Prop}{B:(St→Hp→Prop)→V→St→Hp→Prop}(Pv:Nat→St→Hp→Prop)(h0:Pv 0 σ H)
  (hl:∀i σ H,i≤xs.length→Pv i σ H→S H a xs)
  (hs:∀i x σ H t,xs[i]? = some x→Pv i σ H→H t=none→B (Pv (i+1)) (.ref t) σ (upd H t (.tup [.int (((k+i:Nat)):Int),x]))) (hd:∀σ H,Pv xs.length σ H→DN σ H) :
  ∃W:Nat→Nat→St→Hp→Prop,(∃m,W 0 m σ H)∧∀i m σ H,W i m σ H →
   ((me S a k).stop i H∧DN σ H)∨((me S a k).go i H∧∃N:St→Hp→Prop,(∀σ' H',N σ' H'→∃m',m'<m∧W (i+1) m' σ' H')∧∀x H',(me S a k).yld i H x H'→B N x σ H'):=by
 refine⟨fun i m σ H=>m=xs.length-i∧i≤xs.length∧Pv i σ H,⟨xs.length,by simp,yH _,h0⟩,?_⟩
 rintro i m σ H ⟨rfl,hi,p⟩
 have q:=hl i σ H hi p
 by_cases hlt:i<xs.length
 ·refine .inr ⟨⟨xs,xs[i],q,by simp[hlt]⟩,Pv (i+1),fun σ' H' p'=>⟨xs.length-(i+1),by omega,rfl,hlt,p'⟩,fun x H' y=>?_⟩
  obtain⟨t,y,e,ht,e',hy⟩:=y
  subst e e'
  exact hs i y σ _ t (hy xs q) p ht
 ·have e:i=xs.length:=by lia
  subst e
  exact .inl ⟨⟨xs,q,rfl⟩,hd σ H p⟩
noncomputable def sY(K:PySem.W.Frag)(k:Nat)(te:TE):TI:=fun σ H R=>te σ H fun x H1=>∃a,x=.ref a∧(∃xs,SqL K H1 a xs)∧R (me (SqL K) a k) H1
noncomputable def wU(K:PySem.W.Frag)(k:Nat)(te:TE):TI:=fun σ H R=>te σ H fun x H1=>∃a,x=.ref a∧(∃xs,SqT K H1 a xs)∧R (me (SqT K) a k) H1
section
variable{X:Cx}{elts:List Expr}{x1:Nat}{tp:Pos}
theorem fB{S:Hp→Addr→List V→Prop}{sq:Heap→Array Value→Prop}{ti:Nat→Heap→Prop}{pins:List (Addr×Obj)}{σ:St}{H:Hp}{s:Shared}{R:It→Hp→Prop}{E:Value→Shared→Prop}{a:Addr}{k:Nat}{g:Heap}{c:Int}(I:Inv X pins σ H s)
  (O:jI X.prog X.w X.K S a s.heap.objs.size sq ti) (hc:c=(k:Int)) (he:IsEnum g (s.heap.objs.size+1) s.heap.objs.size c .none) (hi:ti 0 g) (hk:∀b o,s.heap.get? b=some o→g.get? b=some o) (q:R (me S a k) H) :
  wpAny (model X.prog X.w) X.A (pyIter (.ref (s.heap.objs.size+1))) (PIE X pins σ (.Tuple elts x1 tp) R) E { s with heap:=g }:=by
 subst hc
 refine wpAny_pyIter_enum he ⟨s.heap.objs.size+1,[s.heap.objs.size+1,s.heap.objs.size],_,_,H,rfl,I.kept (t':=s.toks) hk,o6 a _ _ k (Nat.succ_ne_self _) O,⟨⟨_,he⟩,hi⟩,fun b hb=>?_,q⟩
 rcases List.mem_cons.mp hb with z | z
 ·subst z
  exact I.fpOk (yBb _) (I.hok.fresh (yBb _))
 ·have z':b=s.heap.objs.size:=by simpa using z
  subst z'
  exact I.fpOk (yi _) (I.hok.fresh (yi _))
theorem cD{e:Expr}{te:TE}{p pos:Pos}(hg:Gl X "enumerate")(hm:X.mg "enumerate" = none)(he:PE X e te)(hs:starEach [e] X.env=[(false,eval e X.env)]:=by rfl):PI X (.Tuple elts x1 tp) (.Call (.Name "enumerate" p) [e] [] pos) (sY X.K 0 te):=by
 intro pins s σ H R I h
 refine Call_ (dJ I hg hm boot_enumerate (PyProof.Rows.callWith_type1 ?_ hs rfl))
 rw[hs]
 refine Calls.spliced_cons (thn (he pins s σ H _ I h) fun v s1 ⟨x,H1,I1,rx,q1⟩=>Calls.spliced_nil ?_)
 obtain⟨a,rfl,⟨xs,hq⟩,q⟩:=q1
 cases rx
 obtain⟨its,rv,pl,_⟩:=I1.list hq
 exact call_enumerate_list pl.isList fun g e1 e2 _ hk=>fB I1 (kQ a _) rfl e1 e2 hk q
theorem kr{M:Model}{A:Around}{E:Value→Shared→Prop}{s:Shared}{env:Env}{pos:Pos}{T:String}{x:Sem Value}{rest:List (Bool×Sem Value)}{kws:List (Option Str×Sem Value)}{Q:Value→Shared→Prop}(h1:rest.any (·.1)=false)(h2:kws.all (·.1.isSome)=true)(h3:kws.any (·.1.isNone)=false)
  (h:wpAny M A (spliced ((false,x)::rest)) (fun vs s1=>wpAny M A (evalAll (kws.map (·.2))) (fun ks s2=>wpAny M A (call (.type T) vs ((kws.filterMap (·.1)).zip ks)) Q E s2) E s1) E s):wpAny M A (callWith pos (.type T) [] ((false,x)::rest) kws) Q E s:=by
 unfold callWith
 refine wpAny_bind (wpAny_holding (wpAny_mono (evalArgs_kwB h2 (Q:=fun a s1=>wpAny M A (call (.type T) ([]++a.pos) a.kw) Q E s1) h) (fun a s1 z=>wpAny_bind (wpAny_standAt ?_)) fun _ _ z=>z))
 simp only[yLa,h1,h3,Bool.or_false,Bool.false_or]
 exact wpAny_bind (wpAny_pure (wpAny_bind (wpAny_mono z (fun r s2 hr=>wpAny_bind (wpAny_holding (wpAny_point (wpAny_pure hr)))) fun _ _ z=>z)))
theorem hG{e:Expr}{te:TE}{p pos kp ip:Pos}{j:Nat}{pins:List (Addr×Obj)}{s:Shared}{σ:St}{H:Hp}{Q:VK}{R:Value→Shared→Prop}(hg:Gl X "enumerate")(hm:X.mg "enumerate" = none)(he:PE X e te)(hs:starEach [e] X.env=[(false,eval e X.env)])
  (I:Inv X pins σ H s) (h:te σ H Q) (k:∀x v H1 s1 t,Inv X pins σ H1 s1→aX x v→Q x H1→wpAny (model X.prog X.w) X.A (call (.type "enumerate") [v] [("start",.int 1 t)]) R X.xe s1) :
  wpAny (model X.prog X.w) X.A (eval (.Call (.Name "enumerate" p) [e] [⟨some "start",.Constant (.int 1) j ip,kp⟩] pos) X.env) R X.xe s:=by
 refine wpAny_Call_Name_kw (dJ I hg hm boot_enumerate ?_)
 rw[hs]
 refine kr (env:=X.env) (rest:=[]) rfl rfl rfl ?_
 refine Calls.spliced_cons (thn (he pins s σ H Q I h) fun v s1 ⟨x,H1,I1,rx,q⟩=>Calls.spliced_nil ?_)
 refine kws_cons (wpAny_Constant_int (kws_nil ?_))
 exact k x v H1 _ _ (I1.tok _) rx q
theorem i9{e:Expr}{te:TE}{p pos kp ip:Pos}{j:Nat}(hg:Gl X "enumerate")(hm:X.mg "enumerate" = none)(he:PE X e te)(hs:starEach [e] X.env=[(false,eval e X.env)]:=by rfl):PI X (.Tuple elts x1 tp) (.Call (.Name "enumerate" p) [e] [⟨some "start",.Constant (.int 1) j ip,kp⟩] pos) (sY X.K 1 te):=by
 intro pins s σ H R I h
 refine hG hg hm he hs I h fun x v H1 s1 t I1 rx q1=>?_
 obtain⟨a,rfl,⟨xs,hq⟩,q⟩:=q1
 cases rx
 obtain⟨its,rv,pl,_⟩:=I1.list hq
 exact mQ pl.isList fun g e1 e2 hk=>fB I1 (kQ a _) rfl e1 e2 hk q
theorem kd{e:Expr}{te:TE}{p pos kp ip:Pos}{j:Nat}(hg:Gl X "enumerate")(hm:X.mg "enumerate" = none)(he:PE X e te)(hs:starEach [e] X.env=[(false,eval e X.env)]:=by rfl):PI X (.Tuple elts x1 tp) (.Call (.Name "enumerate" p) [e] [⟨some "start",.Constant (.int 1) j ip,kp⟩] pos) (wU X.K 1 te):=by
 intro pins s σ H R I h
 refine hG hg hm he hs I h fun x v H1 s1 t I1 rx q1=>?_
 obtain⟨a,rfl,⟨xs,hq⟩,q⟩:=q1
 cases rx
 obtain⟨its,rv,pl,_⟩:=I1.tuple hq
 exact l5 pl fun g e1 e2 hk=>fB I1 (nY a _) rfl e1 e2 hk q
end
structure kU(P:Program)(w:World)(K:PySem.W.Frag)(mg:Str→Option Value)(base:Heap)(x:Str)(C:Addr)(ps:List Str)(k:Nat)(sp:Sp):Prop where
 ex:∃(f:Addr) (fd:FuncData),aN P w K mg base CX0 k f fd ps sp∧b7 K fd ps []∧Mk K C f∧mg x=some (.ref C)
structure iB(P:Program)(w:World)(K:PySem.W.Frag)(mg:Str→Option Value)(base:Heap)(C:Addr)(m:Str)(ps:List Str)(k:Nat)(sp:Sp):Prop where
 ex:∃(f:Addr) (fd:FuncData),aN P w K mg base CX0 k f fd ps sp∧b7 K fd ps []∧gM K C m f∧Cls K C
theorem c7{X:Cx}{x:Str}{C:Addr}{ps:List Str}{k:Nat}{sp:Sp}{e:Expr}{es:List Expr}{t:TA}{p pos:Pos}(c:kU X.prog X.w X.K X.mg X.base x C ps k sp)(hr:b4 (k+1) X.A)(hg:Gl X x)(ha:PA X (e::es) t)
  (hdb:(x == ("__debug__":Str))=false:=by decide) (he:starEach (e::es) X.env=(false,eval e X.env)::starEach es X.env:=by rfl) (hpl:(backTo pos (starEach es X.env)).any (·.1)=false:=by rfl) :
  PE X (.Call (.Name x p) (e::es) [] pos) (pb C sp [] E0 t):=by
 obtain⟨f,fd,F,b,m,hm⟩:=c.ex
 exact sw m F hr hg hm b .nil qV ha hdb he hpl
theorem cB{X:Cx}{m:Str}{C:Addr}{ps:List Str}{k:Nat}{sp:Sp}{o e:Expr}{es:List Expr}{ta:TE}{t:TA}{apos pos:Pos}{pl:Sem Bool}(c:iB X.prog X.w X.K X.mg X.base C m ps k sp)(hr:b4 k X.A)(ho:PE X o ta)(ha:PA X (e::es) t)
  (he:starEach (e::es) X.env=(false,eval e X.env)::starEach es X.env:=by rfl) (hpl:(backTo pos (starEach es X.env)).any (·.1)=false:=by rfl)
  (ht:eval (.Call (.Attribute o m apos) (e::es) [] pos) X.env=(do
   let v←eval o X.env
   standAt apos.atName
   let (g,first)←holding [v] (getMethod v m pl)
   callWith pos g first (backTo pos (starEach (e::es) X.env)) (backToKw pos (keywordEach [] X.env))):=by rfl):PE X (.Call (.Attribute o m apos) (e::es) [] pos) (pU C m sp [] E0 ta t):=by
 obtain⟨f,fd,F,b,hm,cl⟩:=c.ex
 exact sE ho cl hm F hr b .nil qV ha he hpl ht
theorem dO{X:Cx}{x:Str}{n:Int}{pos:Pos}(hg:Gl X x)(hm:∃tk,X.mg x=some (.int n tk))(hd:(x == ("__debug__":Str))=false:=by decide):PE X (.Name x pos) (tC (.int n)):=by
 obtain⟨tk,hm⟩:=hm
 exact se hg hm ⟨tk,rfl⟩ hd
noncomputable def nT:V→List V→Hp→VK→Prop:=fun x vs H Q=>∃l xs i y,x=.ref l∧vs=[.int i,y]∧H l=some (.lst xs)∧0≤i∧i≤xs.length∧xs.length<sizeLine∧Q .non (upd H l (.lst (xs.take i.toNat++y::xs.drop i.toNat)))
theorem oZ{i:Int}(h0:0≤i)(h1:i≤(sizeLine:Nat)):Builtin.List.listFitsIndex i=true:=by
 have:=ir
 have e:((2 ^ 63:Nat):Int)=9223372036854775808:=by decide
 refine fitsIndex_both ?_ ?_ <;> lia
theorem oV{X:Cx}:MtM X "list.insert" nT:=by
 intro pins s σ H x vs v us Q I rx rv h
 obtain⟨l,xs,i,y,rfl,rfl,hH,i0,i1,hz,q⟩:=h
 cases rx
 obtain⟨u,u',rfl,ru,ru'⟩:=rv.two
 obtain⟨t,rfl⟩:=ru
 obtain⟨z,its,n,r,hl,e⟩:=I.lstM hH
 refine call_meets F.slot_list_insert ⟨_,e,rfl⟩ F.entry_list_insert (F.args_list_insert_3 _ _ _) (AutoSeq1.list_insert_list_int_val_1 l its.toArray n i t u' (by rw[oZ i0 (by lia)];decide) (by rw[ye];lia)) ⟨e,?_⟩
 refine⟨.non,_,I.lset (its':=its.take i.toNat++u'::its.drop i.toNat) hH e ?_ ((r.take i.toNat).append (.cons ru' (r.drop i.toNat))) ?_,rfl,q⟩
 ·have e1:¬ i<0:=by lia
  have e2:min i.toNat its.toArray.size=i.toNat:=by rw[ye];lia
  simp only[if_neg e1,e2]
  apply Array.toList_inj.mp
  simp
  exact yoa (by rw[yw];lia)
 ·rw[yd,yp,yf,yw]
  lia
end L2
namespace L2
open PySem PySem.Spec PyProof.Rows
section
variable{X:Cx}{K:PySem.W.Frag}
theorem fz(hK:X.K=K):IxR X (tO K):=by subst hK;exact aW
theorem fL(hK:X.K=K):IxR X (sB K):=by subst hK;exact bi
theorem c9{es:List Expr}{k:Nat}{t:TGs}{n:Nat}{pos:Pos}(hK:X.K=K)(hc:X.calm=true)(h:PGs X es t)(hn:(assignEach es X.env).length=n:=by rfl)(hst:(assignEach es X.env).findIdx? (·.1)=none:=by rfl):PG X (.Tuple es k pos) (sQ K n t):=by
 subst hK;exact cx hc h hn hst
theorem mw(hK:X.K=K):OpR X (compareOp .In) (rIn K false):=by subst hK;exact om
theorem sZ{k:Nat}(hK:X.K=K)(n:Nat)(hr:b4 k X.A)(hn:n≤9:=by decide):OpR X (compareOp .Eq) (Ah K n):=by subst hK;exact qT n hr hn
noncomputable def u9(K:PySem.W.Frag):List V→Hp→VK→Prop:=fun xs H Q=>∃p ys,xs=[.ref p]∧(SqL K H p ys∨SqT K H p ys)∧Q (.int ys.length) H
theorem aF(hK:X.K=K):b6 X (.builtin "len") (u9 K):=by subst hK;exact kf
noncomputable def nJ(K:PySem.W.Frag):List V→Hp→VK→Prop:=fun xs H Q=>∃p ys,xs=[.ref p]∧(SqL K H p ys∨SqT K H p ys)∧∀l,H l=none→Q (.ref l) (upd H l (.lst ys))
theorem cW(hK:X.K=K):b6 X (.type "list") (nJ K):=by subst hK;exact jP
noncomputable def uh(K:PySem.W.Frag):List V→Hp→VK→Prop:=fun xs H Q=>∃p ys,xs=[.ref p]∧SqL K H p ys∧∀l,H l=none→Q (.ref l) (upd H l (.tup ys))
theorem bC(hK:X.K=K):b6 X (.type "tuple") (uh K):=by
 subst hK
 intro pins s σ H xs us Q I r h
 obtain⟨p,ys,e,hs,q⟩:=h
 exact jc pins s σ H xs us Q I r ⟨p,ys,e,.inl ⟨hs,q⟩⟩
end
theorem SqL.off{K:PySem.W.Frag}{H:Hp}{a x:Addr}{xs:List V}{o:HO}(h:SqL K H a xs)(h1:∀ys,H x≠some (.lst ys))(h2:∀v u,H x≠some (.frz v u)):SqL K (upd H x o) a xs:=by
 rcases h with (h | ⟨v,h⟩) | h
 ·have ne:a≠x:=fun z=>h1 _ (z ▸ h)
  exact .inl (.inl (by rw[av ne];exact h))
 ·have ne:a≠x:=fun z=>h2 _ _ (z ▸ h)
  exact .inl (.inr ⟨v,by rw[av ne];exact h⟩)
 ·exact .inr h
end L2
namespace L2
theorem au{t u:TS}{D:dG}{σ:St}{H:Hp}(h:∀U:TS,U=u→t { D with nx:=U D } σ H):ze t u D σ H:=h u rfl
end L2
set_option maxHeartbeats 4000000
namespace My
open PySem L2
noncomputable def New(H H':Hp)(r:Addr)(xs:List V):Prop:=aA H H'∧H r=none∧H' r=some (.lst xs)
theorem ah{H:Hp}{p:Addr}(h:H p=none)(o:HO):aA H (upd H p o):=fun b u q=>by rw[av (aG q h)];exact q
theorem aI{H H':Hp}{p:Addr}(h:H p=none)(g:aA H H')(o:HO):aA H (upd H' p o):=fun b u q=>by rw[av (aG q h)];exact g b u q
theorem nU{ns:List Int}{k:Int}(h0:0≤k)(h:k<(ns.length:Int)):∃v:Int,atI (ns.map V.int) k=some (.int v):=by
 have hk:k.toNat<ns.length:=by omega
 have q:atI (ns.map V.int) ((k.toNat:Nat):Int)=some (.int ns[k.toNat]):=aR (by rw[yc,yb hk] <;> rfl)
 rw[show((k.toNat:Nat):Int)=k by lia] at q
 exact⟨_,q⟩
theorem aL{n:Nat}(h:n≤1000):n≤sizeLine:=yQa (aE h)
noncomputable abbrev Pst:=Int×Int×Int
noncomputable def jp(H:Hp)(v:V)(q:Pst):Prop:=∃t,v=.ref t∧H t=some (.tup [.int q.1,.int q.2.1,.int q.2.2])
noncomputable def okH(h:Int):Prop:=0≤h∧h<1073741824
noncomputable def okP(q:Pst):Prop:=(0≤q.1∧q.1<1073741824)∧(0≤q.2.1∧q.2.1≤1000000000)∧(0≤q.2.2∧q.2.2≤1)
structure Ok(d:Int)(hs:List Int)(ps:List Pst):Prop where
 d1:1≤d
 d2:d≤31
 h:∀x∈hs,okH x
 hl:hs.length≤8
 p:∀q∈ps,okP q
 pl:ps.length≤6
theorem jp.mono{H H':Hp}{v:V}{q:Pst}(g:aA H H')(h:jp H v q):jp H' v q:=by
 obtain⟨t,e,h⟩:=h
 exact⟨t,e,g _ _ h⟩
noncomputable abbrev cQ(H:Hp):List V→List Pst→Prop:=Paired (jp H)
theorem cQ.mono{H H':Hp}(g:aA H H'){ts:List V}{ps:List Pst}(h:cQ H ts ps):cQ H' ts ps:=Paired.mapP h fun _ _=>jp.mono g
theorem cQ.at'{H:Hp}{ts:List V}{ps:List Pst}(h:cQ H ts ps){i:Nat}{v:V}(e:ts[i]? = some v):∃q,ps[i]? = some q∧jp H v q:=Paired.get' h e
theorem cQ.len{H:Hp}{ts:List V}{ps:List Pst}(h:cQ H ts ps):ts.length=ps.length:=Paired.length h
theorem n1:¬(("days":Str) = "hands"):=by decide +kernel
theorem n2:¬(("days":Str) = "posts"):=by decide +kernel
theorem n3:¬(("hands":Str) = "posts"):=by decide +kernel
noncomputable def wf(d:Int)(h p:Addr):List (Str×V):=bn "posts" (.ref p) (bn "hands" (.ref h) (bn "days" (.int d) []))
theorem ee(d:Int)(h p:Addr):(wf d h p).lookup ("days":Str)=some (.int d):=by
 unfold wf
 rw[ap,if_neg n2,ap,if_neg n1,ap,if_pos rfl]
theorem dU(d:Int)(h p:Addr):(wf d h p).lookup ("hands":Str)=some (.ref h):=by
 unfold wf
 rw[ap,if_neg n3,ap,if_pos rfl]
theorem io(d:Int)(h p:Addr):(wf d h p).lookup ("posts":Str)=some (.ref p):=by
 unfold wf
 rw[ap,if_pos rfl]
theorem zC(d:Int)(h p:Addr){m:Str}(h1:¬ m = "posts")(h2:¬ m = "hands")(h3:¬ m = "days"):(wf d h p).lookup m=none:=by
 unfold wf
 rw[ap,if_neg h1,ap,if_neg h2,ap,if_neg h3]
 all_goals rfl
structure bt(C:Addr)(H:Hp)(x:Addr)(d:Int)(hs:List Int)(ps:List Pst):Prop where
 ex:∃dx ha pa ts,H x=some (.ins C dx (wf d ha pa))∧H ha=some (.tup (hs.map V.int))∧H pa=some (.tup ts)∧cQ H ts ps
theorem bt.mono{C:Addr}{H H':Hp}{x:Addr}{d:Int}{hs:List Int}{ps:List Pst}(g:aA H H')(w:bt C H x d hs ps):bt C H' x d hs ps:=by
 obtain⟨dx,ha,pa,ts,h1,h2,h3,h4⟩:=w.ex
 exact⟨dx,ha,pa,ts,g _ _ h1,g _ _ h2,g _ _ h3,h4.mono g⟩
noncomputable def cv(h n:Int):Bool:=decide (Builtin.bitAnd h n=n)
noncomputable def gq:Pst:=(0,0,0)
noncomputable def chI(h:Int)(ps:List Pst)(i:Nat):List Int:=((List.range i).filter fun j=>cv h (ps[j]?.getD gq).1).map fun j:Nat=>(j:Int)+1
noncomputable def ch(h:Int)(ps:List Pst):List Int:=0::chI h ps ps.length
theorem qS(h:Int)(ps:List Pst)(i:Nat):chI h ps (i+1)=chI h ps i++if cv h (ps[i]?.getD gq).1 then [(i:Int)+1] else []:=by
 unfold chI
 rw[yN,yga,yg]
 congr 1
 by_cases e:cv h (ps[i]?.getD gq).1 <;> simp[e]
theorem jZ(h:Int)(ps:List Pst)(i:Nat):(chI h ps i).length≤i:=by
 unfold chI
 rw[ya]
 have:=yba (fun j=>cv h (ps[j]?.getD gq).1) (List.range i)
 simpa using this
theorem mS(h:Int)(ps:List Pst):(ch h ps).length≤ps.length+1:=by
 unfold ch
 rw[yp]
 have:=jZ h ps ps.length
 lia
noncomputable def hrs(ps:List Pst):Nat→Int
 | 0=>0
 | k+1=>(ps[k]?.getD gq).2.1
noncomputable def ngt(ps:List Pst):Nat→Bool
 | 0=>false
 | k+1=>decide ((ps[k]?.getD gq).2.2=1)
theorem vF{x y:Int}(hx:0≤x)(hy:0≤y):Builtin.bitOr x y=((x.toNat ||| y.toNat:Nat):Int):=by
 rw[PyProof.Rows.bitOr_and,PyProof.Rows.bitAnd_pp hx hy]
 have e:=PyProof.Rows.nat_or_add_and x.toNat y.toNat
 omega
theorem Paired.getR{α β:Type}{F:α→β→Prop}:∀{xs:List α} {ys:List β} {i:Nat} {y:β},Paired F xs ys→ys[i]? = some y→∃x,xs[i]? = some x∧F x y
 | _,_,_,_,.nil,e=>by simp at e
 | _,_,0,_,.cons r _,e=>by simp at e;subst e;exact⟨_,rfl,r⟩
 | _,_,i+1,y,.cons _ t,e=>by
  obtain⟨u,h1,h2⟩:=Paired.getR (i:=i) (y:=y) t (by simpa using e)
  exact⟨u,by simpa using h1,h2⟩
theorem pO{K:PySem.W.Frag}{H:Hp}:∀(n:Nat) (x:V) (d:DV),Den K H n x d→fw n d d:=by
 intro n
 induction n with
 | zero =>
  intro x d h
  cases d with
  | lst ds=>cases x <;> exact False.elim h
  | tup ds=>cases x <;> exact False.elim h
  | _=>exact True.intro
 | succ n ih =>
  intro x d h
  cases d with
  | lst ds =>
   cases x with
   | ref a =>
    obtain⟨xs,_,hp⟩:∃xs,SqL K H a xs∧Paired (Den K H n) xs ds:=h
    intro _ i d e h1 h2
    rw[h1] at h2
    cases h2
    obtain⟨y,_,hy⟩:=Paired.getR hp h1
    exact ih y d hy
   | _=>exact False.elim h
  | tup ds =>
   cases x with
   | ref a =>
    obtain⟨xs,_,hp⟩:∃xs,SqT K H a xs∧Paired (Den K H n) xs ds:=h
    intro i d e h1 h2
    rw[h1] at h2
    cases h2
    obtain⟨y,_,hy⟩:=Paired.getR hp h1
    exact ih y d hy
   | _=>exact False.elim h
  | _=>exact True.intro
end My
set_option maxHeartbeats 1000000
namespace My
open PySem L2
noncomputable def xQ(H:Hp)(v:V)(row:List Int):Prop:=∃t,v=.ref t∧H t=some (.lst (row.map V.int))
noncomputable abbrev Rows(H:Hp):List V→List (List Int)→Prop:=Paired (xQ H)
theorem Rows.mono{H H':Hp}(g:aA H H'){ts:List V}{rows:List (List Int)}(h:Rows H ts rows):Rows H' ts rows:=Paired.mapP h fun _ _ ⟨t,e,q⟩=>⟨t,e,g _ _ q⟩
theorem Rows.len{H:Hp}{ts:List V}{rows:List (List Int)}(h:Rows H ts rows):ts.length=rows.length:=Paired.length h
theorem Rows.at'{H:Hp}{ts:List V}{rows:List (List Int)}(h:Rows H ts rows){i:Nat}{v:V}(e:ts[i]? = some v):∃row,rows[i]? = some row∧xQ H v row:=Paired.get' h e
theorem Rows.get{H:Hp}{ts:List V}{rows:List (List Int)}(h:Rows H ts rows){i:Nat}{row:List Int}(e:rows[i]? = some row):∃t,ts[i]? = some (.ref t)∧H t=some (.lst (row.map V.int)):=by
 obtain⟨v,e1,t,rfl,q⟩:=Paired.getR h e
 exact⟨t,e1,q⟩
theorem Rows.snoc{H:Hp}{ts:List V}{rows:List (List Int)}{v:V}{row:List Int}(h:Rows H ts rows)(hv:xQ H v row):Rows H (ts++[v]) (rows++[row]):=by
 induction h with
 | nil=>exact .cons hv .nil
 | cons a _ ih=>exact .cons a ih
theorem Rows.off{H:Hp}{ts:List V}{rows:List (List Int)}{l:Addr}{o:HO}(h:Rows H ts rows)(hl:V.ref l∉ts):Rows (upd H l o) ts rows:=by
 induction h with
 | nil=>exact .nil
 | cons a _ ih =>
  obtain⟨t,rfl,q⟩:=a
  have ne:t≠l:=fun z=>hl (by rw[z];exact yq)
  exact .cons ⟨t,rfl,by rw[av ne];exact q⟩ (ih fun z=>hl (yj _ z))
theorem Rows.tracked{H:Hp}{ts:List V}{rows:List (List Int)}(h:Rows H ts rows){l:Addr}(hl:V.ref l∈ts):∃row:List Int,H l=some (.lst (row.map V.int)):=by
 induction h with
 | nil=>cases hl
 | cons a _ ih =>
  obtain⟨t,rfl,q⟩:=a
  rcases List.mem_cons.mp hl with z | z
  ·cases z
   exact⟨_,q⟩
  ·exact ih z
theorem Rows.notin{H:Hp}{ts:List V}{rows:List (List Int)}(h:Rows H ts rows){l:Addr}(hl:H l=none):V.ref l∉ts:=fun z=>by
 obtain⟨row,q⟩:=h.tracked z
 rw[hl] at q
 cases q
theorem Rows.put{H:Hp}:∀{ts:List V} {rows:List (List Int)} {i:Nat} {t:Addr} {row:List Int},Rows H ts rows→ts.Nodup→ts[i]? = some (.ref t)→Rows (upd H t (.lst (row.map V.int))) ts (rows.set i row)
 | _,_,_,_,_,.nil,_,e=>by simp at e
 | _,_,0,t,row,.cons a r,nd,e=>by
  simp at e
  subst e
  have hn:=(yW.mp nd).1
  exact .cons ⟨t,rfl,af⟩ (Rows.off r hn)
 | v::ts,_::rows,i+1,t,row,.cons a r,nd,e=>by
  have hn:=(yW.mp nd)
  obtain⟨t',rfl,q⟩:=a
  have e':ts[i]? = some (.ref t):=by simpa using e
  have ne:t'≠t:=fun z=>hn.1 (by rw[z];exact yk e')
  exact .cons ⟨t',rfl,by rw[av ne];exact q⟩ (Rows.put r hn.2 e')
noncomputable def rD(row:List Int):DV:=.lst (row.map DV.int)
noncomputable def tD(rows:List (List Int)):DV:=.lst (rows.map rD)
theorem qG{K:PySem.W.Frag}{H:Hp}{n:Nat}{a:Addr}{ts:List V}{rows:List (List Int)}(h:SqL K H a ts)(hT:Rows H ts rows):Den K H (n+2) (.ref a) (tD rows):=by
 refine⟨_,h,?_⟩
 clear h
 induction hT with
 | nil=>exact .nil
 | cons a _ ih =>
  obtain⟨t,rfl,q⟩:=a
  exact .cons (fH (SqL.of q)) ih
theorem la{n:Nat}{ds:List DV}:fw (n+1) (.lst ds) (.lst []):=fun _ i d e _ h2=>by simp at h2
noncomputable def val(rows:List (List Int))(j day:Nat):Int:=((rows[j]?.getD [])[day]?).getD 0
theorem zf{rows:List (List Int)}{j day:Nat}{row:List Int}(h:rows[j]? = some row)(hd:day<row.length):val rows j day=row[day]:=by
 unfold val
 rw[h,yP,yb hd,yP]
structure cr(H:Hp)(D:Addr)(rows:List (List Int))(i:Nat)(H':Hp):Prop where
 ex:∃us':List V,us'.length=i∧aA H H'∧H' D=some (.lst us')∧Rows H' us' (rows.take i)∧us'.Nodup∧∀t,V.ref t∈us'→t≠D∧H t=none
theorem cr.start{H:Hp}{D:Addr}{rows:List (List Int)}(hD:H D=none):cr H D rows 0 (upd H D (.lst [])) :=
 ⟨[],rfl,ah hD _,af,by rw[ypa];exact .nil,yta,fun t z=>by cases z⟩
theorem cr.same{H H':Hp}{D:Addr}{rows:List (List Int)}{i:Nat}(h:cr H D rows i H'):aA H H':=by
 obtain⟨_,_,g,_⟩:=h.ex
 exact g
theorem cr.step{H H':Hp}{D l:Addr}{rows:List (List Int)}{i:Nat}{row:List Int}(h:cr H D rows i H')(hD:H D=none)(hrow:rows[i]? = some row)(hl:H' l=none)(hi:i≤900) :
  ∃xs,upd H' l (.lst (row.map V.int)) D=some (.lst xs)∧xs.length<sizeLine∧cr H D rows (i+1) (upd (upd H' l (.lst (row.map V.int))) D (.lst (xs++[.ref l]))):=by
 obtain⟨us',hu,g,e,hR,nd,fr⟩:=h.ex
 have g2:=ah hl (.lst (row.map V.int))
 have ne:D≠l:=aG e hl
 have hlu:V.ref l∉us':=hR.notin hl
 refine⟨us',g2 _ _ e,aE (by lia),us'++[.ref l],by rw[yd,hu];rfl,aI hD (g.trans g2) _,af,?_,?_,fun t ht=>?_⟩
 ·refine Rows.off ?_ ?_
  ·rw[List.take_add_one,hrow]
   exact Rows.snoc (hR.mono g2) ⟨l,rfl,af⟩
  ·intro z
   rcases List.mem_append.mp z with z | z
   ·exact(fr D z).1 rfl
   ·exact ne (V.ref.inj (List.mem_singleton.mp z))
 ·rw[ymb]
  refine⟨nd,by simp,fun a ha b hb=>?_⟩
  rw[List.mem_singleton.mp hb]
  exact fun z=>hlu (z ▸ ha)
 ·rcases List.mem_append.mp ht with z | z
  ·exact fr t z
  ·have:t=l:=V.ref.inj (List.mem_singleton.mp z)
   subst this
   exact⟨ne.symm,g.free hl⟩
theorem cr.done{H H':Hp}{D:Addr}{rows:List (List Int)}{i:Nat}(h:cr H D rows i H')(hi:i=rows.length) :
  ∃us':List V,aA H H'∧H' D=some (.lst us')∧Rows H' us' rows∧us'.Nodup∧∀t,V.ref t∈us'→t≠D∧H t=none:=by
 obtain⟨us',hu,g,e,hR,nd,fr⟩:=h.ex
 rw[hi,yA] at hR
 exact⟨us',g,e,hR,nd,fr⟩
end My
set_option maxHeartbeats 400000
namespace L2
open PySem PySem.Spec PyProof.Rows
structure dN(P:Program)(w:World)(l:List Env)(H:Hp)(s:Shared)(H':Hp)(B:Heap)(a:Addr)(cls a0:Value)(s':Shared):Prop where
 os:s'.os=s.os
 bare:AllBare s'.gens
 un:Un (frs l) [] H H' s.heap s'.heap
 hok:HOk P w H' s'.heap
 fly:Heap.FlyingW B l a cls a0 s'.heap
 cov:∀b o,s.heap.get? b=some o→b∉frs l→∃o',B.get? b=some o'
 trk:∀b u,H' b=some u→∃o',B.get? b=some o'
 own:∀b u,H' b=some u→b∉frs l
noncomputable def CX1(P:Program)(w:World):CXT:=fun outer H s E e s'=>∃(a:Addr) (cls:Value) (H':Hp) (B:Heap) (a0:Value),e=.ref a∧dN P w outer H s H' B a cls a0 s'∧E cls none H'
theorem br.there{P:Program}{w:World}{H:Hp}{h:Heap}{a:Addr}{o:HO}(x:br P w H h a o):∃ob,h.get? a=some ob:=by
 cases o with
 | lst xs=>obtain⟨_,_,_,_,e⟩:=x;exact⟨_,e⟩
 | tup xs=>obtain⟨_,_,_,ob,e,_⟩:=x;exact⟨_,e⟩
 | dK kvs=>obtain⟨_,_,_,_,o,_,_,e,_⟩:=x;exact⟨_,e⟩
 | dT kvs=>obtain⟨_,_,_,_,o,_,_,e,_⟩:=x;exact⟨_,e⟩
 | set S n=>obtain⟨o,_,_,_,e,_⟩:=x;exact⟨_,e⟩
 | ins C dx fs=>obtain⟨_,_,_,e,_⟩:=x;exact⟨_,e⟩
 | own y=>exact x
 | xd fs=>obtain⟨_,⟨o,_,_,e,_⟩,_⟩:=x;exact⟨_,e⟩
 | rng lo hi=>obtain⟨_,_,_,e⟩:=x;exact⟨_,e⟩
 | frz ob u=>exact⟨_,x.1⟩
 | tbl ps=>exact⟨_,x⟩
 | met f y=>exact⟨_,x⟩
 | ext φ=>exact x.2.1
section
variable{P:Program}{w:World}{l:List Env}{H H':Hp}{s s':Shared}{B h'':Heap}{a:Addr}{cls a0:Value}
theorem dN.same(F:dN P w l H s H' B a cls a0 s'){b:Addr}{o o':Obj}(e:B.get? b=some o')(q:s'.heap.get? b=some o):o'=o:=by
 have z:=F.fly.1 b o' e
 rw[q] at z
 exact(yt z).symm
theorem dN.next(F:dN P w l H s H' B a cls a0 s')(st:B.StaysIn h'')(us:s'.heap.UpToSlots h''):Un (frs l) [] H H' s.heap h''∧HOk P w H' h'':=by
 have keep:∀b o,s.heap.get? b=some o→H b=none→b∉frs l→b∉([]:List Addr)→h''.get? b=some o:=fun b o e n hb hx=>by
  obtain⟨o',eb⟩:=F.cov b o e hb
  have q:=F.un.keep b o e n hb hx
  rw[F.same eb q] at eb
  exact st b o eb
 have fr:∀b∈frs l,∀o,s'.heap.get? b=some o→∃sl,h''.get? b=some { o with slots:=sl }:=fun b hb o e=>by
  obtain⟨_,o',e',nf⟩:=F.fly.2.2.1.mem hb
  rw[e] at e'
  cases e'
  exact us b o e nf
 refine⟨⟨keep,fun b o e n hb hx=>?_,F.un.free,fun b o e hx=>?_,F.un.tups,F.un.frzs,F.un.tbls⟩,fun b u e=>?_⟩
 ·obtain⟨sl,e1⟩:=F.un.slot b o e n hb hx
  obtain⟨sl',e2⟩:=fr b hb _ e1
  exact⟨sl',e2⟩
 ·by_cases hb:b∈frs l
  ·obtain⟨o',e1⟩:=F.un.there b o e hx
   obtain⟨sl,e2⟩:=fr b hb _ e1
   exact⟨_,e2⟩
  ·obtain⟨o',eb⟩:=F.cov b o e hb
   exact⟨o',st b o' eb⟩
 ·have one:∀c v,(∃u,H' c=some u)→s'.heap.get? c=some v→h''.get? c=some v:=fun c v ⟨u,hc⟩ q=>by
   obtain⟨o',eb⟩:=F.trk c u hc
   rw[F.same eb q] at eb
   exact st c v eb
  refine(F.hok b u e).stay (fun c v hc q=>one c v ?_ q) (fun _ q=>q) fun _ _ q=>q
  rcases hc with z | z
  ·exact⟨u,by rw[z];exact e⟩
  ·exact⟨_,z⟩
end
structure qA(X:Cx):Prop where
 st:X.stack=X.env::X.outer
 fr:X.env.frame=some X.env.locals
 ex:X.ex=[]
section
variable{X:Cx}{pins:List (Addr×Obj)}{σ:St}{H H':Hp}{s s':Shared}{B:Heap}{a:Addr}{cls a0:Value}
theorem qA.frs(b:qA X):frs X.stack=X.env.locals::X.fs:=by
 rw[b.st]
 unfold L2.frs
 rw[yNa,b.fr]
 rfl
theorem mV(I:Inv X pins σ H s){b:Addr}{o:Obj}(e:X.s₀.heap.get? b=some o):b≠X.env.locals:=yE (yF (Heap.lt_size e) I.ok.above)
theorem dN.up(hb:qA X)(I:Inv X pins σ H s)(F:dN X.prog X.w X.stack H s H' B a cls a0 s'){h'':Heap}(fly:Heap.FlyingW B X.outer a cls a0 h'')(us:s'.heap.UpToSlots h'') :
  dN X.prog X.w X.outer X.H₀ X.s₀ H' B a cls a0 { s' with heap:=h'' }:=by
 obtain⟨u,k⟩:=F.next fly.1 us
 have nf:∀b o,X.s₀.heap.get? b=some o→b∉X.fs→b∉L2.frs X.stack:=fun b o e hn z=>by
  rw[hb.frs] at z
  rcases List.mem_cons.mp z with z | z
  ·exact mV I e z
  ·exact hn z
 have ib:=I.base
 rw[hb.ex] at ib
 refine⟨F.os.trans I.os,F.bare,⟨fun b o e n hn hx=>?_,fun b o e n hn hx=>?_,fun b o e n hx=>?_,fun b o e hx=>?_,fun b xs e=>u.tups b xs (ib.tups b xs e),fun b o v e=>u.frzs b o v (ib.frzs b o v e),fun b ps e=>?_⟩,k,fly,fun b o e hn=>?_,F.trk,fun b v e z=>F.own b v e ?_⟩
 ·exact u.keep b o (ib.keep b o e n hn hx) (ib.free b o e n hx) (nf b o e hn) hx
 ·obtain⟨sl,e1⟩:=ib.slot b o e n hn hx
  obtain⟨sl',e2⟩:=u.slot b _ e1 (ib.free b o e n hx) (by rw[hb.frs];exact yj _ hn) hx
  exact⟨sl',e2⟩
 ·obtain⟨o',e1⟩:=ib.there b o e hx
  exact u.free b o' e1 (ib.free b o e n hx) hx
 ·obtain⟨o',e1⟩:=ib.there b o e hx
  exact u.there b o' e1 hx
 ·obtain⟨m1,e1⟩:=ib.tbls b ps e
  obtain⟨m2,e2⟩:=u.tbls b _ e1
  exact⟨m1++m2,by rw[e2,yMb]⟩
 ·obtain⟨o',e1⟩:=ib.there b o e (by simp)
  exact F.cov b o' e1 (nf b o e hn)
 ·rw[hb.frs]
  exact yj _ z
theorem dN.made(hb:qA X)(I:Inv X pins σ H s){h' h'':Heap}{t:Nat}(mk:∀b o,s.heap.get? b=some o→h'.get? b=some o)(fly:Heap.FlyingW (PySem.W.hideAll s.heap (L2.frs X.stack)) X.outer a cls a0 h'')(us:h'.UpToSlots h'') :
  dN X.prog X.w X.outer X.H₀ X.s₀ H (PySem.W.hideAll s.heap (L2.frs X.stack)) a cls a0 { s with heap:=h'',toks:=t }:=by
 have inB:∀b o,s.heap.get? b=some o→b∉L2.frs X.stack→(PySem.W.hideAll s.heap (L2.frs X.stack)).get? b=some o:=fun b o e n=>PySem.W.hideAll_get _ e n
 have own:∀b u,H b=some u→b∉L2.frs X.stack:=fun b u e z=>by rw[I.stkFree b z] at e;cases e
 have nf:∀b o,X.s₀.heap.get? b=some o→b∉X.fs→b∉L2.frs X.stack:=fun b o e hn z=>by
  rw[hb.frs] at z
  rcases List.mem_cons.mp z with z | z
  ·exact mV I e z
  ·exact hn z
 have fr:∀b∈X.fs,∀o,s.heap.get? b=some o→∃sl,h''.get? b=some { o with slots:=sl }:=fun b hb' o e=>by
  obtain⟨_,o',e',nfd⟩:=I.funs.mem hb'
  rw[e] at e'
  cases e'
  exact us b o (mk b o e) nfd
 have ib:=I.base
 rw[hb.ex] at ib
 refine⟨I.os,I.bare,⟨fun b o e n hn hx=>fly.1 b o (inB b o (ib.keep b o e n hn hx) (nf b o e hn)),fun b o e n hn hx=>?_,ib.free,fun b o e hx=>?_,ib.tups,ib.frzs,ib.tbls⟩,fun b u e=>?_,fly,fun b o e hn=>?_,fun b u e=>?_,fun b u e z=>own b u e ?_⟩
 ·obtain⟨sl,e1⟩:=ib.slot b o e n hn hx
  obtain⟨sl',e2⟩:=fr b hn _ e1
  exact⟨sl',e2⟩
 ·obtain⟨o',e1⟩:=ib.there b o e hx
  by_cases hn:b∈X.fs
  ·obtain⟨sl,e2⟩:=fr b hn _ e1
   exact⟨_,e2⟩
  ·exact⟨o',fly.1 b o' (inB b o' e1 (nf b o e hn))⟩
 ·refine(I.hok b u e).stay (fun c v hc q=>fly.1 c v (inB c v q ?_)) (fun _ q=>q) fun _ _ q=>q
  rcases hc with z | z
  ·rw[z];exact own b u e
  ·exact own c _ z
 ·obtain⟨o',e1⟩:=ib.there b o e (by simp)
  exact⟨o',inB b o' e1 (nf b o e hn)⟩
 ·obtain⟨o',e1⟩:=(I.hok b u e).there
  exact⟨o',inB b o' e1 (own b u e)⟩
 ·rw[hb.frs]
  exact yj _ z
end
noncomputable def uN(X:Cx)(E:XK):Prop:=∀(pins:List (Addr×Obj)) (σ:St) (H:Hp) (s:Shared) (h':Heap) (a:Addr) (cls:Value) (args:List Value),Inv X pins σ H s→Heap.MadeExcOf s.heap h' a cls args→E cls none H→X.xe (.ref a) { s with heap:=h' }
section
variable{P:Program}{w:World}{K:PySem.W.Frag}{mg:Str→Option Value}{base:Heap}{N:List Str}{qual:Str}{scope:Scope}{f:Addr}{cd:Value}{A:Around}{outer:List Env}{s₀:Shared}{H₀:Hp}{E:XK}
theorem ng{CX:CXT}:qA (eQ CX P w K mg base N qual scope f cd A outer s₀ H₀ E):=⟨rfl,rfl,rfl⟩
theorem zU:dB (CX1 P w) (eQ (CX1 P w) P w K mg base N qual scope f cd A outer s₀ H₀ E) E:=by
 intro pins σ H s e s' I h
 obtain⟨a,cls,H',B,a0,rfl,F,q⟩:=h
 exact wpAny_leaves_onW I.ok.frames rfl F.fly fun h'' fl us=>⟨a,cls,H',B,a0,rfl,F.up ng I fl us,q⟩
theorem vn:uN (eQ (CX1 P w) P w K mg base N qual scope f cd A outer s₀ H₀ E) E:=by
 intro pins σ H s h' a cls args I mk q
 have st:(PySem.W.hideAll s.heap (L2.frs (eQ (CX1 P w) P w K mg base N qual scope f cd A outer s₀ H₀ E).stack)).StaysIn s.heap:=fun b o e=>PySem.W.of_hideAll _ e
 have ff:=PySem.W.funFrames_hide (as:=L2.frs (eQ (CX1 P w) P w K mg base N qual scope f cd A outer s₀ H₀ E).stack) I.stack fun env he b hb=>List.mem_filterMap.mpr ⟨env,he,hb⟩
 exact wpAny_leaves_madeW (h:=s.heap) I.ok.frames rfl st ff mk fun h'' t fl _ _ us=>⟨a,cls,H,_,_,rfl,dN.made (t:=s.toks) ng I mk.keeps fl us,q⟩
theorem Fun.okX{x qual:Str}{st:Stmt}{f:Addr}{fd:FuncData}{N ps:List Str}{k:Nat}{sp:Sp}(F:Fun K x qual st f fd)(S:aw N ps (ao st))(len:∀vs H Q E,sp vs H Q E→vs.length=ps.length)
  (hbody:∀(cdv:Value) (A:Around) (outer:List Env) (s:Shared) (H:Hp) (vs:List V) (Q:VK) (E:XK),b4 k (A.deeper (envOfC qual (ao st) s.heap.objs.size f cdv))→sp vs H Q E →
   ∃t,PSs (eQ (CX1 P w) P w K mg base N qual (ao st) f cdv A outer s H E) (cg st) t∧t { nx:=fun _ H'=>Q .non H',rt:=Q } (start N vs) H):aN P w K mg base (CX1 P w) (k+1) f fd ps sp:=by
 obtain⟨oc,od,kV,doc,pm,an,cdv,ct,osl,rfl,lk,hcd⟩:=F.ex
 exact ug lk hcd S len fun A outer s H vs Q E hr hsp=>hbody cdv A outer s H vs Q E hr hsp
end
abbrev bmV:List Value:=[.type "ValueError",.type "Exception",.type "BaseException",.type "object"]
structure rL(K:PySem.W.Frag)(mg:Str→Option Value)(x:Str)(C:Addr):Prop where
 at_:mg x=some (.ref C)
 ok:PySem.W.excIn K C bmV "ValueError.__new__" = true
theorem rL.obj{K:PySem.W.Frag}{mg:Str→Option Value}{x:Str}{C:Addr}(c:rL K mg x C){h:Heap}(X:K.In h):∃bm N nm q bs hdct sn sub ab col dd k0 k1 k2 k3 k5 mN,h.get? C=some (excClassObj nm q C N bs bm hdct sn sub ab col dd k0 k1 k2 k3 k5 "ValueError.__new__")∧h.Ns N mN∧mN "__init__" = none∧OwnTail h bmV bm:=by
 have z:=c.ok
 unfold PySem.W.excIn at z
 split at z
 ·rename_i dd cd sl ho
  split at z
  ·rename_i C' bm k0 k1 k2 k3 n k5 hm hs
   simp only[yK,beq_iff_eq,yTa] at z
   obtain⟨⟨⟨⟨⟨e1,e2⟩,e3⟩,e4⟩,e5⟩,e6⟩:=z
   subst e1 e2
   obtain⟨nm,bs,mro,ns,qn,hd,sn,sub,ab,col,del⟩:=cd
   dsimp only at hm e3 e5 e6
   subst hm e3
   obtain⟨sl⟩:=sl
   have hs':sl=[k0,k1,k2,k3,some (.builtin "ValueError.__new__"),k5]:=hs
   subst hs'
   exact⟨bm,ns,nm,qn,bs,hd,sn,sub,ab,col,dd,k0,k1,k2,k3,k5,_,X _ _ ho,.of_isNs (PySem.W.isNs_of_in X e5),PySem.W.nsMap_none_of_in X e5 e6,PySem.W.tail_of_in X e4⟩
  ·cases z
 ·cases z
noncomputable def qw(E:XK)(C:Addr)(ta:TA):TS:=fun _ σ H=>ta σ H fun vs H1=>vs.length≤sizeLine∧E (.ref C) none H1
theorem pE{X:Cx}{E:XK}{x:Str}{C:Addr}{e:Expr}{es:List Expr}{t:TA}{np cpos pos:Pos}(hR:uN X E)(hc:X.calm=true)(hg:Gl X x)(c:rL X.K X.mg x C)(ha:PA X (e::es) t)
  (hdb:(x == ("__debug__":Str))=false:=by decide) (he:starEach (e::es) X.env=(false,eval e X.env)::starEach es X.env:=by rfl) (hpl:(backTo cpos (starEach es X.env)).any (·.1)=false:=by rfl) :
  PS X (.Raise (some (.Call (.Name x np) (e::es) [] cpos)) none pos) (qw E C t):=by
 intro pins s σ H D I h
 obtain⟨bm,Na,nm,q,bs,hdct,sn,sub,ab,col,dd,k0,k1,k2,k3,k5,mN,hC,hN,hni,TL⟩:=c.obj I.mod.kin
 refine wpAny_Raise_call_subT (C:=C) (nm:=nm) (q:=q) (N:=Na) (bs:=bs) (bm:=bm) (hdct:=hdct) (sn:=sn) (sub:=sub) (ab:=ab) (col:=col) (dd:=dd) (k0:=k0) (k1:=k1) (k2:=k2) (k3:=k3) (k5:=k5) PySem.F.excBase_ValueError (mN:=mN) (TL.hasType PySem.F.excBase_ValueError.hasBase) (I.ok.hd hc) ?_ hni (gS I hg c.at_ ⟨rfl,?_⟩ hdb)
 ·rw[he]
  show(false||(backTo cpos (starEach es X.env)).any (·.1))=false
  rw[hpl]
  rfl
 ·have z:=ha cpos pins s σ H _ I h
  rw[he] at z ⊢
  refine Calls.evalArgs_plain (wpAny_mono z (fun us s1 y=>?_) fun _ _ y=>y)
  obtain⟨vs,H1,I1,r,hl,qE⟩:=y
  exact⟨rfl,by rw[← r.length];exact hl,I1.bk _ _ hC,hN.keeps I1.bk,TL.keeps I1.bk,fun h' a mk=>hR pins σ H1 s1 h' a _ _ I1 mk qE⟩
structure ph(P:Program)(w:World)(K:PySem.W.Frag)(mg:Str→Option Value)(base:Heap)(x:Str)(ps:List Str)(k:Nat)(sp:Sp):Prop where
 ex:∃(f:Addr) (fd:FuncData),aN P w K mg base (CX1 P w) k f fd ps sp∧b7 K fd ps []∧PySem.W.keepIn K (.ref f)=true∧mg x=some (.ref f)
noncomputable def wq(sp:Sp)(t:TA):St→Hp→VK→XK→Prop:=fun σ H Q E=>t σ H fun vs H1=>sp (vs++[]) H1 Q E
noncomputable def vG(te:St→Hp→VK→XK→Prop):dG→St→Hp→XK→Prop:=fun D σ H E=>te σ H (fun _ H1=>D.nx σ H1) E
noncomputable def Ad(i:Nat)(te:St→Hp→VK→XK→Prop):dG→St→Hp→XK→Prop:=fun D σ H E=>te σ H (fun v H1=>D.nx (σ.set i (some v)) H1) E
noncomputable def zV(C:Addr)(tb:dG→St→Hp→XK→Prop)(ts to:TS):TS:=fun D σ H=>tb { D with nx:=to D } σ H fun cls _ H'=>cls=.ref C∧ts D σ H'
end L2
set_option maxHeartbeats 1000000
namespace My
open PySem L2
noncomputable def eU(d:Int)(h:Int)(ps:List Pst)(row:List Int):Bool:=decide ((row.length:Int)=d)&&row.all fun v=>decide (v∈ch h ps)
noncomputable def kc(d:Int)(hs:List Int)(ps:List Pst)(rows:List (List Int))(j:Nat):Bool:=eU d (hs[j]?.getD 0) ps (rows[j]?.getD [])
noncomputable def bI(d:Int)(hs:List Int)(ps:List Pst)(rows:List (List Int)):Bool:=decide (rows.length=hs.length)&&(List.range rows.length).all (kc d hs ps rows)
theorem mW(x:Int)(ps:List Int):inV (.int x) (ps.map V.int)=decide (x∈ps):=by
 rw[yca,decide_eq_true_eq]
 unfold inV
 simp only[List.any_map,List.any_eq_true,Function.comp]
 constructor
 ·rintro⟨y,hy,e⟩
  have:y=x:=by simpa [eqV] using e
  exact this ▸ hy
 ·intro h
  exact⟨x,h,by simp[eqV]⟩
theorem jk(ps:List Int):(ps.map V.int).all eV=true:=by simp[yL,eV]
theorem iu(f:Nat→Bool)(n:Nat):((List.range n).map f).all id=(List.range n).all f:=by
 simp[yub]
theorem bV(xs:List V)(k:Nat):eJ xs none (some (k:Int))=xs.take k:=by
 unfold eJ
 rw[HT.sIx_none,HT.sIx_nat,List.drop_zero,yOb]
 by_cases h:k≤xs.length
 ·rw[Nat.min_eq_left h]
 ·rw[Nat.min_eq_right (by lia),yA,yoa (by lia)]
end My
set_option maxHeartbeats 400000
namespace L2
open PySem PySem.Spec PySem.Calls PyProof.Rows
structure Cg(K:PySem.W.Frag)(C:Addr):Prop where
 ga:PySem.W.findIn K (.ref C) "__getattribute__" = some (some (.builtin "BaseException.__getattribute__"))
 cl:PySem.W.findIn K (.ref C) "__class__" = some (some (.builtin "object.__class__"))
 no:PySem.W.findIn K (.ref C) "__getattr__" = some none
 be:PySem.W.mroIn K C (.type "BaseException")=some true
 ob:PySem.W.mroIn K C (.type "object")=some true
section
variable{K:PySem.W.Frag}{prog:Program}{w:World}{A:Around}{E:Value→Shared→Prop}{h:Heap}{g:Array GenState}{d:Drawn}{t:Nat}{os:OsState}{a C:Addr}{o:Obj}
end
noncomputable abbrev Aq(a C:Addr)(h:Heap):Prop:=∃o,h.get? a=some o∧o.cls=.ref C
noncomputable abbrev xt(a C:Addr):HO:=.ext (Aq a C)
noncomputable def vO:V→Value
 | .ref a=>.ref a
 | .ty n=>.type n
 | _=>.none
noncomputable def Bh(K:PySem.W.Frag):List V→Hp→VK→Prop:=fun xs H Q=>∃a D c b,xs=[.ref a,c]∧H a=some (xt a D)∧Cg K D∧PySem.W.kitOne K (.ref D) (vO c)=some b∧Q (.bl b) H
noncomputable def C5(C:Addr):List V→Hp→VK→Prop:=fun xs H Q=>xs.length≤sizeLine∧∀a,H a=none→Q (.ref a) (upd H a (xt a C))
end L2
set_option maxHeartbeats 1000000
namespace My
open PySem L2 PySem.Spec PyProof.Rows
structure Bl(K:PySem.W.Frag)(C:Addr):Prop where
 ha:PySem.W.findIn K (.ref C) "__class__" = some (some (.builtin "object.__class__"))
 hn:PySem.W.specialIn K (.builtin "object.__class__") "__get__" = some (some (.builtin "getset_descriptor.__get__"))
 htk:PySem.W.takesIn K (.builtin "object.__class__")=some true
 hm:PySem.W.mroIn K C (.type "object")=some true
noncomputable def B0(K:PySem.W.Frag):List V→Hp→VK→Prop:=fun xs H Q=>∃a C dx fs c b,xs=[.ref a,c]∧H a=some (.ins C dx fs)∧Cls K C∧Bl K C∧PySem.W.kitOne K (.ref C) (vO c)=some b∧Q (.bl b) H
section
variable{X:Cx}
noncomputable def um:List V→Hp→VK→Prop:=fun xs H Q=>∃i j:Int,xs=[.int i,.int j]∧∀p,H p=none→Q (.ref p) (upd H p (.rng i j))
theorem gF:b6 X (.type "range") um:=by
 intro pins s σ H xs us Q I r h
 obtain⟨i,j,rfl,q⟩:=h
 obtain⟨u,u',rfl,⟨t,rfl⟩,⟨t',rfl⟩⟩:=m5 r
 refine call_range_2 ⟨.ref s.heap.objs.size,_,I.laid (fun b o e=>Heap.get?_push_of_some _ e) (yi _) ?_,rfl,q _ I.fresh⟩
 exact⟨_,_,_,Heap.get?_push_size _ rfl⟩
noncomputable def dR(i:Int)(n:Nat):List Int:=(List.range n).map fun k:Nat=>i+(k:Int)
noncomputable def pM:List V→Hp→VK→Prop:=fun xs H Q=>∃p,∃i j:Int,xs=[.ref p]∧H p=some (.rng i j)∧-1000≤i∧i≤1000∧j≤1000∧-1000≤j∧∀l,H l=none→Q (.ref l) (upd H l (.lst ((dR i (j-i).toNat).map V.int)))
theorem iS(hc:X.calm=true):b6 X (.type "list") pM:=by
 intro pins s σ H xs us Q I r h
 obtain⟨p,i,j,rfl,hp,i0,i1,j1,j0,q⟩:=h
 obtain⟨u,rfl,ru⟩:=dY r
 cases ru
 obtain⟨t,u',v,e⟩:=I.hok p _ hp
 have hn:Builtin.Range.rangeSize i j 1=((j-i).toNat:Int):=by rw[rangeSize_one];split <;> lia
 refine call_list_range (I.ok.hd hc) (a:=i) (b:=j) (c:=1) e (small_one (by lia) (by lia) (by lia) (by lia)) hn (by lia) fun h' tk acc' c' hk hS hacc=>?_
 refine⟨.ref s.heap.objs.size,_,I.laid hk (yi _) (o:=.lst ((dR i (j-i).toNat).map V.int)) ?_,rfl,q _ I.fresh⟩
 refine⟨by unfold dR;simp only[ya,yo];rw[sizeLine_eq];lia,acc'.toList,c',?_,by simpa using hS⟩
 have go:∀(n k:Nat) (l:List Value),l.length=n→(∀(m:Nat) (v:Value),l[m]? = some v→∃t,v=Value.int (i+((m+k:Nat):Int)*1) t)→aO (((List.range' k n).map fun m:Nat=>i+(m:Int)).map V.int) l:=by
  intro n
  induction n with
  | zero =>
   intro k l hl _
   cases l with
   | nil=>exact .nil
   | cons a b=>simp at hl
  | succ n ih =>
   intro k l hl hv
   cases l with
   | nil=>simp at hl
   | cons a b =>
    rw[List.range'_succ,ym,ym]
    refine .cons ?_ (ih (k+1) b (by simpa using hl) fun m v hm=>?_)
    ·obtain⟨t,e⟩:=hv 0 a (by simp)
     exact⟨t,by rw[e];congr 1;lia⟩
    ·obtain⟨t,e⟩:=hv (m+1) v (by simpa using hm)
     exact⟨t,by rw[e];congr 1;lia⟩
 have:=go (j-i).toNat 0 acc'.toList (by simp[hacc.1]) fun m v hm=>hacc.2 m v (by simpa using hm)
 rw[← yFb] at this
 exact this
noncomputable def Cp:List V→Hp→VK→Prop:=fun xs H Q=>(∃i:Int,xs=[.int i]∧i.natAbs.log2<1920∧Q (.str (toString i)) H)∨∃z,xs=[.str z]∧Q (.str z) H
noncomputable def Its(lo c:Int)(n:Nat):It:=⟨fun i _=>i<n,fun i H x H'=>H'=H∧x=.int (lo+i*c),fun i _=>n≤i⟩
noncomputable def Ay(ta:TA):TI:=fun σ H R=>ta σ H fun vs H1=>∃i j:Int,vs=[.int i,.int j,.int 2]∧(-1000≤i∧i≤1000∧-1000≤j∧j≤1000)∧R (Its i 2 ((j-i+1) / 2).toNat) H1
end
end My
namespace My
open PySem L2
end My
set_option maxHeartbeats 400000
namespace L2
open PySem PySem.Spec PySem.Calls PyProof.Rows
structure AT(K:PySem.W.Frag)(mg:Str→Option Value)(x:Str)(W C:Addr):Prop where
 at_:mg x=some (.ref W)
 ty:PySem.W.typeIn K (.ref W)=some (.type "type")
 be:PySem.W.mroIn K W (.type "BaseException")=some true
 sub:PySem.W.mroIn K C (.ref W)=some true
section
variable{X:Cx}{pins:List (Addr×Obj)}{σ:St}{H H':Hp}{s s':Shared}{B:Heap}{a:Addr}{cls a0:Value}
end
noncomputable def dG.gone(D:dG)(i:Nat):dG:={ nx:=fun σ H=>D.nx (σ.set i none) H,rt:=D.rt,bk:=fun σ H=>D.bk (σ.set i none) H,ct:=fun σ H=>D.ct (σ.set i none) H }
noncomputable def Au(i:Nat)(K:PySem.W.Frag)(mg:Str→Option Value)(x:Str)(W:Addr)(tb:dG→St→Hp→XK→Prop)(ts to:TS):TS:=fun D σ H =>
 tb { D with nx:=to D } σ H fun cls _ H'=>∃C,cls=.ref C∧AT K mg x W C∧∀a,H' a=none→ts (D.gone i) (σ.set i (some (.ref a))) (upd H' a (xt a C))
theorem fj{X:Cx}{K:PySem.W.Frag}{e:Expr}{ta:TE}{f:Str}{pos:Pos}(hK:X.K=K)(he:PE X e ta)(hb:attributeBase e f X.env (eval e X.env)=eval e X.env):PE X (.Attribute e f pos) (uZ K ta f):=by subst hK;exact aU he hb
end L2
set_option maxHeartbeats 1000000
namespace My
open PySem L2
section
variable{d:Int}{hs:List Int}{ps:List Pst}{i:Nat}{rows:List (List Int)}{row:List Int}{x:Int}
end
section
variable{H:Hp}{us:List V}{rows:List (List Int)}{v:V}{row:List Int}
end
section
variable{H H' H'':Hp}{r:Addr}{us us':List V}{rows rows':List (List Int)}{n L:Nat}
end
end My
namespace My
open PySem L2
theorem aP{α β:Type}{F:α→β→Prop}{xs:List α}{ys:List β}{x:α}{y:β}(h:Paired F xs ys)(hx:F x y):Paired F (xs++[x]) (ys++[y]):=by
 induction h with
 | nil=>exact .cons hx .nil
 | cons a _ ih=>exact .cons a ih
theorem lT{α β:Type}{F:α→β→Prop}{xs xs':List α}{ys ys':List β}(h:Paired F xs ys)(h':Paired F xs' ys'):Paired F (xs++xs') (ys++ys'):=by
 induction h with
 | nil=>exact h'
 | cons a _ ih=>exact .cons a ih
theorem c6{α β:Type}{F:α→β→Prop}{xs:List α}{ys:List β}(h:Paired F xs ys){i:Nat}{y:β}(e:ys[i]? = some y):∃x,xs[i]? = some x∧F x y:=by
 have hi:i<xs.length:=by rw[Paired.length h];exact(List.getElem?_eq_some_iff.mp e).1
 have e1:xs[i]? = some xs[i]:=yb hi
 obtain⟨y',e2,hf⟩:=Paired.get' h e1
 rw[e] at e2
 cases e2
 exact⟨_,e1,hf⟩
theorem ba{α:Type}{xs:List α}{i:Nat}{x:α}(h:xs[i]? = some x):xs.take (i+1)=xs.take i++[x]:=by
 rw[List.take_succ,h]
 rfl
noncomputable def fo(H H':Hp):Prop:=∀a xs,H a=some (.tup xs)→H' a=some (.tup xs)
theorem az{H H':Hp}(g:aA H H'):fo H H':=fun a xs e=>g _ _ e
theorem lB{H:Hp}{l:Addr}{o:HO}(h:∀xs,H l≠some (.tup xs)):fo H (upd H l o):=fun a xs e=>by
 have ne:a≠l:=fun z=>h xs (by rw[← z];exact e)
 rw[av ne];exact e
theorem cI{H:Hp}{l:Addr}{ys:List V}{o:HO}(h:H l=some (.lst ys)):fo H (upd H l o):=lB fun xs z=>by rw[h] at z;cases z
structure Prt where
 h:Int
 d:Int
 p:Int
 n:Int
noncomputable def Bk(H:Hp)(v:V)(q:Prt):Prop:=∃t,v=.ref t∧H t=some (.tup [.int q.h,.int q.d,.int q.p,.int q.n])
noncomputable abbrev gJ(H:Hp):List V→List Prt→Prop:=Paired (Bk H)
theorem gJ.mono{H H':Hp}(g:fo H H'){ts:List V}{qs:List Prt}(h:gJ H ts qs):gJ H' ts qs:=Paired.mapP h fun _ _ ⟨t,e,q⟩=>⟨t,e,g _ _ q⟩
structure Lin where
 ps:List Prt
 b:Int
noncomputable def kP(H:Hp)(v:V)(l:Lin):Prop:=∃t u ts,v=.ref t∧H t=some (.tup [.ref u,.int l.b])∧H u=some (.tup ts)∧gJ H ts l.ps
noncomputable abbrev iT(H:Hp):List V→List Lin→Prop:=Paired (kP H)
theorem kP.mono{H H':Hp}(g:fo H H'){v:V}{l:Lin}(h:kP H v l):kP H' v l:=by
 obtain⟨t,u,ts,e,h1,h2,h3⟩:=h
 exact⟨t,u,ts,e,g _ _ h1,g _ _ h2,h3.mono g⟩
theorem iT.mono{H H':Hp}(g:fo H H'){ts:List V}{ls:List Lin}(h:iT H ts ls):iT H' ts ls:=Paired.mapP h fun _ _=>kP.mono g
noncomputable def tot(rows:List (List Int))(qs:List Prt):Int:=(qs.map fun q=>if val rows q.h.toNat q.d.toNat=q.p then q.n else 0).sum
theorem gQ(rows:List (List Int))(a b:List Prt):tot rows (a++b)=tot rows a+tot rows b:=by
 unfold tot
 rw[yg,yda]
theorem gX(rows:List (List Int))(q:Prt):tot rows [q]=if val rows q.h.toNat q.d.toNat=q.p then q.n else 0:=by
 unfold tot
 rw[List.map_singleton,List.sum_singleton]
noncomputable def spr(h:Int)(ds ps:List Int)(n:Int):List Prt:=ds.flatMap fun d=>ps.map fun p=>⟨h,d,p,n⟩
theorem qX(h:Int)(ds:List Int)(d:Int)(ps:List Int)(n:Int):spr h (ds++[d]) ps n=spr h ds ps n++ps.map fun p=>⟨h,d,p,n⟩:=by
 unfold spr
 rw[yOa,List.flatMap_singleton]
theorem fN(h:Int)(ps:List Int)(n:Int):∀ds:List Int,(spr h ds ps n).length=ds.length*ps.length
 | []=>by simp[spr]
 | d::ds=>by
  have ih:=fN h ps n ds
  unfold spr at ih ⊢
  rw[ynb,yd,ih,ya,yp,ytb]
  lia
theorem nh{h n:Int}{ds ps:List Int}{q:Prt}(hq:q∈spr h ds ps n):q.h=h∧q.d∈ds∧q.p∈ps∧q.n=n:=by
 unfold spr at hq
 obtain⟨d,hd,hq⟩:=yua.mp hq
 obtain⟨p,hp,rfl⟩:=List.mem_map.mp hq
 exact⟨rfl,hd,hp,rfl⟩
noncomputable def bN(ps:List Pst):List Int:=dR 1 ps.length
noncomputable def npI(ps:List Pst)(i:Nat):List Int:=((List.range i).filter fun j=>ngt ps (j+1)).map fun j:Nat=>1+(j:Int)
noncomputable def np(ps:List Pst):List Int:=npI ps ps.length
end My
namespace My
open PySem L2
noncomputable def ja(hs:List Int)(h:Int):Bool:=decide (0≤h)&&decide (h<(hs.length:Int))
noncomputable def isM(m:Int):Bool:=decide (0≤m)&&decide (m≤99)
theorem nhm:¬(("hand":Str) = "many"):=by decide +kernel
noncomputable def hm(h m:Int):List (Str×V):=bn "many" (.int m) (bn "hand" (.int h) [])
theorem tP(h m:Int):(hm h m).lookup ("hand":Str)=some (.int h):=by
 unfold hm
 rw[ap,if_neg nhm,ap,if_pos rfl]
noncomputable def tz(h m d:Int)(ps:List Int):List Lin:=(List.range (d-m).toNat).map fun i:Nat=>⟨spr h (dR i (m+1).toNat) ps (-1),-m⟩
end My
namespace My
open PySem L2
end My
namespace My
open PySem L2
end My
namespace My
open PySem L2
noncomputable def nk(ps:List Pst)(v:Int):Bool:=ngt ps v.toNat
end My
namespace My
open PySem L2
theorem jU{n e:Nat}(h:e<n):ixN n (e:Int)=some e:=by
 unfold ixN
 rw[if_pos (by lia),if_pos (by lia),yh]
end My
namespace My
open PySem L2
end My
namespace My
open PySem L2
theorem cq{wi:TI}{g:TG}{tb:TS}{D:dG}{σ:St}{H:Hp}(h:∀B:TS,B=tb→rS wi g B D σ H):rS wi g tb D σ H:=h tb rfl
end My
namespace My
open PySem L2
end My
namespace L2
open PySem PySem.Spec PyProof.Rows
section
variable{prog:Program}{w:World}{A:Around}{E:Value→Shared→Prop}{s:Shared}
theorem pD{t b:Addr}{vs ws:List Value}{Q:Value→Shared→Prop}(ht:IsTup s.heap t vs.toArray)(hb:IsTup s.heap b ws.toArray)(hv:vs=[])(h:Q (.ref b) s):wpAny (model prog w) A (binaryOp .Add (.ref t) (.ref b)) Q E s:=by
 obtain⟨⟨cls,dd,data,sl⟩,ho,hc,n,hd⟩:=id ht
 obtain⟨⟨cls2,dd2,data2,sl2⟩,ho2,hc2,n2,hd2⟩:=id hb
 simp only at hc hd hc2 hd2
 subst hc hd hc2 hd2
 exact concat_meets ⟨_,ho,rfl⟩ ⟨_,ho2,rfl⟩ noFill_tuple_add seq_tuple_add PySem.F.slot_tuple_add PySem.F.entry_tuple_add (PySem.F.args_tuple_add_2 _ _)
   (tuple_addW0 t b vs.toArray ws.toArray n n2 dd dd2 sl sl2 (by simp[hv])) ⟨ho,ho2,h⟩
end
section
variable{X:Cx}
noncomputable def uj:R2:=fun x y H Q=>∃a b xs ys,x=.ref a∧y=.ref b∧H a=some (.tup xs)∧H b=some (.tup ys)∧xs.length+ys.length≤sizeLine∧∀t H',L2.aA H H'→H' t=some (.tup (xs++ys))→Q (.ref t) H'
theorem rJ:OpR X (binaryOp .Add) uj:=by
 intro pins s σ H x y v u Q I rx ry h
 obtain⟨a,b,xs,ys,rfl,rfl,ha,hb,hz,q⟩:=h
 by_cases hx:xs=[]
 ·subst hx
  cases rx
  cases ry
  obtain⟨its,r1,p1,_⟩:=I.tuple (SqT.of ha)
  obtain⟨its2,r2,p2,_⟩:=I.tuple (SqT.of hb)
  exact pD p1 p2 (r1.nil_iff.mpr rfl) ⟨.ref b,H,I,rfl,q b H (fun _ _ z=>z) hb⟩
 ·refine tR pins s σ H _ _ v u Q I rx ry ⟨a,b,xs,ys,rfl,rfl,SqT.of ha,SqT.of hb,hx,hz,fun e=>?_,fun e p hp=>?_⟩
  ·subst e
   exact q a H (fun _ _ z=>z) (by rw[yI];exact ha)
  ·exact q p _ (My.ah hp _) af
end
end L2
namespace My
open PySem L2
end My
namespace L2
open PySem PySem.Spec PyProof.Rows
section
variable{κ:Type}[DecidableEq κ]
noncomputable def bv(kvs:List (κ×V))(k:κ):Option V:=(kvs.find? fun kv=>decide (kv.1=k)).map (·.2)
noncomputable def bR(kvs:List (κ×V))(k:κ)(v:V):List (κ×V) :=
 if (kvs.any fun kv=>decide (kv.1=k))=true then kvs.map (fun kv=>if kv.1=k then (kv.1,v) else kv) else kvs++[(k,v)]
theorem bP{p:κ×V}{r:List (κ×V)}{k:κ}(e:p.1=k):bv (p::r) k=some p.2:=by simp[bv,yGa,e]
theorem bQ{p:κ×V}{r:List (κ×V)}{k:κ}(e:¬ p.1=k):bv (p::r) k=bv r k:=by simp[bv,yGa,e]
theorem fP(k:κ):∀kvs:List (κ×V),(kvs.any fun kv=>decide (kv.1=k))=(bv kvs k).isSome
 | []=>rfl
 | p::r=>by
  rw[yLa]
  by_cases e:p.1=k
  ·simp only[bP e,decide_eq_true e,Bool.true_or,Option.isSome_some]
  ·rw[bQ e,decide_eq_false e,Bool.false_or];exact fP k r
theorem kO(k j:κ)(y:V):∀kvs:List (κ×V),bv (kvs.map fun kv=>if kv.1=k then (kv.1,y) else kv) j=(bv kvs j).map fun x=>if j=k then y else x
 | []=>rfl
 | p::r=>by
  have ih:=kO k j y r
  rw[ym]
  by_cases h:p.1=k
  ·rw[if_pos h]
   by_cases e:p.1=j
   ·rw[bP (p:=(p.1,y)) e,bP e,yT,if_pos (e.symm.trans h)]
   ·rw[bQ (p:=(p.1,y)) e,bQ e,ih]
  ·rw[if_neg h]
   by_cases e:p.1=j
   ·rw[bP (p:=p) e,bP e,yT,if_neg (fun z=>h (e.trans z))]
   ·rw[bQ (p:=p) e,bQ e,ih]
theorem jK(k j:κ)(y:V):∀kvs:List (κ×V),bv kvs k=none→bv (kvs++[(k,y)]) j=if j=k then some y else bv kvs j
 | [],_=>by
  by_cases e:k=j
  ·rw[if_pos e.symm];exact bP (p:=(k,y)) e
  ·rw[if_neg (fun z=>e z.symm)];exact bQ (p:=(k,y)) e
 | p::r,hn=>by
  rw[yJa]
  have hk:¬ p.1=k:=fun z=>by rw[bP z] at hn;cases hn
  rw[bQ hk] at hn
  have ih:=jK k j y r hn
  by_cases e:p.1=j
  ·rw[bP e,bP e,if_neg (fun z=>hk (e.trans z))]
  ·rw[bQ e,bQ e,ih]
theorem fM(kvs:List (κ×V))(k j:κ)(y:V):bv (bR kvs k y) j=if j=k then some y else bv kvs j:=by
 unfold bR
 by_cases a:(kvs.any fun kv=>decide (kv.1=k))=true
 ·rw[if_pos a,kO]
  rw[fP] at a
  by_cases e:j=k
  ·obtain⟨x,hx⟩:=Option.isSome_iff_exists.mp a
   rw[if_pos e,e,hx,yT,if_pos rfl]
  ·rw[if_neg e]
   cases bv kvs j with
   | none=>rfl
   | some x=>rw[yT,if_neg e]
 ·rw[if_neg a]
  refine jK k j y kvs ?_
  rw[fP] at a
  cases q:bv kvs k with
  | none=>rfl
  | some x=>rw[q] at a;exact(a rfl).elim
theorem cw(kvs:List (κ×V))(k:κ)(v:V):(bR kvs k v).length≤kvs.length+1:=by
 unfold bR
 split
 ·rw[ya];omega
 ·rw[yd,yp,yea];omega
theorem dF.isSome_eq{o:Option V}{u:Option Value}(r:dF o u):o.isSome=u.isSome:=by
 cases o with
 | none=>cases u with
  | none=>rfl
  | some _=>exact(show False from r).elim
 | some _=>cases u with
  | none=>exact(show False from r).elim
  | some _=>rfl
theorem dF.getD{o:Option V}{u:Option Value}{d:V}{d':Value}(r:dF o u)(rd:aX d d'):aX (o.getD d) (u.getD d'):=by
 cases o with
 | none=>cases u with
  | none=>exact rd
  | some _=>exact(show False from r).elim
 | some _=>cases u with
  | none=>exact(show False from r).elim
  | some _=>exact r
theorem KV.val{kvs:List (κ×V)}{vs:List (κ×Value)}(r:KV kvs vs)(k:κ):dF (bv kvs k) (valueAt vs k):=by
 unfold KV at r
 induction r with
 | nil=>exact True.intro
 | @cons p q ps qs h t ih =>
  obtain⟨h1,h2⟩:=h
  by_cases e:p.1=k
  ·have e':q.1=k:=h1.symm.trans e
   have b:valueAt (q::qs) k=some q.2:=by simp[valueAt,yGa,e']
   rw[bP e,b];exact h2
  ·have e':¬ q.1=k:=fun z=>e (h1.trans z)
   have b:valueAt (q::qs) k=valueAt qs k:=by simp[valueAt,yGa,e']
   rw[bQ e,b];exact ih
theorem KV.any{kvs:List (κ×V)}{vs:List (κ×Value)}(r:KV kvs vs)(k:κ):(kvs.any fun kv=>decide (kv.1=k))=vs.any fun kv=>decide (kv.1=k):=by
 unfold KV at r
 induction r with
 | nil=>rfl
 | cons h t ih=>rw[yLa,yLa,ih,h.1]
theorem KV.repl{kvs:List (κ×V)}{vs:List (κ×Value)}(r:KV kvs vs)(k:κ){y:V}{u:Value}(ry:aX y u) :
  KV (kvs.map fun kv=>if kv.1=k then (kv.1,y) else kv) (vs.map fun kv=>if kv.1=k then (kv.1,u) else kv):=by
 unfold KV at r ⊢
 induction r with
 | nil=>exact .nil
 | @cons p q ps qs h t ih =>
  rw[ym,ym]
  refine .cons ?_ ih
  obtain⟨h1,h2⟩:=h
  by_cases e:p.1=k
  ·rw[if_pos e,if_pos (h1.symm.trans e)];exact⟨h1,ry⟩
  ·rw[if_neg e,if_neg (fun z=>e (h1.trans z))];exact⟨h1,h2⟩
theorem KV.put{kvs:List (κ×V)}{vs:List (κ×Value)}(r:KV kvs vs)(k:κ){y:V}{u:Value}(ry:aX y u):KV (bR kvs k y) (stored vs k u):=by
 unfold bR stored
 rw[r.any k]
 by_cases e:(vs.any fun kv=>decide (kv.1=k))=true
 ·rw[if_pos e,if_pos e];exact r.repl k ry
 ·rw[if_neg e,if_neg e];exact Paired.snoc r ⟨rfl,ry⟩
theorem KV.length{kvs:List (κ×V)}{vs:List (κ×Value)}(r:KV kvs vs):kvs.length=vs.length:=Paired.length r
end
theorem jD{P:Program}{w:World}{k:Key}{u:Value}(r:aX (kV k) u):(bq P w).is k u=true:=by
 cases k with
 | inl i=>obtain⟨t,e⟩:=(show ∃t,u=Value.int i t from r);subst e;exact k7 P w i t
 | inr x=>obtain⟨t,e⟩:=(show ∃t,u=Value.str x t from r);subst e;exact lw P w x t
theorem ju{P:Program}{w:World}:∀{ks:List Key} {us:List Value},aO (ks.map kV) us→ItemsAre (bq P w) ks us
 | [],_,r=>by rw[ycb] at r;cases r;exact .nil
 | k::ks,_,r=>by
  rw[ym] at r
  cases r with
  | cons h t=>exact .cons (jD h) (ju t)
noncomputable abbrev KT(H:Hp):List (List Key×V)→List (List Key×Addr×Value)→Prop:=Paired fun p q=>p.1=q.1∧H q.2.1=some (.tup (p.1.map kV))∧aX p.2 q.2.2
theorem KT.val{H:Hp}{kvs:List (List Key×V)}{xs:List (List Key×Addr×Value)}(r:KT H kvs xs)(k:List Key):dF (bv kvs k) ((atKey xs k).map (·.2)):=by
 induction r with
 | nil=>exact True.intro
 | @cons p q ps qs h t ih =>
  obtain⟨h1,_,h2⟩:=h
  by_cases e:p.1=k
  ·have e':q.1=k:=h1.symm.trans e
   have b:atKey (q::qs) k=some q.2:=by simp[atKey,yGa,e']
   rw[bP e,b];exact h2
  ·have e':¬ q.1=k:=fun z=>e (h1.trans z)
   have b:atKey (q::qs) k=atKey qs k:=by simp[atKey,yGa,e']
   rw[bQ e,b];exact ih
theorem KT.repl{H:Hp}{kvs:List (List Key×V)}{xs:List (List Key×Addr×Value)}(r:KT H kvs xs)(k:List Key){y:V}{u:Value}(ry:aX y u) :
  KT H (kvs.map fun kv=>if kv.1=k then (kv.1,y) else kv) (xs.map (putAt k u)):=by
 induction r with
 | nil=>exact .nil
 | @cons p q ps qs h t ih =>
  rw[ym,ym]
  refine .cons ?_ ih
  obtain⟨h1,h2,h3⟩:=h
  unfold putAt
  by_cases e:p.1=k
  ·rw[if_pos e,if_pos (h1.symm.trans e)];exact⟨h1,h2,ry⟩
  ·rw[if_neg e,if_neg (fun z=>e (h1.trans z))];exact⟨h1,h2,h3⟩
theorem KT.put{H:Hp}{kvs:List (List Key×V)}{xs:List (List Key×Addr×Value)}(r:KT H kvs xs)(k:List Key){b:Addr}{y:V}{u:Value}(hb:H b=some (.tup (k.map kV)))(ry:aX y u) :
  KT H (bR kvs k y) (storedH xs k b u):=by
 have e:(kvs.any fun kv=>decide (kv.1=k))=(atKey xs k).isSome:=by
  rw[fP,(r.val k).isSome_eq,yob]
 unfold bR storedH
 rw[e]
 by_cases q:(atKey xs k).isSome=true
 ·rw[if_pos q,if_pos q];exact r.repl k ry
 ·rw[if_neg q,if_neg q];exact Paired.snoc r ⟨rfl,hb,ry⟩
theorem KT.keeps{H H':Hp}{kvs:List (List Key×V)}{xs:List (List Key×Addr×Value)}(r:KT H kvs xs)(ht:∀b ys,H b=some (.tup ys)→H' b=some (.tup ys)):KT H' kvs xs :=
 Paired.mapP r fun _ _ z=>⟨z.1,ht _ _ z.2.1,z.2.2⟩
section
variable{P:Program}{w:World}{H:Hp}{h:Heap}{a:Addr}
theorem ux{u:HO}(ok:HOk P w H h)(e:Rd H a u):br P w H h a u:=e.ok ok
theorem iJ{kvs:List (Key×V)}(ok:HOk P w H h)(e:Rd H a (.dK kvs)):kvs.length≤sizeLine∧(a == sysModules)=false∧∃vs,KV kvs vs∧h.DictOf (bq P w) a vs :=
 show br P w H h a (.dK kvs) from ux ok e
theorem AF{kvs:List (Key×V)}(ok:HOk P w H h)(e:H a=some (.dK kvs)):kvs.length≤sizeLine∧(a == sysModules)=false∧∃vs,KV kvs vs∧h.DictOf (bq P w) a vs:=iJ ok (.inl e)
theorem e8{ks:List Key}(ok:HOk P w H h)(e:H a=some (.tup (ks.map kV))):(tupleKind (bq P w)).is h ks a:=by
 obtain⟨_,its,r,o,h1,h2,n,h3⟩:=(show br P w H h a (.tup (ks.map kV)) from ok a _ e)
 exact⟨o,its.toArray,n,h1,h2,h3,by simpa using ju r⟩
theorem ig{kvs:List (List Key×V)}(ok:HOk P w H h)(e:Rd H a (.dT kvs)):kvs.length≤sizeLine∧(a == sysModules)=false ∧
  ∃xs,KT H kvs xs∧h.DictOfH (tupleKind (bq P w)) a xs:=by
 obtain⟨z,y,xs,r,o,es,ep,h1,h2,h3,h4,h5⟩:=(show br P w H h a (.dT kvs) from ux ok e)
 refine⟨z,y,xs,r,o,es,ep,h1,h2,h3,h4,fun x hx=>?_,h5⟩
 have all:∀{l:List (List Key×V)} {m:List (List Key×Addr×Value)},KT H l m→∀x∈m,(tupleKind (bq P w)).is h x.1 x.2.1:=by
  intro l m q
  induction q with
  | nil=>intro x hx;exact nomatch hx
  | @cons p q ps qs hq t ih =>
   intro x hx
   rcases List.mem_cons.mp hx with e | hx
   ·subst e
    exact e8 ok (by rw[← hq.1];exact hq.2.1)
   ·exact ih x hx
 exact all r x hx
theorem uP{kvs:List (List Key×V)}(ok:HOk P w H h)(e:H a=some (.dT kvs)):kvs.length≤sizeLine∧(a == sysModules)=false ∧
  ∃xs,KT H kvs xs∧h.DictOfH (tupleKind (bq P w)) a xs:=ig ok (.inl e)
end
noncomputable def fu(H:Hp)(a:Addr)(y:V)(r:Option V):Prop :=
 (∃kvs k,Rd H a (.dK kvs)∧y=kV k∧r=bv kvs k)∨∃kvs k b,Rd H a (.dT kvs)∧y=.ref b∧H b=some (.tup (k.map kV))∧r=bv kvs k
noncomputable def oG(H:Hp)(a:Addr)(y v:V)(H':Hp):Prop :=
 (∃kvs k,H a=some (.dK kvs)∧y=kV k∧kvs.length<sizeLine∧H'=upd H a (.dK (bR kvs k v))) ∨
 ∃kvs k b,H a=some (.dT kvs)∧y=.ref b∧H b=some (.tup (k.map kV))∧kvs.length<sizeLine∧H'=upd H a (.dT (bR kvs k v))
theorem fu.t{H:Hp}{a b:Addr}{kvs:List (List Key×V)}{k:List Key}(e:H a=some (.dT kvs))(eb:H b=some (.tup (k.map kV))):fu H a (.ref b) (bv kvs k):=.inr ⟨kvs,k,b,.inl e,rfl,eb,rfl⟩
theorem oG.t{H:Hp}{a b:Addr}{kvs:List (List Key×V)}{k:List Key}{v:V}(e:H a=some (.dT kvs))(eb:H b=some (.tup (k.map kV)))(hl:kvs.length<sizeLine) :
  oG H a (.ref b) v (upd H a (.dT (bR kvs k v))):=.inr ⟨kvs,k,b,e,rfl,eb,hl,rfl⟩
section
variable{X:Cx}{pins:List (Addr×Obj)}{σ:St}{H:Hp}{s:Shared}{a:Addr}{y v:V}{u r:Value}{o:Option V}{A:Around}{E:Value→Shared→Prop}
theorem Inv.big(I:Inv X pins σ H s):sysModules<s.heap.objs.size:=by
 have h:mainGlobals<s.heap.objs.size:=(I.mod.glob.keeps I.bk).lt
 exact Nat.lt_trans (by decide) h
theorem oE{Q:Value→Shared→Prop}(hu:A.units+1<cLine)(I:Inv X pins σ H s)(g:fu H a y (some v))(ry:aX y u)(h:∀w' s',Inv X pins σ H s'→aX v w'→Q w' s') :
  wpAny (model X.prog X.w) A (getItem (.ref a) u) Q E s:=by
 rcases g with ⟨kvs,k,e,ey,l⟩ | ⟨kvs,k,b,e,ey,eb,l⟩
 ·subst ey
  obtain⟨z,hd,vs,rel,dd⟩:=iJ I.hok e
  obtain⟨w',hw,rw'⟩:=dF.some_of (v:=v) (o:=valueAt vs k) (by rw[l];exact rel.val k)
  exact wpAny_getItem_of (jD ry) dd.mapOf hw (h w' _ (I.tok _) rw')
 ·subst ey
  cases (show u=Value.ref b from ry)
  obtain⟨z,hd,xs,rel,dd⟩:=ig I.hok e
  obtain⟨w',hw,rw'⟩:=dF.some_of (v:=v) (o:=(atKey xs k).map (·.2)) (by rw[l];exact rel.val k)
  obtain⟨p,hp,hp2⟩:=Option.map_eq_some_iff.mp hw
  refine wpAny_getItem_heap (tupleKind_room_in1 hu) (e8 I.hok eb) dd hp ?_
  rw[hp2]
  exact h w' _ (I.tok _) rw'
theorem CQ{Q:Value→Shared→Prop}(hu:A.units+1<cLine)(I:Inv X pins σ H s)(g:fu H a y o)(ry:aX y u)(h:∀s',Inv X pins σ H s'→Q (.bool o.isSome) s') :
  wpAny (model X.prog X.w) A (compareOp .In u (.ref a)) Q E s:=by
 rcases g with ⟨kvs,k,e,ey,l⟩ | ⟨kvs,k,b,e,ey,eb,l⟩
 ·subst ey
  obtain⟨z,hd,vs,rel,dd⟩:=iJ I.hok e
  refine wpAny_in_of (jD ry) hd dd.mapOf ?_
  rw[← (rel.val k).isSome_eq,← l]
  exact h _ (I.tok _)
 ·subst ey
  cases (show u=Value.ref b from ry)
  obtain⟨z,hd,xs,rel,dd⟩:=ig I.hok e
  refine wpAny_in_heap (tupleKind_room_in1 hu) (e8 I.hok eb) hd dd ?_
  have q:=(rel.val k).isSome_eq
  rw[yob] at q
  rw[← q,← l]
  exact h _ (I.tok _)
theorem rK{Q:Value→Shared→Prop}(hu:A.units+1<cLine)(I:Inv X pins σ H s)(g:fu H a y o)(ry:aX y u)(h:∀s',Inv X pins σ H s'→Q (.bool (!o.isSome)) s') :
  wpAny (model X.prog X.w) A (compareOp .NotIn u (.ref a)) Q E s:=by
 rcases g with ⟨kvs,k,e,ey,l⟩ | ⟨kvs,k,b,e,ey,eb,l⟩
 ·subst ey
  obtain⟨z,hd,vs,rel,dd⟩:=iJ I.hok e
  refine wpAny_notIn_of (jD ry) hd dd.mapOf ?_
  rw[← (rel.val k).isSome_eq,← l]
  exact h _ (I.tok _)
 ·subst ey
  cases (show u=Value.ref b from ry)
  obtain⟨z,hd,xs,rel,dd⟩:=ig I.hok e
  refine wpAny_notIn_heap (tupleKind_room_in1 hu) (e8 I.hok eb) hd dd ?_
  have q:=(rel.val k).isSome_eq
  rw[yob] at q
  rw[← q,← l]
  exact h _ (I.tok _)
theorem nP{h':Heap}{t':Nat}{ob:HO}(I:Inv X pins σ H s)(mu:Mut (H a))(hs:Heap.SameBut a s.heap h')(he:∃q,h'.get? a=some q)(new:br X.prog X.w (upd H a ob) h' a ob) :
  Inv X pins σ (upd H a ob) { s with heap:=h',toks:=t' } :=
 I.write (x:=a) (e:=a) mu (.inl rfl) (fun b q hb z=>(hs.2 b hb).trans z) he new
theorem uS{P:Program}{w:World}{H':Hp}{h':Heap}{kvs:List (Key×V)}{vs:List (Key×Value)}(z:kvs.length≤sizeLine)(hd:(a == sysModules)=false)(rel:KV kvs vs)(dd:h'.DictOf (bq P w) a vs) :
  br P w H' h' a (.dK kvs):=⟨z,hd,vs,rel,dd⟩
theorem oI{H':Hp}{Q:Unit→Shared→Prop}(hu:A.units+1<cLine)(I:Inv X pins σ H s)(g:oG H a y v H')(ry:aX y u)(rv:aX v r)(h:∀s',Inv X pins σ H' s'→Q () s') :
  wpAny (model X.prog X.w) A (setItem (.ref a) u r) Q E s:=by
 rcases g with ⟨kvs,k,e,ey,l,eH⟩ | ⟨kvs,k,b,e,ey,eb,l,eH⟩
 ·subst ey eH
  obtain⟨z,hd,vs,rel,dd⟩:=AF I.hok e
  have hz:vs.length≤sizeLine:=by rw[← rel.length];exact z
  have hl:(bR kvs k v).length≤sizeLine:=by have:=cw kvs k v;omega
  refine wpAny_setItem_pairs (hsz:=hz) (jD ry) dd fun h' dd' hs=>h _ ?_
  have he:∃q,h'.get? a=some q:=let ⟨q,_,_,hq,_⟩:=dd'; ⟨q,hq⟩
  exact nP I (by rw[e];exact True.intro) hs he (uS hl hd (rel.put k rv) dd')
 ·subst ey eH
  cases (show u=Value.ref b from ry)
  obtain⟨z,hd,xs,rel,dd⟩:=uP I.hok e
  have hz:xs.length≤sizeLine:=by rw[← Paired.length rel];exact z
  have hl:(bR kvs k v).length≤sizeLine:=by have:=cw kvs k v;omega
  refine wpAny_setItem_heap (hsz:=hz) (tupleKind_room_in1 hu) (e8 I.hok eb) dd fun h' dd' hs=>h _ ?_
  obtain⟨q,es,ep,hq,h2,h3,h4,_,h5⟩:=dd'
  refine nP I (by rw[e];exact True.intro) hs ⟨q,hq⟩ ⟨hl,hd,_,(rel.put k eb rv).keeps fun c ys ec=>?_,q,es,ep,hq,h2,h3,h4,h5⟩
  rw[av (AM ec e (fun z=>nomatch z))]
  exact ec
end
section
variable{X:Cx}{pins:List (Addr×Obj)}{σ:St}{H:Hp}{s:Shared}{a:Addr}{kvs:List (Key×V)}{k:Key}{u:Value}{A:Around}{E:Value→Shared→Prop}
end
noncomputable def AA(i:Expr):Prop:=∀ov iv,subscripted i false ov iv=operate [ov,iv] (getItem ov iv)
theorem sM{prog:Program}{w:World}{A:Around}{E:Value→Shared→Prop}{s:Shared}{env:Env}{value slice:Expr}{pos:Pos}{T id:String}{Q:Value→Shared→Prop}
  (hl:typeLookup (.type T) "__getitem__" = pure (some (.builtin id))) (hs:AA slice)
  (h:wpAny (model prog w) A (eval value env) (fun o s₁=>wpAny (model prog w) A (eval slice env) (fun i s₂=>s₂.TypeIs o T∧wpAny (model prog w) A (getItem o i) Q E s₂) E s₁) E s) :
  wpAny (model prog w) A (eval (.Subscript value slice pos) env) Q E s:=by
 refine Subscript_ (wpAny_mono h (fun o s₁ h₁=>wpAny_mono h₁ (fun i s₂ h₂=>?_) fun _ _ x=>x) fun _ _ x=>x)
 obtain⟨hT,h₂⟩:=h₂
 unfold subscriptTail
 refine wpAny_bind ?_
 rw[getitemInPython_of_ne hT.not_modules]
 refine wpAny_bind (wpAny_specialOf hT hl ?_)
 have fin:wpAny (model prog w) A (subscripted slice false o i) (fun r s₃=>wpAny (model prog w) A (letTemporaryGo value o r >>= fun _=>pure r) Q E s₃) E s₂:=by
  rw[hs o i]
  exact wpAny_operating (wpAny_mono h₂ (fun r s₃ h₃=>wpAny_bind (wpAny_letTemporaryGo (wpAny_pure h₃))) fun _ _ x=>x)
 first
  | exact wpAny_pure (wpAny_bind fin)
  | exact wpAny_bind (wpAny_pure (wpAny_bind fin))
  | exact wpAny_bind fin
theorem kH{X:Cx}{pins:List (Addr×Obj)}{σ:St}{H:Hp}{s:Shared}{a:Addr}{y:V}{o:Option V}(I:Inv X pins σ H s)(g:fu H a y o):s.TypeIs (.ref a) "dict" := by
 rcases g with ⟨kvs,k,e,_,_⟩ | ⟨kvs,k,b,e,_,_,_⟩
 ·obtain⟨_,_,vs,_,dd⟩:=iJ I.hok e
  exact dd.typeIs
 ·obtain⟨_,_,xs,_,dd⟩:=ig I.hok e
  exact dd.typeIs
noncomputable def uC(td ty:TE):TE:=fun σ H Q=>td σ H fun x H1=>ty σ H1 fun y H2=>∃a v,x=.ref a∧fu H2 a y (some v)∧Q v H2
noncomputable def zO(ty td:TE):TE:=fun σ H Q=>ty σ H fun y H1=>td σ H1 fun x H2=>∃a o,x=.ref a∧fu H2 a y o∧Q (.bl o.isSome) H2
noncomputable def nZ(ty td:TE):TE:=fun σ H Q=>ty σ H fun y H1=>td σ H1 fun x H2=>∃a o,x=.ref a∧fu H2 a y o∧Q (.bl (!o.isSome)) H2
noncomputable def uO(td ty tv:TE):TS:=fun D σ H=>tv σ H fun v H1=>td σ H1 fun x H2=>ty σ H2 fun y H3=>∃a H4,x=.ref a∧oG H3 a y v H4∧D.nx σ H4
section
variable{X:Cx}{o i e value:Expr}{pos pos' tpos:Pos}{td ty tv:TE}
theorem sx(hu:X.A.units+1<cLine)(ho:PE X o td)(hi:PE X i ty)(hs:AA i):PE X (.Subscript o i pos) (uC td ty):=by
 intro pins s σ H Q I h
 refine sM PySem.F.slot_dict_getitem.lookup hs (thn (ho pins s σ H _ I h) fun u s1 ⟨x,H1,I1,rx,q1⟩=>thn (hi pins s1 σ H1 _ I1 q1) fun iv s2 ⟨y,H2,I2,ry,a,v,ex,g,q2⟩=>?_)
 subst ex
 obtain rfl:u=Value.ref a:=rx
 exact⟨kH I2 g,oE hu I2 g ry fun w' s3 I3 rw'=>⟨v,H2,I3,rw',q2⟩⟩
theorem xq(hu:X.A.units+1<cLine)(hi:PE X i ty)(ho:PE X o td):PC X .In i o (zO ty td):=by
 intro pins s σ H Q I h
 refine thn (hi pins s σ H _ I h) fun iv s1 ⟨y,H1,I1,ry,q1⟩=>thn (ho pins s1 σ H1 _ I1 q1) fun u s2 ⟨x,H2,I2,rx,a,ov,ex,g,q2⟩=>?_
 subst ex
 obtain rfl:u=Value.ref a:=rx
 exact CQ hu I2 g ry fun s3 I3=>⟨.bl ov.isSome,H2,I3,rfl,q2⟩
theorem oJ(hu:X.A.units+1<cLine)(hi:PE X i ty)(ho:PE X o td):PC X .NotIn i o (nZ ty td):=by
 intro pins s σ H Q I h
 refine thn (hi pins s σ H _ I h) fun iv s1 ⟨y,H1,I1,ry,q1⟩=>thn (ho pins s1 σ H1 _ I1 q1) fun u s2 ⟨x,H2,I2,rx,a,ov,ex,g,q2⟩=>?_
 subst ex
 obtain rfl:u=Value.ref a:=rx
 exact rK hu I2 g ry fun s3 I3=>⟨.bl (!ov.isSome),H2,I3,rfl,q2⟩
theorem mY(hu:X.A.units+1<cLine)(ho:PE X o td)(hi:PE X i ty)(hv:PE X value tv)(hs:swapsWith value (some (.Subscript o i pos')) pos.line X.env=pure false) :
  PS X (.Assign [.Subscript o i pos'] value pos) (uO td ty tv):=by
 intro pins s σ H D I h
 refine wpAny_Assign_Subscript (thn (hv pins s σ H _ I h) fun r s1 ⟨v,H1,I1,rv,q1⟩=>thn (ho pins s1 σ H1 _ I1 q1) fun u s2 ⟨x,H2,I2,rx,q2⟩=>thn (hi pins s2 σ H2 _ I2 q2) fun iv s3 ⟨y,H3,I3,ry,a,H4,ex,g,q3⟩=>?_) hs
 subst ex
 obtain rfl:u=Value.ref a:=rx
 exact oI hu I3 g ry rv fun s4 I4=>⟨σ,H4,I4,q3⟩
end
theorem qb{P:Program}{w:World}{H:Hp}(h:Heap)(hb:sysModules<h.objs.size):br P w H (h.push { cls:=.type "dict",data:=.dict #[] }) h.objs.size (.dT []) :=
 ⟨yH _,beq_eq_false_iff_ne.mpr (yva (yE hb)),[],.nil,_,#[],0,Heap.get?_push_size _ rfl,⟨rfl,rfl,rfl⟩,rfl,rfl,yta⟩
noncomputable def qF:TE:=fun _ H Q=>∀p,H p=none→Q (.ref p) (upd H p (.dT []))
section
variable{X:Cx}{pos:Pos}
theorem lE:PE X (.Dict [] [] pos) qF:=fun pins s σ H Q I h =>
 wpAny_Dict_empty ⟨.ref s.heap.objs.size,_,I.laid (a:=s.heap.objs.size) (o:=.dT []) (t':=s.toks) (fun _ _ q=>Heap.get?_push_of_some _ q) (yi _) (qb s.heap I.big),rfl,h _ (I.hok.fresh (yi _))⟩
end
structure M2(X:Cx)(o:Expr)(m:Str)(apos:Pos)(e f:Expr)(cpos:Pos):Prop where
 base:attributeBase o m X.env (eval o X.env)=eval o X.env
 few:((backTo cpos (starEach [e,f] X.env)).all (fun x=>!x.1)&&(backToKw cpos (keywordEach [] X.env)).all (fun x=>x.1.isSome)
  && decide (([e,f]:List Expr).length+([]:List Keyword).length+(if ([]:List Keyword).isEmpty then 0 else 1)<30))=true
 line:(apos.endLine == cpos.line)=true
 trees:backTo cpos (starEach [e,f] X.env)=[(false,eval e X.env),(false,eval f X.env)]
noncomputable def IsD(H:Hp)(a:Addr):Prop:=(∃kvs,Rd H a (.dK kvs))∨∃kvs,Rd H a (.dT kvs)
theorem y6{X:Cx}{pins:List (Addr×Obj)}{σ:St}{H:Hp}{s:Shared}{a:Addr}(I:Inv X pins σ H s)(d:IsD H a) :
  s.TypeIs (.ref a) "dict" ∧ (∀b,Value.ref a=.ref b→∃ob,s.heap.get? b=some ob∧ob.dict=none)∧(a == sysModules)=false:=by
 rcases d with ⟨kvs,e⟩ | ⟨kvs,e⟩
 ·obtain⟨_,hd,vs,_,dd⟩:=iJ I.hok e
  refine⟨dd.typeIs,fun b q=>?_,hd⟩
  cases q
  obtain⟨ob,_,_,h1,h2,_⟩:=dd
  exact⟨ob,h1,h2.2.1⟩
 ·obtain⟨_,hd,xs,_,dd⟩:=ig I.hok e
  refine⟨dd.typeIs,fun b q=>?_,hd⟩
  cases q
  obtain⟨ob,_,_,h1,h2,_⟩:=dd
  exact⟨ob,h1,h2.2.1⟩
section
variable{X:Cx}{pins:List (Addr×Obj)}{σ:St}{H:Hp}{s:Shared}{a:Addr}{y d:V}{u r:Value}{o:Option V}{A:Around}{E:Value→Shared→Prop}
theorem u8{Q:Value→Shared→Prop}(hu:A.units+1<cLine)(I:Inv X pins σ H s)(g:fu H a y o)(ry:aX y u)(rd:aX d r)(h:∀w' s',Inv X pins σ H s'→aX (o.getD d) w'→Q w' s') :
  wpAny (model X.prog X.w) A (call (.builtin "dict.get") [.ref a,u,r]) Q E s:=by
 rcases g with ⟨kvs,k,e,ey,l⟩ | ⟨kvs,k,b,e,ey,eb,l⟩
 ·subst ey
  obtain⟨z,hd,vs,rel,dd⟩:=iJ I.hok e
  refine call_meetsIn PySem.F.slot_dict_get dd.typeIs PySem.F.entry_dict_get (PySem.F.args_dict_get_3 _ _ _) (meets_dict_get_default (bq X.prog X.w) a (jD ry) hd r) ⟨_,dd.mapOf,h _ _ (I.tok _) ?_⟩
  rw[l]
  exact(rel.val k).getD rd
 ·subst ey
  cases (show u=Value.ref b from ry)
  obtain⟨z,hd,xs,rel,dd⟩:=ig I.hok e
  refine call_meetsIn PySem.F.slot_dict_get dd.typeIs PySem.F.entry_dict_get (PySem.F.args_dict_get_3 _ _ _) (meetsH_dict_get_default (tupleKind (bq X.prog X.w)) a b hd r) ⟨tupleKind_room_in1 hu,k,xs,e8 I.hok eb,dd,h _ _ (I.tok _) ?_⟩
  rw[l]
  exact(rel.val k).getD rd
end
noncomputable def pW(td ty tx:TE):TE:=fun σ H Q=>td σ H fun x H1=>∃a,x=.ref a∧IsD H1 a∧ty σ H1 fun y H2=>tx σ H2 fun z H3=>∃o,fu H3 a y o∧Q (o.getD z) H3
section
variable{X:Cx}{o e f:Expr}{apos cpos:Pos}{td ty tx:TE}
theorem lI(hu:X.A.units+1<cLine)(ho:PE X o td)(he:PE X e ty)(hf:PE X f tx)(m:M2 X o "get" apos e f cpos):PE X (.Call (.Attribute o "get" apos) [e,f] [] cpos) (pW td ty tx):=by
 intro pins s σ H Q I h
 refine wpAny_Call_method m.base m.few m.line PySem.F.plainAttrs_dict PySem.F.slot_dict_get PySem.F.type_dict_get (thn (ho pins s σ H _ I h) fun u s1 ⟨x,H1,I1,rx,a,ex,d,q1⟩=>?_)
 subst ex
 obtain rfl:u=Value.ref a:=rx
 obtain⟨t1,t2,_⟩:=y6 I1 d
 refine⟨t1,t2,?_⟩
 rw[m.trees]
 refine Calls.callWith_builtin rfl (Calls.evalArgs_plain (Calls.spliced_cons (thn (he pins s1 σ H1 _ I1 q1) fun iv s2 ⟨y,H2,I2,ry,q2⟩ =>
  Calls.spliced_cons (thn (hf pins s2 σ H2 _ I2 q2) fun fv s3 ⟨z,H3,I3,rz,ov,g,q3⟩=>Calls.spliced_nil ?_))))
 exact u8 hu I3 g ry rz fun w' s4 I4 rw'=>⟨_,H3,I4,rw',q3⟩
end
section
variable{X:Cx}{pins:List (Addr×Obj)}{σ:St}{H:Hp}{s:Shared}{a:Addr}{kvs:List (Key×V)}{A:Around}{E:Value→Shared→Prop}
end
section
variable{X:Cx}{pins:List (Addr×Obj)}{σ:St}{H:Hp}{s:Shared}{a:Addr}{y:V}{u:Value}{A:Around}{E:Value→Shared→Prop}
end
end L2
namespace L2
open PySem PySem.Spec PyProof.Rows
section
variable{prog:Program}{w:World}{A:Around}{E:Value→Shared→Prop}{s:Shared}{it d:Addr}{i ep:Nat}{es:Array DictEntry}{o:Obj}
theorem pe{Q:Value→Shared→Prop}(hs:(d == sysModules)=false)(hd:s.heap.get? d=some o)(hx:o.ExactDict)(ht:s.TypeIs (.ref d) "dict")(hdat:o.data=.dict es ep)
  (hQ:Q (.ref s.heap.objs.size) { s with heap:=s.heap.push { cls:=.type "dict_keyiterator",data:=.fields #[.ref d,.int 0 0,.int es.size 0,.int ep 0] } }) :
  wpAny (model prog w) A (pyIter (.ref d)) Q E s:=by
 refine wpAny_pyIter_slot ht F.slot_dict_iter (wpAny_call_entry F.slot_dict_iter ht F.entry_dict_iter ?_ (F.args_dict_iter_1 _))
 unfold Builtin.«dict.__iter__» Builtin.Dict.dictSlotNone Builtin.Dict.showsAll
 refine wpAny_bind (wpAny_bind (wpAny_notOrdered_dict ht (wpAny_pure ?_)))
 show wpAny _ _ ((if (d == sysModules)=true then _ else _) >>= _) _ _ s
 rw[if_neg (by rw[hs];exact yr)]
 refine wpAny_bind (wpAny_pure (wpAny_bind (wpAny_dictEntries hd hdat (wpAny_bind (wpAny_dictEpoch hd hdat ?_)))))
 refine wpAny_bind (wpAny_newObj_type (wpAny_pure ⟨_,rfl,"dict_keyiterator",_,⟨_,Heap.get?_push_size _ rfl,rfl⟩,F.slot_dict_keyiterator_next.lookup,?_⟩))
 simpa [rawInt] using hQ
theorem qJ{Q:Option Value→Shared→Prop}(hit:s.heap.IsKeyIter it d i es.size ep)(hd:s.heap.get? d=some o)(hdat:o.data=.dict es ep)(hlt:i<es.size)
  (hQ:∀h',h'.IsKeyIter it d (i+1) es.size ep→Heap.SameBut it s.heap h'→Q (some es[i].key) { s with heap:=h' }) :
  wpAny (model prog w) A (pyNext (.ref it)) Q E s:=by
 obtain⟨oi,ho,hc,hf⟩:=id hit
 have hown:Builtin.Dict_items.ownsTuple "dict_keyiterator" = false:=by decide
 unfold pyNext
 refine wpAny_bind (wpAny_attempt (wpAny_callSpecial?_slot (name:=Str.ofString "__next__") hit.typeIs F.slot_dict_keyiterator_next
  (wpAny_call_entry F.slot_dict_keyiterator_next hit.typeIs F.entry_dict_keyiterator_next (wpAny_bind (wpAny_pure (wpAny_bind (wpAny_bind ?_)))) (F.args_dict_keyiterator_next_1 _))))
 refine wpAny_bind (wpAny_typeNameOfWhole_keyiter hit.typeIs (wpAny_pure (wpAny_bind (wpAny_fieldsOf ho hf ?_))))
 simp only[hown,yRa,if_false]
 show wpAny _ _ (if (Value.ref d == Value.none)=true then _ else _) _ _ s
 rw[if_neg (show ¬((Value.ref d == Value.none)=true) from yr)]
 refine wpAny_bind (wpAny_pure (wpAny_bind (wpAny_dictEntries hd hdat ?_)))
 rw[if_neg (by simp)]
 refine wpAny_bind (wpAny_pure (wpAny_bind (wpAny_dictEpoch hd hdat ?_)))
 rw[if_neg (by simp)]
 refine wpAny_pure ?_
 simp only[show ¬((i:Int)<0) from by lia,if_false,yh,yya hlt]
 refine wpAny_bind (wpAny_bind (wpAny_typeNameOfWhole_keyiter hit.typeIs (wpAny_pure (wpAny_bind (wpAny_isOneOf_keyiter hit.typeIs ?_)))))
 show wpAny _ _ (setField (.ref it) 1 (rawInt ((i:Int)+1)) >>= _) _ _ s
 refine wpAny_bind (wpAny_setField ho hf (by simp) ?_)
 have hit2:(s.heap.update it (Obj.mapFields (·.setIfInBounds 1 (rawInt ((i:Int)+1))))).IsKeyIter it d (i+1) es.size ep :=
  ⟨_,Heap.get?_update_self _ ho (Obj.isFreed_of_fields (Obj.data_mapFields hf _)),(Obj.cls_mapFields ..).trans hc,by rw[Obj.data_mapFields hf];simp[rawInt]⟩
 refine wpAny_bind (wpAny_holding (wpAny_bind (wpAny_isOneOf_keyiter (s:={ s with heap:=s.heap.update it (Obj.mapFields (·.setIfInBounds 1 (rawInt ((i:Int)+1)))) }) hit2.typeIs ?_)))
 show wpAny _ _ (pure es[i].key) _ _ _
 exact wpAny_pure (wpAny_pure ⟨_,rfl,wpAny_pure (hQ _ hit2 (Heap.SameBut.update ..))⟩)
theorem sm{Q:Option Value→Shared→Prop}(hh:A.handled=none)(hit:s.heap.IsKeyIter it d i es.size ep)(hd:s.heap.get? d=some o)(hdat:o.data=.dict es ep)(hge:es.size≤i)
  (hQ:∀h',Heap.ExtBut it s.heap h'→Q none { s with heap:=h' }):wpAny (model prog w) A (pyNext (.ref it)) Q E s:=by
 obtain⟨oi,ho,hc,hf⟩:=id hit
 have hown:Builtin.Dict_items.ownsTuple "dict_keyiterator" = false:=by decide
 unfold pyNext
 refine wpAny_bind (wpAny_attempt (wpAny_callSpecial?_slot (name:=Str.ofString "__next__") hit.typeIs F.slot_dict_keyiterator_next
  (wpAny_call_entry F.slot_dict_keyiterator_next hit.typeIs F.entry_dict_keyiterator_next (wpAny_bind (wpAny_pure (wpAny_bind (wpAny_bind ?_)))) (F.args_dict_keyiterator_next_1 _))))
 refine wpAny_bind (wpAny_typeNameOfWhole_keyiter hit.typeIs (wpAny_pure (wpAny_bind (wpAny_fieldsOf ho hf ?_))))
 simp only[hown,yRa,if_false]
 show wpAny _ _ (if (Value.ref d == Value.none)=true then _ else _) _ _ s
 rw[if_neg (show ¬((Value.ref d == Value.none)=true) from yr)]
 refine wpAny_bind (wpAny_pure (wpAny_bind (wpAny_dictEntries hd hdat ?_)))
 rw[if_neg (by simp)]
 refine wpAny_bind (wpAny_pure (wpAny_bind (wpAny_dictEpoch hd hdat ?_)))
 rw[if_neg (by simp)]
 refine wpAny_pure ?_
 simp only[show ¬((i:Int)<0) from by lia,if_false,yh,yCb hge]
 refine wpAny_bind (wpAny_bind (wpAny_typeNameOfWhole_keyiter hit.typeIs (wpAny_pure ?_)))
 show wpAny _ _ (setField (.ref it) 0 .none >>= _) _ _ s
 refine wpAny_bind (wpAny_setField ho hf (by simp) ?_)
 show wpAny _ _ (newExc (.type "StopIteration") [] >>= _) _ _ _
 simp only[newExc,newTuple]
 refine wpAny_bind (wpAny_bind (wpAny_newObj_type ?_ (by size_fits)))
 refine wpAny_bind (m:=firstArgMember _ _) (wpAny_of_eq (a:=Value.none) (by first | rfl | (simp only[firstArgMember];rfl)) (wpAny_newObj_type ?_ (by size_fits)))
 simp only[raiseNew]
 refine wpAny_bind (wpAny_handled ?_)
 rw[show A.in1.handled=none from hh]
 refine wpAny_bind (wpAny_pure (wpAny_throw ?_))
 refine wpAny_bind (wpAny_isInstance (T := "StopIteration") (b:=true) ⟨_,Heap.get?_push_size _ rfl,rfl⟩ isSubtype_stop ?_)
 exact wpAny_pure (hQ _ (((Heap.SameBut.update ..).extBut.push _).push _))
end
noncomputable def Itd(d:Addr)(ob:Obj)(kvs:List (List Key×V)):It :=
 ⟨fun i H=>H d=some (.frz ob (.dT kvs))∧i<kvs.length,fun i H x H'=>H'=H∧∃b k v,kvs[i]? = some (k,v)∧x=.ref b∧H b=some (.tup (k.map kV)),fun i H=>H d=some (.frz ob (.dT kvs))∧kvs.length≤i⟩
theorem mO{P:Program}{w:World}{K:PySem.W.Frag}{tg:Expr}(d it:Addr)(ob:Obj)(es:Array DictEntry)(ep:Nat)(kvs:List (List Key×V))(hdat:ob.data=.dict es ep)(hsz:es.size=kvs.length) :
  kY P w K tg (Itd d ob kvs) [it] it (fun i h=>h.IsKeyIter it d i es.size ep) where
 mem:=by simp
 obj:=fun i h st b hb=>by
  have e:b=it:=by simpa using hb
  subst e
  obtain⟨o,e,c,dd⟩:=st
  exact⟨o,e,fun v z=>by rw[dd] at z;cases z⟩
 keep:=fun i h h' st k=>st.at fun o e=>k it (by simp) o e
 item:=by
  intro X hP hw hK hc i pins s σ H E I hf st hg
  subst hP hw hK
  obtain⟨hH,hlt⟩:=hg
  obtain⟨f0,f1,f2,f3,f4,f5⟩:=hf it (by simp)
  obtain⟨hob,hz,hsm,xs,rel,o',es',ep',g1,g2,g3,g4,g5⟩:=(show br X.prog X.w H s.heap d (.frz ob (.dT kvs)) from I.hok d _ hH)
  rw[hob] at g1
  cases g1
  rw[hdat] at g3
  cases g3
  have hlt':i<es.size:=by lia
  refine qJ st hob hdat hlt' fun h' st' sb=>?_
  have I1:Inv X pins σ H { s with heap:=h' }:=I.turned (t':=s.toks) (fun b o hb e=>(sb.2 b hb).trans e) f0 f1 f3 f4 f5
  have hxl:xs.length=kvs.length:=(Paired.length rel).symm
  have hxi:xs[i]? = some xs[i]:=yb (by lia)
  have hki:kvs[i]? = some kvs[i]:=yb hlt
  obtain⟨q,hq,r1,r2,r3⟩:=Paired.get' rel hki
  rw[hxi] at hq
  have hq':xs[i]=q:=yt hq
  have hkey:es[i].key=.ref q.2.1:=by
   have z:es.toList[i]? = (xs.map (entryOfKey (tupleKind (bq X.prog X.w))))[i]?:=by rw[g4]
   rw[yc,hxi,yZa,yya hlt'] at z
   have z':=yt z
   rw[z',hq']
   rfl
  rw[hkey]
  obtain⟨oi,ei,ci,di⟩:=id st'
  exact⟨_,rfl,kR (s:={ s with heap:=h' }) ei ci di (by decide) ⟨.ref q.2.1,H,I1,rfl,⟨rfl,q.2.1,kvs[i].1,kvs[i].2,hki,rfl,r2⟩,st',fun b hb=>(hf b hb).1⟩⟩
 done:=by
  intro X hP hw hK hc i pins s σ H E I hf st hg
  subst hP hw hK
  obtain⟨hH,hge⟩:=hg
  obtain⟨f0,f1,f2,f3,f4,f5⟩:=hf it (by simp)
  obtain⟨hob,_⟩:=(show br X.prog X.w H s.heap d (.frz ob (.dT kvs)) from I.hok d _ hH)
  exact sm (I.ok.hd hc) st hob hdat (by lia) fun h' eb=>⟨rfl,I.turned (t':=s.toks) (fun b o hb e=>eb b o hb e) f0 f1 f3 f4 f5⟩
 self:=fun _ _ _ _ _ st h=>wpAny_pyIter_keyiter st h
section
variable{X:Cx}{pins:List (Addr×Obj)}{σ:St}{H:Hp}{s:Shared}{d:Addr}{kvs:List (List Key×V)}
theorem q0{P:Program}{w:World}{h:Heap}{o:HO}(n:∀xs,H d≠some (.tup xs))(x:br P w H h d (.dT kvs)):br P w (upd H d o) h d (.dT kvs):=by
 obtain⟨hz,hsm,xs,rel,rest⟩:=x
 refine⟨hz,hsm,xs,?_,rest⟩
 clear rest hz hsm
 induction rel with
 | nil=>exact .nil
 | cons a _ ih=>exact .cons ⟨a.1,by rw[av fun z=>n _ (by rw[← z];exact a.2.1)];exact a.2.1,a.2.2⟩ ih
theorem Inv.freeze{ob:Obj}(I:Inv X pins σ H s)(e:H d=some (.dT kvs))(g:s.heap.get? d=some ob):Inv X pins σ (upd H d (.frz ob (.dT kvs))) s :=
 I.write (t':=s.toks) (x:=d) (e:=d) (by rw[e];exact True.intro) (.inl rfl) (fun _ _ _ q=>q) ⟨_,g⟩ ⟨g,q0 (fun xs z=>by rw[e] at z;cases z) (I.hok d _ e)⟩
theorem Inv.thaw{ob:Obj}(I:Inv X pins σ H s)(e:H d=some (.frz ob (.dT kvs)))(hb:∀o u,X.H₀ d≠some (.frz o u)):Inv X pins σ (upd H d (.dT kvs)) s:=by
 have up:∀b u,H b=some u→b≠d→upd H d (.dT kvs) b=some u:=fun b u q z=>by rw[av z];exact q
 have no:∀b,H b=none→upd H d (.dT kvs) b=none:=fun b q=>by rw[av fun z=>by rw[z,e] at q;cases q];exact q
 refine⟨I.ok,I.os,I.bare,⟨I.base.keep,I.base.slot,fun b o e1 n hx=>no b (I.base.free b o e1 n hx),I.base.there,fun b xs q=>?_,fun b o u q=>?_,fun b ps q=>?_⟩,I.loc,I.cell,no _ I.free,fun x c q=>no _ (I.freeC x c q),fun p hp=>?_,fun b u q=>?_,I.len⟩
 ·have z:=I.base.tups b xs q
  exact up b _ z fun y=>by rw[y,e] at z;cases z
 ·exact up b _ (I.base.frzs b o u q) fun y=>hb o u (by rw[← y];exact q)
 ·obtain⟨m,z⟩:=I.base.tbls b ps q
  exact⟨m,up b _ z fun y=>by rw[y,e] at z;cases z⟩
 ·obtain⟨p1,p2,p3⟩:=I.pin p hp
  exact⟨p1,no _ p2,p3⟩
 ·by_cases z:b=d
  ·subst z
   rw[af] at q
   cases q
   exact q0 (fun xs y=>by rw[e] at y;cases y) (show br X.prog X.w H s.heap b (.frz ob (.dT kvs)) from I.hok b _ e).2
  ·rw[av z] at q
   exact(I.hok b u q).stay (fun c v _ y=>y) (fun c y=>up _ _ y fun w=>by rw[w,e] at y;cases y) fun c xs y=>up _ _ y fun w=>by rw[w,e] at y;cases y
end
noncomputable def iDT(te:TE):TI:=fun σ H R=>te σ H fun x H1=>∃d kvs,x=.ref d∧H1 d=some (.dT kvs)∧∀ob,R (Itd d ob kvs) (upd H1 d (.frz ob (.dT kvs)))
theorem lD{X:Cx}{tg:Expr}{e:Expr}{te:TE}(he:PE X e te):PI X tg e (iDT te):=by
 intro pins s σ H R I h
 refine thn (he pins s σ H _ I h) fun v s1 ⟨x,H1,I1,r1,q1⟩=>?_
 obtain⟨d,kvs,rfl,hd,q⟩:=q1
 cases r1
 obtain⟨hz,hsm,xs,rel,o,es,ep,g1,g2,g3,g4,g5⟩:=id (show br X.prog X.w H1 s1.heap d (.dT kvs) from I1.hok d _ hd)
 have hxl:xs.length=kvs.length:=(Paired.length rel).symm
 have hsz:es.size=kvs.length:=by
  rw[← hxl,← yka,g4,ya]
 have hty:s1.TypeIs (.ref d) "dict" := ⟨o,g1,g2.1⟩
 have I2:=I1.freeze hd g1
 refine pe hsm g1 g2 hty g3 ?_
 refine⟨s1.heap.objs.size,[s1.heap.objs.size],_,_,_,rfl,I2.kept (t':=s1.toks) fun b o e=>Heap.get?_push_of_some _ e,mO d _ o es ep kvs g3 hsz,⟨_,Heap.get?_push_size _ rfl,rfl,rfl⟩,fun b hb=>?_,q o⟩
 have e:b=s1.heap.objs.size:=by simpa using hb
 subst e
 exact I2.fpOk (yi _) (I2.hok.fresh (yi _))
noncomputable def uI(H0:Hp)(t:TS):TS:=fun D σ H=>∃d ob kvs,H d=some (.frz ob (.dT kvs))∧(∀o u,H0 d≠some (.frz o u))∧t D σ (upd H d (.dT kvs))
theorem lJ{X:Cx}{sts:List Stmt}{t:TS}(h:PSs X sts t):PSs X sts (uI X.H₀ t):=by
 intro pins s σ H D I hq
 obtain⟨d,ob,kvs,e,hb,q⟩:=hq
 exact h pins s σ _ D (I.thaw e hb) q
end L2
namespace My
open PySem L2
theorem jq{d:Addr}{ob:Obj}{kvs:List (List Key×V)}{σ:St}{H:Hp}{DN:St→Hp→Prop}{B:(St→Hp→Prop)→V→St→Hp→Prop}(Pv:Nat→St→Hp→Prop)(h0:Pv 0 σ H)
  (hl:∀i σ H,i≤kvs.length→Pv i σ H→H d=some (.frz ob (.dT kvs)))
  (hs:∀i b k v σ H,kvs[i]? = some (k,v)→H b=some (.tup (k.map kV))→Pv i σ H→B (Pv (i+1)) (.ref b) σ H) (hd:∀σ H,Pv kvs.length σ H→DN σ H) :
  ∃W:Nat→Nat→St→Hp→Prop,(∃m,W 0 m σ H)∧∀i m σ H,W i m σ H →
   ((Itd d ob kvs).stop i H∧DN σ H)∨((Itd d ob kvs).go i H∧∃N:St→Hp→Prop,(∀σ' H',N σ' H'→∃m',m'<m∧W (i+1) m' σ' H')∧∀x H',(Itd d ob kvs).yld i H x H'→B N x σ H'):=by
 refine⟨fun i m σ H=>m=kvs.length-i∧i≤kvs.length∧Pv i σ H,⟨kvs.length,by simp,yH _,h0⟩,?_⟩
 rintro i m σ H ⟨rfl,hi,p⟩
 have q:=hl i σ H hi p
 by_cases hlt:i<kvs.length
 ·refine .inr ⟨⟨q,hlt⟩,Pv (i+1),fun σ' H' p'=>⟨kvs.length-(i+1),by omega,rfl,hlt,p'⟩,fun x H' y=>?_⟩
  obtain⟨e,b,k,v,h1,h2,h3⟩:=y
  subst e h2
  exact hs i b k v σ _ h1 h3 p
 ·have e:i=kvs.length:=by lia
  subst e
  exact .inl ⟨⟨q,yi _⟩,hd σ H p⟩
end My
namespace L2
open PySem PySem.Spec PyProof.Rows
variable{X:Cx}
theorem ou(hc:X.calm=true):b6 X (.builtin "sum") (fun xs H Q=>∃(p:Addr) (ns:List Int),xs=[.ref p]∧SqL X.K H p (ns.map V.int)∧Q (.int ns.sum) H):=by
 intro pins s σ H xs us Q I r h
 obtain⟨p,ns,rfl,hp,q⟩:=h
 obtain⟨u,rfl,ru⟩:=dY r
 cases ru
 obtain⟨its,ri,pl,hz⟩:=I.list hp
 have hl:=ri.length
 rw[ya] at hl
 refine call_sum_walkG (wpAny_pyIter_list pl.isList ?_)
 have hlt:p<s.heap.objs.size:=by obtain⟨o,e,_⟩:=pl.isList;exact Heap.lt_size e
 refine⟨s.heap.objs.size,_,_,_,_,_,fun i=>ns[i]?.getD 0,rfl,Walks.list (A:=X.A.in1) (I.ok.hd hc) s.heap.objs.size p (yE hlt) its.toArray,⟨⟨_,Heap.get?_push_size _ rfl,rfl,rfl⟩,pl.isList.at fun o e=>Heap.get?_push_of_some _ e⟩,?_,?_,?_⟩
 ·intro b hb
  have:b=s.heap.objs.size∨b=p:=by simpa using hb
  rcases this with rfl | rfl
  ·show _<(Heap.push _ _).objs.size
   rw[Heap.size_push];exact ysb _
  ·show _<(Heap.push _ _).objs.size
   rw[Heap.size_push];exact ySa hlt
 ·intro i v hv
  have hv':its[i]? = some v:=by simpa using hv
  have hi:i<its.length:=(List.getElem?_eq_some_iff.mp hv').1
  have hb:(ns.map V.int)[i]? = some (.int (ns[i]'(by lia))):=by rw[yc,yb (by lia)];rfl
  obtain⟨w',e,rw'⟩:=ri.get hb
  rw[hv'] at e
  cases e
  obtain⟨t,rfl⟩:=rw'
  exact⟨t,by dsimp only;rw[yb (by omega)];rfl⟩
 ·intro h' tk t' hk
  have e:preSum (fun i=>ns[i]?.getD 0) its.toArray.size=ns.sum:=by
   rw[ye,← hl,gv ns _ (yi _),yA]
  rw[e]
  refine⟨.int _,H,I.kept fun b o e=>hk b o ?_ (Heap.get?_push_of_some _ e),⟨_,rfl⟩,q⟩
  intro z
  have z':b=s.heap.objs.size:=by simpa using z
  exact absurd (Heap.lt_size e) (by rw[z'];exact yia _)
noncomputable def Dq:List V→Hp→VK→Prop:=fun xs H Q=>∃a kvs,xs=[.ref a,.ty "dict"]∧H a=some (.dT kvs)∧Q (.bl true) H
noncomputable def tw:V→List V→Hp→VK→Prop:=fun x vs H Q=>∃a kvs,x=.ref a∧vs=[]∧H a=some (.dT kvs)∧Q .non (upd H a (.dT []))
end L2
namespace My
open PySem L2
theorem pN(a:Int)(n:Nat):(dR a n).length=n:=by unfold dR;rw[ya,yo]
theorem iA(ps:List Pst):(bN ps).length=ps.length:=by unfold bN;exact pN _ _
end My
namespace L2
open PySem PySem.Spec PyProof.Rows
noncomputable def Itz(K:PySem.W.Frag)(a b:Addr):It :=
 ⟨fun i H=>∃xs ys x y,SqL K H a xs∧SqL K H b ys∧xs[i]? = some x∧ys[i]? = some y,
  fun i H v H'=>∃t x y,v=.ref t∧H t=none∧H'=upd H t (.tup [x,y])∧(∀xs,SqL K H a xs→xs[i]? = some x)∧(∀ys,SqL K H b ys→ys[i]? = some y),
  fun i H=>∃xs ys,SqL K H a xs∧SqL K H b ys∧(xs[i]? = none∨ys[i]? = none)⟩
section
variable{X:Cx}{pins:List (Addr×Obj)}{σ:St}{H:Hp}{s:Shared}
end
noncomputable def Bm(K:PySem.W.Frag)(ta:TA):TI:=fun σ H R=>ta σ H fun vs H1=>∃a b,vs=[.ref a,.ref b]∧(∃xs,SqL K H1 a xs)∧(∃ys,SqL K H1 b ys)∧R (Itz K a b) H1
end L2
namespace My
open PySem L2
theorem nho:¬(("hand":Str) = "other"):=by decide +kernel
noncomputable def ho(h o:Int):List (Str×V):=bn "other" (.int o) (bn "hand" (.int h) [])
theorem sV(h o:Int):(ho h o).lookup ("hand":Str)=some (.int h):=by
 unfold ho
 rw[ap,if_neg nho,ap,if_pos rfl]
noncomputable def DA(P d:Nat):List (Int×Int):=(List.range d).flatMap fun i:Nat=>(dR 1 P).map fun p=>((i:Int),p)
noncomputable def Ai(h o n b:Int)(q:Int×Int):Lin:=⟨[⟨h,q.1,q.2,-1⟩,⟨o,q.1,q.2,n⟩],b⟩
noncomputable def zI(h o n b:Int)(P d:Nat):List Lin:=(DA P d).map (Ai h o n b)
theorem oy{ns:List Int}{i:Nat}{v:V}(h:(ns.map V.int)[i]? = some v):∃y,ns[i]? = some y∧V.int y=v:=by
 rw[yc] at h
 exact Option.map_eq_some_iff.mp h
theorem jM{X:Cx}{e:PySem.Expr}{t1 t2:TE}(h1:PE X e t1)(h2:PE X e t2):PE X e (fun σ H Q=>t1 σ H Q∨t2 σ H Q):=fun pins s σ H Q I h=>h.elim (fun h=>h1 pins s σ H Q I h) fun h=>h2 pins s σ H Q I h
end My
namespace My
open PySem L2
end My
namespace My
open PySem L2
end My
set_option maxHeartbeats 4000000
namespace My
open PySem L2
noncomputable def plN(n:Nat)(k:Nat):List Nat:=(List.range k).filter fun i=>n.testBit i
noncomputable def pl(n:Int):List Int:=(plN n.toNat 40).map fun i:Nat=>(i:Int)
theorem lF{n k m:Nat}(h:∀i,k≤i→n.testBit i=false)(hk:k≤m):plN n k=plN n m:=by
 unfold plN
 obtain⟨d,rfl⟩:∃d,m=k+d:=⟨m-k,by lia⟩
 rw[List.range_add,yga]
 have:(List.map (fun x=>k+x) (List.range d)).filter (fun i=>n.testBit i)=[]:=by
  rw[yWa]
  intro a ha
  obtain⟨b,_,rfl⟩:=List.mem_map.mp ha
  rw[h _ (by lia)];decide
 rw[this,yI]
theorem qc(n k:Nat):plN n (k+1)=plN n k++if n.testBit k then [k] else []:=by
 unfold plN
 rw[yN,yga]
 congr 1
 by_cases h:n.testBit k <;> simp[h]
theorem sF(n k:Nat):(plN n k).length≤k:=by
 have:=yba (fun i=>n.testBit i) (List.range k)
 simpa [plN] using this
theorem A3{n:Int}(h0:0≤n)(h:n<2 ^ 40):n.toNat<2 ^ 40:=by
 have e:(2:Int) ^ 40=1099511627776:=by decide
 have e':(2:Nat) ^ 40=1099511627776:=by decide
 lia
theorem sf{n:Int}(h:0≤n)(i:Nat):decide (Builtin.bitAnd n (1*2 ^ i)=1*2 ^ i)=n.toNat.testBit i:=by
 have e:(1*2 ^ i:Int)=((2 ^ i:Nat):Int):=by simp
 have hi:(n.toNat &&& 2 ^ i=2 ^ i)↔n.toNat.testBit i=true:=by
  constructor
  ·intro z
   have:=congrArg (fun x=>x.testBit i) z
   simpa [ydb,yLb] using this
  ·intro z
   refine Nat.eq_of_testBit_eq fun j=>?_
   rw[ydb,yLb]
   by_cases q:i=j
   ·subst q;simp[z]
   ·simp[q]
 rw[e,PyProof.Rows.bitAnd_pp h (yfa _),yh,yca,decide_eq_true_eq,← hi]
 lia
theorem tX{n:Int}(h0:0≤n)(h:n<2 ^ 40):Builtin.Int.intBits n≤40∧∀i,Builtin.Int.intBits n≤i→n.toNat.testBit i=false:=by
 have e:n.natAbs=n.toNat:=by lia
 constructor
 ·unfold Builtin.Int.intBits
  split
  ·exact yH _
  ·rename_i hz
   have hz':n.toNat≠0:=fun q=>hz (by simp;lia)
   have:n.toNat.log2<40:=(Nat.log2_lt hz').mpr (A3 h0 h)
   rw[e]
   lia
 ·intro i hi
  refine Nat.testBit_lt_two_pow ?_
  unfold Builtin.Int.intBits at hi
  split at hi
  ·rename_i hz
   have:n=0:=by simpa using hz
   subst this
   exact Nat.two_pow_pos i
  ·rename_i hz
   rw[e] at hi
   exact yF (Nat.lt_log2_self) (Nat.pow_le_pow_right (by decide) hi)
end My
set_option maxHeartbeats 1000000
namespace My
open PySem L2
noncomputable def bF(n:Nat)(d p:Int):List Prt:=(List.range n).map fun i:Nat=>⟨(i:Int),d,p,1⟩
theorem lZ(n:Nat)(d p:Int):bF (n+1) d p=bF n d p++[⟨(n:Int),d,p,1⟩]:=by
 unfold bF
 rw[yN,yg]
 rfl
noncomputable def dsN(days d:Nat):List Int:=((List.range d).filter fun i=>days.testBit i).map fun i:Nat=>(i:Int)
theorem wB{days d:Nat}(hd:d≤40):pl ((days &&& (2 ^ d-1):Nat):Int)=dsN days d:=by
 unfold pl dsN
 rw[yh]
 have h:plN (days &&& (2 ^ d-1)) 40=(List.range d).filter fun i=>days.testBit i:=by
  rw[← lF (k:=d) (m:=40) (fun i hi=>by rw[ydb,yib,decide_eq_false (by omega),yja]) hd]
  unfold plN
  refine List.filter_congr fun i hi=>?_
  have:=yu.mp hi
  rw[ydb,yib,decide_eq_true this,Bool.and_true]
 rw[h]
noncomputable def iz(h:Int)(ps:List Pst)(days d:Nat):List Lin:=(dsN days d).map fun x=>⟨spr h [x] (bN ps) (-1),0⟩
end My
namespace My
open PySem L2
theorem Bu:¬(("day":Str) = "post"):=by decide +kernel
theorem BE:¬(("day":Str) = "many"):=by decide +kernel
theorem CP:¬(("post":Str) = "many"):=by decide +kernel
theorem An:¬(("hand":Str) = "days"):=by decide +kernel
noncomputable def wf3(d p m:Int):List (Str×V):=bn "many" (.int m) (bn "post" (.int p) (bn "day" (.int d) []))
theorem kh(d p m:Int):(wf3 d p m).lookup ("day":Str)=some (.int d):=by
 unfold wf3
 rw[ap,if_neg BE,ap,if_neg Bu,ap,if_pos rfl]
theorem kz(d p m:Int):(wf3 d p m).lookup ("post":Str)=some (.int p):=by
 unfold wf3
 rw[ap,if_neg CP,ap,if_pos rfl]
theorem li(d p m:Int):(wf3 d p m).lookup ("many":Str)=some (.int m):=by
 unfold wf3
 rw[ap,if_pos rfl]
theorem qf(d p m:Int){x:Str}(h1:¬ x = "many")(h2:¬ x = "post")(h3:¬ x = "day"):(wf3 d p m).lookup x=none:=by
 unfold wf3
 rw[ap,if_neg h1,ap,if_neg h2,ap,if_neg h3]
 rfl
noncomputable def af2(h s:Int):List (Str×V):=bn "days" (.int s) (bn "hand" (.int h) [])
theorem ia(h s:Int):(af2 h s).lookup ("hand":Str)=some (.int h):=by
 unfold af2
 rw[ap,if_neg An,ap,if_pos rfl]
theorem kT(h s:Int):(af2 h s).lookup ("days":Str)=some (.int s):=by
 unfold af2
 rw[ap,if_pos rfl]
theorem qz(h s:Int){x:Str}(h1:¬ x = "days")(h2:¬ x = "hand"):(af2 h s).lookup x=none:=by
 unfold af2
 rw[ap,if_neg h1,ap,if_neg h2]
 rfl
end My
namespace My
open PySem L2
theorem qK(n:Nat):((2:Int) ^ n-1)=((2 ^ n-1:Nat):Int):=by
 have h:1≤2 ^ n:=Nat.one_le_two_pow
 rw[Int.natCast_sub h,Int.natCast_pow]
 rfl
theorem o8(s n:Nat):Builtin.bitAnd (s:Int) ((2:Int) ^ n-1)=((s &&& (2 ^ n-1):Nat):Int):=by
 rw[qK,PyProof.Rows.bitAnd_pp (yfa _) (yfa _),yh,yh]
theorem oQ{s n:Nat}(h:s<2147483648):((s &&& n:Nat):Int)<2 ^ 40:=by
 have:s &&& n≤s:=Nat.and_le_left
 have e:(2:Int) ^ 40=1099511627776:=by decide
 omega
end My
namespace My
open PySem L2
end My
namespace My
open PySem L2
theorem lz(s i:Nat):(Builtin.bitAnd ((s:Int) / 2 ^ i) 1=1)↔s.testBit i=true:=by
 have e1:((s:Int) / 2 ^ i)=((s / 2 ^ i:Nat):Int):=by rw[Int.natCast_ediv,Int.natCast_pow];rfl
 rw[e1,PyProof.Rows.bitAnd_pp (yfa _) (by decide),yh,Nat.testBit_eq_decide_div_mod_eq,decide_eq_true_eq,show(1:Int).toNat=1 from rfl,Nat.and_one_is_mod]
 omega
theorem fK(s i:Nat):dsN s (i+1)=dsN s i++if s.testBit i=true then [(i:Int)] else []:=by
 unfold dsN
 rw[yN,yga,yg]
 congr 1
 cases h:s.testBit i
 ·rw[yra (by rw[h];exact yr)]
  rfl
 ·rw[ysa (by exact h)]
  rfl
theorem ke(s i:Nat):(dsN s i).length≤i:=by
 unfold dsN
 rw[ya]
 exact yJ (yba _ _) (by rw[yo];exact yi _)
end My
namespace My
open PySem L2 PySem.Spec
end My
namespace My
open PySem L2 PySem.Spec
end My
namespace My
open PySem L2 PySem.Spec
noncomputable def hrV(ps:List Pst)(p:Int):Int:=hrs ps p.toNat
noncomputable def byI(h:Int)(ps:List Pst)(d:Nat)(times:Int)(i:Nat):List Prt:=(dR 1 i).flatMap fun p=>spr h (dR 0 d) [p] (hrV ps p*times)
noncomputable def byH(h:Int)(ps:List Pst)(d:Nat)(times:Int):List Prt:=byI h ps d times ps.length
end My
namespace My
open PySem L2 PySem.Spec
theorem C6:¬(("hand":Str) = "many"):=by decide +kernel
theorem C1:¬(("days":Str) = "many"):=by decide +kernel
theorem Du:¬(("hand":Str) = "least"):=by decide +kernel
theorem A9:¬(("hand":Str) = "most"):=by decide +kernel
noncomputable def mf3(h s m:Int):List (Str×V):=bn "many" (.int m) (bn "days" (.int s) (bn "hand" (.int h) []))
theorem fE(h s m:Int):(mf3 h s m).lookup ("hand":Str)=some (.int h):=by
 unfold mf3
 rw[ap,if_neg C6,ap,if_neg An,ap,if_pos rfl]
theorem lh(h s m:Int):(mf3 h s m).lookup ("days":Str)=some (.int s):=by
 unfold mf3
 rw[ap,if_neg C1,ap,if_pos rfl]
theorem lm(h s m:Int):(mf3 h s m).lookup ("many":Str)=some (.int m):=by
 unfold mf3
 rw[ap,if_pos rfl]
theorem qv(h s m:Int){x:Str}(h1:¬ x = "many")(h2:¬ x = "days")(h3:¬ x = "hand"):(mf3 h s m).lookup x=none:=by
 unfold mf3
 rw[ap,if_neg h1,ap,if_neg h2,ap,if_neg h3]
 rfl
noncomputable def qf3(h l m:Int):List (Str×V):=bn "most" (.int m) (bn "least" (.int l) (bn "hand" (.int h) []))
theorem qi(h l m:Int):(qf3 h l m).lookup ("hand":Str)=some (.int h):=by
 unfold qf3
 rw[ap,if_neg A9,ap,if_neg Du,ap,if_pos rfl]
theorem iI{a:Int}{n:Nat}{x:Int}(h:x∈dR a n):a≤x∧x<a+n:=by
 unfold dR at h
 obtain⟨i,hi,rfl⟩:=List.mem_map.mp h
 have:=yu.mp hi
 omega
end My
namespace My
open PySem L2
noncomputable def kk(h d p:Int):List Key:=[Sum.inl h,Sum.inl d,Sum.inl p]
noncomputable def iv:Option V→Int
 | some (.int i)=>i
 | _=>0
noncomputable def cT(t:Int)(kvs:List (List Key×V))(q:Prt):List (List Key×V):=bR kvs (kk q.h q.d q.p) (.int (iv (bv kvs (kk q.h q.d q.p))+q.n*t))
noncomputable def jX(kvs:List (List Key×V))(l:Lin×Int):List (List Key×V):=l.1.ps.foldl (cT l.2) kvs
noncomputable def bD(ls:List (Lin×Int)):List (List Key×V):=ls.foldl jX []
noncomputable def eY(ls:List (Lin×Int)):Int:=(ls.map fun l=>l.1.b*l.2).sum
noncomputable def db(kvs:List (List Key×V)):Prop:=∀k v,bv kvs k=some v→∃i:Int,v=.int i
theorem ie:db []:=fun k v h=>by cases h
theorem iL{kvs:List (List Key×V)}(h:db kvs)(k:List Key)(i:Int):db (bR kvs k (.int i)):=fun j v e=>by
 rw[fM] at e
 by_cases z:j=k
 ·rw[if_pos z] at e
  cases e
  exact⟨i,rfl⟩
 ·rw[if_neg z] at e
  exact h j v e
theorem qI{kvs:List (List Key×V)}(h:db kvs)(k:List Key):(bv kvs k).getD (.int 0)=.int (iv (bv kvs k)):=by
 cases e:bv kvs k with
 | none=>rfl
 | some v =>
  obtain⟨i,rfl⟩:=h k v e
  rfl
theorem tM{t:Int}{kvs:List (List Key×V)}{q:Prt}(h:db kvs):db (cT t kvs q):=iL h _ _
theorem iE{t:Int}:∀{qs:List Prt} {kvs:List (List Key×V)},db kvs→db (qs.foldl (cT t) kvs)
 | [],_,h=>h
 | _::qs,_,h=>iE (qs:=qs) (tM h)
theorem lK:∀{ls:List (Lin×Int)} {kvs:List (List Key×V)},db kvs→db (ls.foldl jX kvs)
 | [],_,h=>h
 | l::ls,_,h=>lK (ls:=ls) (iE (qs:=l.1.ps) h)
theorem fZ{t:Int}:∀{qs:List Prt} {kvs:List (List Key×V)},(qs.foldl (cT t) kvs).length≤kvs.length+qs.length
 | [],_=>yi _
 | q::qs,kvs=>by
  have h1:=fZ (t:=t) (qs:=qs) (kvs:=cT t kvs q)
  have h2:(cT t kvs q).length≤kvs.length+1:=cw _ _ _
  show(qs.foldl (cT t) (cT t kvs q)).length≤_
  rw[yp]
  omega
noncomputable def bL(ls:List (Lin×Int)):Nat:=(ls.map fun l=>l.1.ps.length).sum
theorem fR:∀{ls:List (Lin×Int)} {kvs:List (List Key×V)},(ls.foldl jX kvs).length≤kvs.length+bL ls
 | [],_=>yi _
 | l::ls,kvs=>by
  have h1:=fR (ls:=ls) (kvs:=jX kvs l)
  have h2:(jX kvs l).length≤kvs.length+l.1.ps.length:=fZ
  show(ls.foldl jX (jX kvs l)).length≤_
  have h3:bL (l::ls)=l.1.ps.length+bL ls:=by unfold bL;rw[ym,yy]
  omega
noncomputable def iH(kvs:List (List Key×V)):Prop:=(kvs.map (·.1)).Nodup
theorem hJ{kvs:List (List Key×V)}(h:iH kvs)(k:List Key)(v:V):iH (bR kvs k v):=by
 unfold iH bR at *
 split
 ·have e:(kvs.map fun kv=>if kv.1=k then (kv.1,v) else kv).map (·.1)=kvs.map (·.1):=by
   rw[yqa]
   refine yCa fun kv _=>?_
   show(if kv.1=k then (kv.1,v) else kv).1=kv.1
   split <;> rfl
  rw[e]
  exact h
 ·rename_i hn
  rw[yg,ymb]
  refine⟨h,by simp,fun a ha b hb=>?_⟩
  rw[show b=k by simpa using hb]
  intro z
  obtain⟨kv,hkv,rfl⟩:=List.mem_map.mp ha
  exact hn (List.any_eq_true.mpr ⟨kv,hkv,decide_eq_true z⟩)
theorem wX{kvs:List (List Key×V)}(h:iH kvs){i:Nat}{k:List Key}{v:V}(e:kvs[i]? = some (k,v)):bv kvs k=some v:=by
 induction kvs generalizing i with
 | nil=>simp at e
 | cons p r ih =>
  unfold iH at h
  rw[ym,yW] at h
  cases i with
  | zero =>
   rw[yyb] at e
   cases e
   exact bP rfl
  | succ j =>
   rw[yDa] at e
   rw[bQ fun z=>h.1 (by rw[z];exact List.mem_map.mpr ⟨_,yk e,rfl⟩)]
   exact ih h.2 e
noncomputable def PrV(H:Hp)(v:V)(l:Lin×Int):Prop:=∃t u,v=.ref t∧H t=some (.tup [.ref u,.int l.2])∧kP H (.ref u) l.1
noncomputable abbrev Prs(H:Hp):List V→List (Lin×Int)→Prop:=Paired (PrV H)
theorem PrV.mono{H H':Hp}(g:fo H H'){v:V}{l:Lin×Int}(h:PrV H v l):PrV H' v l:=by
 obtain⟨t,u,e,h1,h2⟩:=h
 exact⟨t,u,e,g _ _ h1,h2.mono g⟩
theorem Prs.mono{H H':Hp}(g:fo H H'){ts:List V}{ls:List (Lin×Int)}(h:Prs H ts ls):Prs H' ts ls:=Paired.mapP h fun _ _=>PrV.mono g
noncomputable def oT(rows:List (List Int))(q:Prt):Bool:=decide (val rows q.h.toNat q.d.toNat=q.p)
noncomputable def kZ(rows:List (List Int))(qs:List Prt):List Int:=(qs.filter (oT rows)).map (·.n)
theorem o5(rows:List (List Int))(qs:List Prt)(q:Prt):kZ rows (qs++[q])=kZ rows qs++if oT rows q=true then [q.n] else []:=by
 unfold kZ
 rw[yga,yg]
 congr 1
 cases e:oT rows q
 ·rw[yra (by rw[e];exact yr)]
  rfl
 ·rw[ysa (by exact e)]
  rfl
theorem kK(rows:List (List Int)):∀qs:List Prt,(kZ rows qs).sum=tot rows qs
 | []=>rfl
 | q::qs=>by
  have ih:=kK rows qs
  rw[show q::qs=[q]++qs from rfl,gQ,gX,← ih]
  unfold kZ
  rw[yga,yg,yda]
  congr 1
  unfold oT
  by_cases e:val rows q.h.toNat q.d.toNat=q.p
  ·rw[if_pos e,ysa (by exact decide_eq_true e)]
   simp
  ·rw[if_neg e,yra (by simpa using e)]
   rfl
theorem qD(rows:List (List Int))(qs:List Prt):(kZ rows qs).length≤qs.length:=by
 unfold kZ
 rw[ya]
 exact yba _ _
noncomputable def InT(rows:List (List Int))(D:Nat)(qs:List Prt):Prop:=∀q∈qs,0≤q.h∧q.h<rows.length∧0≤q.d∧q.d<D
end My
namespace L2
open PySem PySem.Spec PyProof.Rows
section
variable{prog:Program}{w:World}{A:Around}{E:Value→Shared→Prop}{s:Shared}
end
end L2
namespace L2
open PySem
theorem cC(xs:List V)(k:Nat):eJ xs (some (k:Int)) none=xs.drop k:=by
 unfold eJ
 rw[HT.sIx_none,HT.sIx_nat]
 by_cases h:k≤xs.length
 ·rw[Nat.min_eq_left h,yoa (by rw[yw];lia)]
 ·rw[Nat.min_eq_right (by lia),yvb,ypa,List.drop_of_length_le (by lia)]
theorem je{X:Cx}{K:PySem.W.Frag}(hK:X.K=K):OpR X (compareOp .NotIn) (rIn K true):=by subst hK;exact j5
end L2
namespace L2
open PySem
theorem eC{α:Type}{l:List α}{n:Nat}{a d:α}(h:l[n]? = some a):l.getD n d=a:=by
 rw[yz,h]
 rfl
end L2
namespace My
open PySem L2
theorem fA{ns:List Int}{i:Nat}{v:V}(h:(ns.map V.int)[i]? = some v):∃x,ns[i]? = some x∧v=.int x:=by
 rw[yc] at h
 cases hz:ns[i]? with
 | none=>rw[hz] at h;cases h
 | some x=>rw[hz] at h;exact⟨x,rfl,(yt h).symm⟩
end My
namespace My
open PySem L2
end My
namespace My
open PySem L2
theorem pX{n:Nat}(h:0<n):ixN n (-1)=some (n-1):=by
 unfold ixN
 rw[if_neg (by lia),if_pos (by lia)]
 congr 1
 lia
end My
namespace L2
open PySem PySem.Spec PyProof.Rows
section
variable{X:Cx}
end
end L2
namespace My
end My
namespace My
open PySem L2
end My
namespace My
open PySem L2
end My
namespace My
open PySem L2
end My
namespace My
open PySem L2
end My
namespace L2
open PySem PySem.Spec PyProof.Rows
end L2
namespace My
open PySem L2
end My
namespace My
open PySem L2
end My
namespace My
open PySem L2
end My
namespace My
open PySem L2
end My
namespace My
open PySem L2
theorem mv(f:Nat→Bool)(i:Nat):(List.range (i+1)).map f=(List.range i).map f++[f i]:=by
 rw[yN,yg]
 rfl
end My
namespace L2
open PySem PySem.Spec PyProof.Rows
end L2
namespace My
open PySem L2
end My
namespace My
open PySem L2
end My
namespace L2
open PySem PySem.Spec PyProof.Rows
set_option maxHeartbeats 4000000 in
theorem l7(l:Addr)(vs:Array Value) :
  Meets (Builtin.«enumerate.__new__» ⟨[.type "enumerate",.ref l],[]⟩) (fun _ R s=>s.heap.IsTuple l vs ∧
   R (.ok (.ret (.ref (s.heap.push { cls:=.type "tuple_iterator",data:=.fields #[.ref l,.int 0 0] }).objs.size)))
    { s with heap:=(s.heap.push { cls:=.type "tuple_iterator",data:=.fields #[.ref l,.int 0 0] }).push { cls:=.type "enumerate",data:=.fields #[.none,.bool false,.ref s.heap.objs.size,rawInt 0,.none,.none] } }) :=
 .of_wp fun prog w A R s h=>by
  obtain⟨hp,g,d,tk,os⟩:=s;obtain⟨hL,h⟩:=h
  obtain⟨⟨c,dc,dt,sl⟩,hl,hc,n,hd⟩:=id hL
  replace hc:c=.type "tuple" := hc
  replace hd:dt=.seq vs n:=hd
  subst hc hd
  have hsub:=sub_enumerate
  wp_walk using PySem.AutoSeq1.wpAny_loadPart' hl
  refine wpAny_stack_any fun st=>wpAny_pure ?_
  split
  ·rename_i c _ _ _ _ _
   cases (c == Value.type "enumerate")
   ·wp_walk using PySem.AutoSeq1.wpAny_loadPart' hl,wpAny_pyIter_tuple hL
    exact⟨_,rfl,h⟩
   ·wp_walk using PySem.AutoSeq1.wpAny_loadPart' hl,wpAny_pyIter_tuple hL
    exact⟨_,rfl,h⟩
  ·wp_walk using PySem.AutoSeq1.wpAny_loadPart' hl,wpAny_pyIter_tuple hL
   exact⟨_,rfl,h⟩
theorem kF{prog:Program}{w:World}{A:Around}{E:Value→Shared→Prop}{s:Shared}{l:Addr}{vs:Array Value}{R:Value→Shared→Prop}(hL:s.heap.IsTuple l vs)
  (k:∀g,IsEnum g (s.heap.objs.size+1) s.heap.objs.size 0 .none→g.IsTupleIter s.heap.objs.size l 0→(∀b o,s.heap.get? b=some o→g.get? b=some o)→R (.ref (s.heap.objs.size+1)) { s with heap:=g }) :
  wpAny (model prog w) A (call (.type "enumerate") [.ref l]) R E s:=by
 refine callType_new F.called_enumerate (by decide) (F.typeCall_enumerate_1 _) (F.newCall_enumerate_1 _) (fun obj=>F.args_object_init_2 obj _) F.entry_enumerate_new (l7 l vs) ⟨hL,?_⟩
 have hz:(s.heap.push { cls:=.type "tuple_iterator",data:=.fields #[.ref l,.int 0 0] }).objs.size=s.heap.objs.size+1:=Heap.size_push ..
 have he:=Heap.get?_push_size (s.heap.push { cls:=.type "tuple_iterator",data:=.fields #[.ref l,.int 0 0] }) (o:={ cls:=.type "enumerate",data:=.fields #[.none,.bool false,.ref s.heap.objs.size,rawInt 0,.none,.none] }) rfl
 show _∧_
 rw[hz] at he ⊢
 exact⟨⟨_,he,rfl⟩,k _ he ⟨_,Heap.get?_push_of_some _ (Heap.get?_push_size _ rfl),rfl,rfl⟩ fun b o q=>Heap.get?_push_of_some _ (Heap.get?_push_of_some _ q)⟩
theorem gy{X:Cx}{elts:List Expr}{x1:Nat}{tp:Pos}{e:Expr}{te:TE}{p pos:Pos}(hg:Gl X "enumerate")(hm:X.mg "enumerate" = none)(he:PE X e te)(hs:starEach [e] X.env=[(false,eval e X.env)]:=by rfl):PI X (.Tuple elts x1 tp) (.Call (.Name "enumerate" p) [e] [] pos) (wU X.K 0 te):=by
 intro pins s σ H R I h
 refine Call_ (dJ I hg hm boot_enumerate (PyProof.Rows.callWith_type1 ?_ hs rfl))
 rw[hs]
 refine Calls.spliced_cons (thn (he pins s σ H _ I h) fun v s1 ⟨x,H1,I1,rx,q1⟩=>Calls.spliced_nil ?_)
 obtain⟨a,rfl,⟨xs,hq⟩,q⟩:=q1
 cases rx
 obtain⟨its,rv,pl,_⟩:=I1.tuple hq
 exact kF pl fun g e1 e2 hk=>fB I1 (nY a _) rfl e1 e2 hk q
end L2
namespace L2
open PySem PySem.Spec PyProof.Rows
end L2
namespace L2
open PySem
end L2
namespace My
open PySem L2
theorem cQ.tmono{H H':Hp}(g:fo H H'){ts:List V}{ps:List Pst}(h:cQ H ts ps):cQ H' ts ps:=Paired.mapP h fun _ _ ⟨t,e,q⟩=>⟨t,e,g _ _ q⟩
end My
namespace My
open PySem L2
structure Sp4 where
 k:Nat
 a:Int
 b:Int
 c:Int
structure kg(d:Int)(n P:Nat)(s:Sp4):Prop where
 k6:s.k≤6
 P0:0<P
 w:s.k=0→0≤s.a∧s.a<d∧0≤s.c∧s.c≤99
 h:s.k≠0→0≤s.a∧s.a<(n:Int)
 b:s.k=1∨s.k=2∨s.k=3→0≤s.b∧s.b<2147483648
 c1:s.k=1→-1≤s.c∧s.c≤99
 c2:s.k=2→0≤s.c∧s.c≤99
 c4:s.k=4→0≤s.c∧s.c≤99
 q:s.k=5→0≤s.b∧s.b≤100000000000∧-1≤s.c∧s.c≤100000000000
 o:s.k=6→0≤s.b∧s.b<(n:Int)∧s.a≠s.b
noncomputable def ca(P:Nat)(s:Sp4):List (Str×V) :=
 if s.k=0 then wf3 s.a (1+s.b % (P:Int)) s.c else if s.k=1 then mf3 s.a s.b s.c else if s.k=2 then mf3 s.a s.b s.c else if s.k=3 then af2 s.a s.b else if s.k=4 then hm s.a s.c else if s.k=5 then qf3 s.a s.b s.c else ho s.a s.b
noncomputable def aT(d n:Nat)(ps:List Pst)(s:Sp4):List Lin :=
 if s.k=0 then [⟨bF n s.a (1+s.b % (ps.length:Int)),s.c⟩] else if s.k=1 then [⟨spr s.a (dsN s.b.toNat d) (bN ps) (-1),-s.c⟩] else if s.k=2 then [⟨spr s.a (dsN s.b.toNat d) (bN ps) 1,s.c⟩] else if s.k=3 then iz s.a ps s.b.toNat d else if s.k=4 then tz s.a s.c d (np ps) else if s.k=5 then [⟨byH s.a ps d 1,s.b⟩,⟨byH s.a ps d (-1),-s.c⟩] else zI s.a s.b (-1) (-1) ps.length d
theorem x9{α:Type}(f g:α→Int):∀xs:List α,(xs.map fun x=>f x+g x).sum=(xs.map f).sum+(xs.map g).sum
 | []=>rfl
 | x::xs=>by
  rw[ym,ym,ym,yy,yy,yy,x9 f g xs]
  omega
theorem zT{α:Type}:∀xs:List α,(xs.map fun _=>(0:Int)).sum=0
 | []=>rfl
 | _::xs=>by rw[ym,yy,zT xs];rfl
theorem uL{α β:Type}(f:α→β→Int)(ys:List β):∀xs:List α,(xs.map fun x=>(ys.map (f x)).sum).sum=(ys.map fun y=>(xs.map fun x=>f x y).sum).sum
 | []=>(zT ys).symm
 | x::xs=>by
  rw[ym,yy,uL f ys xs,← x9]
  rfl
end My
namespace L2
open PySem
theorem AB{P:Program}{w:World}{K:PySem.W.Frag}{mg:Str→Option Value}{base:Heap}{N:List Str}{qual:Str}{scope:Scope}{f:Addr}{cd:Value}{A:Around}{outer:List Env}{s₀:Shared}{H₀:Hp}{E:XK}{CX:CXT} :
  PassesOwn (model P w) (eQ CX P w K mg base N qual scope f cd A outer s₀ H₀ E).A (eQ CX P w K mg base N qual scope f cd A outer s₀ H₀ E).env (eQ CX P w K mg base N qual scope f cd A outer s₀ H₀ E).xe:=PassesOwn.leaving
theorem rC{X:Cx}:dB (CX1 X.prog X.w) X E0:=fun _ _ _ _ _ _ _ h=>by
 obtain⟨_,_,_,_,_,_,_,q⟩:=h
 exact q.elim
theorem j6{X:Cx}{x:Str}{ps:List Str}{k:Nat}{sp:Sp}{e:Expr}{es:List Expr}{t:TA}{p pos:Pos}{E:XK}(c:ph X.prog X.w X.K X.mg X.base x ps k sp)(hp:dB (CX1 X.prog X.w) X E)(hr:b4 k X.A)(hg:Gl X x)(ha:PA X (e::es) t)
  (hdb:(x == ("__debug__":Str))=false:=by decide) (he:starEach (e::es) X.env=(false,eval e X.env)::starEach es X.env:=by rfl) (hpl:(backTo pos (starEach es X.env)).any (·.1)=false:=by rfl) :
  PE X (.Call (.Name x p) (e::es) [] pos) (nL sp [] E t):=by
 obtain⟨f,fd,F,b,hk,hm⟩:=c.ex
 exact na F hr hg hm hk b .nil hp ha hdb he hpl
end L2
namespace My
open PySem L2
noncomputable def iR(W M L A N Q P:Addr)(k:Nat):Addr:=if k=0 then W else if k=1 then M else if k=2 then L else if k=3 then A else if k=4 then N else if k=5 then Q else P
noncomputable def qZ(C:Nat→Addr)(P:Nat)(H:Hp)(v:V)(s:Sp4):Prop:=∃x dx,v=.ref x∧H x=some (.ins (C s.k) dx (ca P s))
theorem uK{W M L A N Q P:Addr}{n:Nat}{H:Hp}{x dx:Addr}{s:Sp4}(hk:s.k=0)(e:H x=some (.ins (iR W M L A N Q P s.k) dx (ca n s))):H x=some (.ins W dx (wf3 s.a (1+s.b % (n:Int)) s.c)):=by
 unfold iR ca at e
 rw[if_pos hk,if_pos hk] at e
 exact e
theorem uD{W M L A N Q P:Addr}{n:Nat}{H:Hp}{x dx:Addr}{s:Sp4}(hk:s.k=2)(e:H x=some (.ins (iR W M L A N Q P s.k) dx (ca n s))):H x=some (.ins L dx (mf3 s.a s.b s.c)):=by
 unfold iR ca at e
 rw[if_neg (by omega),if_neg (by omega),if_pos hk,if_neg (by omega),if_neg (by omega),if_pos hk] at e
 exact e
theorem ud{W M L A N Q P:Addr}{n:Nat}{H:Hp}{x dx:Addr}{s:Sp4}(hk:s.k=3)(e:H x=some (.ins (iR W M L A N Q P s.k) dx (ca n s))):H x=some (.ins A dx (af2 s.a s.b)):=by
 unfold iR ca at e
 rw[if_neg (by omega),if_neg (by omega),if_neg (by omega),if_pos hk,if_neg (by omega),if_neg (by omega),if_neg (by omega),if_pos hk] at e
 exact e
theorem jG(n:Nat)(s:Sp4):ca n s≠[]:=fun z=>by
 have h:∀{k:Str} {v:V},(ca n s).lookup k≠some v:=fun {k v} e=>by rw[z] at e;cases e
 unfold ca at h
 by_cases k0:s.k=0
 ·rw[if_pos k0] at h;exact h (kh _ _ _)
 rw[if_neg k0] at h
 by_cases k1:s.k=1
 ·rw[if_pos k1] at h;exact h (fE _ _ _)
 rw[if_neg k1] at h
 by_cases k2:s.k=2
 ·rw[if_pos k2] at h;exact h (fE _ _ _)
 rw[if_neg k2] at h
 by_cases k3:s.k=3
 ·rw[if_pos k3] at h;exact h (ia _ _)
 rw[if_neg k3] at h
 by_cases k4:s.k=4
 ·rw[if_pos k4] at h;exact h (tP _ _)
 rw[if_neg k4] at h
 by_cases k5:s.k=5
 ·rw[if_pos k5] at h;exact h (qi _ _ _)
 rw[if_neg k5] at h
 exact h (sV _ _)
noncomputable abbrev cy(C:Nat→Addr)(P:Nat)(H:Hp):List V→List Sp4→Prop:=Paired (qZ C P H)
theorem cy.mono{C:Nat→Addr}{P:Nat}{H H':Hp}(g:aA H H'){us:List V}{ss:List Sp4}(h:cy C P H us ss):cy C P H' us ss:=Paired.mapP h fun _ _ ⟨x,dx,e,q⟩=>⟨x,dx,e,g _ _ q⟩
noncomputable def AU(H:Hp)(v:V)(ls:List Lin):Prop:=∃t us,v=.ref t∧H t=some (.tup us)∧iT H us ls
noncomputable abbrev fX(H:Hp):List V→List (List Lin)→Prop:=Paired (AU H)
theorem fX.tmono{H H':Hp}(g:fo H H'){us:List V}{ss:List (List Lin)}(h:fX H us ss):fX H' us ss:=Paired.mapP h fun _ _ ⟨t,us,e,q,r⟩=>⟨t,us,e,g _ _ q,Paired.mapP r fun _ _ z=>z.mono g⟩
theorem nwr:¬(("ward":Str) = "rules"):=by decide +kernel
theorem nws:¬(("ward":Str) = "sums"):=by decide +kernel
theorem nrs:¬(("rules":Str) = "sums"):=by decide +kernel
noncomputable def tf(y r s:Addr):List (Str×V):=bn "sums" (.ref s) (bn "rules" (.ref r) (bn "ward" (.ref y) []))
theorem dm(y r s:Addr):(tf y r s).lookup ("ward":Str)=some (.ref y):=by
 unfold tf
 rw[ap,if_neg nws,ap,if_neg nwr,ap,if_pos rfl]
theorem lL(y r s:Addr):(tf y r s).lookup ("rules":Str)=some (.ref r):=by
 unfold tf
 rw[ap,if_neg nrs,ap,if_pos rfl]
theorem gU(y r s:Addr):(tf y r s).lookup ("sums":Str)=some (.ref s):=by
 unfold tf
 rw[ap,if_pos rfl]
structure ce(CT CW:Addr)(H:Hp)(x:Addr)(d:Int)(hs:List Int)(ps:List Pst)(sums:List (List Lin)):Prop where
 ex:∃dx y rt st vr vs,H x=some (.ins CT dx (tf y rt st))∧bt CW H y d hs ps∧H rt=some (.tup vr)∧H st=some (.tup vs)∧fX H vs sums
theorem ce.mono{CT CW:Addr}{H H':Hp}{x:Addr}{d:Int}{hs:List Int}{ps:List Pst}{sums:List (List Lin)}(h:ce CT CW H x d hs ps sums)(g:aA H H'):ce CT CW H' x d hs ps sums:=by
 obtain⟨dx,y,rt,st,vr,vs,h1,h2,h3,h4,h5⟩:=h.ex
 exact⟨dx,y,rt,st,vr,vs,g _ _ h1,h2.mono g,g _ _ h3,g _ _ h4,fX.tmono (az g) h5⟩
theorem qr{hs:List Int}{h:Int}(a:0≤h)(b:h<(hs.length:Int)):ja hs h=true:=by
 unfold ja
 rw[decide_eq_true a,decide_eq_true b]
 rfl
theorem vt{m:Int}(a:0≤m)(b:m≤99):isM m=true:=by
 unfold isM
 rw[decide_eq_true a,decide_eq_true b]
 rfl
structure jd(H:Hp)(L:Addr)(lls:List (List Lin))(i:Nat)(H':Hp):Prop where
 ex:∃vs:List V,aA H H'∧H' L=some (.lst vs)∧fX H' vs (lls.take i)
theorem jd.start{H:Hp}{L:Addr}{lls:List (List Lin)}(hL:H L=none):jd H L lls 0 (upd H L (.lst [])):=⟨[],ah hL _,af,by rw[ypa];exact .nil⟩
theorem jd.same{H H':Hp}{L:Addr}{lls:List (List Lin)}{i:Nat}(h:jd H L lls i H'):aA H H':=by
 obtain⟨_,g,_⟩:=h.ex
 exact g
theorem jd.step{H H' H2:Hp}{L l:Addr}{lls:List (List Lin)}{i:Nat}{ls:List Lin}{ul:List V}(h:jd H L lls i H')(hL:H L=none)(hi:i≤900)(g2:aA H' H2)(hr:lls[i]? = some ls)(hl:H2 l=none)(hu:iT H2 ul ls) :
  ∃xs,upd H2 l (.tup ul) L=some (.lst xs)∧xs.length<sizeLine∧jd H L lls (i+1) (upd (upd H2 l (.tup ul)) L (.lst (xs++[.ref l]))):=by
 obtain⟨vs,g,e,hS⟩:=h.ex
 have hvl:=Paired.length hS
 rw[yf] at hvl
 have gl:=ah hl (.tup ul)
 have gg:=g2.trans gl
 refine⟨vs,gg _ _ e,aE (by omega),vs++[.ref l],aI hL (g.trans gg) _,af,?_⟩
 rw[ba hr]
 have h1:fX (upd H2 l (.tup ul)) (vs++[.ref l]) (lls.take i++[ls]):=aP (fX.tmono (az gg) hS) ⟨l,ul,rfl,af,Paired.mapP hu fun _ _ z=>z.mono (az gl)⟩
 exact fX.tmono (cI (gg _ _ e)) h1
theorem qg{d n:Nat}{ps:List Pst}{s:Sp4}(hk:s.k=0):aT d n ps s=[⟨bF n s.a (1+s.b % (ps.length:Int)),s.c⟩]:=by
 unfold aT
 rw[if_pos hk]
theorem qo{d n:Nat}{ps:List Pst}{s:Sp4}(hk:s.k=2):aT d n ps s=[⟨spr s.a (dsN s.b.toNat d) (bN ps) 1,s.c⟩]:=by
 unfold aT
 rw[if_neg (by omega),if_neg (by omega),if_pos hk]
theorem rF{d n:Nat}{ps:List Pst}{s:Sp4}(hk:s.k=3):aT d n ps s=iz s.a ps s.b.toNat d:=by
 unfold aT
 rw[if_neg (by omega),if_neg (by omega),if_neg (by omega),if_pos hk]
noncomputable abbrev Tri:=Int×Int×Int
noncomputable def DC(H:Hp)(v:V)(t:Tri):Prop:=∃a,v=.ref a∧H a=some (.tup [.int t.1,.int t.2.1,.int t.2.2])
noncomputable abbrev cU(H:Hp):List V→List Tri→Prop:=Paired (DC H)
theorem cU.tmono{H H':Hp}(g:fo H H'){us:List V}{ts:List Tri}(h:cU H us ts):cU H' us ts:=Paired.mapP h fun _ _ ⟨a,e,q⟩=>⟨a,e,g _ _ q⟩
noncomputable def du(i:Nat)(qs:List (Int×Int))(j:Nat):List Tri:=match qs[j]? with
 | some q=>if 0<q.2-q.1 then [((i:Int),(j:Int),q.2-q.1)] else []
 | none=>[]
noncomputable def cL(i:Nat)(qs:List (Int×Int))(k:Nat):List Tri:=(List.range k).flatMap (du i qs)
noncomputable def cK(qss:List (List (Int×Int)))(k:Nat):List Tri:=(List.range k).flatMap fun i=>cL i (qss[i]?.getD []) (qss[i]?.getD []).length
theorem gw(i:Nat)(qs:List (Int×Int))(k:Nat):cL i qs (k+1)=cL i qs k++du i qs k:=by
 unfold cL
 rw[yN,yOa]
 simp
theorem gj(qss:List (List (Int×Int)))(k:Nat):cK qss (k+1)=cK qss k++cL k (qss[k]?.getD []) (qss[k]?.getD []).length:=by
 unfold cK
 rw[yN,yOa]
 simp
theorem mh(i:Nat)(qs:List (Int×Int))(j:Nat):(du i qs j).length≤1:=by
 unfold du
 split
 ·split <;> simp
 ·simp
theorem e9(i:Nat)(qs:List (Int×Int)):∀k,(cL i qs k).length≤k
 | 0=>yi _
 | k+1=>by
  rw[gw,yd]
  have:=e9 i qs k
  have:=mh i qs k
  omega
theorem eW{qss:List (List (Int×Int))}{B:Nat}(h:∀qs∈qss,qs.length≤B):∀k,(cK qss k).length≤k*B
 | 0=>yH _
 | k+1=>by
  rw[gj,yd,ytb]
  have:=eW h k
  have:=e9 k (qss[k]?.getD []) (qss[k]?.getD []).length
  have:(qss[k]?.getD []).length≤B:=by
   cases e:qss[k]? with
   | none=>exact yH _
   | some qs=>exact h qs (yk e)
  omega
theorem jL{d:Int}{hs:List Int}{ps:List Pst}{rows:List (List Int)}(h:bI d hs ps rows=true):rows.length=hs.length∧∀row∈rows,(row.length:Int)=d:=by
 unfold bI at h
 rw[yK,decide_eq_true_eq,yL] at h
 refine⟨h.1,fun row hr=>?_⟩
 obtain⟨i,hi⟩:=yKa hr
 have il:=(List.getElem?_eq_some_iff.mp hi).1
 have z:=h.2 i (yu.mpr (by omega))
 unfold kc at z
 rw[hi,yP] at z
 unfold eU at z
 rw[yK,decide_eq_true_eq] at z
 exact z.1
noncomputable def cA(rows:List (List Int))(ls:List Lin):List (Int×Int):=ls.map fun ℓ=>(tot rows ℓ.ps,ℓ.b)
noncomputable def bA(rows:List (List Int))(sums:List (List Lin)):List Tri:=cK (sums.map (cA rows)) sums.length
structure dq(H:Hp)(L:Addr)(ts:List Tri)(H':Hp):Prop where
 ex:∃us:List V,aA H H'∧H' L=some (.lst us)∧cU H' us ts
theorem dq.start{H:Hp}{L:Addr}(hL:H L=none):dq H L [] (upd H L (.lst [])):=⟨[],ah hL _,af,.nil⟩
theorem dq.same{H H':Hp}{L:Addr}{ts:List Tri}(h:dq H L ts H'):aA H H':=by
 obtain⟨_,g,_⟩:=h.ex
 exact g
theorem dq.mono{H H' H2:Hp}{L:Addr}{ts:List Tri}(h:dq H L ts H')(g:aA H' H2):dq H L ts H2:=by
 obtain⟨us,g0,e,hT⟩:=h.ex
 exact⟨us,g0.trans g,g _ _ e,cU.tmono (az g) hT⟩
theorem dq.step{H H':Hp}{L t:Addr}{ts:List Tri}{a b c:Int}(h:dq H L ts H')(hL:H L=none)(hl:ts.length≤900)(ht:H' t=none) :
  ∃xs,upd H' t (.tup [.int a,.int b,.int c]) L=some (.lst xs)∧xs.length<sizeLine∧dq H L (ts++[(a,b,c)]) (upd (upd H' t (.tup [.int a,.int b,.int c])) L (.lst (xs++[.ref t]))):=by
 obtain⟨us,g,e,hT⟩:=h.ex
 have hul:=Paired.length hT
 have gt:=ah ht (.tup [.int a,.int b,.int c])
 refine⟨us,gt _ _ e,aE (by omega),us++[.ref t],aI hL (g.trans gt) _,af,?_⟩
 exact cU.tmono (cI (gt _ _ e)) (aP (cU.tmono (az gt) hT) ⟨t,rfl,af⟩)
noncomputable def tD3(t:Tri):DV:=.tup [.int t.1,.int t.2.1,.int t.2.2]
theorem qm{K:PySem.W.Frag}{H:Hp}{n:Nat}{a:Addr}{us:List V}{ts:List Tri}(h:SqL K H a us)(hT:cU H us ts):Den K H (n+2) (.ref a) (.lst (ts.map tD3)):=by
 refine⟨_,h,?_⟩
 clear h
 induction hT with
 | nil=>exact .nil
 | cons x _ ih =>
  obtain⟨t,rfl,e⟩:=x
  exact .cons ⟨_,SqT.of e,.cons cS (.cons cS (.cons cS .nil))⟩ ih
theorem tN(ts:List Tri):eqD (.lst (ts.map tD3)) (.lst (([]:List Int).map DV.int))=decide (ts=[]):=by
 cases ts with
 | nil=>simp[eqD]
 | cons t ts=>simp[eqD]
end My
namespace My
open PySem L2
noncomputable def qO(d:Int)(n:Nat)(ℓ:Lin):Prop:=ℓ.ps.length≤900∧∀q∈ℓ.ps,0≤q.h∧q.h<(n:Int)∧0≤q.d∧q.d<d
noncomputable def oj(d:Int)(n:Nat)(ls:List Lin):Prop:=ls.length≤40∧∀ℓ∈ls,qO d n ℓ
theorem kD{d:Int}{n:Nat}{ℓ:Lin}(h:qO d n ℓ):oj d n [ℓ]:=⟨by simp,fun _ z=>by rw[List.mem_singleton.mp z];exact h⟩
theorem k8{d h c b:Int}{n:Nat}{ds ps:List Int}(h0:0≤h)(h1:h<(n:Int))(hd:∀x∈ds,0≤x∧x<d)(l:ds.length≤31)(p:ps.length≤6):qO d n ⟨spr h ds ps c,b⟩:=by
 refine⟨?_,fun q hq=>?_⟩
 ·show(spr h ds ps c).length≤900
  rw[fN]
  exact yJ (yhb l p) (by decide)
 ·obtain⟨z1,z2,_,_⟩:=nh hq
  have:=hd _ z2
  omega
theorem ms{s d:Nat}{x:Int}(h:x∈dsN s d):0≤x∧x<(d:Int):=by
 unfold dsN at h
 obtain⟨i,hi,rfl⟩:=List.mem_map.mp h
 have:=yu.mp (yEa.mp hi).1
 omega
theorem oF(n:Nat)(d p:Int):(bF n d p).length=n:=by
 unfold bF
 rw[ya,yo]
end My
namespace PySem
section
variable{prog:Program}{w:World}{K:Type}[DecidableEq K]{A:Around}{E:Value→Shared→Prop}{s:Shared}
theorem eK{b:Addr}{Q:Bool→Shared→Prop}(ht:s.TypeIs (.ref b) "tuple")(h:Q false s):wpAny (model prog w) A (Builtin.Dict.quietEq (.ref b)) Q E s:=by
 unfold Builtin.Dict.quietEq
 refine wpAny_bind (wpAny_specialOf ht F.slot_tuple_eq.lookup ?_)
 exact wpAny_pure h
theorem dj{id:String}{d:Addr}{o:Obj}{es ep}{Q:Array DictEntry→Shared→Prop}(ho:s.heap.get? d=some o)(hd:o.data=.dict es ep)
  (hk:∀e∈es.toList,∃b,e.key=.ref b∧s.TypeIs (.ref b) "tuple") (hh:∀e∈es.toList,(es.filter (·.hash == e.hash)).size≤1) (h:Q es s) :
  wpAny (model prog w) A (Builtin.Dict.entriesForEmpty id d) Q E s:=by
 unfold Builtin.Dict.entriesForEmpty
 refine wpAny_bind (wpAny_dictEntries ho hd ?_)
 refine wpAny_bind ?_
 rw[← Array.forIn_toList]
 refine wpAny_forIn_list _ (fun rest _ s'=>s'=s∧∃pre,pre++rest=es.toList) _ ?_ ?_ _ _ ⟨rfl,[],rfl⟩
 ·rintro e rest b s' ⟨rfl,pre,hp⟩
  have he:e∈es.toList:=by rw[← hp];simp
  obtain⟨b,hb,ht⟩:=hk e he
  rw[hb]
  refine wpAny_bind (eK ht ?_)
  have:=hh e he
  rw[if_pos (by decide),if_neg (by omega)]
  exact wpAny_pure ⟨rfl,pre++[e],by rw[← hp];simp⟩
 ·rintro b s' ⟨rfl,_⟩
  exact wpAny_pure h
theorem mL{es:Array DictEntry}{hs:List Int}(he:es.toList.map (·.hash)=hs)(hn:hs.Nodup):∀e∈es.toList,(es.filter (·.hash == e.hash)).size≤1:=fun e hem=>by
 rw[← yka,Array.toList_filter]
 subst he
 generalize es.toList=l at hem hn
 clear hem
 induction l with
 | nil=>exact yH _
 | cons x xs ih =>
  rw[ym,yW] at hn
  rw[List.filter_cons]
  by_cases z:(x.hash == e.hash)=true
  ·rw[if_pos z,yp]
   have e0:xs.filter (·.hash == e.hash)=[]:=by
    rw[yWa]
    intro y hy w
    have h1:x.hash=e.hash:=by simpa using z
    have h2:y.hash=e.hash:=by simpa using w
    exact hn.1 (List.mem_map.mpr ⟨y,hy,by rw[h2,h1]⟩)
   rw[e0]
   exact yi _
  ·rw[if_neg z]
   exact ih hn.2
variable{kx:KeyKind prog w K}
theorem gc{nm:String}{d o:Addr}{xs:List (List K×Addr×Value)}{Q:Unit→Shared→Prop}(hdo:d≠o)(hoS:(o == sysModules)=false)
  (hd:s.heap.DictOfH (tupleKind kx) d []) (ho:s.heap.DictOfH (tupleKind kx) o xs) (hh:(xs.map fun x=>(tupleKind kx).hash x.1).Nodup) (hsz:xs.length≤sizeLine)
  (hQ:∀h',h'.DictOfH (tupleKind kx) d xs→Heap.SameBut d s.heap h'→Q () { s with heap:=h' }) :
  wpAny (model prog w) A (Builtin.Dict.mergeDict nm d o) Q E s:=by
 obtain⟨od,esd,epd,hod,hcd,hdd,hed,hid,hnd⟩:=id hd
 obtain⟨oo,eso,epo,hoo,hco,hdo',heo,hio,hno⟩:=id ho
 have hlen:=size_of_entries heo
 have hd0:esd = #[]:=by
  have:=size_of_entries hed
  exact yeb this
 unfold Builtin.Dict.mergeDict
 rw[if_neg (by simpa using hdo)]
 unfold Builtin.Dict.showsAll
 rw[if_neg (by rw[hoS];exact yr)]
 refine wpAny_bind (wpAny_pure ?_)
 refine wpAny_bind (wpAny_dictEntries hoo hdo' ?_)
 dsimp only
 cases xs with
 | nil =>
  have ho0:eso = #[]:=yeb hlen
  subst ho0
  rw[if_neg (by simp)]
  refine wpAny_bind (wpAny_dictEpoch hoo hdo' ?_)
  refine wpAny_bind (wpAny_dictEntries hoo hdo' ?_)
  refine wpAny_bind ?_
  rw[Std.Legacy.Range.forIn_eq_forIn_range']
  simp only[Std.Legacy.Range.size,yOb,Nat.add_sub_cancel,Nat.div_one]
  refine wpAny_forIn_list _ (fun rest _ s'=>rest=[]∧s'=s) _ (fun _ _ _ _ z=>by cases z.1) (fun b s' z=>?_) _ _ ⟨rfl,rfl⟩
  obtain⟨_,rfl⟩:=z
  exact wpAny_pure (hQ _ hd (Heap.SameBut.refl _ _))
 | cons x xs =>
  have h0:eso[0]? = some (entryOfKey (tupleKind kx) x):=by rw[entry_at heo 0];rfl
  have hlt:0<eso.size:=by rw[hlen];exact yfb _
  have hall:(eso.all fun e=>(keyPart e.key).isSome)=false:=by
   rw[← Array.all_toList,heo,ym,yJb]
   rfl
  rw[hall,yja,Bool.not_false,if_pos rfl]
  refine wpAny_bind (wpAny_dictEntries hod hdd ?_)
  rw[hd0,if_pos (by rfl)]
  have hk:∀e∈eso.toList,∃b,e.key=.ref b∧s.TypeIs (.ref b) "tuple" := fun e he=>by
   rw[heo] at he
   obtain⟨y,hy,rfl⟩:=List.mem_map.mp he
   exact⟨y.2.1,rfl,IsTupleKey.typeIs (hio y hy)⟩
  have hhs:eso.toList.map (·.hash)=(x::xs).map fun x=>(tupleKind kx).hash x.1:=by
   rw[heo,yqa]
   rfl
  refine wpAny_bind (dj hoo hdo' hk (mL hhs hh) ?_)
  rw[if_pos (by
   have:eso.isEmpty=false:=by rw[Array.isEmpty_eq_false_iff];intro z;rw[z] at hlt;exact absurd hlt (by decide)
   rw[this];rfl)]
  have hsb:=Heap.SameBut.update (h:=s.heap) (a:=d) (f:=Obj.mapDictKeys fun _=>eso)
  refine wpAny_bind (wpAny_updateDictKeysTo hod hdd (wpAny_pure (hQ _ ⟨_,eso,epd+1,Heap.get?_update_self _ hod (Obj.isFreed_of_dict (Obj.data_mapDictKeys hdd _)),hcd.mapDictKeys _,Obj.data_mapDictKeys hdd _,heo,fun y hy=>(tupleKind kx).keeps (hio y hy) hod hdd (Heap.SameBut.update ..),hno⟩ (Heap.SameBut.update ..))) ?_)
  rw[hlen]
  omega
theorem iY{o:Addr}{xs:List (List K×Addr×Value)}{Q:Value→Shared→Prop}(hoS:(o == sysModules)=false)(ho:s.heap.DictOfH (tupleKind kx) o xs)(hh:(xs.map fun x=>(tupleKind kx).hash x.1).Nodup)(hsz:xs.length≤sizeLine)
  (h:∀h',h'.DictOfH (tupleKind kx) s.heap.objs.size xs→Heap.SameBut s.heap.objs.size (s.heap.push { cls:=.type "dict",data:=.dict #[] }) h'→Q (.ref s.heap.objs.size) { s with heap:=h' }) :
  wpAny (model prog w) A (call (.type "dict") [.ref o]) Q E s:=by
 refine callType_codes (Q₁:=fun obj s₁=>obj=.ref s.heap.objs.size∧s₁ = { s with heap:=s.heap.push { cls:=.type "dict",data:=.dict #[] } }) F.kt_called_dict (F.kt_typeCall_dict_1 _) F.entry_dict_init (kt_code_dict_new _ ⟨rfl,rfl⟩) ?_
 rintro obj s₁ ⟨rfl,rfl⟩
 have hnew:(s.heap.push { cls:=.type "dict",data:=.dict #[] }).DictOfH (tupleKind kx) s.heap.objs.size []:=Heap.DictOfH.new s.heap
 have hdo:s.heap.objs.size≠o:=by
  obtain⟨_,_,_,hg,_⟩:=ho
  exact fun e=>absurd (Heap.lt_size hg) (by rw[e];exact yia _)
 have ho':(s.heap.push { cls:=.type "dict",data:=.dict #[] }).DictOfH (tupleKind kx) o xs:=by
  obtain⟨oo,es,ep,h1,h2,h3,h4,h5,h6⟩:=ho
  refine⟨oo,es,ep,Heap.get?_push_of_some _ h1,h2,h3,h4,fun x hx=>?_,h6⟩
  obtain⟨ot,its,n,k1,k2,k3,k4⟩:=h5 x hx
  exact⟨ot,its,n,Heap.get?_push_of_some _ k1,k2,k3,k4⟩
 refine⟨hnew.typeIs,F.args_dict_init_2 _ _,?_⟩
 unfold Builtin.«dict.__init__»
 refine wpAny_bind ?_
 unfold Builtin.Dict.selfAndRest
 refine wpAny_bind (wpAny_notOrdered_dict hnew.typeIs ?_)
 show wpAny _ _ (pure (s.heap.objs.size,[Value.ref o])) _ _ _
 refine wpAny_pure ?_
 show wpAny _ _ (Builtin.Dict.updateFrom "dict.__init__" s.heap.objs.size (.ref o) [] .none) _ _ _
 unfold Builtin.Dict.updateFrom
 refine wpAny_bind (wpAny_typeOf ho'.typeIs ?_)
 rw[if_neg (by decide)]
 refine wpAny_bind ?_
 unfold Builtin.Dict.merge
 refine wpAny_bind ?_
 unfold Builtin.Dict.readDirectly
 refine wpAny_bind (wpAny_isInstance ho'.typeIs isSubtype_dict_dict ?_)
 simp only[Bool.not_true,yRa,if_false]
 refine wpAny_bind (wpAny_specialOf ho'.typeIs F.slot_dict_iter.lookup (wpAny_pure ?_))
 simp only[beq_self_eq_true,if_true]
 refine wpAny_bind (wpAny_pure ?_)
 refine gc hdo hoS hnew ho' hh hsz fun h' hd' hs'=>?_
 show wpAny _ _ (Builtin.Dict.addKeywords s.heap.objs.size [] >>= _) _ _ _
 exact wpAny_bind (wpAny_pure (wpAny_pure ⟨rfl,h h' hd' hs'⟩))
end
end PySem
namespace L2
open PySem PySem.Spec PyProof.Rows
noncomputable def kI(ns:List Int):Int:=reduceHash (Builtin.Tuple.tupleHashOf (ns.map hashInt))
section
variable{X:Cx}
noncomputable def pV(X:Cx):List V→Hp→VK→Prop:=fun xs H Q=>∃a kvs,xs=[.ref a]∧H a=some (.dT kvs)∧(kvs.map fun kv=>tupleKeyHash (bq X.prog X.w) kv.1).Nodup∧∀p,H p=none→Q (.ref p) (upd H p (.dT kvs))
theorem KT.hashes{P:Program}{w:World}{H:Hp}:∀{kvs:List (List Key×V)} {xs:List (List Key×Addr×Value)},KT H kvs xs→(xs.map fun x=>(tupleKind (bq P w)).hash x.1)=kvs.map fun kv=>tupleKeyHash (bq P w) kv.1
 | _,_,.nil=>rfl
 | _,_,.cons h r=>by rw[ym,ym,KT.hashes r,h.1];rfl
theorem md:b6 X (.type "dict") (pV X):=by
 intro pins s σ H xs us Q I r h
 obtain⟨a,kvs,rfl,e,hn,q⟩:=h
 obtain⟨u,rfl,rx⟩:=aO.one r
 cases rx
 obtain⟨z,hd,xs,rel,dd⟩:=uP I.hok e
 have hl:kvs.length=xs.length:=Paired.length rel
 refine iY hd dd (by rw[KT.hashes rel];exact hn) (by omega) fun h' dd' hs=>?_
 refine⟨.ref s.heap.objs.size,_,I.laid (a:=s.heap.objs.size) (o:=.dT kvs) (t':=s.toks) (fun b q hq=>?_) (yi _) ?_,rfl,q _ (I.hok.fresh (yi _))⟩
 ·exact(hs.2 b (yE (Heap.lt_size hq))).trans (Heap.get?_push_of_some _ hq)
 ·obtain⟨o',es,ep,k1,k2,k3,k4,_,k6⟩:=dd'
  exact⟨z,beq_eq_false_iff_ne.mpr (yva (yE I.big)),xs,KT.keeps rel (fun b ys eb=>by rw[av (aG eb (I.hok.fresh (yi _)))];exact eb),o',es,ep,k1,k2,k3,k4,k6⟩
end
noncomputable def kN(ns:List Int):List Key:=ns.map Sum.inl
theorem m9(P:Program)(w:World)(ns:List Int):tupleKeyHash (bq P w) (kN ns)=kI ns:=by
 unfold tupleKeyHash kI kN
 rw[yqa]
 rfl
end L2
namespace PySem
open Sem (wp)
namespace F
theorem lk_list_keys:typeLookup (.type "list") "keys" = pure none:=by rw[typeLookup_type,builtinLookup_eq_fast];kernel_rfl
theorem lk_list_hook:typeLookup (.type "list") "__getattr__" = pure none:=by rw[typeLookup_type,builtinLookup_eq_fast];kernel_rfl
end F
section
variable{prog:Program}{w:World}{A:Around}{E:Value→Shared→Prop}{h:Heap}{g:Array GenState}{d:Drawn}{t:Nat}{os:OsState}{a:Addr}{o:Obj}
theorem gO{tk:Tok}{Q:Fin→Shared→Prop}{E:Value→Shared→Prop}(hx:h.get? a=some o)(hc:o.cls=.type "list"){its:Array Value}{n:Nat}(hdt:o.data=.seq its n)(hdc:o.dict=none)(hh:A.handled=none)(hq:∀(e:Addr) (h':Heap) (t':Nat),(∀b ob,h.get? b=some ob→h'.get? b=some ob)→(∃oe,h'.get? e=some oe∧oe.cls=.type "AttributeError")→E (.ref e) ⟨h',g,d,t',os⟩) :
  wpAny (model prog w) A (Builtin.«object.__getattribute__» ⟨[.ref a,.str "keys" tk],[]⟩) Q E ⟨h,g,d,t,os⟩:=by
 have hT:(⟨h,g,d,t,os⟩:Shared).TypeIs (.ref a) "list" := ⟨_,hx,hc⟩
 have f4:=F.lk_list_keys
 repeat (any_goals (first | assumption | wp_step))
 rw[hdt]
 dsimp only
 unfold instanceDict
 repeat (any_goals (first | assumption | wp_step))
 rw[hc,hdc]
 dsimp only
 rw[if_pos (by rfl)]
 refine wpAny_pure ?_
 unfold Builtin.ObjectAttr.inDict
 dsimp only
 repeat (any_goals (first | assumption | wp_step))
 unfold raiseAttrError
 have hm:¬((Str.ofString (toString "'" ++ toString ((Manifest.find? "list").elim "list" fun x=>x.tpName)++toString "' object has no attribute '")++Str.ofString "keys" ++ Str.ofString "'").length>sizeLine):=by decide +kernel
 generalize (Str.ofString (toString "'" ++ toString ((Manifest.find? "list").elim "list" fun x=>x.tpName)++toString "' object has no attribute '")++Str.ofString "keys" ++ Str.ofString "'")=msg at hm
 refine wpAny_bind ?_
 unfold mkStr
 rw[if_neg hm]
 have fsub:isSubtype (.type "AttributeError") (.type "AttributeError")=pure true:=by rw[isSubtype_type];kernel_rfl
 have fman:((Manifest.find? "AttributeError").elim false fun t=>t.mro.contains "StopIteration" || t.mro.contains "SystemExit")=false:=by kernel_rfl
 have fown:ownMembersOf (.type "AttributeError") [Value.str msg t] = #[unsetMember,unsetMember]:=by rfl
 repeat (any_goals (first | assumption | wp_step))
 rw[fman,fown]
 have kp:∀(f:Obj→Obj) b ob,h.get? b=some ob→(((h.push { cls:=Value.type "tuple",data:=Data.seq #[Value.str msg t] }).push { cls:=Value.type "AttributeError",data:=Data.fields (#[Value.ref h.objs.size,Value.none,Value.none,Value.none,Value.bool false,if false=true then [Value.str msg t].headD Value.none else Value.none] ++ #[unsetMember,unsetMember]) }).update (h.push { cls:=Value.type "tuple",data:=Data.seq #[Value.str msg t] }).objs.size f).get? b=some ob:=fun f b ob hb=>by
  have hlt:=Heap.lt_size hb
  refine(Heap.get?_update_ne _ b _ f ?_).trans (Heap.get?_push_of_some _ (Heap.get?_push_of_some _ hb))
  have e1:(h.push { cls:=Value.type "tuple",data:=Data.seq #[Value.str msg t] }).objs.size=h.objs.size+1:=by simp[Heap.push]
  exact yE (by rw[e1];exact ySa hlt)
 unfold raiseNew
 refine wpAny_bind (wpAny_handled ?_)
 rw[hh]
 dsimp only
 refine wpAny_bind (wpAny_pure (wpAny_throw (hq _ _ _ (kp _) ?_)))
 exact⟨_,Heap.get?_update_self _ (Heap.get?_push_size _ rfl) (by rfl),rfl⟩
theorem iG{tk:Tok}{R:Result→Shared→Prop}(hx:h.get? a=some o)(hc:o.cls=.type "list"){its:Array Value}{n:Nat}(hdt:o.data=.seq its n)(hdc:o.dict=none)(hh:A.handled=none)
  (hq:∀(e:Addr) (h':Heap) (t':Nat),(∀b ob,h.get? b=some ob→h'.get? b=some ob)→(∃oe,h'.get? e=some oe∧oe.cls=.type "AttributeError")→R (.error (.ref e)) ⟨h',g,d,t',os⟩) :
  codeAny (model prog w) A (.call (.builtin "list.__getattribute__") ⟨[.ref a,.str "keys" tk],[]⟩) R ⟨h,g,d,t,os⟩ :=
 codeAny_call_builtin F.slot_list_getattribute.plain F.entry_list_ga (F.slot_list_getattribute.check _ _ _ _ _ _ _ _ (show(⟨h,g,d,t,os⟩:Shared).TypeIs (.ref a) "list" from ⟨_,hx,hc⟩) (F.args_list_getattribute_2 _ _) (gO hx hc hdt hdc hh hq))
theorem jY{tk:Tok}{Q:Value→Shared→Prop}{E:Value→Shared→Prop}(hx:h.get? a=some o)(hc:o.cls=.type "list"){its:Array Value}{n:Nat}(hdt:o.data=.seq its n)(hdc:o.dict=none)(hh:A.handled=none)
  (hq:∀(e:Addr) (h':Heap) (t':Nat),(∀b ob,h.get? b=some ob→h'.get? b=some ob)→(∃oe,h'.get? e=some oe∧oe.cls=.type "AttributeError")→E (.ref e) ⟨h',g,d,t',os⟩):wpAny (model prog w) A (getAttrBy (.ref a) (.str "keys" tk) false) Q E ⟨h,g,d,t,os⟩:=by
 have hT:(⟨h,g,d,t,os⟩:Shared).TypeIs (.ref a) "list" := ⟨_,hx,hc⟩
 have f2:=F.slot_list_getattribute.lookup
 have f3:=F.slot_list_getattribute.bind (.ref a)
 repeat (any_goals (first | assumption | wp_step))
 refine iG hx hc hdt hdc hh fun e h' t' k1 k2=>?_
 dsimp only
 obtain⟨oe,he,hec⟩:=id k2
 have hTe:(⟨h',g,d,t',os⟩:Shared).TypeIs (.ref e) "AttributeError" := ⟨_,he,hec⟩
 have fsub:isSubtype (.type "AttributeError") (.type "AttributeError")=pure true:=by rw[isSubtype_type];kernel_rfl
 have fhk:=F.lk_list_hook
 unfold getattributeRaised
 repeat (any_goals (first | assumption | wp_step))
 exact hq e h' t' k1 k2
theorem ix{Q:Option Value→Shared→Prop}(hx:h.get? a=some o)(hc:o.cls=.type "list"){its:Array Value}{n:Nat}(hdt:o.data=.seq its n)(hdc:o.dict=none)(hh:A.handled=none)
  (hq:∀(h':Heap) (t':Nat),(∀b ob,h.get? b=some ob→h'.get? b=some ob)→Q none ⟨h',g,d,t',os⟩):wpAny (model prog w) A (getAttr? (.ref a) "keys") Q E ⟨h,g,d,t,os⟩:=by
 have fsub:isSubtype (.type "AttributeError") (.type "AttributeError")=pure true:=by rw[isSubtype_type];kernel_rfl
 unfold getAttr? getAttrBy?
 refine wpAny_bind ?_
 unfold mkText
 repeat (any_goals (first | assumption | (with_reducible apply jY hx hc hdt hdc hh) | wp_step))
 intro e h' t' k1 k2
 obtain⟨oe,he,hec⟩:=id k2
 have hTe:(⟨h',g,d,t',os⟩:Shared).TypeIs (.ref e) "AttributeError" := ⟨_,he,hec⟩
 dsimp only
 repeat (any_goals (first | assumption | wp_step))
 exact hq h' t' k1
end
end PySem
namespace PySem
open Sem (wp)
namespace F
theorem entry_dict_loop:entryFor table "dict.update.loop" = some Builtin.«dict.update.loop»:=entryFor_of_tree (by kernel_rfl)
end F
structure ml{prog:Program}{w:World}{K:Type}[DecidableEq K](kx:KeyKind prog w K)(h:Heap)(x:Value)(p:List K×Addr×Value):Prop where
 ex:∃t o n,x=.ref t∧h.get? t=some o∧o.cls=.type "tuple" ∧ o.data=.seq #[.ref p.2.1,p.2.2] n
 key:(tupleKind kx).is h p.1 p.2.1
section
variable{prog:Program}{w:World}{K:Type}[DecidableEq K]{kx:KeyKind prog w K}{A:Around}
noncomputable def mM(a b:Addr)(h0 h:Heap):Prop:=∀c o,h0.get? c=some o→c≠a→c≠b→h.get? c=some o
theorem jB{h h':Heap}{d it l:Addr}{i:Nat}{xs:List (List K×Addr×Value)}(hD:h.DictOfH (tupleKind kx) d xs)(hI:h.IsListIter it l i)(hx:Heap.ExtBut it h h')(hne:it≠d):h'.DictOfH (tupleKind kx) d xs:=by
 obtain⟨o,es,ep,h1,h2,h3,h4,h5,h6⟩:=hD
 obtain⟨oi,i1,i2,i3⟩:=hI
 refine⟨o,es,ep,hx _ _ (yva hne) h1,h2,h3,h4,fun x hx'=>?_,h6⟩
 obtain⟨ot,its,n,k1,k2,k3,k4⟩:=h5 x hx'
 refine⟨ot,its,n,hx _ _ (fun z=>?_) k1,k2,k3,k4⟩
 rw[z,i1] at k1
 cases k1
 rw[i2] at k2
 injection k2 with k2
 exact absurd k2 (by decide)
theorem iK{h0:Heap}{d it l:Addr}{items:Array Value}{ps:List (List K×Addr×Value)}{R:Result→Shared→Prop}(hu2:∀args,(A.under (.builtin "dict.update.loop" args)).units<cLine)(hh:A.handled=none)
  (hit:∀b o,h0.get? b=some o→b≠it∧b≠d) (hl:h0.IsList l items) (hlen:ps.length=items.size) (hp:∀(j:Nat) x p,items[j]? = some x→ps[j]? = some p→ml kx h0 x p)
  (hne:it≠d) :
  ∀(m i:Nat) (xs:List (List K×Addr×Value)) (s:Shared),m+i=items.size→s.heap.IsListIter it l i→mM it d h0 s.heap→s.heap.DictOfH (tupleKind kx) d xs→xs.length+m≤sizeLine →
   (∀h' t',h'.DictOfH (tupleKind kx) d ((ps.drop i).foldl (fun acc p=>storedH acc p.1 p.2.1 p.2.2) xs)→mM it d h0 h'→R (.ok (.ret .none)) { s with heap:=h',toks:=t' }) →
   codeAny (model prog w) A (.builtin "dict.update.loop" ⟨[.ref d,.ref it,.int i 0,.none],[]⟩) R s
 | 0,i,xs,s,hm,hI,hK,hD,hz,hR=>by
  obtain⟨ol,g1,g2,n,g3⟩:=id hl
  obtain⟨n1,n2⟩:=hit l ol g1
  have hL:s.heap.IsList l items:=⟨ol,hK l ol g1 n1 n2,g2,n,g3⟩
  refine codeAny_builtin F.entry_dict_loop ?_
  unfold Builtin.«dict.update.loop»
  dsimp only
  refine wpAny_bind (wpAny_pyNext_list_end (by exact hh) hI hL (yCb (by omega)) fun h' hx=>?_)
  dsimp only
  show wpAny _ _ (Builtin.Dict.addKeywords d [] >>= _) _ _ _
  have e0:ps.drop i=[]:=List.drop_eq_nil_of_le (by omega)
  rw[e0] at hR
  exact wpAny_bind (wpAny_pure (wpAny_pure (hR h' s.toks (jB hD hI hx hne) fun c o e c1 c2=>hx _ _ c1 (hK c o e c1 c2))))
 | m+1,i,xs,s,hm,hI,hK,hD,hz,hR=>by
  obtain⟨ol,g1,g2,n,g3⟩:=id hl
  obtain⟨n1,n2⟩:=hit l ol g1
  have hL:s.heap.IsList l items:=⟨ol,hK l ol g1 n1 n2,g2,n,g3⟩
  have hi:i<items.size:=by omega
  have hi2:i<ps.length:=by omega
  have P:=hp i _ _ (yya hi) (yb hi2)
  obtain⟨t,o,n',ex,k1,k2,k3⟩:=P.ex
  obtain⟨n3,n4⟩:=hit t o k1
  refine codeAny_builtin F.entry_dict_loop ?_
  unfold Builtin.«dict.update.loop»
  dsimp only
  refine wpAny_bind (wpAny_pyNext_list_item hI hL (yya hi) fun h' hI' hs=>?_)
  have hext:Heap.ExtBut it s.heap h':=fun b o nb e=>by rw[hs.2 b nb];exact e
  have hD':=jB hD hI hext hne
  have hK':mM it d h0 h':=fun c o e c1 c2=>hext _ _ c1 (hK c o e c1 c2)
  dsimp only
  refine wpAny_bind (wpAny_holding ?_)
  refine wpAny_bind (wpAny_tryCatch ?_)
  rw[ex]
  have hT:({ s with heap:=h' }:Shared).TypeIs (.ref t) "tuple" := ⟨o,hK' t o k1 n3 n4,k2⟩
  unfold Builtin.Dict.pairItems
  refine wpAny_bind (wpAny_typeOf hT ?_)
  rw[if_pos (by rfl)]
  refine wpAny_bind (wpAny_seqItems (hK' t o k1 n3 n4) k3 (wpAny_pure ?_))
  show wpAny _ _ (holding [Value.ref ps[i].2.1,ps[i].2.2] (dictSet d (Value.ref ps[i].2.1) ps[i].2.2)) _ _ _
  obtain⟨ok,ik,nk,q1,q2,q3,q4⟩:=P.key
  obtain⟨n5,n6⟩:=hit _ ok q1
  have hkey:(tupleKind kx).is h' ps[i].1 ps[i].2.1:=⟨ok,ik,nk,hK' _ ok q1 n5 n6,q2,q3,q4⟩
  refine wpAny_holding (wpAny_dictSet_heap (knd:=tupleKind kx) (hu2 _) hkey hD' (fun h'' hD'' hs''=>?_) (by omega))
  refine wpAny_pure ⟨Code.quiet_builtin _ k!,?_⟩
  have hstep:(ps.drop i).foldl (fun acc p=>storedH acc p.1 p.2.1 p.2.2) xs=(ps.drop (i+1)).foldl (fun acc p=>storedH acc p.1 p.2.1 p.2.2) (storedH xs ps[i].1 ps[i].2.1 ps[i].2.2):=by
   rw[yPa hi2,yQ]
  rw[hstep] at hR
  have hsl:(storedH xs ps[i].1 ps[i].2.1 ps[i].2.2).length≤xs.length+1:=by
   unfold storedH
   split
   ·rw[ya];omega
   ·rw[yd];exact yi _
  refine iK hu2 hh hit hl hlen hp hne m (i+1) _ _ (by omega) ?_ ?_ hD'' (by omega) ?_
  ·obtain⟨oi,i1,i2,i3⟩:=hI'
   exact⟨oi,(hs''.2 it hne).trans i1,i2,i3⟩
  ·exact fun c o e c1 c2=>(hs''.2 c c2).trans (hK' c o e c1 c2)
  ·exact fun h3 t3=>hR h3 t3
theorem iZ{l:Addr}{items:Array Value}{ps:List (List K×Addr×Value)}{E:Value→Shared→Prop}{s:Shared}{Q:Value→Shared→Prop}(hu1:∀args,((A.in1).under (.builtin "dict.update.loop" args)).units<cLine)(hh:A.handled=none)
  (hl:s.heap.IsList l items) (hdc:∀o,s.heap.get? l=some o→o.dict=none) (hlen:ps.length=items.size) (hp:∀(j:Nat) x p,items[j]? = some x→ps[j]? = some p→ml kx s.heap x p) (hz:ps.length≤sizeLine)
  (h:∀h' t',h'.DictOfH (tupleKind kx) s.heap.objs.size (ps.foldl (fun acc p=>storedH acc p.1 p.2.1 p.2.2) [])→(∀c o,s.heap.get? c=some o→h'.get? c=some o)→Q (.ref s.heap.objs.size) { s with heap:=h',toks:=t' }) :
  wpAny (model prog w) A (call (.type "dict") [.ref l]) Q E s:=by
 refine callType_codes (Q₁:=fun obj s₁=>obj=.ref s.heap.objs.size∧s₁ = { s with heap:=s.heap.push { cls:=.type "dict",data:=.dict #[] } }) F.kt_called_dict (F.kt_typeCall_dict_1 _) F.entry_dict_init (kt_code_dict_new _ ⟨rfl,rfl⟩) ?_
 rintro obj s₁ ⟨rfl,rfl⟩
 have hnew:(s.heap.push { cls:=.type "dict",data:=.dict #[] }).DictOfH (tupleKind kx) s.heap.objs.size []:=Heap.DictOfH.new s.heap
 obtain⟨ol,g1,g2,n,g3⟩:=id hl
 have hd0:=hdc ol g1
 have g1':(s.heap.push { cls:=.type "dict",data:=.dict #[] }).get? l=some ol:=Heap.get?_push_of_some _ g1
 have hT:({ s with heap:=s.heap.push { cls:=.type "dict",data:=.dict #[] } }:Shared).TypeIs (.ref l) "list" := ⟨ol,g1',g2⟩
 refine⟨hnew.typeIs,F.args_dict_init_2 _ _,?_⟩
 unfold Builtin.«dict.__init__»
 refine wpAny_bind ?_
 unfold Builtin.Dict.selfAndRest
 refine wpAny_bind (wpAny_notOrdered_dict hnew.typeIs ?_)
 show wpAny _ _ (pure (s.heap.objs.size,[Value.ref l])) _ _ _
 refine wpAny_pure ?_
 show wpAny _ _ (Builtin.Dict.updateFrom "dict.__init__" s.heap.objs.size (.ref l) [] .none) _ _ _
 unfold Builtin.Dict.updateFrom
 refine wpAny_bind (wpAny_typeOf hT ?_)
 rw[if_pos (by rfl)]
 refine wpAny_bind (ix g1' g2 g3 hd0 (by exact hh) fun h2 t2 hk2=>?_)
 rw[if_pos (by rfl)]
 refine wpAny_bind (wpAny_rule ?_)
 have hl2:h2.IsList l items:=⟨ol,hk2 _ _ g1',g2,n,g3⟩
 refine wpAny_bind (wpAny_pyIter_list hl2 ?_)
 refine wpAny_pure ⟨Code.quiet_builtin _ k!,?_⟩
 have up:∀b o,s.heap.get? b=some o→h2.get? b=some o:=fun b o e=>hk2 _ _ (Heap.get?_push_of_some _ e)
 have hd2:h2.get? s.heap.objs.size=some { cls:=.type "dict",data:=.dict #[] }:=hk2 _ _ (Heap.get?_push_size _ rfl)
 have hdl:=Heap.lt_size hd2
 refine iK (kx:=kx) (h0:=s.heap) (l:=l) (items:=items) (ps:=ps) hu1 (by exact hh) (fun b o e=>?_) hl hlen hp (yNb hdl) items.size 0 [] _ (by omega) ⟨_,Heap.get?_push_size _ rfl,rfl,rfl⟩ (fun c o e _ _=>Heap.get?_push_of_some _ (up c o e)) ?_ (by rw[← hlen];simpa using hz) fun h3 t3 hD3 hK3=>?_
 ·exact⟨yE (Heap.lt_size (up b o e)),yE (Heap.lt_size e)⟩
 ·exact⟨_,#[],0,Heap.get?_push_of_some _ hd2,⟨rfl,rfl,rfl⟩,rfl,rfl,(fun _ hx=>by simp at hx),yta⟩
 ·refine⟨rfl,h h3 t3 hD3 fun c o e=>hK3 c o e ?_ ?_⟩
  ·exact yE (Heap.lt_size (up c o e))
  ·exact yE (Heap.lt_size e)
end
end PySem
namespace L2
open PySem PySem.Spec PyProof.Rows
noncomputable def PrV(H:Hp)(v:V)(kv:List Key×V):Prop:=∃t b,v=.ref t∧H t=some (.tup [.ref b,kv.2])∧H b=some (.tup (kv.1.map kV))
noncomputable abbrev rn(H:Hp):List V→List (List Key×V)→Prop:=Paired (PrV H)
theorem kC{P:Program}{w:World}{H:Hp}{h:Heap}(ok:HOk P w H h):∀{vs:List V} {kvs:List (List Key×V)} {its:List Value},rn H vs kvs→aO vs its→∃ps,KT H kvs ps∧Paired (ml (bq P w) h) its ps
 | _,_,_,.nil,.nil=>⟨[],.nil,.nil⟩
 | _,_,_,.cons (b:=kv) h1 r1,.cons (b:=u) h2 r2=>by
  obtain⟨ps,a1,a2⟩:=kC ok r1 r2
  obtain⟨t,b,rfl,et,eb⟩:=h1
  cases (show u=Value.ref t from h2)
  obtain⟨_,its2,rl,o,i1,i2,n,i3⟩:=(show br P w H h t (.tup [.ref b,kv.2]) from ok t _ et)
  obtain⟨x1,x2,rfl⟩:∃x1 x2,its2=[x1,x2]:=by
   have:=rl.length
   match its2,this with
   | [x1,x2],_=>exact⟨x1,x2,rfl⟩
  cases rl with
  | cons r3 r4 =>
   cases r4 with
   | cons r5 _ =>
    cases (show x1=Value.ref b from r3)
    exact⟨(kv.1,b,x2)::ps,.cons ⟨rfl,eb,r5⟩ a1,.cons ⟨⟨t,o,n,rfl,i1,i2,i3⟩,e8 ok eb⟩ a2⟩
theorem nc{H:Hp}:∀{kvs:List (List Key×V)} {ps:List (List Key×Addr×Value)} {acc:List (List Key×V)} {xs:List (List Key×Addr×Value)},KT H kvs ps→KT H acc xs→KT H (kvs.foldl (fun acc kv=>bR acc kv.1 kv.2) acc) (ps.foldl (fun acc p=>storedH acc p.1 p.2.1 p.2.2) xs)
 | _,_,_,_,.nil,h=>h
 | _,_,acc,xs,.cons (a:=kv) (b:=p) h1 r1,h=>by
  rw[yQ,yQ,← h1.1]
  exact nc r1 (KT.put h kv.1 h1.2.1 h1.2.2)
section
variable{X:Cx}
noncomputable def qd:List V→Hp→VK→Prop:=fun xs H Q=>∃a us kvs,xs=[.ref a]∧H a=some (.lst us)∧rn H us kvs∧kvs.length≤1000∧∀p,H p=none→Q (.ref p) (upd H p (.dT (kvs.foldl (fun acc kv=>bR acc kv.1 kv.2) [])))
theorem lW{k:Nat}(hc:X.calm=true)(hr:b4 k X.A):b6 X (.type "dict") qd:=by
 intro pins s σ H xs us Q I r h
 obtain⟨a,vs,kvs,rfl,e,hP,hl,q⟩:=h
 obtain⟨u,rfl,rx⟩:=aO.one r
 cases rx
 obtain⟨z,its,n,rel,g1⟩:=(show br X.prog X.w H s.heap a (.lst vs) from I.hok a _ e)
 obtain⟨ps,kt,pa⟩:=kC I.hok hP rel
 have l1:its.length=ps.length:=Paired.length pa
 have l2:kvs.length=ps.length:=Paired.length kt
 refine iZ (kx:=bq X.prog X.w) (l:=a) (items:=its.toArray) (ps:=ps) (fun args=>?_) (I.ok.hd hc) ⟨_,g1,rfl,n,rfl⟩ (fun o ho=>?_) (by simp[l1]) (fun j x p hx hp'=>?_) (yJ (by omega) (show 1000≤sizeLine by decide)) fun h' t' hD hK=>?_
 ·have:=hr.un
  show X.A.units+2<cLine
  omega
 ·rw[g1] at ho
  cases ho
  rfl
 ·have hx':its[j]? = some x:=by simpa using hx
  obtain⟨p2,e2,q2⟩:=Paired.get' pa hx'
  rw[hp'] at e2
  cases e2
  exact q2
 ·obtain⟨o',es,ep,k1,k2,k3,k4,_,k6⟩:=hD
  have kt2:=nc kt (acc:=[]) (xs:=[]) .nil
  refine⟨.ref s.heap.objs.size,_,I.laid (a:=s.heap.objs.size) (o:=.dT (kvs.foldl (fun acc kv=>bR acc kv.1 kv.2) [])) (t':=t') (fun b q hq=>hK b q hq) (yi _) ?_,rfl,q _ (I.hok.fresh (yi _))⟩
  refine⟨?_,beq_eq_false_iff_ne.mpr (yva (yE I.big)),_,KT.keeps kt2 (fun b ys eb=>by rw[av (aG eb (I.hok.fresh (yi _)))];exact eb),o',es,ep,k1,k2,k3,k4,k6⟩
  have fl:∀(l acc:List (List Key×V)),(l.foldl (fun acc kv=>bR acc kv.1 kv.2) acc).length≤acc.length+l.length:=fun l=>by
   induction l with
   | nil=>intro acc;exact yi _
   | cons x xs ih =>
    intro acc
    have:=ih (bR acc x.1 x.2)
    have:=cw acc x.1 x.2
    rw[yQ,yp]
    omega
  have:=fl kvs []
  exact yJ this (yJ (by simpa using hl) (show 1000≤sizeLine by decide))
end
end L2
namespace PySem
open Sem (wp)
section
variable{prog:Program}{w:World}{K:Type}[DecidableEq K]{knd:HeapKind prog w K}{A:Around}{E:Value→Shared→Prop}{s:Shared}
end
end PySem
namespace L2
open PySem PySem.Spec PyProof.Rows
section
variable{X:Cx}
noncomputable def De:R2:=fun x y H Q=>∃a b kvs,x=.ref a∧y=.ref b∧H a=some (.dT kvs)∧H b=some (.dT kvs)∧(∀kv∈kvs,∃i,kv.2=.int i)∧Q (.bl true) H
noncomputable def CM:R2:=fun x y H Q=>∃a b kvs,x=.ref a∧y=.ref b∧H a=some (.dT kvs)∧H b=some (.dT kvs)∧(∀kv∈kvs,∃i,kv.2=.int i)∧Q (.bl false) H
end
end L2
namespace My
open PySem L2
noncomputable def apart(f:Nat→Nat):Nat→Nat→Bool
 | 0,_=>true
 | k+1,m=>!(m.testBit (f k))&&apart f k (m ||| (1 <<< f k))
theorem ji{f:Nat→Nat}:∀{k m:Nat},apart f k m=true→(∀i,i<k→m.testBit (f i)=false)∧∀i j,i<k→j<k→f i=f j→i=j
 | 0,_,_=>⟨fun _ h=>absurd h (Nat.not_lt_zero _),fun _ _ h=>absurd h (Nat.not_lt_zero _)⟩
 | k+1,m,h=>by
  unfold apart at h
  rw[yK,yTa] at h
  obtain⟨h1,h2⟩:=ji h.2
  have up:∀i,i<k→m.testBit (f i)=false∧f i≠f k:=fun i hi=>by
   have z:=h1 i hi
   rw[Nat.testBit_or,Bool.or_eq_false_iff] at z
   refine⟨z.1,fun e=>?_⟩
   rw[e,Nat.shiftLeft_eq,Nat.one_mul,ywb] at z
   exact absurd z.2 (by decide)
  refine⟨fun i hi=>?_,fun i j hi hj e=>?_⟩
  ·rcases Nat.lt_succ_iff_lt_or_eq.mp hi with z | z
   ·exact(up i z).1
   ·rw[z];exact h.1
  ·rcases Nat.lt_succ_iff_lt_or_eq.mp hi with zi | zi
   ·rcases Nat.lt_succ_iff_lt_or_eq.mp hj with zj | zj
    ·exact h2 i j zi zj e
    ·exact absurd (zj ▸ e) (up i zi).2
   ·rcases Nat.lt_succ_iff_lt_or_eq.mp hj with zj | zj
    ·exact absurd (zi ▸ e.symm) (up j zj).2
    ·rw[zi,zj]
noncomputable def f2(i:Nat):Nat:=(kI [((i / 31:Nat):Int),((i % 31:Nat):Int)] % 18446744073709551616).toNat % 1518
theorem qa:apart f2 248 0=true:=by decide +kernel
theorem sj{a b a' b':Nat}(ha:a<8)(hb:b<31)(ha':a'<8)(hb':b'<31)(e:kI [(a:Int),(b:Int)]=kI [(a':Int),(b':Int)]):a=a'∧b=b':=by
 have h:=(ji qa).2 (a*31+b) (a'*31+b') (by omega) (by omega) (by
  unfold f2
  rw[show(a*31+b) / 31=a by omega,show(a*31+b) % 31=b by omega,show(a'*31+b') / 31=a' by omega,show(a'*31+b') % 31=b' by omega,e])
 omega
end My
namespace L2
open PySem PySem.Spec PyProof.Rows
section
variable{prog:Program}{w:World}{A:Around}
end
section
variable{X:Cx}
noncomputable def KyV(H:Hp)(v:V)(kv:List Key×V):Prop:=∃b,v=.ref b∧H b=some (.tup (kv.1.map kV))
noncomputable def y9:List V→Hp→VK→Prop:=fun xs H Q=>∃a kvs,xs=[.ref a]∧H a=some (.dT kvs)∧∀l us,H l=none→Paired (KyV H) us kvs→Q (.ref l) (upd H l (.lst us))
theorem o3(hc:X.calm=true):b6 X (.builtin "max") (fun xs H Q=>∃(p:Addr) (ns:List Int),xs=[.ref p]∧SqL X.K H p (ns.map V.int)∧0<ns.length∧∀M,M∈ns→(∀a∈ns,a≤M)→Q (.int M) H):=by
 intro pins s σ H xs us Q I r h
 obtain⟨p,ns,rfl,hp,hne,q⟩:=h
 obtain⟨u,rfl,ru⟩:=dY r
 cases ru
 obtain⟨its,ri,pl,hz⟩:=I.list hp
 have hi:=mT ri
 obtain⟨ys,e⟩:=hi.allInts.items
 have hns:ns=ys.toList.map (·.1):=by
  rw[← hi.numsOf,← nums_intItems,← e]
 have hsz:0<ys.size:=by
  have h3:=hne;rw[hns,ya,yka] at h3;exact h3
 have hl:=pl.isList
 rw[e] at hl
 refine max_intList (I.ok.hd hc) hl hsz fun v h' tk hv hk=>?_
 obtain⟨t,rfl⟩:=intItems_at hv
 obtain⟨h1,h2⟩:=argBest_gt (numAt ys) (ys.size-1)
 refine⟨.int _,H,I.kept hk,⟨_,rfl⟩,q _ ?_ fun a ha=>?_⟩
 ·rw[hns,numAt_eq];exact getD_mem (by rw[ya,yka];omega)
 ·rw[hns] at ha
  obtain⟨j,hj,rfl⟩:=mem_getD ha
  rw[ya,yka] at hj
  rw[← numAt_eq];exact h2 j (by lia)
end
end L2
namespace My
open PySem L2
noncomputable def k2(h d:Int):List Key:=[Sum.inl h,Sum.inl d]
noncomputable def nO(kvs:List (List Key×V))(h d p:Int):Int:=iv (bv kvs (kk h d p))
structure b9(n D P:Nat)(kvs:List (List Key×V)):Prop where
 ky:iH kvs
 ai:db kvs
 inb:∀kv∈kvs,∃h d p:Nat,kv.1=kk h d p∧h<n∧d<D∧p<P
theorem b9.nil{n D P:Nat}:b9 n D P []:=⟨yta,ie,fun _ h=>by cases h⟩
theorem ii{k:List Key}{v:V}{kvs:List (List Key×V)}{kv:List Key×V}(h:kv∈bR kvs k v):kv.1=k∨∃kv'∈kvs,kv'.1=kv.1:=by
 unfold bR at h
 split at h
 ·obtain⟨x,hx,rfl⟩:=List.mem_map.mp h
  by_cases z:x.1=k
  ·rw[if_pos z];exact .inl z
  ·rw[if_neg z];exact .inr ⟨x,hx,rfl⟩
 ·rcases List.mem_append.mp h with h | h
  ·exact .inr ⟨kv,h,rfl⟩
  ·rw[List.mem_singleton.mp h];exact .inl rfl
theorem b9.put{n D P:Nat}{kvs:List (List Key×V)}(o:b9 n D P kvs){h d p:Nat}(hh:h<n)(hd:d<D)(hp:p<P)(i:Int):b9 n D P (bR kvs (kk h d p) (.int i)) :=
 ⟨hJ o.ky _ _,iL o.ai _ _,fun kv m=>by
  rcases ii m with e | ⟨kv',h1,h2⟩
  ·exact⟨h,d,p,e,hh,hd,hp⟩
  ·obtain⟨a,b,c,e,r⟩:=o.inb kv' h1
   exact⟨a,b,c,h2 ▸ e,r⟩⟩
structure cO(n D P:Nat)(pns:List (List Key×V)):Prop where
 ky:iH pns
 ai:db pns
 inb:∀kv∈pns,∃h d:Nat,kv.1=k2 h d∧h<n∧d<D
theorem cO.nil{n D P:Nat}:cO n D P []:=⟨yta,ie,fun _ h=>by cases h⟩
theorem cO.put{n D P:Nat}{kvs:List (List Key×V)}(o:cO n D P kvs){h d:Nat}(hh:h<n)(hd:d<D)(i:Int):cO n D P (bR kvs (k2 h d) (.int i)) :=
 ⟨hJ o.ky _ _,iL o.ai _ _,fun kv m=>by
  rcases ii m with e | ⟨kv',h1,h2⟩
  ·exact⟨h,d,e,hh,hd⟩
  ·obtain⟨a,b,e,r⟩:=o.inb kv' h1
   exact⟨a,b,h2 ▸ e,r⟩⟩
theorem fm{α β:Type _}{f:α→β}:∀{l:List α} {γ:Type} {g:α→γ},(l.map g).Nodup→(∀a∈l,∀b∈l,f a=f b→g a=g b)→(l.map f).Nodup
 | [],_,_,_,_=>yta
 | a::l,_,g,h,j=>by
  rw[ym,yW] at h ⊢
  refine⟨fun z=>?_,fm h.2 fun x hx y hy=>j x (yj _ hx) y (yj _ hy)⟩
  obtain⟨b,hb,e⟩:=List.mem_map.mp z
  exact h.1 (List.mem_map.mpr ⟨b,hb,j b (yj _ hb) a (yq ..) e⟩)
theorem cO.hash{n D P:Nat}{kvs:List (List Key×V)}(o:cO n D P kvs)(hn:n≤8)(hD:D≤31)(pr:Program)(w:World):(kvs.map fun kv=>tupleKeyHash (bq pr w) kv.1).Nodup:=by
 refine fm (g:=fun kv=>kv.1) o.ky fun a ha b hb e=>?_
 obtain⟨h,d,e1,a1,a2⟩:=o.inb a ha
 obtain⟨h',d',e2,b1,b2⟩:=o.inb b hb
 have f1:=m9 pr w [(h:Int),(d:Int)]
 have f2:=m9 pr w [(h':Int),(d':Int)]
 rw[e1,e2] at e
 obtain⟨rfl,rfl⟩:=sj (by omega) (by omega) (by omega) (by omega) (f1.symm.trans (e.trans f2))
 rw[e1,e2]
theorem gW{kvs:List (List Key×V)}(ky:iH kvs)(ai:db kvs):∀kv∈kvs,∃i,kv.2=.int i:=fun kv m=>by
 obtain⟨j,hj,e⟩:=yKb m
 exact ai kv.1 kv.2 (wX ky (i:=j) (by rw[yb hj,e]))
theorem lA{α:Type _}(f:α→Int){a b:List α}(h:a.Perm b):(a.map f).sum=(b.map f).sum:=by
 induction h with
 | nil=>rfl
 | cons x _ ih=>rw[ym,ym,yy,yy,ih]
 | swap x y l=>simp only[ym,yy];omega
 | trans _ _ i1 i2=>exact i1.trans i2
theorem fJ{α:Type _}(f:α→Int):∀{l:List α},(∀x∈l,f x=0)→(l.map f).sum=0
 | [],_=>rfl
 | x::l,h=>by rw[ym,yy,h x (yq ..),fJ f fun y hy=>h y (yj _ hy)];rfl
theorem nn{α:Type _}[DecidableEq α](f:α→Int):∀{s L:List α},s.Nodup→L.Nodup→(∀x∈s,x∈L)→(∀x∈L,x∉s→f x=0)→(s.map f).sum=(L.map f).sum
 | [],L,_,_,_,h=>(fJ f fun x hx=>h x hx (by simp)).symm
 | x::s,L,hs,hL,hi,h=>by
  rw[yW] at hs
  have hx:=hi x (yq ..)
  rw[lA f (yGb hx),ym,ym,yy,yy]
  refine congrArg (f x + ·) (nn f hs.2 (hL.erase x) (fun y hy=>?_) fun y hy hn=>?_)
  ·have:y≠x:=fun z=>hs.1 (z ▸ hy)
   exact(List.mem_erase_of_ne this).mpr (hi y (yj _ hy))
  ·have hyL:=List.mem_of_mem_erase hy
   refine h y hyL fun z=>?_
   rcases List.mem_cons.mp z with rfl | z
   ·exact(hL.not_mem_erase hy).elim
   ·exact hn z
theorem lX{α:Type _}{f g:α→Int}:∀{l:List α},(∀x∈l,f x≤g x)→(l.map f).sum≤(l.map g).sum
 | [],_=>yBa _
 | x::l,h=>by
  have h1:=h x (yq ..)
  have h2:=lX (l:=l) fun y hy=>h y (yj _ hy)
  simp only[ym,yy]
  omega
theorem jg{α:Type _}{f g:α→Int}{l:List α}(h:∀x∈l,f x=g x):(l.map f).sum=(l.map g).sum:=by
 rw[yCa h]
noncomputable def cls(n D:Nat):List (Nat×Nat):=(List.range n).flatMap fun h=>(List.range D).map fun d=>(h,d)
theorem eG{n D:Nat}{c:Nat×Nat}:c∈cls n D↔c.1<n∧c.2<D:=by
 unfold cls
 rw[yua]
 constructor
 ·rintro⟨h,h1,h2⟩
  obtain⟨d,h3,rfl⟩:=List.mem_map.mp h2
  exact⟨yu.mp h1,yu.mp h3⟩
 ·intro h
  exact⟨c.1,yu.mpr h.1,List.mem_map.mpr ⟨c.2,yu.mpr h.2,rfl⟩⟩
theorem fT:∀{n D:Nat},(cls n D).Nodup
 | 0,D=>yta
 | n+1,D=>by
  have e:cls (n+1) D=cls n D++(List.range D).map fun d=>(n,d):=by
   unfold cls
   rw[yN,yOa]
   simp
  rw[e,ymb]
  refine⟨fT,?_,fun a ha b hb z=>?_⟩
  ·refine fm (g:=fun x=>x) (by simpa using yYa) fun a _ b _ z=>?_
   exact(Prod.mk.inj z).2
  ·subst z
   obtain⟨d,_,rfl⟩:=List.mem_map.mp hb
   have:=(eG.mp ha).1
   omega
noncomputable def ka(k:List Key)(i:Nat):Int:=match k[i]? with | some (.inl z)=>z | _=>0
theorem fk{a b c a' b' c':Int}(h:kk a b c=kk a' b' c'):a=a'∧b=b'∧c=c':=by
 unfold kk at h
 simp only[List.cons.injEq,Sum.inl.injEq,and_true] at h
 exact h
noncomputable def mxL:List Int→Int
 | []=>0
 | x::xs=>xs.foldl max x
theorem dC:∀(xs:List Int) (x:Int),x≤xs.foldl max x∧∀y∈xs,y≤xs.foldl max x
 | [],x=>⟨yBa _,fun _ h=>by cases h⟩
 | a::xs,x=>by
  obtain⟨h1,h2⟩:=dC xs (max x a)
  refine⟨Int.le_trans (Int.le_max_left ..) h1,fun y hy=>?_⟩
  rcases List.mem_cons.mp hy with rfl | hy
  ·exact Int.le_trans (Int.le_max_right ..) h1
  ·exact h2 y hy
theorem eR:∀(xs:List Int) (x:Int),xs.foldl max x=x∨xs.foldl max x∈xs
 | [],x=>.inl rfl
 | a::xs,x=>by
  have e:(a::xs).foldl max x=xs.foldl max (max x a):=rfl
  rw[e]
  rcases eR xs (max x a) with h | h
  ·rw[h]
   by_cases z:a≤x
   ·exact .inl (Int.max_eq_left z)
   ·rw[Int.max_eq_right (by omega)];exact .inr (yq ..)
  ·exact .inr (yj _ h)
theorem pJ{ns:List Int}{M:Int}(h:M∈ns)(g:∀a∈ns,a≤M):M=mxL ns:=by
 cases ns with
 | nil=>cases h
 | cons x xs =>
  obtain⟨h1,h2⟩:=dC xs x
  have a:M≤xs.foldl max x:=by
   rcases List.mem_cons.mp h with rfl | h
   ·exact h1
   ·exact h2 M h
  have b:xs.foldl max x≤M:=by
   rcases eR xs x with e | e
   ·rw[e];exact g x (yq ..)
   ·exact g _ (yj _ e)
  exact Int.le_antisymm a b
theorem w8{ns:List Int}{a:Int}(h:a∈ns):a≤mxL ns:=by
 cases ns with
 | nil=>cases h
 | cons x xs =>
  obtain⟨h1,h2⟩:=dC xs x
  rcases List.mem_cons.mp h with rfl | h
  ·exact h1
  ·exact h2 a h
noncomputable def kJ(pns:List (List Key×V))(own:List Int)(h d:Int):List Int:=match bv pns (k2 h d) with | some v=>[iv (some v)] | none=>own
noncomputable def mxC(pns kvs:List (List Key×V))(own:Nat→List Int)(h d:Nat):Int:=mxL ((kJ pns (own h) h d).map fun p=>nO kvs h d p)
noncomputable def fg(pns kvs:List (List Key×V))(own:Nat→List Int)(n D:Nat):Int:=((cls n D).map fun c=>mxC pns kvs own c.1 c.2).sum
noncomputable def prK(kv:List Key×V):List Key×V:=(k2 (ka kv.1 0) (ka kv.1 1),.bl true)
noncomputable def prD(kvs:List (List Key×V)):List (List Key×V):=(kvs.map prK).foldl (fun acc kv=>bR acc kv.1 kv.2) []
theorem jr:∀{xs acc:List (List Key×V)},iH acc→iH (xs.foldl (fun acc kv=>bR acc kv.1 kv.2) acc)
 | [],_,h=>h
 | x::xs,_,h=>jr (xs:=xs) (hJ h _ _)
theorem kM:∀{xs acc:List (List Key×V)} {kv:List Key×V},kv∈xs.foldl (fun acc kv=>bR acc kv.1 kv.2) acc→(∃x∈xs,x.1=kv.1)∨∃x∈acc,x.1=kv.1
 | [],_,kv,h=>.inr ⟨kv,h,rfl⟩
 | x::xs,acc,kv,h=>by
  rcases kM (xs:=xs) h with ⟨y,h1,h2⟩ | ⟨y,h1,h2⟩
  ·exact .inl ⟨y,yj _ h1,h2⟩
  ·rcases ii h1 with e | ⟨z,h3,h4⟩
   ·exact .inl ⟨x,yq ..,e.symm.trans h2⟩
   ·exact .inr ⟨z,h3,h4.trans h2⟩
theorem lM:∀{xs acc:List (List Key×V)} {k:List Key},((∃x∈xs,x.1=k)∨(bv acc k).isSome)→(bv (xs.foldl (fun acc kv=>bR acc kv.1 kv.2) acc) k).isSome
 | [],_,k,h=>by
  rcases h with ⟨x,h,_⟩ | h
  ·cases h
  ·exact h
 | x::xs,acc,k,h=>by
  refine lM (xs:=xs) ?_
  by_cases z:k=x.1
  ·right
   show(bv (bR acc x.1 x.2) k).isSome=true
   rw[fM,if_pos z]
   rfl
  ·rcases h with ⟨y,h1,h2⟩ | h
   ·rcases List.mem_cons.mp h1 with rfl | h1
    ·exact(z h2.symm).elim
    ·exact .inl ⟨y,h1,h2⟩
   ·right
    show(bv (bR acc x.1 x.2) k).isSome=true
    rw[fM,if_neg z]
    exact h
theorem nr{kvs:List (List Key×V)}{k:List Key}{v:V}(h:bv kvs k=some v):(k,v)∈kvs:=by
 induction kvs with
 | nil=>cases h
 | cons p r ih =>
  by_cases z:p.1=k
  ·rw[bP z] at h
   cases h
   rw[← z]
   exact yq ..
  ·rw[bQ z] at h
   exact yj _ (ih h)
theorem r8(kvs:List (List Key×V)):(prD kvs).length≤kvs.length:=by
 have:∀(xs acc:List (List Key×V)),(xs.foldl (fun acc kv=>bR acc kv.1 kv.2) acc).length≤acc.length+xs.length:=by
  intro xs
  induction xs with
  | nil=>intro acc;exact yi _
  | cons x xs ih =>
   intro acc
   have h1:=ih (bR acc x.1 x.2)
   have h2:=cw acc x.1 x.2
   rw[yQ,yp]
   omega
 have h:=this (kvs.map prK) []
 rw[ya] at h
 unfold prD
 simp only[yea] at h
 omega
theorem ku{n D P:Nat}{kvs:List (List Key×V)}(o:b9 n D P kvs):∀kv∈prD kvs,∃h d:Nat,kv.1=k2 h d∧h<n∧d<D:=fun kv m=>by
 rcases kM m with ⟨x,h1,h2⟩ | ⟨x,h1,_⟩
 ·obtain⟨y,hy,rfl⟩:=List.mem_map.mp h1
  obtain⟨h,d,p,e,b1,b2,_⟩:=o.inb y hy
  refine⟨h,d,?_,b1,b2⟩
  rw[← h2]
  unfold prK
  rw[e]
  rfl
 ·cases h1
noncomputable def gs(pns kvs:List (List Key×V))(own:Nat→List Int)(ks:List (List Key×V)):Int:=(ks.map fun kv=>mxC pns kvs own (ka kv.1 0).toNat (ka kv.1 1).toNat).sum
theorem rk{pns kvs:List (List Key×V)}{own:Nat→List Int}{h d:Nat}(hw:0<(own h).length)(z:∀p:Int,nO kvs h d p=0):mxC pns kvs own h d=0:=by
 unfold mxC
 have hv:0<(kJ pns (own h) h d).length:=by
  unfold kJ
  split
  ·exact Nat.zero_lt_one
  ·exact hw
 refine(pJ ?_ fun a ha=>?_).symm
 ·obtain⟨x,hx⟩:=List.exists_mem_of_length_pos hv
  exact List.mem_map.mpr ⟨x,hx,z x⟩
 ·obtain⟨p,_,rfl⟩:=List.mem_map.mp ha
  rw[z]
  exact yBa _
theorem pB{pns kvs:List (List Key×V)}{own:Nat→List Int}{n D P:Nat}(o:b9 n D P kvs)(hw:∀h,h<n→0<(own h).length):gs pns kvs own (prD kvs)=fg pns kvs own n D:=by
 have hk:iH (prD kvs):=jr yta
 have e1:gs pns kvs own (prD kvs)=(((prD kvs).map fun kv=>((ka kv.1 0).toNat,(ka kv.1 1).toNat)).map fun c=>mxC pns kvs own c.1 c.2).sum:=by
  unfold gs
  rw[yqa]
  rfl
 rw[e1]
 refine nn (α:=Nat×Nat) (fun c=>mxC pns kvs own c.1 c.2) ?_ fT (fun c hc=>?_) fun c hc hn=>?_
 ·refine fm (g:=fun kv=>kv.1) hk fun a ha b hb e=>?_
  obtain⟨h,d,e1,_,_⟩:=ku o a ha
  obtain⟨h',d',e2,_,_⟩:=ku o b hb
  rw[e1,e2] at e
  obtain⟨z1,z2⟩:=Prod.mk.inj e
  have z1:((h:Int)).toNat=((h':Int)).toNat:=z1
  have z2:((d:Int)).toNat=((d':Int)).toNat:=z2
  rw[e1,e2,show h=h' by omega,show d=d' by omega]
 ·obtain⟨kv,m,rfl⟩:=List.mem_map.mp hc
  obtain⟨h,d,e,b1,b2⟩:=ku o kv m
  rw[e]
  exact eG.mpr ⟨by show((h:Int)).toNat<n;omega,by show((d:Int)).toNat<D;omega⟩
 ·obtain⟨b1,b2⟩:=eG.mp hc
  refine rk (hw _ b1) fun p=>?_
  unfold nO
  cases e:bv kvs (kk c.1 c.2 p) with
  | none=>rfl
  | some v =>
   exfalso
   have m:=nr e
   have h1:=lM (xs:=kvs.map prK) (acc:=[]) (k:=k2 c.1 c.2) (.inl ⟨prK (kk c.1 c.2 p,v),List.mem_map.mpr ⟨_,m,rfl⟩,rfl⟩)
   obtain⟨x,hx⟩:=Option.isSome_iff_exists.mp h1
   refine hn (List.mem_map.mpr ⟨_,nr hx,?_⟩)
   refine Prod.ext ?_ ?_
   ·show((c.1:Int)).toNat=c.1;omega
   ·show((c.2:Int)).toNat=c.2;omega
noncomputable def pAt(k:List Key)(qs:List Prt):Int:=(qs.map fun q=>if kk q.h q.d q.p=k then q.n else 0).sum
theorem sd(t:Int)(kvs:List (List Key×V))(q:Prt)(k:List Key):iv (bv (cT t kvs q) k)=iv (bv kvs k)+(if kk q.h q.d q.p=k then q.n else 0)*t:=by
 unfold cT
 rw[fM]
 by_cases z:k=kk q.h q.d q.p
 ·rw[if_pos z,if_pos z.symm,z]
  rfl
 ·rw[if_neg z,if_neg (fun y=>z y.symm)]
  omega
theorem lc(t:Int)(k:List Key):∀(qs:List Prt) (kvs:List (List Key×V)),iv (bv (qs.foldl (cT t) kvs) k)=iv (bv kvs k)+pAt k qs*t
 | [],kvs=>by show iv (bv kvs k)=iv (bv kvs k)+0*t;omega
 | q::qs,kvs=>by
  have h:=lc t k qs (cT t kvs q)
  rw[sd] at h
  rw[yQ,h]
  unfold pAt
  rw[ym,yy,Int.add_mul]
  omega
theorem iM(k:List Key):∀(ls:List (Lin×Int)) (kvs:List (List Key×V)),iv (bv (ls.foldl jX kvs) k)=iv (bv kvs k)+(ls.map fun l=>pAt k l.1.ps*l.2).sum
 | [],kvs=>by show iv (bv kvs k)=iv (bv kvs k)+0;omega
 | l::ls,kvs=>by
  rw[yQ,iM k ls]
  show iv (bv (l.1.ps.foldl (cT l.2) kvs) k)+_=_
  rw[lc,ym,yy]
  omega
theorem b9.parts{n D P:Nat}{t:Int}:∀{qs:List Prt} {kvs:List (List Key×V)},b9 n D P kvs→(∀q∈qs,∃h d p:Nat,kk q.h q.d q.p=kk h d p∧h<n∧d<D∧p<P)→b9 n D P (qs.foldl (cT t) kvs)
 | [],_,o,_=>o
 | q::qs,kvs,o,h=>by
  obtain⟨a,b,c,e,b1,b2,b3⟩:=h q (yq ..)
  refine b9.parts (qs:=qs) ?_ fun x hx=>h x (yj _ hx)
  unfold cT
  rw[e]
  exact o.put b1 b2 b3 _
theorem b9.lines{n D P:Nat}:∀{ls:List (Lin×Int)} {kvs:List (List Key×V)},b9 n D P kvs→(∀l∈ls,∀q∈l.1.ps,∃h d p:Nat,kk q.h q.d q.p=kk h d p∧h<n∧d<D∧p<P)→b9 n D P (ls.foldl jX kvs)
 | [],_,o,_=>o
 | l::ls,kvs,o,h=>b9.lines (ls:=ls) (b9.parts o (h l (yq ..))) fun x hx=>h x (yj _ hx)
theorem nS(k:List Key)(a b:List Prt):pAt k (a++b)=pAt k a+pAt k b:=by
 unfold pAt
 rw[yg,yda]
end My
namespace My
open PySem L2
structure iD(H:Hp)(L:Addr)(f:Nat→List Int→Prop)(i:Nat)(H':Hp):Prop where
 ex:∃(us:List V) (rows:List (List Int)),rows.length=i∧aA H H'∧H' L=some (.lst us)∧Rows H' us rows∧(∀j row,rows[j]? = some row→f j row)∧∀t,V.ref t∈us→t≠L
theorem iD.start{H:Hp}{L:Addr}{f:Nat→List Int→Prop}(hL:H L=none):iD H L f 0 (upd H L (.lst [])) :=
 ⟨[],[],rfl,ah hL _,af,.nil,(fun j r z=>by simp at z),fun t z=>by cases z⟩
theorem iD.same{H H':Hp}{L:Addr}{f:Nat→List Int→Prop}{i:Nat}(h:iD H L f i H'):aA H H':=by
 obtain⟨_,_,_,g,_⟩:=h.ex
 exact g
theorem iD.step{H H' H2:Hp}{L l:Addr}{f:Nat→List Int→Prop}{i:Nat}{row:List Int}(h:iD H L f i H')(hL:H L=none)(hi:i≤900)(g2:aA H' H2)(hl:H' l=none)(hl2:H2 l=some (.lst (row.map V.int)))(hp:f i row) :
  ∃xs,H2 L=some (.lst xs)∧xs.length<sizeLine∧iD H L f (i+1) (upd H2 L (.lst (xs++[.ref l]))):=by
 obtain⟨us,rows,hr,g,e,hR,hP,fr⟩:=h.ex
 have hul:=hR.len
 have ne:L≠l:=aG e hl
 refine⟨us,g2 _ _ e,aE (by lia),us++[.ref l],rows++[row],by rw[yd,hr];rfl,aI hL (g.trans g2) _,af,?_,fun j r hr'=>?_,fun t ht=>?_⟩
 ·refine Rows.off (Rows.snoc (hR.mono g2) ⟨l,rfl,hl2⟩) fun z=>?_
  rcases List.mem_append.mp z with z | z
  ·exact fr L z rfl
  ·exact ne (V.ref.inj (List.mem_singleton.mp z))
 ·by_cases z:j<rows.length
  ·rw[yZ z] at hr'
   exact hP j r hr'
  ·rw[yM (by omega)] at hr'
   have hj:j-rows.length<[row].length:=(List.getElem?_eq_some_iff.mp hr').1
   rw[yx] at hj
   rw[show j-rows.length=0 by omega] at hr'
   cases hr'
   rw[show j=i by omega]
   exact hp
 ·rcases List.mem_append.mp ht with z | z
  ·exact fr t z
  ·rw[V.ref.inj (List.mem_singleton.mp z)]
   exact ne.symm
theorem iD.done{H H':Hp}{L:Addr}{f:Nat→List Int→Prop}{i:Nat}(h:iD H L f i H'):∃(us:List V) (rows:List (List Int)),rows.length=i∧aA H H'∧H' L=some (.lst us)∧Rows H' us rows∧∀j row,rows[j]? = some row→f j row:=by
 obtain⟨us,rows,a,b,c,d,e,_⟩:=h.ex
 exact⟨us,rows,a,b,c,d,e⟩
theorem oO{H H':Hp}{d:Addr}{o o':HO}(e:H d=some o)(g:aA (upd H d o') H'):aA H (upd H' d o):=fun b u hb=>by
 by_cases z:b=d
 ·subst z
  rw[af,← hb,e]
 ·rw[av z]
  exact g b u (by rw[av z];exact hb)
theorem nv{H:Hp}{d b:Addr}{o u:HO}{kvs:List (List Key×V)}(e:H d=some (.dT kvs))(hb:H b=some u)(n:∀k,u≠.dT k):upd H d o b=some u:=by
 rw[av]
 ·exact hb
 ·intro z
  rw[z,e] at hb
  exact n _ (yt hb).symm
theorem sW{c:TT}{ta tb:TS}{D:dG}{σ:St}{H:Hp}(h:∀A:TS,A=ta→oH c A tb D σ H):oH c ta tb D σ H:=h ta rfl
theorem mH{pns kvs:List (List Key×V)}{own:Nat→List Int}{ks:List (List Key×V)}{i:Nat}{kv:List Key×V}(h:ks[i]? = some kv):gs pns kvs own (ks.take (i+1))=gs pns kvs own (ks.take i)+mxC pns kvs own (ka kv.1 0).toNat (ka kv.1 1).toNat:=by
 rw[ba h]
 unfold gs
 rw[yg,yda]
 simp
structure PrI(F:Hp)(L:Addr)(kvs:List (List Key×V))(i:Nat)(H':Hp):Prop where
 ex:∃us,aA F H'∧H' L=some (.lst us)∧L2.rn H' us ((kvs.take i).map prK)
theorem PrI.start{F:Hp}{L:Addr}{kvs:List (List Key×V)}(hL:F L=none):PrI F L kvs 0 (upd F L (.lst [])) :=
 ⟨[],ah hL _,af,by rw[ypa];exact .nil⟩
theorem PrI.same{F H':Hp}{L:Addr}{kvs:List (List Key×V)}{i:Nat}(h:PrI F L kvs i H'):aA F H':=by
 obtain⟨_,g,_⟩:=h.ex
 exact g
theorem jf{H H':Hp}(g:fo H H'){us:List V}{kvs:List (List Key×V)}(h:L2.rn H us kvs):L2.rn H' us kvs:=Paired.mapP h fun _ _ ⟨t,b,e,q1,q2⟩=>⟨t,b,e,g _ _ q1,g _ _ q2⟩
theorem PrI.step{F H':Hp}{L b t:Addr}{kvs:List (List Key×V)}{i:Nat}{h d p:Int}{v:V}(I:PrI F L kvs i H')(hL:F L=none)(hk:kvs[i]? = some (kk h d p,v))(hi:i≤900)(hb:H' b=none)(ht:upd H' b (.tup [.int h,.int d]) t=none) :
  ∃xs,upd (upd H' b (.tup [.int h,.int d])) t (.tup [.ref b,.bl true]) L=some (.lst xs)∧xs.length<sizeLine∧PrI F L kvs (i+1) (upd (upd (upd H' b (.tup [.int h,.int d])) t (.tup [.ref b,.bl true])) L (.lst (xs++[.ref t]))):=by
 obtain⟨us,g,e,hP⟩:=I.ex
 have g1:=ah hb (.tup [.int h,.int d])
 have g2:=ah ht (.tup [.ref b,.bl true])
 have hl:=Paired.length hP
 rw[ya,yf] at hl
 have G:=g1.trans g2
 refine⟨us,G _ _ e,aE (by omega),us++[.ref t],aI hL (g.trans G) _,af,?_⟩
 rw[ba hk,yg]
 refine jf (cI (G _ _ e)) ?_
 exact aP (jf (az G) hP) ⟨t,b,rfl,af,g2 _ _ af⟩
end My
namespace My
open PySem L2
theorem Rows.frz{H:Hp}{us:List V}{rows:List (List Int)}{nd:Addr}{kvs:List (List Key×V)}(hR:Rows H us rows)(en:H nd=some (.dT kvs))(o:HO):Rows (upd H nd o) us rows :=
 hR.off fun z=>by
  obtain⟨row,e⟩:=hR.tracked z
  rw[en] at e
  cases e
theorem sA{kvs:List (List Key×V)}(ai:db kvs)(h d p:Int):(bv kvs (kk h d p)).getD (.int 0)=.int (nO kvs h d p):=by
 unfold nO
 exact qI ai _
end My
namespace My
open PySem L2
noncomputable def InR(n D P:Nat)(q:Prt):Prop:=∃h d p:Nat,kk q.h q.d q.p=kk h d p∧h<n∧d<D∧p<P
end My
namespace My
open PySem L2
end My
namespace My
open PySem L2
end My
namespace My
open PySem L2
end My
namespace My
open PySem L2
end My
namespace My
open PySem L2
noncomputable def lnAt(sums:List (List Lin))(u:Tri):Option Lin:=if 0≤u.1∧0≤u.2.1 then (sums[u.1.toNat]?).bind fun ls=>ls[u.2.1.toNat]? else none
noncomputable def okU(sums:List (List Lin))(u:Tri):Bool:=(lnAt sums u).isSome&&decide (1≤u.2.2)
noncomputable def iU:Lin:=⟨[],0⟩
noncomputable def usL(sums:List (List Lin))(us:List Tri):List (Lin×Int):=us.map fun u=>((lnAt sums u).getD iU,u.2.2)
noncomputable def i8(sums:List (List Lin))(us:List Tri)(pns:List (List Key×V))(own:Nat→List Int)(n D:Nat):Bool:=us.all (okU sums)&&decide (fg pns (bD (usL sums us)) own n D<eY (usL sums us))
noncomputable def i7(n D P:Nat)(ls:List Lin):Prop:=ls.length≤40∧∀ℓ∈ls,ℓ.ps.length≤100∧∀q∈ℓ.ps,InR n D P q
theorem qC{n D P:Nat}{q:Prt}(h0:0≤q.h)(h1:q.h<(n:Int))(d0:0≤q.d)(d1:q.d<(D:Int))(p0:0≤q.p)(p1:q.p<(P:Int)):InR n D P q :=
 ⟨q.h.toNat,q.d.toNat,q.p.toNat,by rw[show((q.h.toNat:Nat):Int)=q.h by lia,show((q.d.toNat:Nat):Int)=q.d by lia,show((q.p.toNat:Nat):Int)=q.p by lia],by lia,by lia,by lia⟩
theorem lC{n D P:Nat}{ℓ:Lin}(l:ℓ.ps.length≤100)(h:∀q∈ℓ.ps,InR n D P q):i7 n D P [ℓ]:=⟨by simp,fun _ z=>by rw[List.mem_singleton.mp z];exact⟨l,h⟩⟩
theorem nW{h c:Int}{n D P:Nat}{ds ps:List Int}(h0:0≤h)(h1:h<(n:Int))(hd:∀x∈ds,0≤x∧x<(D:Int))(hp:∀x∈ps,0≤x∧x<(P:Int)){q:Prt}(hq:q∈spr h ds ps c):InR n D P q:=by
 obtain⟨z1,z2,z3,_⟩:=nh hq
 have:=hd _ z2
 have:=hp _ z3
 exact qC (by lia) (by lia) (by lia) (by lia) (by lia) (by lia)
theorem pQ{sums:List (List Lin)}{u:Tri}{ℓ:Lin}(h:lnAt sums u=some ℓ):∃ls∈sums,ℓ∈ls:=by
 unfold lnAt at h
 split at h
 ·cases e:sums[u.1.toNat]? with
  | none=>rw[e] at h;cases h
  | some ls =>
   rw[e] at h
   exact⟨ls,yk e,yk (show ls[u.2.1.toNat]? = some ℓ from h)⟩
 ·cases h
theorem x8{n D P:Nat}{sums:List (List Lin)}(h:∀ls∈sums,i7 n D P ls)(us:List Tri):b9 n D P (bD (usL sums us)):=by
 refine b9.lines b9.nil fun l hl q hq=>?_
 obtain⟨u,_,rfl⟩:=List.mem_map.mp hl
 cases e:lnAt sums u with
 | none =>
  have hq':q∈((lnAt sums u).getD iU).ps:=hq
  rw[e] at hq'
  cases hq'
 | some ℓ =>
  have hq':q∈((lnAt sums u).getD iU).ps:=hq
  rw[e] at hq'
  obtain⟨ls,h1,h2⟩:=pQ e
  exact((h ls h1).2 ℓ h2).2 q hq'
theorem jE{sums:List (List Lin)}(h:∀ls∈sums,∀ℓ∈ls,ℓ.ps.length≤100):∀us:List Tri,bL (usL sums us)≤us.length*100
 | []=>yH _
 | u::us=>by
  have ih:=jE h us
  have e:bL (usL sums (u::us))=((lnAt sums u).getD iU).ps.length+bL (usL sums us):=by
   unfold bL usL
   rw[ym,ym,yy]
  have h1:((lnAt sums u).getD iU).ps.length≤100:=by
   cases e:lnAt sums u with
   | none=>exact yH _
   | some ℓ =>
    obtain⟨ls,h1,h2⟩:=pQ e
    exact h ls h1 ℓ h2
  rw[e,yp,ytb]
  lia
end My
namespace My
open PySem L2
noncomputable def jT(us:List Tri):Prop:=us.length≤9∧∀u∈us,-(2 ^ 40)<u.2.2∧u.2.2<2 ^ 40
theorem si{sums:List (List Lin)}{us:List Tri}(h:jT us):∀l∈usL sums us,-(2 ^ 40)<l.2∧l.2<2 ^ 40:=fun l hl=>by
 obtain⟨u,hu,rfl⟩:=List.mem_map.mp hl
 exact h.2 u hu
theorem Paired.at{α β:Type}{F:α→β→Prop}:∀{xs:List α} {ys:List β} {i:Nat} {y:β},Paired F xs ys→ys[i]? = some y→∃x,xs[i]? = some x∧F x y
 | _,_,_,_,.nil,h=>by simp at h
 | _,_,0,_,.cons a _,h=>⟨_,rfl,by cases h;exact a⟩
 | _,_,i+1,_,.cons _ r,h=>by
  obtain⟨x,e,f⟩:=Paired.at r (i:=i) (by simpa using h)
  exact⟨x,by simpa using e,f⟩
theorem lb{sums:List (List Lin)}{r l t:Int}{ls:List Lin}(r0:0≤r)(hr:sums[r.toNat]? = some ls)(l0:0≤l):lnAt sums (r,l,t)=ls[l.toNat]?:=by
 unfold lnAt
 rw[if_pos ⟨r0,l0⟩]
 show(sums[r.toNat]?).bind _=_
 rw[hr]
 rfl
theorem uE{sums:List (List Lin)}{r l t:Int}(h:¬(0≤r∧0≤l)):lnAt sums (r,l,t)=none:=by
 unfold lnAt
 rw[if_neg h]
theorem pT{sums:List (List Lin)}{r l t:Int}(h:(sums.length:Int)≤r):lnAt sums (r,l,t)=none:=by
 unfold lnAt
 split
 ·show(sums[r.toNat]?).bind _=_
  rw[yC (by lia)]
  rfl
 ·rfl
theorem t8{sums:List (List Lin)}{u:Tri}(h:okU sums u=true):0≤u.1∧u.1<sums.length∧0≤u.2.1∧1≤u.2.2∧∃ls ℓ,sums[u.1.toNat]? = some ls∧ls[u.2.1.toNat]? = some ℓ∧lnAt sums u=some ℓ:=by
 unfold okU at h
 rw[yK,decide_eq_true_eq] at h
 obtain⟨h,h1⟩:=h
 obtain⟨ℓ,e⟩:=Option.isSome_iff_exists.mp h
 have e':=e
 unfold lnAt at e
 split at e
 ·rename_i z
  cases er:sums[u.1.toNat]? with
  | none=>rw[er] at e;cases e
  | some ls =>
   rw[er] at e
   have hl:=(List.getElem?_eq_some_iff.mp er).1
   exact⟨z.1,by lia,z.2,h1,ls,ℓ,rfl,e,e'⟩
 ·cases e
structure PaG(H:Hp)(L:Addr)(ls:List (Lin×Int))(i:Nat)(H':Hp):Prop where
 ex:∃us:List V,aA H H'∧H' L=some (.lst us)∧Prs H' us (ls.take i)
theorem PaG.start{H:Hp}{L:Addr}{ls:List (Lin×Int)}(hL:H L=none):PaG H L ls 0 (upd H L (.lst [])):=⟨[],ah hL _,af,by rw[ypa];exact .nil⟩
theorem PaG.same{H H':Hp}{L:Addr}{ls:List (Lin×Int)}{i:Nat}(h:PaG H L ls i H'):aA H H':=by
 obtain⟨_,g,_⟩:=h.ex
 exact g
theorem PaG.step{H H':Hp}{L t u:Addr}{ls:List (Lin×Int)}{i:Nat}{l:Lin×Int}(h:PaG H L ls i H')(hL:H L=none)(hi:i≤900)(hl:ls[i]? = some l)(hv:kP H' (.ref u) l.1)(ht:H' t=none) :
  ∃xs,upd H' t (.tup [.ref u,.int l.2]) L=some (.lst xs)∧xs.length<sizeLine∧PaG H L ls (i+1) (upd (upd H' t (.tup [.ref u,.int l.2])) L (.lst (xs++[.ref t]))):=by
 obtain⟨us,g,e,hP⟩:=h.ex
 have hul:=Paired.length hP
 rw[yf] at hul
 have gt:=ah ht (.tup [.ref u,.int l.2])
 refine⟨us,gt _ _ e,aE (by lia),us++[.ref t],aI hL (g.trans gt) _,af,?_⟩
 rw[ba hl]
 exact Prs.mono (cI (gt _ _ e)) (aP (hP.mono (az gt)) ⟨t,u,rfl,af,hv.mono (az gt)⟩)
end My
namespace My
open PySem L2
end My
namespace L2
open PySem PySem.Spec PyProof.Rows
noncomputable def Ch(K:PySem.W.Frag):R2:=fun x y H Q=>∃b,y=.ref b∧SqL K H b []∧((x=.non∧Q (.bl false) H)∨∃a xs,x=.ref a∧SqL K H a xs∧Q (.bl (decide (xs=[]))) H)
theorem rj{X:Cx}{k:Nat}(hr:b4 k X.A):OpR X (compareOp .Eq) (Ch X.K):=by
 intro pins s σ H x y v u Q I rx ry h
 obtain⟨b,rfl,hb,h⟩:=h
 cases ry
 have hu:=hr.units
 obtain⟨its',ri',pl',_⟩:=I.list hb
 rcases h with ⟨rfl,q⟩ | ⟨a,xs,rfl,ha,q⟩
 ·cases rx
  exact SeqAt.RcAt.none_list pl'.isList (by lia) _ _ _ _ ⟨.bl _,H,I,rfl,q⟩
 ·cases rx
  by_cases z:xs=[]
  ·subst z
   rw[decide_eq_true rfl] at q
   have h1:=(hZ I (n:=0) (A:=X.A) (ds:=[]) (es:=[]) ⟨[],ha,.nil⟩ ⟨[],hb,.nil⟩ (fun _ i d e h=>by simp at h) (by lia)).1
   rw[dP] at h1
   exact h1 _ _ _ _ ⟨.bl _,H,I,rfl,q⟩
  ·rw[decide_eq_false z] at q
   obtain⟨its,ri,pl,_⟩:=I.list ha
   have l1:=ri.length
   have l2:=ri'.length
   have l3:0<xs.length:=List.length_pos_iff.mpr z
   have l4:its'.length=0:=l2.symm
   exact SeqAt.RcAt.lists_lengths pl.isList pl'.isList (by simp only[ye,bne_iff_ne,ne_eq];lia) (by lia) _ _ _ _ ⟨.bl _,H,I,rfl,q⟩
end L2
namespace L2
open PySem PySem.Spec PyProof.Rows
noncomputable def ub(kvs:List (List Key×V)):Prop:=∀kv∈kvs,(∃ns,kv.1=kN ns)∧∃i,kv.2=.int i
noncomputable def B9(H:Hp)(v:V)(kvs:List (List Key×V)):Prop:=∃d,v=.ref d∧H d=some (.dT kvs)∧ub kvs
noncomputable abbrev eZ(H:Hp):List V→List (List (List Key×V))→Prop:=Paired (B9 H)
section
variable{X:Cx}{pins:List (Addr×Obj)}{σ:St}{H:Hp}{s:Shared}
end
end L2
namespace L2
open PySem PySem.Spec PyProof.Rows
noncomputable def Itv(K:PySem.W.Frag)(a:Addr)(n:Nat):It :=
 ⟨fun i H=>∃xs x,SqL K H a xs∧xs.length=n∧i<n∧xs[n-1-i]? = some x,fun i H x H'=>H'=H∧∀xs,SqL K H a xs→xs[n-1-i]? = some x,fun i _=>n≤i⟩
theorem qU{P:Program}{w:World}{K:PySem.W.Frag}{tg:Expr}(a it:Addr)(n:Nat):kY P w K tg (Itv K a n) [it] it (fun i h=>i≤n∧h.IsRevIter it a ((n:Int)-1-(i:Int))) where
 mem:=by simp
 obj:=fun i h st b hb=>by
  have e:b=it:=by simpa using hb
  subst e
  obtain⟨_,o,e,c,d⟩:=st
  exact⟨o,e,fun v z=>by rw[d] at z;cases z⟩
 keep:=fun i h h' st k=>⟨st.1,st.2.at fun o e=>k it (by simp) o e⟩
 item:=by
  intro X hP hw hK hc i pins s σ H E I hf st hg
  subst hP hw hK
  obtain⟨xs,x,hq,hn,hi,hx⟩:=hg
  obtain⟨its,rv,p,hz⟩:=I.list hq
  obtain⟨u,hu,ru⟩:=rv.get hx
  obtain⟨f0,f1,f2,f3,f4,f5⟩:=hf it (by simp)
  have e1:(n:Int)-1-(i:Int)=((n-1-i:Nat):Int):=by omega
  have st1:=st.2
  rw[e1] at st1
  refine wpAny_pyNext_rev_item st1 p.isList (x:=u) (by simpa using hu) fun h' st' sb=>?_
  have I1:Inv X pins σ H { s with heap:=h' }:=I.turned (t':=s.toks) (fun b o hb e=>(sb.2 b hb).trans e) f0 f1 f3 f4 f5
  have e2:((n-1-i:Nat):Int)-1=(n:Int)-1-((i+1:Nat):Int):=by omega
  rw[e2] at st'
  obtain⟨o,e,c,d⟩:=id st'
  exact⟨u,rfl,kR (s:={ s with heap:=h' }) e c d (by decide) ⟨x,H,I1,ru,⟨rfl,fun ys hy=>by rw[I.list_inj hy hq];exact hx⟩,⟨hi,st'⟩,fun b hb=>(hf b hb).1⟩⟩
 done:=by
  intro X hP hw hK hc i pins s σ H E I hf st hg
  subst hP hw hK
  obtain⟨f0,f1,f2,f3,f4,f5⟩:=hf it (by simp)
  have hg:n≤i:=hg
  have e1:(n:Int)-1-(i:Int) = -1:=by have:=st.1;omega
  have st1:=st.2
  rw[e1] at st1
  exact wpAny_pyNext_rev_end (I.ok.hd hc) st1 fun h' eb=>⟨rfl,I.turned (t':=s.toks) (fun b o hb e=>eb b o hb e) f0 f1 f3 f4 f5⟩
 self:=fun _ _ _ _ _ st h=>wpAny_pyIter_revIter st.2 h
theorem qk{K:PySem.W.Frag}{a:Addr}{xs:List V}{σ:St}{H:Hp}{DN:St→Hp→Prop}{B:(St→Hp→Prop)→V→St→Hp→Prop}(Pv:Nat→St→Hp→Prop)(h0:Pv 0 σ H)
  (hl:∀i σ H,i≤xs.length→Pv i σ H→SqL K H a xs)
  (hs:∀i x σ H,xs.reverse[i]? = some x→Pv i σ H→B (Pv (i+1)) x σ H) (hd:∀σ H,Pv xs.length σ H→DN σ H) :
  ∃W:Nat→Nat→St→Hp→Prop,(∃m,W 0 m σ H)∧∀i m σ H,W i m σ H →
   ((Itv K a xs.length).stop i H∧DN σ H)∨((Itv K a xs.length).go i H∧∃N:St→Hp→Prop,(∀σ' H',N σ' H'→∃m',m'<m∧W (i+1) m' σ' H')∧∀x H',(Itv K a xs.length).yld i H x H'→B N x σ H'):=by
 refine⟨fun i m σ H=>m=xs.length-i∧i≤xs.length∧Pv i σ H,⟨xs.length,by simp,yH _,h0⟩,?_⟩
 rintro i m σ H ⟨rfl,hi,p⟩
 have q1:=hl i σ H hi p
 by_cases hlt:i<xs.length
 ·have hlt2:xs.length-1-i<xs.length:=by omega
  refine .inr ⟨⟨xs,xs[xs.length-1-i],q1,rfl,hlt,yb hlt2⟩,Pv (i+1),fun σ' H' p'=>⟨xs.length-(i+1),by omega,rfl,hlt,p'⟩,fun x H' y=>?_⟩
  obtain⟨e,hx⟩:=y
  subst e
  exact hs i x σ _ (by rw[List.getElem?_reverse hlt];exact hx xs q1) p
 ·have e:i=xs.length:=by omega
  subst e
  exact .inl ⟨yi _,hd σ H p⟩
noncomputable def AE(K:PySem.W.Frag)(te:TE):TI:=fun σ H R=>te σ H fun x H1=>∃a xs,x=.ref a∧SqL K H1 a xs∧R (Itv K a xs.length) H1
theorem vD{X:Cx}{tg e:Expr}{te:TE}{p pos:Pos}(hg:Gl X "reversed")(hm:X.mg "reversed" = none)(he:PE X e te)(hs:starEach [e] X.env=[(false,eval e X.env)]:=by rfl) :
  PI X tg (.Call (.Name "reversed" p) [e] [] pos) (AE X.K te):=by
 intro pins s σ H R I h
 refine Call_ (dJ I hg hm boot_reversed (PyProof.Rows.callWith_type1 ?_ hs rfl))
 rw[hs]
 refine Calls.spliced_cons (thn (he pins s σ H _ I h) fun v s1 ⟨x,H1,I1,rx,q1⟩=>Calls.spliced_nil ?_)
 obtain⟨a,xs,rfl,hq,q⟩:=q1
 cases rx
 obtain⟨its,rv,pl,hz⟩:=I1.list hq
 have hlen:=rv.length
 have hsz:its.toArray.size=xs.length:=by rw[ye];omega
 refine call_reversed_list pl.isList ?_
 rw[hsz]
 refine wpAny_pyIter_revIter (l:=a) (i:=(xs.length:Int)-1) ⟨_,Heap.get?_push_size _ rfl,rfl,rfl⟩ ?_
 refine⟨s1.heap.objs.size,[s1.heap.objs.size],_,_,H1,rfl,I1.kept (t':=s1.toks) fun b o e=>Heap.get?_push_of_some _ e,qU a _ xs.length,⟨yH _,⟨_,Heap.get?_push_size _ rfl,rfl,by simp[revObj]⟩⟩,fun b hb=>?_,q⟩
 have e:b=s1.heap.objs.size:=by simpa using hb
 subst e
 exact I1.fpOk (yi _) (I1.hok.fresh (yi _))
end L2
namespace My
open PySem L2
noncomputable abbrev Pns:=List (List Key×V)
inductive Stp where
 | part (h d:Int)
 | sum (us:List Tri)
 | oth (s:Str)
noncomputable def eI(H:Hp)(v:V):Stp→Prop
 | .part h d=>∃t,v=.ref t∧H t=some (.tup [.str "part",.int h,.int d])
 | .sum us=>∃t ut uv,v=.ref t∧H t=some (.tup [.str "sum",.ref ut])∧H ut=some (.tup uv)∧cU H uv us
 | .oth s=>∃t vs,v=.ref t∧H t=some (.tup (.str s::vs))∧V.str s≠.str "part" ∧ V.str s≠.str "sum"
theorem eI.tmono{H H':Hp}(g:fo H H'){v:V}:∀{st:Stp},eI H v st→eI H' v st
 | .part _ _,⟨t,e,q⟩=>⟨t,e,g _ _ q⟩
 | .sum _,⟨t,ut,uv,e,q,r,z⟩=>⟨t,ut,uv,e,g _ _ q,g _ _ r,cU.tmono g z⟩
 | .oth _,⟨t,vs,e,q,r⟩=>⟨t,vs,e,g _ _ q,r⟩
noncomputable abbrev cn(H:Hp):List V→List Stp→Prop:=Paired (eI H)
theorem cn.tmono{H H':Hp}(g:fo H H'){us:List V}{sts:List Stp}(h:cn H us sts):cn H' us sts:=Paired.mapP h fun _ _=>eI.tmono g
theorem eI.rf{H:Hp}{v:V}:∀{st:Stp},eI H v st→∃c,v=.ref c
 | .part _ _,⟨t,e,_⟩=>⟨t,e⟩
 | .sum _,⟨t,_,_,e,_⟩=>⟨t,e⟩
 | .oth _,⟨t,_,e,_⟩=>⟨t,e⟩
noncomputable def c5(n D:Nat)(pns:Pns)(h d:Int):Bool:=(decide (0≤h)&&decide (h<(n:Int)))&&((decide (0≤d)&&decide (d<(D:Int))) && !(bv pns (k2 h d)).isSome)
noncomputable def cb(pns:Pns)(ow:List Int)(h d:Int):List Pns:=ow.reverse.map fun v=>bR pns (k2 h d) (.int v)
structure Ctx where
 E:List Tri→Pns→Bool
 own:Nat→List Int
 n:Nat
 D:Nat
noncomputable def cN(c:Ctx)(pns:Pns):Stp→Bool
 | .part h d=>c5 c.n c.D pns h d
 | .sum us=>c.E us pns
 | .oth _=>false
noncomputable def gE(c:Ctx)(pns:Pns):Stp→List Pns
 | .part h d=>cb pns (c.own h.toNat) h d
 | _=>[]
noncomputable def cV(c:Ctx)(cs:List Pns)(st:Stp):Option (List Pns):=match cs.getLast? with
 | none=>none
 | some pns=>if cN c pns st=true then some (cs.dropLast++gE c pns st) else none
noncomputable def bX(c:Ctx)(sts:List Stp):Option (List Pns):=sts.foldl (fun o st=>o.bind fun cs=>cV c cs st) (some [[]])
theorem mK(c:Ctx)(sts:List Stp)(st:Stp):bX c (sts++[st])=(bX c sts).bind fun cs=>cV c cs st:=by
 unfold bX
 rw[yUa]
 rfl
theorem fV(c:Ctx):∀sts:List Stp,sts.foldl (fun(o:Option (List Pns)) st=>o.bind fun cs=>cV c cs st) none=none
 | []=>rfl
 | _::sts=>fV c sts
theorem kG{c:Ctx}{sts:List Stp}{i:Nat}(h:bX c (sts.take i)=none):bX c sts=none:=by
 have e:sts=sts.take i++sts.drop i:=(ywa ..).symm
 rw[e]
 unfold bX at h ⊢
 rw[yUa,h]
 exact fV c _
theorem ck{c:Ctx}{cs:List Pns}{pns:Pns}{st:Stp}:cV c (cs++[pns]) st=if cN c pns st=true then some (cs++gE c pns st) else none:=by
 unfold cV
 rw[List.getLast?_append]
 show(if cN c pns st=true then some ((cs++[pns]).dropLast++gE c pns st) else none)=_
 rw[yza]
noncomputable def gP(n D k:Nat)(cs:List Pns):Prop:=cs.length≤1+9*k∧∀p∈cs,cO n D 0 p∧p.length≤k
theorem gP.init{n D:Nat}:gP n D 0 [[]]:=⟨by show 1≤1+9*0;decide,fun p hp=>by rw[List.mem_singleton.mp hp];exact⟨cO.nil,yi _⟩⟩
theorem nH{n D:Nat}{pns:Pns}{h d:Int}(z:c5 n D pns h d=true):0≤h∧h<(n:Int)∧0≤d∧d<(D:Int)∧bv pns (k2 h d)=none:=by
 unfold c5 at z
 simp only[yK,decide_eq_true_eq,yTa] at z
 obtain⟨⟨a,b⟩,⟨c,d⟩,e⟩:=z
 refine⟨a,b,c,d,?_⟩
 cases hv:bv pns (k2 h _) with
 | none=>rfl
 | some v=>rw[hv] at e;cases e
theorem gP.step{c:Ctx}{k:Nat}{cs:List Pns}{pns:Pns}{st:Stp}(o:gP c.n c.D k (cs++[pns]))(hw:∀h,h<c.n→(c.own h).length≤9)(z:cN c pns st=true):gP c.n c.D (k+1) (cs++gE c pns st):=by
 obtain⟨o1,o2⟩:=o
 rw[yd,yx] at o1
 have hp:=o2 pns (yB _ (List.mem_singleton.mpr rfl))
 have old:∀p∈cs,cO c.n c.D 0 p∧p.length≤k+1:=fun p h=>⟨(o2 p (yha _ h)).1,Nat.le_succ_of_le (o2 p (yha _ h)).2⟩
 cases st with
 | part h d =>
  obtain⟨h0,h1,d0,d1,hv⟩:=nH (show c5 c.n c.D pns h d=true from z)
  have hl:=hw h.toNat (by lia)
  refine⟨?_,fun p hm=>?_⟩
  ·show(cs++cb pns (c.own h.toNat) h d).length≤_
   unfold cb
   rw[yd,ya,yna]
   lia
  ·rcases List.mem_append.mp hm with y | y
   ·exact old p y
   ·have y:p∈cb pns (c.own h.toNat) h d:=y
    unfold cb at y
    obtain⟨v,_,rfl⟩:=List.mem_map.mp y
    have e:k2 h d=k2 ((h.toNat:Nat):Int) ((d.toNat:Nat):Int):=by rw[yR h0,yR d0]
    refine⟨by rw[e];exact hp.1.put (by lia) (by lia) v,?_⟩
    have:=cw pns (k2 h d) (.int v)
    have:=hp.2
    lia
 | sum us =>
  refine⟨?_,fun p hm=>?_⟩
  ·show(cs++[]).length≤_
   rw[yI]
   lia
  ·have hm:p∈cs++[]:=hm
   rw[yI] at hm
   exact old p hm
 | oth s =>
  have z:false=true:=z
  cases z
theorem cO.plain{n D P:Nat}{pns:Pns}(o:cO n D P pns):ub pns:=fun kv m=>by
 refine⟨?_,gW o.ky o.ai kv m⟩
 obtain⟨h,d,e,_⟩:=o.inb kv m
 exact⟨[(h:Int),(d:Int)],e⟩
theorem eZ.mono{H H':Hp}(g:aA H H'){us:List V}{cs:List Pns}(h:eZ H us cs):eZ H' us cs:=Paired.mapP h fun _ _ ⟨d,e,q,r⟩=>⟨d,e,g _ _ q,r⟩
theorem eZ.off{H:Hp}{L:Addr}{xs:List V}{o:HO}(hL:H L=some (.lst xs)){us:List V}{cs:List Pns}(h:eZ H us cs):eZ (upd H L o) us cs:=Paired.mapP h fun _ _ ⟨d,e,q,r⟩=>⟨d,e,by rw[av (fun z=>by rw[z,hL] at q;cases q)];exact q,r⟩
theorem Paired.app{α β:Type}{F:α→β→Prop}:∀{xs:List α} {ys:List β} {xs':List α} {ys':List β},Paired F xs ys→Paired F xs' ys'→Paired F (xs++xs') (ys++ys')
 | _,_,_,_,.nil,h=>h
 | _,_,_,_,.cons a r,h=>.cons a (Paired.app r h)
theorem Paired.split{α β:Type}{F:α→β→Prop}:∀{ys:List β} {xs:List α} {y:β},Paired F xs (ys++[y])→∃xs' x,xs=xs'++[x]∧Paired F xs' ys∧F x y
 | [],_,y,h=>by
  cases h with
  | cons a r=>cases r;exact⟨[],_,rfl,.nil,a⟩
 | z::ys,_,y,h=>by
  cases h with
  | cons a r =>
   obtain⟨xs',x,e,p,f⟩:=Paired.split r
   exact⟨_::xs',x,by rw[e];rfl,.cons a p,f⟩
theorem gR{α:Type}(cs:List α):cs=[]∨∃cs' p,cs=cs'++[p]:=by
 by_cases z:cs=[]
 ·exact .inl z
 ·exact .inr ⟨cs.dropLast,cs.getLast z,(List.dropLast_concat_getLast z).symm⟩
structure LfI(H:Hp)(L:Addr)(cs:List Pns)(H':Hp):Prop where
 ex:∃us:List V,aA H H'∧H' L=some (.lst us)∧eZ H' us cs
theorem LfI.same{H H':Hp}{L:Addr}{cs:List Pns}(h:LfI H L cs H'):aA H H':=by
 obtain⟨_,g,_⟩:=h.ex
 exact g
theorem LfI.mono{H H' H2:Hp}{L:Addr}{cs:List Pns}(h:LfI H L cs H')(g:aA H' H2):LfI H L cs H2:=by
 obtain⟨us,g0,e,d⟩:=h.ex
 exact⟨us,g0.trans g,g _ _ e,eZ.mono g d⟩
theorem LfI.put{H H':Hp}{L:Addr}{cs cs':List Pns}{us':List V}(h:LfI H L cs H')(hL:H L=none)(d:eZ H' us' cs'):LfI H L cs' (upd H' L (.lst us')):=by
 obtain⟨us,g0,e,_⟩:=h.ex
 exact⟨us',aI hL g0 _,af,eZ.off e d⟩
theorem wN{α:Type}(xs:List α)(x:α):atI (xs++[x]) (-1)=some x:=by
 unfold atI ixN
 rw[if_neg (by decide),if_pos (by rw[yd,yx];lia)]
 show(xs++[x])[(-1+((xs++[x]).length:Int)).toNat]? = some x
 rw[yd,yx,show(-1+((xs.length+1:Nat):Int)).toNat=xs.length by lia,yM (yi _)]
 simp
noncomputable def oA:Stp→Prop
 | .sum us=>jT us
 | _=>True
noncomputable def dQ(sums:List (List Lin))(hs:List Int)(ps:List Pst)(d:Int):Ctx:=⟨fun us pns=>i8 sums us pns (fun h=>ch (hs[h]?.getD 0) ps) hs.length d.toNat,fun h=>ch (hs[h]?.getD 0) ps,hs.length,d.toNat⟩
theorem nK{H:Hp}{v:V}{h d:Int}(s:eI H v (.part h d)):∃t,v=.ref t∧H t=some (.tup [.str "part",.int h,.int d]):=s
theorem qR{H:Hp}{v:V}{us:List Tri}(s:eI H v (.sum us)):∃t ut uv,v=.ref t∧H t=some (.tup [.str "sum",.ref ut])∧H ut=some (.tup uv)∧cU H uv us:=s
theorem vb{H:Hp}{v:V}{s:Str}(h:eI H v (.oth s)):∃t vs,v=.ref t∧H t=some (.tup (.str s::vs))∧V.str s≠.str "part" ∧ V.str s≠.str "sum" := h
noncomputable def cP:Option (List Pns)→Bool
 | some []=>true
 | _=>false
end My
namespace My
open PySem L2
theorem gP.mono{n D k j:Nat}{cs:List Pns}(h:gP n D k cs)(kj:k≤j):gP n D j cs:=⟨by have:=h.1;lia,fun p hp=>⟨(h.2 p hp).1,yJ (h.2 p hp).2 kj⟩⟩
theorem at0{α:Type}(v:α)(vs:List α):atI (v::vs) 0=some v:=by
 unfold atI ixN
 rw[if_pos (by decide),if_pos (by rw[yp];omega)]
 rfl
theorem cO.plain2{n D P:Nat}{pns:Pns}(o:cO n D P pns){h d:Int}(h0:0≤h)(h1:h<(n:Int))(d0:0≤d)(d1:d<(D:Int))(v:Int):cO n D P (bR pns (k2 h d) (.int v)):=by
 have e:k2 h d=k2 ((h.toNat:Nat):Int) ((d.toNat:Nat):Int):=by rw[yR h0,yR d0]
 rw[e]
 exact o.put (by lia) (by lia) v
noncomputable def Frs(H:Hp)(us:List V):Prop:=∀d,V.ref d∈us→H d=none
noncomputable def FrL(H:Hp)(L:Addr)(H':Hp):Prop:=∃us,H' L=some (.lst us)∧Frs H us
theorem Frs.snoc{H:Hp}{us:List V}{p:Addr}(h:Frs H us)(hp:H p=none):Frs H (us++[.ref p]):=fun d z=>by
 rcases List.mem_append.mp z with y | y
 ·exact h d y
 ·rw[V.ref.inj (List.mem_singleton.mp y)];exact hp
theorem Frs.app{H:Hp}{us vs:List V}(h:Frs H us)(g:Frs H vs):Frs H (us++vs):=fun d z=>by
 rcases List.mem_append.mp z with y | y
 ·exact h d y
 ·exact g d y
theorem Frs.back{H H':Hp}{us:List V}(h:Frs H' us)(g:aA H H'):Frs H us:=fun d z=>g.free (h d z)
end My
namespace My
open PySem L2
theorem iq(xs:List V)(x:V):eJ (xs++[x]) none (some (-1))=xs:=by
 unfold eJ HT.sIx
 simp
 rw[show(-1+((xs.length:Int)+1)).toNat=xs.length by lia]
 simp
end My
namespace My
open PySem L2
theorem pF{n D:Nat}(f:Nat×Nat→Int){c0:Nat×Nat}(h:c0∈cls n D):((cls n D).map fun c=>if c=c0 then f c else 0).sum=f c0:=by
 rw[lA _ (yGb h),ym,yy,if_pos rfl]
 have:(((cls n D).erase c0).map fun c=>if c=c0 then f c else 0).sum=0:=fJ _ fun c hc=>if_neg fun z=>fT.not_mem_erase (z ▸ hc)
 lia
theorem js{n D P:Nat}(rows:List (List Int)):∀{qs:List Prt},(∀q∈qs,InR n D P q)→((cls n D).map fun c=>pAt (kk c.1 c.2 (val rows c.1 c.2)) qs).sum=tot rows qs
 | [],_=>by
  rw[fJ]
  ·rfl
  ·intro c _;rfl
 | q::qs,h=>by
  have ih:=js rows (qs:=qs) fun x hx=>h x (yj _ hx)
  obtain⟨a,b,p,e,h1,h2,h3⟩:=h q (yq ..)
  obtain⟨e1,e2,e3⟩:=fk e
  have e4:((cls n D).map fun c=>pAt (kk c.1 c.2 (val rows c.1 c.2)) (q::qs)).sum=((cls n D).map fun c=>if c=(a,b) then (if val rows a b=p then q.n else 0) else 0).sum+((cls n D).map fun c=>pAt (kk c.1 c.2 (val rows c.1 c.2)) qs).sum:=by
   rw[← x9]
   refine jg fun c _=>?_
   have e5:pAt (kk c.1 c.2 (val rows c.1 c.2)) (q::qs)=(if kk q.h q.d q.p=kk c.1 c.2 (val rows c.1 c.2) then q.n else 0)+pAt (kk c.1 c.2 (val rows c.1 c.2)) qs:=by
    unfold pAt
    rw[ym,yy]
   rw[e5,e]
   congr 1
   by_cases z:c=(a,b)
   ·rw[if_pos z,z]
    by_cases y:val rows a b=p
    ·rw[if_pos y,if_pos (by rw[y])]
    ·rw[if_neg y,if_neg (fun u=>y (fk u).2.2.symm)]
   ·rw[if_neg z,if_neg (fun u=>z (by
     obtain⟨u1,u2,_⟩:=fk u
     exact Prod.ext (by show c.1=a;lia) (by show c.2=b;lia)))]
  have e6:tot rows (q::qs)=(if val rows a b=p then q.n else 0)+tot rows qs:=by
   unfold tot
   rw[ym,yy,e1,e2,e3,yh,yh]
  rw[e4,pF (fun _=>if val rows a b=p then q.n else 0) (eG.mpr ⟨h1,h2⟩),ih,e6]
end My
namespace My
open PySem L2
end My
namespace My
open PySem L2
end My
namespace My
open PySem L2
theorem zu{n:Nat}(h:n≤1000000):n<sizeLine:=yS h (by decide)
theorem tY{n:Nat}(h:n≤1000000):n≤sizeLine:=yQa (zu h)
end My
namespace L2
open PySem PySem.Spec PyProof.Rows
theorem rb{X:Cx}:OpR X (compareOp .Is) (fun x y H Q=>∃a b,x=.bl a∧y=.bl b∧Q (.bl (a == b)) H):=by
 intro pins s σ H x y v u Q I rx ry h
 obtain⟨a,b,rfl,rfl,q⟩:=h
 cases rx;cases ry
 refine wpAny_is_plain ?_ (bj I q ?_)
 ·cases a <;> cases b <;> rfl
 ·cases a <;> cases b <;> rfl
end L2
namespace My
open PySem L2
end My
namespace My
open PySem L2
section
variable{H H' H2:Hp}{Lc Lm Lp:Addr}{cs cs' met:List Pns}{sts:List Stp}
end
theorem mr{rows:List (List Int)}{sums:List (List Lin)}(h:∀ls∈sums,∀ℓ∈ls,ℓ.b≤tot rows ℓ.ps):bA rows sums=[]:=by
 unfold bA cK
 rw[yzb]
 intro i hi
 have hi:=yu.mp hi
 rw[yc,yb hi,yT,yP]
 unfold cL
 rw[yzb]
 intro j hj
 have hj:=yu.mp hj
 unfold cA at hj ⊢
 unfold du
 rw[ya] at hj
 rw[yc,yb hj,yT]
 have:=h _ (yO hi) _ (yO hj)
 show(if 0<_-_ then _ else _)=_
 rw[if_neg (by lia)]
end My
namespace L2
open PySem PySem.Spec PyProof.Rows HT
section
variable{prog:Program}{w:World}{A:Around}{E:Value→Shared→Prop}{s:Shared}
end
section
variable{X:Cx}
end
end L2
namespace L2
open PySem PySem.Spec PyProof.Rows
section
variable{prog:Program}{w:World}{A:Around}{E:Value→Shared→Prop}{h:Heap}{g:Array GenState}{d:Drawn}{t:Nat}{os:OsState}
variable{nm q:Str}{C N:Addr}{bs bm bmB:List Value}{hdct:Bool}{sn:List Str}{sub:List Value}{ab:Bool}{col:Option Bool}{dd:Option Addr}{k0 k1 k2 k3 k5:Option Value}{B newId initId:String}
end
section
variable{X:Cx}{CX:CXT}{k:Nat}{f C:Addr}{fd:FuncData}{ps:List Str}{sp:Sp}{E:XK}{x:Str}{p pos:Pos}{e:Expr}{es:List Expr}{t:TA}
end
section
variable{X:Cx}{pins:List (Addr×Obj)}{σ:St}{H:Hp}{s:Shared}{E:Value→Shared→Prop}{Q:Value→Shared→Prop}{a C f:Addr}{x y:Str}{us:List Value}
end
end L2
namespace L2
open PySem PySem.Spec PyProof.Rows Builtin Builtin.ObjectAttr
section
variable{prog:Program}{w:World}{A:Around}{E:Value→Shared→Prop}{h:Heap}{g:Array GenState}{d:Drawn}{t:Nat}{os:OsState}
variable{nm q:Str}{C N x:Addr}{bs bm bmB:List Value}{sn:List Str}{sub:List Value}{ab:Bool}{col:Option Bool}{dd:Option Addr}{k0 k1 k2 k3 k5:Option Value}{B newId sa owner:String}
 {mN mA:Str→Option Value} {name:Str} {v:Value} {K:PySem.W.Frag}
end
end L2
namespace L2
open PySem PySem.Spec PyProof.Rows
section
variable{X:Cx}{pins:List (Addr×Obj)}{σ:St}{H:Hp}{s:Shared}{E:Value→Shared→Prop}{a C fI:Addr}{yn f:Str}
end
section
variable{K:PySem.W.Frag}{prog:Program}{w:World}{A:Around}{E:Value→Shared→Prop}{h:Heap}{g:Array GenState}{d:Drawn}{t:Nat}{os:OsState}{a C dx:Addr}{o:Obj}{f:Str}{v:Value}{mA:Str→Option Value}
end
section
variable{X:Cx}{e:Expr}{ta:TE}{f:Str}{pos:Pos}
end
end L2
namespace My
open PySem L2
end My
namespace My
open PySem L2
noncomputable def dE(W L A:Addr):Nat→Addr:=iR W W L A W W W
noncomputable def K3(s:Sp4):Prop:=s.k=0∨s.k=2∨s.k=3
structure cJ(C:Nat→Addr)(CT CW:Addr)(H:Hp)(x:Addr)(d:Int)(hs:List Int)(ps:List Pst)(ss:List Sp4):Prop where
 ex:∃dx y rt st us vs,H x=some (.ins CT dx (tf y rt st))∧bt CW H y d hs ps∧H rt=some (.tup us)∧cy C ps.length H us ss∧H st=some (.tup vs)∧fX H vs (ss.map (aT d.toNat hs.length ps))
theorem cJ.at{C:Nat→Addr}{CT CW:Addr}{H:Hp}{x:Addr}{d:Int}{hs:List Int}{ps:List Pst}{ss:List Sp4}(h:cJ C CT CW H x d hs ps ss):ce CT CW H x d hs ps (ss.map (aT d.toNat hs.length ps)):=by
 obtain⟨dx,y,rt,st,us,vs,h1,h2,h3,_,h4,h5⟩:=h.ex
 exact⟨dx,y,rt,st,us,vs,h1,h2,h3,h4,h5⟩
theorem cJ.mono{C:Nat→Addr}{CT CW:Addr}{H H':Hp}{x:Addr}{d:Int}{hs:List Int}{ps:List Pst}{ss:List Sp4}(h:cJ C CT CW H x d hs ps ss)(g:aA H H'):cJ C CT CW H' x d hs ps ss:=by
 obtain⟨dx,y,rt,st,us,vs,h1,h2,h3,hr,h4,h5⟩:=h.ex
 exact⟨dx,y,rt,st,us,vs,g _ _ h1,h2.mono g,g _ _ h3,cy.mono g hr,g _ _ h4,fX.tmono (az g) h5⟩
noncomputable def dn(m:Int):Int→List Int→Bool
 | _,[]=>true
 | l,x::xs=>if x≤l∨m≤x then false else dn m x xs
theorem gb(m l x:Int)(xs:List Int):dn m l (x::xs)=if x≤l∨m≤x then false else dn m x xs:=rfl
theorem dI{m:Int}:∀{xs:List Int} {l:Int},dn m l xs=true→∀x∈xs,l<x∧x<m
 | [],_,_,x,hx=>by cases hx
 | y::ys,l,h,x,hx=>by
  unfold dn at h
  by_cases z:y≤l∨m≤y
  ·rw[if_pos z] at h;cases h
  ·rw[if_neg z] at h
   rcases List.mem_cons.mp hx with e | e
   ·rw[e];lia
   ·have:=dI h x e
    omega
theorem lu{m:Int}:∀{xs:List Int} {l:Int},dn m l xs=true→(xs.length:Int)≤m-l-1∨xs=[]
 | [],_,_=>.inr rfl
 | y::ys,l,h=>by
  unfold dn at h
  by_cases z:y≤l∨m≤y
  ·rw[if_pos z] at h;cases h
  ·rw[if_neg z] at h
   left
   rw[yp]
   rcases lu h with e | e
   ·lia
   ·rw[e];simp;lia
end My
namespace My
open PySem L2
noncomputable def vd(H:Hp)(v:V)(rows:List (List Int)):Prop:=∃r us,v=.ref r∧H r=some (.lst us)∧Rows H us rows
noncomputable abbrev cm(H:Hp):List V→List (List (List Int))→Prop:=Paired (vd H)
theorem cm.mono{H H':Hp}(g:aA H H'){us:List V}{ts:List (List (List Int))}(h:cm H us ts):cm H' us ts:=Paired.mapP h fun _ _ ⟨r,us,e,q,w⟩=>⟨r,us,e,g _ _ q,w.mono g⟩
noncomputable def fF(d:Int)(hs:List Int)(ps:List Pst)(sums:List (List Lin))(rows:List (List Int))(pl:Nat):Bool:=bI d hs ps rows&&(bA rows sums).all fun f=>decide (f.1=(pl:Int))
noncomputable def cz(d:Int)(hs:List Int)(ps:List Pst)(ss:List Sp4)(ns:List Int)(sts:List Stp)(tabs:List (List (List Int))):Bool :=
 dn ss.length (-1) ns&&(decide (tabs.length=ns.length)&&(cP (bX (dQ ((ns.map fun n=>ss.getD n.toNat ⟨0,0,0,0⟩).map (aT d.toNat hs.length ps)) hs ps d) sts) &&
  (List.range tabs.length).all fun k=>fF d hs ps ((ns.map fun n=>ss.getD n.toNat ⟨0,0,0,0⟩).map (aT d.toNat hs.length ps)) (tabs.getD k []) k))
end My
namespace My
open PySem L2
theorem jO{rows:List (List Int)}{sums:List (List Lin)}(s20:sums.length≤20)(h:∀ls∈sums,ls.length≤40):(bA rows sums).length≤800:=by
 unfold bA
 have h1:=eW (qss:=sums.map (cA rows)) (B:=40) (fun qs hq=>by
  obtain⟨ls,hl,rfl⟩:=List.mem_map.mp hq
  unfold cA
  rw[ya]
  exact h ls hl) sums.length
 have h2:sums.length*40≤20*40:=Nat.mul_le_mul_right _ s20
 lia
end My
theorem My.ifs_ofK{c:L2.TT}{ta tb:L2.TS}{D:L2.dG}{σ:L2.St}{H:L2.Hp}(h:∀A:L2.TS,A=ta→L2.oH c A tb D σ H):L2.oH c ta tb D σ H:=h ta rfl
namespace My
open PySem L2
theorem uz{d:Int}{n:Nat}{ps:List Pst}{s:Sp4}(k3:K3 s)(ok:kg d n ps.length s)(d1:1≤d)(d2:d≤31)(p:ps.length≤2)(n8:n≤8):oj d n (aT d.toNat n ps s)∧i7 n d.toNat (ps.length+1) (aT d.toNat n ps s):=by
 have al:=iA ps
 have hd:∀m,∀x∈dsN m d.toNat,0≤x∧x<d:=fun m x hx=>by have:=ms hx;lia
 have hdN:∀m,∀x∈dsN m d.toNat,0≤x∧x<(d.toNat:Int):=fun m x hx=>ms hx
 have dl:∀m,(dsN m d.toNat).length≤31:=fun m=>by have:=ke m d.toNat;lia
 have hp:∀x∈bN ps,0≤x∧x<((ps.length+1:Nat):Int):=fun x hx=>by have:=iI hx;lia
 have P0:=ok.P0
 obtain hk | hk | hk:=k3
 ·rw[qg hk]
  obtain⟨a0,a1,_,_⟩:=ok.w hk
  have m1:=yv s.b (b:=(ps.length:Int)) (by lia)
  have m2:=yD s.b (b:=(ps.length:Int)) (by lia)
  have hq:∀q∈bF n s.a (1+s.b % (ps.length:Int)),0≤q.h∧q.h<(n:Int)∧q.d=s.a∧q.p=1+s.b % (ps.length:Int):=fun q hq=>by
   unfold bF at hq
   obtain⟨i,hi,rfl⟩:=List.mem_map.mp hq
   have:=yu.mp hi
   exact⟨by show(0:Int)≤(i:Int);lia,by show(i:Int)<n;lia,rfl,rfl⟩
  have hl:(bF n s.a (1+s.b % (ps.length:Int))).length≤8:=by rw[oF];exact n8
  refine⟨kD ⟨?_,fun q h=>?_⟩,lC ?_ fun q h=>?_⟩
  ·show(bF n s.a (1+s.b % (ps.length:Int))).length≤900;lia
  ·obtain⟨x1,x2,x3,x4⟩:=hq q h
   exact⟨x1,x2,by lia,by lia⟩
  ·show(bF n s.a (1+s.b % (ps.length:Int))).length≤100;lia
  ·obtain⟨x1,x2,x3,x4⟩:=hq q h
   exact qC x1 x2 (by lia) (by lia) (by lia) (by lia)
 ·rw[qo hk]
  obtain⟨a0,a1⟩:=ok.h (by lia)
  refine⟨kD (k8 a0 a1 (hd _) (dl _) (by lia)),lC ?_ fun q h=>nW a0 a1 (hdN _) hp h⟩
  show(spr _ _ _ _).length≤100
  rw[fN]
  exact yJ (yhb (dl _) (by lia:(bN ps).length≤2)) (by decide)
 ·rw[rF hk]
  obtain⟨a0,a1⟩:=ok.h (by lia)
  unfold iz
  refine⟨⟨by rw[ya];have:=dl s.b.toNat;lia,fun ℓ hℓ=>?_⟩,by rw[ya];have:=dl s.b.toNat;lia,fun ℓ hℓ=>?_⟩
  ·obtain⟨x,hx,rfl⟩:=List.mem_map.mp hℓ
   exact k8 a0 a1 (fun y hy=>by rw[List.mem_singleton.mp hy];exact hd _ _ hx) (by simp) (by lia)
  ·obtain⟨x,hx,rfl⟩:=List.mem_map.mp hℓ
   refine⟨?_,fun q h=>nW a0 a1 (fun y hy=>by rw[List.mem_singleton.mp hy];exact hdN _ _ hx) hp h⟩
   show(spr _ _ _ _).length≤100
   rw[fN]
   exact yJ (yhb (show [x].length≤1 by simp) (by lia:(bN ps).length≤2)) (by decide)
theorem kA{a b:List Int}(h:a.Perm b):a.sum=b.sum:=by
 induction h with
 | nil=>rfl
 | cons x _ ih=>rw[yy,yy,ih]
 | swap x y l=>rw[yy,yy,yy,yy];lia
 | trans _ _ ih1 ih2=>exact ih1.trans ih2
theorem pK(n:Nat)(day post h d p:Int):pAt (kk h d p) (bF n day post)=if (0≤h∧h<(n:Int))∧d=day∧p=post then 1 else 0:=by
 induction n with
 | zero =>
  rw[if_neg (by omega)]
  rfl
 | succ n ih =>
  have e:bF (n+1) day post=bF n day post++[⟨(n:Int),day,post,1⟩]:=by unfold bF;rw[yN,yg];rfl
  rw[e,nS,ih]
  have e2:pAt (kk h d p) [⟨(n:Int),day,post,1⟩]=if (n:Int)=h∧d=day∧p=post then 1 else 0:=by
   unfold pAt
   show(if kk (n:Int) day post=kk h d p then (1:Int) else 0)+0=_
   by_cases z:(n:Int)=h∧d=day∧p=post
   ·rw[if_pos z,if_pos (by rw[z.1,z.2.1,z.2.2])];rfl
   ·rw[if_neg z,if_neg (fun w=>z (by obtain⟨w1,w2,w3⟩:=fk w;exact⟨w1,w2.symm,w3.symm⟩))];rfl
  rw[e2]
  by_cases z:d=day∧p=post
  ·by_cases z1:0≤h∧h<(n:Int)
   ·rw[if_pos ⟨z1,z⟩,if_neg (by lia),if_pos ⟨by lia,z⟩];rfl
   ·rw[if_neg (fun w=>z1 w.1)]
    by_cases z2:(n:Int)=h
    ·rw[if_pos ⟨z2,z⟩,if_pos ⟨by lia,z⟩];rfl
    ·rw[if_neg (fun w=>z2 w.1),if_neg (fun w=>by lia)];rfl
  ·rw[if_neg (fun w=>z w.2),if_neg (fun w=>z w.2),if_neg (fun w=>z w.2)];rfl
theorem jC(j day h d p:Int):∀{qs:List Int},qs.Nodup→pAt (kk h d p) (qs.map fun x=>(⟨j,day,x,-1⟩:Prt))=if (h=j∧d=day)∧p∈qs then -1 else 0
 | [],_=>by rw[if_neg (fun w=>by cases w.2)];rfl
 | x::qs,nd=>by
  rw[yW] at nd
  have ih:=jC j day h d p nd.2
  rw[ym,show(⟨j,day,x,-1⟩:Prt)::qs.map (fun x=>(⟨j,day,x,-1⟩:Prt))=[⟨j,day,x,-1⟩]++qs.map (fun x=>(⟨j,day,x,-1⟩:Prt)) from rfl,nS,ih]
  have e2:pAt (kk h d p) [⟨j,day,x,-1⟩]=if (h=j∧d=day)∧p=x then -1 else 0:=by
   unfold pAt
   show(if kk j day x=kk h d p then (-1:Int) else 0)+0=_
   by_cases z:(h=j∧d=day)∧p=x
   ·rw[if_pos z,if_pos (by rw[z.1.1,z.1.2,z.2])];rfl
   ·rw[if_neg z,if_neg (fun w=>z (by obtain⟨w1,w2,w3⟩:=fk w;exact⟨⟨w1.symm,w2.symm⟩,w3.symm⟩))];rfl
  rw[e2]
  by_cases z:h=j∧d=day
  ·by_cases z1:p=x
   ·rw[if_pos ⟨z,z1⟩,if_neg (fun w=>nd.1 (z1 ▸ w.2)),if_pos ⟨z,by rw[z1];exact yq⟩];rfl
   ·rw[if_neg (fun w=>z1 w.2)]
    by_cases z2:p∈qs
    ·rw[if_pos ⟨z,z2⟩,if_pos ⟨z,yj _ z2⟩];rfl
    ·rw[if_neg (fun w=>z2 w.2),if_neg (fun w=>by rcases List.mem_cons.mp w.2 with e | e;exact z1 e;exact z2 e)];rfl
  ·rw[if_neg (fun w=>z w.1),if_neg (fun w=>z w.1),if_neg (fun w=>z w.1)];rfl
theorem iC(i:Int)(n:Nat):(dR i n).Nodup:=by
 unfold dR
 rw[List.Nodup,List.pairwise_map]
 refine List.Pairwise.imp ?_ (yYa (n:=n))
 intro a b (h:a≠b) (z:i+(a:Int)=i+(b:Int))
 exact h (by lia)
theorem qh(j day h d p:Int)(ps:List Pst):pAt (kk h d p) (spr j [day] (bN ps) (-1))=if (h=j∧d=day)∧p∈bN ps then -1 else 0:=by
 have e:spr j [day] (bN ps) (-1)=(bN ps).map fun x=>(⟨j,day,x,-1⟩:Prt):=by unfold spr;rw[ynb,List.flatMap_nil,yI]
 rw[e]
 exact jC j day h d p (iC _ _)
noncomputable def jn(n:Nat)(ps:List Pst)(day post t:Int):List (Lin×Int):=(⟨bF n day post,1⟩,t)::(List.range n).map fun j:Nat=>(⟨spr (j:Int) [day] (bN ps) (-1),0⟩,t)
theorem pf(n:Nat)(c:Bool)(h:Int)(t:Int):((List.range n).map fun j:Nat=>(if h=(j:Int)∧c=true then (-1:Int) else 0)*t).sum=if (0≤h∧h<(n:Int))∧c=true then -t else 0:=by
 induction n with
 | zero=>rw[if_neg (by omega)];rfl
 | succ n ih =>
  rw[yN,yg,yda,ih]
  show _+((if h=(n:Int)∧c=true then (-1:Int) else 0)*t+0)=_
  cases c with
  | false=>rw[if_neg (fun w=>by cases w.2),if_neg (fun w=>by cases w.2),if_neg (fun w=>by cases w.2)];lia
  | true =>
   by_cases z1:0≤h∧h<(n:Int)
   ·rw[if_pos ⟨z1,rfl⟩,if_neg (by lia),if_pos ⟨by lia,rfl⟩];lia
   ·rw[if_neg (fun w=>z1 w.1)]
    by_cases z2:h=(n:Int)
    ·rw[if_pos ⟨z2,rfl⟩,if_pos ⟨by lia,rfl⟩];lia
    ·rw[if_neg (fun w=>z2 w.1),if_neg (fun w=>by lia)];lia
theorem tL{n:Nat}{ps:List Pst}{day post t:Int}(ht:1≤t)(hp:post∈bN ps){ls:List (Lin×Int)}(pm:ls.Perm (jn n ps day post t))(h d p:Int):nO (bD ls) h d p≤0:=by
 unfold nO bD
 rw[iM]
 show(0:Int)+_≤0
 rw[kA (pm.map _)]
 unfold jn
 rw[ym,yy,yqa]
 have e:((List.range n).map ((fun l:Lin×Int=>pAt (kk h d p) l.1.ps*l.2) ∘ fun j:Nat=>((⟨spr (j:Int) [day] (bN ps) (-1),0⟩:Lin),t)))=(List.range n).map fun j:Nat=>(if h=(j:Int)∧decide (d=day∧p∈bN ps)=true then (-1:Int) else 0)*t:=by
  refine yCa fun j _=>?_
  show pAt (kk h d p) (spr (j:Int) [day] (bN ps) (-1))*t=_
  rw[qh]
  by_cases z:(h=(j:Int)∧d=day)∧p∈bN ps
  ·rw[if_pos z,if_pos ⟨z.1.1,decide_eq_true ⟨z.1.2,z.2⟩⟩]
  ·rw[if_neg z,if_neg (fun w=>z ⟨⟨w.1,(of_decide_eq_true w.2).1⟩,(of_decide_eq_true w.2).2⟩)]
 rw[e,pf]
 show 0+(pAt (kk h d p) (bF n day post)*t+_)≤0
 rw[pK]
 by_cases z:(0≤h∧h<(n:Int))∧d=day∧p=post
 ·rw[if_pos z,if_pos ⟨z.1,decide_eq_true ⟨z.2.1,by rw[z.2.2];exact hp⟩⟩]
  lia
 ·rw[if_neg z]
  split <;> lia
theorem uY{xs:List Int}(hne:xs≠[]){b:Int}(h:∀x∈xs,x≤b):mxL xs≤b:=by
 cases xs with
 | nil=>exact absurd rfl hne
 | cons x xs =>
  show xs.foldl max x≤b
  have:∀(ys:List Int) (y:Int),y≤b→(∀z∈ys,z≤b)→ys.foldl max y≤b:=by
   intro ys
   induction ys with
   | nil=>intro y hy _;exact hy
   | cons z zs ih =>
    intro y hy hz
    rw[yQ]
    exact ih _ (Int.max_le.mpr ⟨hy,hz z yq⟩) fun w hw=>hz w (yj _ hw)
  exact this xs x (h x yq) fun z hz=>h z (yj _ hz)
theorem oY{n D:Nat}{ps:List Pst}{day post t:Int}(ht:1≤t)(hp:post∈bN ps){ls:List (Lin×Int)}(pm:ls.Perm (jn n ps day post t))(pns:Pns){own:Nat→List Int}(ho:∀h,h<n→0<(own h).length):fg pns (bD ls) own n D<eY ls:=by
 have h1:fg pns (bD ls) own n D≤0:=by
  unfold fg
  have:∀(cs:List (Nat×Nat)),(∀c∈cs,c.1<n)→(cs.map fun c=>mxC pns (bD ls) own c.1 c.2).sum≤0:=by
   intro cs
   induction cs with
   | nil=>intro _;exact yBa _
   | cons c cs ih =>
    intro hc
    rw[ym,yy]
    have i1:=ih fun c hc'=>hc c (yj _ hc')
    have i2:mxC pns (bD ls) own c.1 c.2≤0:=by
     unfold mxC
     refine uY (fun z=>?_) fun x hx=>?_
     ·have z:=List.map_eq_nil_iff.mp z
      unfold kJ at z
      have:=ho c.1 (hc c yq)
      cases e:bv pns (k2 (c.1:Int) (c.2:Int)) with
      | none=>rw[e] at z;have z:own c.1=[]:=z;rw[z] at this;cases this
      | some v=>rw[e] at z;cases z
     ·obtain⟨p,_,rfl⟩:=List.mem_map.mp hx
      exact tL ht hp pm _ _ _
    lia
  exact this _ fun c hc=>(eG.mp hc).1
 have h2:eY ls=t:=by
  unfold eY
  rw[kA (pm.map _)]
  unfold jn
  rw[ym,yy,yqa]
  have:((List.range n).map ((fun l:Lin×Int=>l.1.b*l.2) ∘ fun j:Nat=>((⟨spr (j:Int) [day] (bN ps) (-1),0⟩:Lin),t))).sum=0:=by
   induction n with
   | zero=>rfl
   | succ n ih =>
    rw[yN,yg,yda]
    have:((List.range n).map ((fun l:Lin×Int=>l.1.b*l.2) ∘ fun j:Nat=>((⟨spr (j:Int) [day] (bN ps) (-1),0⟩:Lin),t))).sum=0:=by
     clear ih pm h1 ho
     induction n with
     | zero=>rfl
     | succ n ih =>
      rw[yN,yg,yda,ih]
      show(0:Int)+(0*t+0)=0
      lia
    rw[this]
    show(0:Int)+(0*t+0)=0
    lia
  rw[this]
  show(1:Int)*t+0=t
  lia
 lia
end My
namespace My
open PySem L2
theorem wn{x:Int}{d:Nat}(h0:0≤x)(h1:x<2147483648)(hd:d<31):0≤Builtin.bitOr x (1*2 ^ ((d:Int)).toNat)∧Builtin.bitOr x (1*2 ^ ((d:Int)).toNat)<2147483648∧(Builtin.bitOr x (1*2 ^ ((d:Int)).toNat)).toNat.testBit d=true:=by
 have e:(1*2 ^ ((d:Int)).toNat:Int)=((2 ^ d:Nat):Int):=by rw[Int.one_mul,yh];norm_cast
 rw[e,vF h0 (yfa _)]
 have h2:x.toNat<2 ^ 31:=by
  have:(2:Nat) ^ 31=2147483648:=by decide
  lia
 have h3:2 ^ d<2 ^ 31:=Nat.pow_lt_pow_right (by decide) hd
 have h4:=Nat.or_lt_two_pow h2 h3
 have e31:(2:Nat) ^ 31=2147483648:=by decide
 refine⟨yfa _,?_,?_⟩
 ·rw[yh];lia
 ·rw[yh,yh,Nat.testBit_or,ywb,Bool.or_true]
end My
theorem My.ins_permN(xs:List Nat)(a:Nat)(k:Nat):(xs.take k++a::xs.drop k).Perm (a::xs):=by
 refine List.perm_middle.trans ?_
 rw[ywa]
noncomputable def My.tabO(n D:Nat)(h:Int)(d:Nat)(p:Int):List (List Int):=(List.range n).map fun i:Nat=>(List.range D).map fun j:Nat=>if (i:Int)=h∧j=d then p else 0
namespace L2
open PySem PySem.Spec PyProof.Rows
section
variable{P:Program}{w:World}{κ:Type}[DecidableEq κ]{kn:HeapKind P w κ}{d:Addr}{A:Around}{E:Value→Shared→Prop}{s:Shared}
end
section
variable{X:Cx}
end
end L2
namespace My
open PySem L2
section
variable{H H' H2:Hp}{l L:Addr}{p:Pns}{i j D:Nat}{v:Int}
end
section
variable{H H' H2:Hp}{L:Addr}{sts:List Stp}{i:Nat}{v:V}{st st2:Stp}
end
end My
namespace My
open PySem L2
noncomputable def Agr(rows:List (List Int))(p:Pns):Prop:=∀(h d:Nat) (v:V),bv p (k2 h d)=some v→v=.int (val rows h d)
theorem Agr.nil{rows:List (List Int)}:Agr rows []:=fun h d v z=>by cases z
theorem lG{α:Type}(f:α→Int)(t:Int):∀xs:List α,(xs.map fun x=>f x*t).sum=(xs.map f).sum*t
 | []=>by show(0:Int)=0*t;lia
 | x::xs=>by rw[ym,ym,yy,yy,lG f t xs,Int.add_mul]
theorem qB{rows:List (List Int)}{p:Pns}{own:Nat→List Int}{n D P:Nat}{ls:List (Lin×Int)}(ha:Agr rows p)(ho:∀h d,h<n→d<D→val rows h d∈own h)(hq:∀l∈ls,∀q∈l.1.ps,InR n D P q):(ls.map fun l=>tot rows l.1.ps*l.2).sum≤fg p (bD ls) own n D:=by
 have e:(ls.map fun l=>tot rows l.1.ps*l.2).sum=((cls n D).map fun c=>(ls.map fun l=>pAt (kk c.1 c.2 (val rows c.1 c.2)) l.1.ps*l.2).sum).sum:=by
  rw[uL (fun(c:Nat×Nat) (l:Lin×Int)=>pAt (kk c.1 c.2 (val rows c.1 c.2)) l.1.ps*l.2) ls (cls n D)]
  refine jg fun l hl=>?_
  rw[lG (fun c:Nat×Nat=>pAt (kk c.1 c.2 (val rows c.1 c.2)) l.1.ps) l.2,js rows (hq l hl)]
 rw[e]
 unfold fg
 refine lX fun c hc=>?_
 obtain⟨h1,h2⟩:=eG.mp hc
 have e2:(ls.map fun l=>pAt (kk c.1 c.2 (val rows c.1 c.2)) l.1.ps*l.2).sum=nO (bD ls) c.1 c.2 (val rows c.1 c.2):=by
  unfold nO bD
  rw[iM]
  show _=(0:Int)+_
  lia
 rw[e2]
 unfold mxC
 refine w8 (List.mem_map.mpr ⟨val rows c.1 c.2,?_,rfl⟩)
 unfold kJ
 cases z:bv p (k2 (c.1:Int) c.2) with
 | none=>exact ho _ _ h1 h2
 | some v =>
  rw[ha c.1 c.2 v z]
  exact List.mem_singleton.mpr rfl
noncomputable def lq(rows:List (List Int))(ls:List Lin):Prop:=∀ℓ∈ls,ℓ.b≤tot rows ℓ.ps
open Classical in
theorem lg{rows:List (List Int)}{ℓ:Lin}(h:ℓ.b≤tot rows ℓ.ps):lq rows [ℓ]:=fun m hm=>by rw[List.mem_singleton.mp hm];exact h
section
variable{rows:List (List Int)}{ps:List Pst}{row:List Int}{h:Nat}{s c:Int}{n:Nat}
end
end My
namespace My
open PySem L2
theorem cr.mono{H H' H2:Hp}{D:Addr}{rows:List (List Int)}{i:Nat}(h:cr H D rows i H')(g2:aA H' H2):cr H D rows i H2:=by
 obtain⟨us',hu,g,e,hR,nd,fr⟩:=h.ex
 exact⟨us',hu,g.trans g2,g2 _ _ e,hR.mono g2,nd,fr⟩
theorem Bb(D:Nat):(List.replicate D [V.int 0]).flatten=(List.replicate D (0:Int)).map V.int:=by
 induction D with
 | zero=>rfl
 | succ D ih=>rw[yU,yxa,ih,yU];rfl
theorem df(n D:Nat)(h:Int)(d:Nat)(p:Int):(tabO n D h d p).length=n:=by unfold tabO;rw[ya,yo]
theorem dg{n D:Nat}{h:Int}{d:Nat}{p:Int}{i:Nat}(hi:i<n):(tabO n D h d p)[i]? = some ((List.range D).map fun j:Nat=>if (i:Int)=h∧j=d then p else 0):=by
 unfold tabO
 rw[yc,yaa hi]
 rfl
theorem iO{n D:Nat}{h:Int}{d:Nat}{p:Int}(hh:h<0):tabO n D h d p=List.replicate n (List.replicate D 0):=by
 refine yma fun i=>?_
 by_cases hi:i<n
 ·rw[dg hi,yV,if_pos hi]
  congr 1
  refine yma fun j=>?_
  by_cases hj:j<D
  ·rw[yc,yaa hj,yV,if_pos hj]
   show some (if (i:Int)=h∧j=d then p else 0)=_
   rw[if_neg (by lia)]
  ·rw[yC (by rw[ya,yo];lia),yC (by rw[yG];lia)]
 ·rw[yC (by rw[df];lia),yC (by rw[yG];lia)]
theorem pR{n D:Nat}{h d:Nat}{p:Int}(hh:h<n)(hd:d<D):(List.replicate n (List.replicate D (0:Int))).set h ((List.replicate D (0:Int)).set d p)=tabO n D (h:Int) d p:=by
 refine yma fun i=>?_
 by_cases hi:i<n
 ·rw[dg hi,ypb]
  by_cases e:h=i
  ·subst e
   rw[if_pos rfl,yG,if_pos hi]
   congr 1
   refine yma fun j=>?_
   by_cases hj:j<D
   ·rw[yc,yaa hj,ypb,yG]
    show _=some (if (h:Int)=(h:Int)∧j=d then p else 0)
    by_cases e:d=j
    ·rw[if_pos e,if_pos (by omega),if_pos ⟨rfl,e.symm⟩]
    ·rw[if_neg e,if_neg (by lia),yV,if_pos hj]
   ·rw[yC (by rw[yFa,yG];lia),yC (by rw[ya,yo];lia)]
  ·rw[if_neg e,yV,if_pos hi]
   congr 1
   refine yma fun j=>?_
   by_cases hj:j<D
   ·rw[yc,yaa hj,yV,if_pos hj]
    show _=some (if (i:Int)=(h:Int)∧j=d then p else 0)
    rw[if_neg (by lia)]
   ·rw[yC (by rw[yG];lia),yC (by rw[ya,yo];lia)]
 ·rw[yC (by rw[yFa,yG];lia),yC (by rw[df];lia)]
theorem iP{n D:Nat}{h:Int}{d:Nat}{p:Int}{i j:Nat}(hi:i<n)(hj:j<D):val (tabO n D h d p) i j=if (i:Int)=h∧j=d then p else 0:=by
 unfold val
 rw[dg hi,yP,yc,yaa hj]
 rfl
theorem fY(n D:Nat){h:Int}{d:Nat}{p:Int}(hd:d<D)(hp:p≠0):∀m,m≤n→tot (tabO n D h d p) (bF m (d:Int) p)=if 0≤h∧h<(m:Int) then 1 else 0
 | 0,_=>by rw[if_neg (by lia)];rfl
 | m+1,hm=>by
  have e:bF (m+1) (d:Int) p=bF m (d:Int) p++[⟨(m:Int),(d:Int),p,1⟩]:=by unfold bF;rw[yN,yg];rfl
  rw[e,gQ,fY n D hd hp m (by lia),gX]
  show _+(if val (tabO n D h d p) (m:Int).toNat (d:Int).toNat=p then (1:Int) else 0)=_
  rw[yh,yh,iP (by lia) hd]
  by_cases z:(m:Int)=h
  ·rw[if_pos (c:=(m:Int)=h∧d=d) ⟨z,rfl⟩,if_pos (c:=p=p) rfl,if_neg (by lia),if_pos (by lia)];rfl
  ·rw[if_neg (c:=(m:Int)=h∧d=d) (fun w=>z w.1),if_neg (c:=0=p) (fun w=>hp w.symm)]
   by_cases y:0≤h∧h<(m:Int)
   ·rw[if_pos y,if_pos (by lia)];rfl
   ·rw[if_neg y,if_neg (by lia)];rfl
theorem pj(rows:List (List Int))(j x t:Int):∀{qs:List Int},qs.Nodup→tot rows (qs.map fun y=>(⟨j,x,y,t⟩:Prt))=if val rows j.toNat x.toNat∈qs then t else 0
 | [],_=>by rw[if_neg (fun w=>by cases w)];rfl
 | y::qs,nd=>by
  rw[yW] at nd
  rw[ym,show(⟨j,x,y,t⟩:Prt)::qs.map (fun y=>(⟨j,x,y,t⟩:Prt))=[⟨j,x,y,t⟩]++qs.map (fun y=>(⟨j,x,y,t⟩:Prt)) from rfl,gQ,pj rows j x t nd.2,gX]
  show(if val rows j.toNat x.toNat=y then t else 0)+_=_
  by_cases z:val rows j.toNat x.toNat=y
  ·rw[if_pos z,if_neg (fun w=>nd.1 (z ▸ w)),if_pos (by rw[z];exact yq)];lia
  ·rw[if_neg z]
   by_cases w:val rows j.toNat x.toNat∈qs
   ·rw[if_pos w,if_pos (yj _ w)];lia
   ·rw[if_neg w,if_neg (fun v=>by rcases List.mem_cons.mp v with e | e;exact z e;exact w e)];rfl
theorem jw{n D:Nat}{h:Int}{d:Nat}{p:Int}(ps:List Pst)(hp:p∈bN ps){j x:Nat}(hj:j<n)(hx:x<D):tot (tabO n D h d p) (spr (j:Int) [(x:Int)] (bN ps) (-1))=if (j:Int)=h∧x=d then -1 else 0:=by
 have e:spr (j:Int) [(x:Int)] (bN ps) (-1)=(bN ps).map fun y=>(⟨(j:Int),(x:Int),y,-1⟩:Prt):=by unfold spr;rw[ynb,List.flatMap_nil,yI]
 rw[e,pj _ _ _ _ (show(bN ps).Nodup from iC _ _),yh,yh,iP hj hx]
 by_cases z:(j:Int)=h∧x=d
 ·rw[if_pos z,if_pos hp,if_pos z]
 ·rw[if_neg z,if_neg z,if_neg]
  intro w
  have:=iI w
  omega
theorem nq{rows:List (List Int)}:∀{qs:List Prt},(∀q∈qs,0≤q.n)→0≤tot rows qs
 | [],_=>yBa _
 | q::qs,h=>by
  have:=nq (rows:=rows) (qs:=qs) fun q hq=>h q (yj _ hq)
  rw[show q::qs=[q]++qs from rfl,gQ,gX]
  have:=h q yq
  split <;> lia
structure ClD where
 n:Nat
 D:Nat
 day:Nat
 post:Int
 bs:List Int
 ex:List Sp4
 os:List Nat
 hs:List Int
 ps:List Pst
noncomputable def ClD.N(c:ClD):Nat:=1+c.n+c.ex.length
noncomputable def ClD.rls(c:ClD):List Sp4:=⟨0,c.day,c.post-1,1⟩::((List.range c.n).map (fun j:Nat=>(⟨3,(j:Int),c.bs.getD j 0,0⟩:Sp4))++c.ex)
noncomputable def ClD.rl(c:ClD)(i:Nat):Sp4:=c.rls.getD i ⟨0,0,0,0⟩
noncomputable def ClD.ss(c:ClD):List Sp4:=c.os.map c.rl
noncomputable def ClD.cs(c:ClD):List Nat:=c.os.filter fun i=>decide (i≤c.n)
noncomputable def ClD.nsN(c:ClD):List Nat:=(List.range c.os.length).filter fun k=>decide (c.os.getD k 0≤c.n)
noncomputable def ClD.ns(c:ClD):List Int:=c.nsN.map fun k:Nat=>(k:Int)
noncomputable def ClD.tb(c:ClD)(i:Nat):List (List Int):=tabO c.n c.D ((i:Int)-1) c.day c.post
structure ClD.Ok(c:ClD):Prop where
 n1:1≤c.n
 n8:c.n≤8
 D1:1≤c.D
 D31:c.D≤31
 P1:1≤c.ps.length
 P2:c.ps.length≤2
 day:c.day<c.D
 p1:1≤c.post
 p2:c.post≤(c.ps.length:Int)
 bl:c.bs.length=c.n
 b:∀b∈c.bs,0≤b∧b<2147483648∧b.toNat.testBit c.day=true
 el:c.ex.length≤3
 e:∀s∈c.ex,s.k=2∧s.c=0∧0≤s.a∧s.a<(c.n:Int)∧0≤s.b∧s.b<2147483648
 pm:c.os.Perm (List.range c.N)
 hl:c.hs.length=c.n
 own:∀h,ch h c.ps=0::bN c.ps
variable{c:ClD}
theorem ClD.Ok.hp(o:c.Ok):c.post∈bN c.ps:=by
 unfold bN dR
 refine List.mem_map.mpr ⟨(c.post-1).toNat,yu.mpr ?_,?_⟩
 ·have:=o.p1;have:=o.p2;omega
 ·have:=o.p1;lia
theorem ClD.Ok.len(o:c.Ok):c.os.length=c.N:=by rw[o.pm.length_eq,yo]
theorem ClD.rls_len(c:ClD):c.rls.length=c.N:=by
 unfold ClD.rls ClD.N
 rw[yp,yd,ya,yo]
 lia
theorem ClD.rl0(c:ClD):c.rl 0=⟨0,c.day,c.post-1,1⟩:=rfl
theorem ClD.rlS{j:Nat}(hj:j<c.n):c.rl (j+1)=⟨3,(j:Int),c.bs.getD j 0,0⟩:=by
 unfold ClD.rl ClD.rls
 rw[yz,yDa,yZ (by rw[ya,yo];exact hj),yc,yaa hj]
 rfl
theorem ClD.rlE{i:Nat}(h1:c.n<i)(h2:i<c.N):c.rl i∈c.ex:=by
 unfold ClD.N at h2
 unfold ClD.rl ClD.rls
 obtain⟨j,rfl⟩:∃j,i=j+1:=⟨i-1,by lia⟩
 rw[yz,yDa,yM (by rw[ya,yo];lia),ya,yo,yb (by lia)]
 exact yO _
theorem ClD.Ok.bsg(o:c.Ok){j:Nat}(hj:j<c.n):0≤c.bs.getD j 0∧c.bs.getD j 0<2147483648∧(c.bs.getD j 0).toNat.testBit c.day=true:=by
 have hj':j<c.bs.length:=by rw[o.bl];exact hj
 rw[yz,yb hj',yP]
 exact o.b _ (yO _)
theorem ClD.Ok.k3(o:c.Ok){i:Nat}(h:i<c.N):K3 (c.rl i)∧kg (c.D:Int) c.n c.ps.length (c.rl i):=by
 have P1:=o.P1
 by_cases h1:c.n<i
 ·obtain⟨e1,e2,e3,e4,e5,e6⟩:=o.e _ (ClD.rlE h1 h)
  exact⟨.inr (.inl e1),by lia,P1,(fun z=>by lia),(fun _=>⟨e3,e4⟩),(fun _=>⟨e5,e6⟩),(fun z=>by lia),(fun _=>by lia),(fun z=>by lia),(fun z=>by lia),(fun z=>by lia)⟩
 ·cases i with
  | zero =>
   rw[c.rl0]
   refine⟨.inl rfl,by show 0≤6;decide,P1,(fun _=>?_),(fun z=>absurd rfl z),(fun z=>?_),(fun z=>?_),(fun z=>?_),(fun z=>?_),(fun z=>?_),(fun z=>?_)⟩
   ·have:=o.day
    exact⟨by show(0:Int)≤(c.day:Int);lia,by show(c.day:Int)<c.D;lia,by show(0:Int)≤1;decide,by show(1:Int)≤99;decide⟩
   all_goals (have z:_:=z;simp at z)
  | succ j =>
   rw[ClD.rlS (by lia)]
   obtain⟨b1,b2,_⟩:=o.bsg (j:=j) (by lia)
   refine⟨.inr (.inr rfl),by show 3≤6;decide,P1,(fun z=>?_),(fun z=>?_),(fun z=>⟨b1,b2⟩),(fun z=>?_),(fun z=>?_),(fun z=>?_),(fun z=>?_),(fun z=>?_)⟩
   ·have z:3=0:=z;lia
   ·exact⟨by show(0:Int)≤(j:Int);lia,by show(j:Int)<c.n;omega⟩
   ·have z:3=1:=z;lia
   ·have z:3=2:=z;lia
   ·have z:3=4:=z;lia
   ·have z:3=5:=z;lia
   ·have z:3=6:=z;lia
theorem ClD.pro0(c:ClD)(o:c.Ok):aT c.D c.n c.ps (c.rl 0)=[⟨bF c.n (c.day:Int) c.post,1⟩]:=by
 rw[c.rl0,qg rfl]
 show [(⟨bF c.n (c.day:Int) (1+(c.post-1) % (c.ps.length:Int)),1⟩:Lin)]=_
 have:=o.p1
 have:=o.p2
 rw[Int.emod_eq_of_lt (by lia) (by omega),show 1+(c.post-1)=c.post by lia]
theorem ClD.proS(o:c.Ok){j:Nat}(hj:j<c.n):aT c.D c.n c.ps (c.rl (j+1))=iz (j:Int) c.ps (c.bs.getD j 0).toNat c.D:=by
 rw[ClD.rlS hj,rF rfl]
theorem ClD.Ok.kept(o:c.Ok){i k:Nat}(hi:i≤c.n)(hk:k<c.N)(ne:k≠i):lq (c.tb i) (aT c.D c.n c.ps (c.rl k)):=by
 by_cases h1:c.n<k
 ·obtain⟨e1,e2,e3,e4,e5,e6⟩:=o.e _ (ClD.rlE h1 hk)
  rw[qo e1,e2]
  refine lg ?_
  show 0≤tot _ _
  refine nq fun q hq=>?_
  unfold spr at hq
  obtain⟨x,_,hq⟩:=yua.mp hq
  obtain⟨p,_,rfl⟩:=List.mem_map.mp hq
  show(0:Int)≤1
  decide
 ·cases k with
  | zero =>
   rw[c.pro0 o]
   refine lg ?_
   show(1:Int)≤tot (tabO c.n c.D ((i:Int)-1) c.day c.post) (bF c.n (c.day:Int) c.post)
   have hp:=o.p1
   rw[fY c.n c.D o.day (by lia) c.n (yi _),if_pos (by lia)]
   exact yBa _
  | succ j =>
   rw[ClD.proS o (by lia)]
   unfold iz
   intro ℓ hℓ
   obtain⟨x,hx,rfl⟩:=List.mem_map.mp hℓ
   have hx2:=ms hx
   show(0:Int)≤tot (tabO c.n c.D ((i:Int)-1) c.day c.post) (spr (j:Int) [x] (bN c.ps) (-1))
   have ex:x=((x.toNat:Nat):Int):=by lia
   rw[ex,jw c.ps o.hp (by lia) (by lia),if_neg (by lia)]
   exact yBa _
theorem wg{m d D:Nat}(hd:d<D)(hb:m.testBit d=true):(dsN m D)[(dsN m d).length]? = some (d:Int):=by
 obtain⟨k,rfl⟩:∃k,D=d+1+k:=⟨D-(d+1),by omega⟩
 clear hd
 have e1:dsN m (d+1)=dsN m d++[(d:Int)]:=by rw[fK,if_pos hb]
 induction k with
 | zero=>rw[Nat.add_zero,e1,yM (yi _)];simp
 | succ k ih =>
  rw[show d+1+(k+1)=(d+1+k)+1 by lia,fK,yZ]
  ·exact ih
  ·exact(List.getElem?_eq_some_iff.mp ih).1
noncomputable def ClD.lnOf(c:ClD):Nat→Lin
 | 0=>⟨bF c.n (c.day:Int) c.post,1⟩
 | j+1=>⟨spr (j:Int) [(c.day:Int)] (bN c.ps) (-1),0⟩
noncomputable def ClD.ln(c:ClD):Nat→Int
 | 0=>0
 | j+1=>((dsN (c.bs.getD j 0).toNat c.day).length:Int)
theorem ClD.Ok.lnAt(o:c.Ok){i:Nat}(hi:i≤c.n):0≤c.ln i∧(aT c.D c.n c.ps (c.rl i))[(c.ln i).toNat]? = some (c.lnOf i):=by
 cases i with
 | zero=>exact⟨yBa _,by rw[c.pro0 o];rfl⟩
 | succ j =>
  refine⟨yfa _,?_⟩
  rw[ClD.proS o (by lia)]
  unfold iz
  show(List.map _ _)[(((dsN (c.bs.getD j 0).toNat c.day).length:Nat):Int).toNat]? = _
  rw[yh,yc,wg o.day (o.bsg (by lia)).2.2]
  rfl
theorem ClD.Ok.broke(o:c.Ok){i:Nat}(hi:i≤c.n):¬ lq (c.tb i) (aT c.D c.n c.ps (c.rl i)):=fun z=>by
 have h:=z _ (yk (o.lnAt hi).2)
 have hp:=o.p1
 cases i with
 | zero =>
  have h:(1:Int)≤tot (tabO c.n c.D (((0:Nat):Int)-1) c.day c.post) (bF c.n (c.day:Int) c.post):=h
  rw[fY c.n c.D o.day (by lia) c.n (yi _),if_neg (by omega)] at h
  lia
 | succ j =>
  have h:(0:Int)≤tot (tabO c.n c.D (((j+1:Nat):Int)-1) c.day c.post) (spr (j:Int) [(c.day:Int)] (bN c.ps) (-1)):=h
  rw[jw c.ps o.hp (by lia) o.day,if_pos (by lia)] at h
  lia
end My
namespace My
open PySem L2
variable{c:ClD}
theorem vz(n m:Nat):(List.range (1+n+m)).filter (fun i=>decide (i≤n))=List.range (n+1):=by
 rw[show 1+n+m=(n+1)+m by lia,List.range_add,yga]
 have e1:(List.range (n+1)).filter (fun i=>decide (i≤n))=List.range (n+1):=List.filter_eq_self.mpr fun i hi=>decide_eq_true (by have:=yu.mp hi;lia)
 have e2:((List.range m).map (fun x=>n+1+x)).filter (fun i=>decide (i≤n))=[]:=yWa.mpr fun i hi=>by
  obtain⟨x,_,rfl⟩:=List.mem_map.mp hi
  rw[decide_eq_true_eq]
  lia
 rw[e1,e2,yI]
theorem ClD.Ok.csP(o:c.Ok):c.cs.Perm (List.range (c.n+1)):=by
 have h:=o.pm.filter (fun i=>decide (i≤c.n))
 unfold ClD.N at h
 rw[vz] at h
 exact h
theorem ClD.Ok.csL(o:c.Ok):c.cs.length=c.n+1:=by rw[o.csP.length_eq,yo]
theorem ClD.Ok.csN(o:c.Ok):c.cs.Nodup:=o.csP.nodup_iff.mpr yYa
theorem ClD.Ok.csM(o:c.Ok){i:Nat}:i∈c.cs↔i≤c.n:=by rw[o.csP.mem_iff,yu];lia
theorem ClD.nsC(c:ClD):c.nsN.map (fun k=>c.os.getD k 0)=c.cs:=by
 have e:c.os=(List.range c.os.length).map fun k=>c.os.getD k 0:=by
  refine yma fun i=>?_
  by_cases h:i<c.os.length
  ·rw[yc,yaa h,yT,yz,yb h]
   rfl
  ·rw[yC (by lia),yC (by rw[ya,yo];lia)]
 unfold ClD.cs
 conv=>rhs;rw[e,List.filter_map]
 rfl
theorem ClD.Ok.nsL(o:c.Ok):c.nsN.length=c.n+1:=by rw[← o.csL,← c.nsC,ya]
theorem ClD.nsP(c:ClD):c.nsN.Pairwise (· < ·):=List.pairwise_lt_range.filter _
theorem ClD.nsB(c:ClD){k:Nat}(h:k∈c.nsN):k<c.os.length:=yu.mp (yEa.mp h).1
theorem nu{m:Int}:∀{xs:List Nat} {l:Int},xs.Pairwise (· < ·)→(∀x∈xs,l<(x:Int)∧(x:Int)<m)→dn m l (xs.map fun k:Nat=>(k:Int))=true
 | [],_,_,_=>rfl
 | x::xs,l,p,h=>by
  rw[yjb] at p
  have hx:=h x yq
  rw[ym,gb,if_neg (by lia)]
  refine nu p.2 fun y hy=>?_
  have:=p.1 y hy
  have:=h y (yj _ hy)
  omega
theorem g9{m:Int}:∀{xs:List Int} {l:Int},dn m l xs=true→xs.Pairwise (· < ·)
 | [],_,_=>.nil
 | x::xs,l,h=>by
  rw[gb] at h
  by_cases z:x≤l∨m≤x
  ·rw[if_pos z] at h;cases h
  ·rw[if_neg z] at h
   exact .cons (fun y hy=>(dI h y hy).1) (g9 h)
theorem ClD.Ok.ris(o:c.Ok):dn c.ss.length (-1) c.ns=true:=by
 unfold ClD.ss ClD.ns
 rw[ya]
 refine nu c.nsP fun k hk=>?_
 have:=c.nsB hk
 omega
theorem ClD.ssG(c:ClD){k:Nat}(h:k<c.os.length):c.ss.getD k ⟨0,0,0,0⟩=c.rl (c.os.getD k 0):=by
 unfold ClD.ss
 rw[yz,yc,yz,yb h]
 rfl
theorem ClD.chos(c:ClD):(c.ns.map fun n=>c.ss.getD n.toNat ⟨0,0,0,0⟩)=c.cs.map c.rl:=by
 rw[← c.nsC,yqa]
 unfold ClD.ns
 rw[yqa]
 refine yCa fun k hk=>?_
 show c.ss.getD ((k:Int)).toNat _=_
 rw[yh,c.ssG (c.nsB hk)]
 rfl
noncomputable def ClD.S(c:ClD):List (List Lin):=(c.cs.map c.rl).map (aT c.D c.n c.ps)
noncomputable def ClD.u0(c:ClD)(t:Int)(k:Nat):Tri:=((k:Int),c.ln (c.cs.getD k 0),t)
noncomputable def ClD.us0(c:ClD)(t:Int):List Tri:=(List.range (c.n+1)).map (c.u0 t)
theorem ClD.Ok.csG(o:c.Ok){k:Nat}(h:k≤c.n):c.cs[k]? = some (c.cs.getD k 0)∧c.cs.getD k 0≤c.n:=by
 have hk:k<c.cs.length:=by rw[o.csL];lia
 rw[yz,yb hk,yP]
 exact⟨rfl,o.csM.mp (yO _)⟩
theorem ClD.Ok.lnU(o:c.Ok)(t:Int){k:Nat}(h:k≤c.n):My.lnAt c.S (c.u0 t k)=some (c.lnOf (c.cs.getD k 0)):=by
 obtain⟨g1,g2⟩:=o.csG h
 obtain⟨l1,l2⟩:=o.lnAt g2
 unfold ClD.u0
 rw[lb (ls:=aT c.D c.n c.ps (c.rl (c.cs.getD k 0))) (by lia) (by unfold ClD.S;rw[yh,yc,yc,g1];rfl) l1]
 exact l2
theorem ClD.Ok.okU(o:c.Ok){t:Int}(ht:1≤t){k:Nat}(h:k≤c.n):My.okU c.S (c.u0 t k)=true:=by
 unfold My.okU
 rw[o.lnU t h]
 show(true&&decide (1≤t))=true
 rw[decide_eq_true ht]
 rfl
theorem ClD.Ok.usP(o:c.Ok){t:Int}{us:List Tri}(pm:us.Perm (c.us0 t)):(usL c.S us).Perm (jn c.n c.ps c.day c.post t):=by
 have e1:(usL c.S us).Perm (usL c.S (c.us0 t)):=pm.map _
 have e2:usL c.S (c.us0 t)=c.cs.map fun i=>(c.lnOf i,t):=by
  unfold usL ClD.us0
  rw[yqa]
  refine yma fun k=>?_
  by_cases hk:k<c.n+1
  ·obtain⟨g1,g2⟩:=o.csG (show k≤c.n by lia)
   rw[yc,yaa hk,yc,g1]
   show some ((My.lnAt c.S (c.u0 t k)).getD iU,t)=_
   rw[o.lnU t (by lia)]
   rfl
  ·rw[yC (by rw[ya,yo];lia),yC (by rw[ya,o.csL];lia)]
 have e3:(c.cs.map fun i=>(c.lnOf i,t)).Perm ((List.range (c.n+1)).map fun i=>(c.lnOf i,t)):=o.csP.map _
 have e4:((List.range (c.n+1)).map fun i=>(c.lnOf i,t))=jn c.n c.ps c.day c.post t:=by
  rw[List.range_succ_eq_map,ym,yqa]
  rfl
 rw[← e4]
 rw[e2] at e1
 exact e1.trans e3
theorem ClD.Ok.ends(o:c.Ok){t:Int}(ht:1≤t){us:List Tri}(pm:us.Perm (c.us0 t))(pns:Pns):(dQ c.S c.hs c.ps c.D).E us pns=true:=by
 show i8 c.S us pns (fun h=>ch (c.hs[h]?.getD 0) c.ps) c.hs.length ((c.D:Int)).toNat=true
 unfold i8
 rw[yK]
 refine⟨yL.mpr fun u hu=>?_,decide_eq_true ?_⟩
 ·obtain⟨k,hk,rfl⟩:=List.mem_map.mp (pm.mem_iff.mp hu)
  exact o.okU ht (by have:=yu.mp hk;lia)
 ·rw[o.hl]
  exact oY ht o.hp (o.usP pm) pns fun h _=>by rw[o.own];exact yfb _
theorem eF{x:Ctx}{us:List Tri}(h:∀p,x.E us p=true):∀(m:Nat) (q:List Pns),m≤q.length→(List.replicate m (Stp.sum us)).foldl (fun(o:Option (List Pns)) st=>o.bind fun cs=>cV x cs st) (some q)=some (q.take (q.length-m))
 | 0,q,_=>by show some q=_;rw[yOb,yA]
 | m+1,q,hm=>by
  rw[yU,yQ]
  rcases gR q with rfl | ⟨q',p,rfl⟩
  ·rw[yea] at hm;lia
  ·rw[yd,yx] at hm
   show List.foldl _ (cV x (q'++[p]) (.sum us)) _=_
   rw[ck,if_pos (show cN x p (.sum us)=true from h p),show gE x p (.sum us)=[] from rfl,yI,eF h m q' (by lia),yd,yx,show q'.length+1-(m+1)=q'.length-m by lia,List.take_append_of_le_length (by omega)]
inductive Ppr(x:Ctx)(m:Nat)(us:List Tri):List Stp→Prop where
 | one:Ppr x m us [.sum us]
 | par (h d:Int) (f:c5 x.n x.D [] h d=true) (l:(x.own h.toNat).length=m):Ppr x m us (.part h d::List.replicate m (.sum us))
theorem Ppr.nil{x:Ctx}{m:Nat}{us:List Tri}{sts:List Stp}(p:Ppr x m us sts)(h:∀p,x.E us p=true):cP (bX x sts)=true:=by
 cases p with
 | one =>
  have:=eF h 1 [[]] (by decide)
  unfold bX
  rw[show [Stp.sum us]=List.replicate 1 (Stp.sum us) from rfl,this]
  rfl
 | par hh d f l =>
  unfold bX
  rw[yQ]
  show cP (List.foldl _ (cV x ([]++[[]]) (.part hh d)) _)=true
  rw[ck,if_pos (show cN x [] (.part hh d)=true from f)]
  have e:(([]:List Pns)++gE x [] (.part hh d)).length=m:=by
   show(cb [] (x.own hh.toNat) hh d).length=m
   unfold cb
   rw[ya,yna,l]
  rw[eF h m _ (by lia),e,yvb,ypa]
  rfl
theorem Ppr.bad{x:Ctx}{m:Nat}{us:List Tri}{sts:List Stp}(p:Ppr x m us sts)(m1:1≤m)(h:∀p,x.E us p=false):cP (bX x sts)=false:=by
 have no:∀(q:Pns) (cs:List Pns),cV x (cs++[q]) (.sum us)=none:=fun q cs=>by
  rw[ck,if_neg (by rw[show cN x q (.sum us)=x.E us q from rfl,h];decide)]
 cases p with
 | one =>
  show cP (cV x ([]++[[]]) (.sum us))=false
  rw[no]
  rfl
 | par hh d f l =>
  unfold bX
  rw[yQ]
  show cP (List.foldl _ (cV x ([]++[[]]) (.part hh d)) _)=false
  rw[ck,if_pos (show cN x [] (.part hh d)=true from f)]
  obtain⟨m',rfl⟩:∃m',m=m'+1:=⟨m-1,by lia⟩
  rw[yU,yQ]
  have e:(([]:List Pns)++gE x [] (.part hh d)).length=m'+1:=by
   show(cb [] (x.own hh.toNat) hh d).length=_
   unfold cb
   rw[ya,yna,l]
  generalize ([]:List Pns)++gE x [] (.part hh d)=q at e ⊢
  rcases gR q with rfl | ⟨q',p,rfl⟩
  ·cases e
  ·show cP (List.foldl _ (cV x (q'++[p]) (.sum us)) _)=false
   rw[no,fV]
   rfl
theorem Ppr.cut{x:Ctx}{m:Nat}{us:List Tri}{sts:List Stp}(p:Ppr x m us sts)(m1:1≤m)(h:∀p,x.E us p=true):cP (bX x sts.dropLast)=false:=by
 cases p with
 | one=>rfl
 | par hh d f l =>
  obtain⟨m',rfl⟩:∃m',m=m'+1:=⟨m-1,by lia⟩
  have e0:(Stp.part hh d::List.replicate (m'+1) (Stp.sum us)).dropLast=Stp.part hh d::List.replicate m' (Stp.sum us):=by
   rw[yHb,← yJa,yza]
  rw[e0]
  unfold bX
  rw[yQ]
  show cP (List.foldl _ (cV x ([]++[[]]) (.part hh d)) _)=false
  rw[ck,if_pos (show cN x [] (.part hh d)=true from f)]
  have e:(([]:List Pns)++gE x [] (.part hh d)).length=m'+1:=by
   show(cb [] (x.own hh.toNat) hh d).length=_
   unfold cb
   rw[ya,yna,l]
  rw[eF h m' _ (by lia)]
  generalize ([]:List Pns)++gE x [] (.part hh d)=q at e ⊢
  rw[e,show m'+1-m'=1 by lia]
  cases q with
  | nil=>cases e
  | cons a q=>rfl
theorem kB{rows:List (List Int)}{sums:List (List Lin)}{r:Nat}{ls:List Lin}(hr:sums[r]? = some ls)(nk:¬ lq rows ls):∃f∈bA rows sums,f.1=(r:Int):=by
 unfold lq at nk
 obtain⟨ℓ,hℓ⟩:=Classical.not_forall.mp nk
 obtain⟨hm,hb⟩:=Classical.not_imp.mp hℓ
 obtain⟨j,hj⟩:=yKa hm
 have rl:=(List.getElem?_eq_some_iff.mp hr).1
 have jl:=(List.getElem?_eq_some_iff.mp hj).1
 have e1:(cA rows ls)[j]? = some (tot rows ℓ.ps,ℓ.b):=by unfold cA;rw[yc,hj];rfl
 have e2:(sums.map (cA rows))[r]? = some (cA rows ls):=by rw[yc,hr];rfl
 refine⟨((r:Int),(j:Int),ℓ.b-tot rows ℓ.ps),?_,rfl⟩
 unfold bA cK
 refine yua.mpr ⟨r,yu.mpr rl,?_⟩
 rw[e2,yP]
 unfold cL
 refine yua.mpr ⟨j,yu.mpr (by unfold cA;rw[ya];exact jl),?_⟩
 unfold du
 rw[e1]
 show _∈if 0<ℓ.b-tot rows ℓ.ps then [((r:Int),(j:Int),ℓ.b-tot rows ℓ.ps)] else []
 rw[if_pos (by lia)]
 exact List.mem_singleton.mpr rfl
theorem rm{rows:List (List Int)}{sums:List (List Lin)}{f:Tri}(h:f∈bA rows sums):∃(r:Nat) (ls:List Lin),f.1=(r:Int)∧sums[r]? = some ls∧¬ lq rows ls:=by
 unfold bA cK at h
 obtain⟨r,hr,h⟩:=yua.mp h
 have rl:=yu.mp hr
 have e:=yb rl
 have e2:(sums.map (cA rows))[r]? = some (cA rows sums[r]):=by rw[yc,e];rfl
 rw[e2,yP] at h
 unfold cL at h
 obtain⟨j,hj,h⟩:=yua.mp h
 have jl:j<(sums[r]).length:=by have:=yu.mp hj;unfold cA at this;rw[ya] at this;exact this
 have e1:(cA rows sums[r])[j]? = some (tot rows (sums[r])[j].ps,(sums[r])[j].b):=by unfold cA;rw[yc,yb jl];rfl
 unfold du at h
 rw[e1] at h
 have h:f∈if 0<(sums[r])[j].b-tot rows (sums[r])[j].ps then [((r:Int),(j:Int),(sums[r])[j].b-tot rows (sums[r])[j].ps)] else []:=h
 split at h
 ·rename_i z
  rw[List.mem_singleton.mp h]
  refine⟨r,_,rfl,e,fun k=>?_⟩
  have:=k _ (yO jl)
  lia
 ·cases h
theorem pC{d:Int}{hs:List Int}{ps:List Pst}{sums:List (List Lin)}{rows:List (List Int)}{pl:Nat}(ht:bI d hs ps rows=true)(h:∀(r:Nat) (ls:List Lin),sums[r]? = some ls→r≠pl→lq rows ls):fF d hs ps sums rows pl=true:=by
 unfold fF
 rw[yK]
 refine⟨ht,yL.mpr fun f hf=>?_⟩
 obtain⟨r,ls,e,hr,nk⟩:=rm hf
 rw[e]
 by_cases z:r=pl
 ·rw[z];exact decide_eq_true rfl
 ·exact absurd (h r ls hr z) nk
theorem gd{d:Int}{hs:List Int}{ps:List Pst}{sums:List (List Lin)}{rows:List (List Int)}{pl r:Nat}{ls:List Lin}(hr:sums[r]? = some ls)(ne:r≠pl)(nk:¬ lq rows ls):fF d hs ps sums rows pl=false:=by
 obtain⟨f,hf,e⟩:=kB hr nk
 unfold fF
 rw[yab]
 right
 rw[yqb]
 refine⟨f,hf,?_⟩
 rw[e,decide_eq_true_eq]
 lia
theorem ClD.Ok.tab(o:c.Ok)(i:Nat):bI c.D c.hs c.ps (c.tb i)=true:=by
 unfold bI ClD.tb
 rw[yK,df]
 refine⟨decide_eq_true o.hl.symm,yL.mpr fun k hk=>?_⟩
 have hk:=yu.mp hk
 unfold kc eU
 rw[dg hk,yP,yK]
 refine⟨decide_eq_true (by rw[ya,yo]),yL.mpr fun v hv=>?_⟩
 obtain⟨j,_,rfl⟩:=List.mem_map.mp hv
 refine decide_eq_true ?_
 rw[o.own]
 split
 ·exact yj _ o.hp
 ·exact yq
theorem ClD.SG{c:ClD}{k i:Nat}(h:c.cs[k]? = some i):c.S[k]? = some (aT c.D c.n c.ps (c.rl i)):=by
 unfold ClD.S
 rw[yc,yc,h]
 rfl
theorem ClD.Ok.brk(o:c.Ok){k:Nat}(hk:k≤c.n):fF c.D c.hs c.ps c.S (c.tb (c.cs.getD k 0)) k=true:=by
 obtain⟨g1,g2⟩:=o.csG hk
 refine pC (o.tab _) fun r ls hr ne=>?_
 unfold ClD.S at hr
 rw[yc,yc] at hr
 cases z:c.cs[r]? with
 | none=>rw[z] at hr;cases hr
 | some i =>
  rw[z] at hr
  cases hr
  have hi:=o.csM.mp (yk z)
  refine o.kept g2 (by unfold ClD.N;lia) fun e=>ne ?_
  rw[e] at z
  have rl:=(List.getElem?_eq_some_iff.mp z).1
  exact(List.getElem?_inj rl o.csN).mp (z.trans g1.symm)
noncomputable def ClD.X(c:ClD):Ctx:=dQ c.S c.hs c.ps c.D
theorem ClD.shwE(c:ClD)(sts:List Stp)(tabs:List (List (List Int))):cz c.D c.hs c.ps c.ss c.ns sts tabs=(dn c.ss.length (-1) c.ns&&(decide (tabs.length=c.ns.length)&&(cP (bX (dQ ((c.cs.map c.rl).map (aT ((c.D:Int)).toNat c.hs.length c.ps)) c.hs c.ps c.D) sts)&&(List.range tabs.length).all fun k=>fF c.D c.hs c.ps ((c.cs.map c.rl).map (aT ((c.D:Int)).toNat c.hs.length c.ps)) (tabs.getD k []) k))):=by
 unfold cz
 rw[c.chos]
theorem ClD.Ok.shwS(o:c.Ok)(sts:List Stp)(tabs:List (List (List Int))):cz c.D c.hs c.ps c.ss c.ns sts tabs=(decide (tabs.length=c.n+1)&&(cP (bX c.X sts)&&(List.range tabs.length).all fun k=>fF c.D c.hs c.ps c.S (tabs.getD k []) k)):=by
 rw[c.shwE,o.ris,o.hl,yh,show c.ns.length=c.n+1 by unfold ClD.ns;rw[ya,o.nsL]]
 rfl
noncomputable def ClD.tbs(c:ClD):List (List (List Int)):=c.cs.map c.tb
theorem ClD.Ok.tbG(o:c.Ok){k:Nat}(hk:k≤c.n):c.tbs.getD k []=c.tb (c.cs.getD k 0):=by
 unfold ClD.tbs
 rw[yz,yc,(o.csG hk).1]
 rfl
theorem ClD.Ok.tbL(o:c.Ok):c.tbs.length=c.n+1:=by unfold ClD.tbs;rw[ya,o.csL]
theorem ClD.Ok.shown(o:c.Ok){t:Int}(ht:1≤t){us:List Tri}(pm:us.Perm (c.us0 t)){m:Nat}{sts:List Stp}(p:Ppr c.X m us sts):cz c.D c.hs c.ps c.ss c.ns sts c.tbs=true:=by
 rw[o.shwS,o.tbL,p.nil fun q=>o.ends ht pm q,decide_eq_true rfl]
 refine yL.mpr fun k hk=>?_
 have:=yu.mp hk
 rw[o.tbG (by lia)]
 exact o.brk (by lia)
end My
namespace L2
open PySem PySem.Spec PyProof.Rows
noncomputable def lN(X:Cx)(pins:List (Addr×Obj))(σ:St)(H:Hp)(s:Shared)(v:Value)(ns:List Int):Prop :=
 ∀(Q':List Value→Shared→Prop) (E:Value→Shared→Prop),(∀(s1:Shared) (vs:List Value),Inv X pins σ H s1→aO (ns.map V.int) vs→Q' vs s1)→wpAny (model X.prog X.w) X.A.in1 (collect v) Q' E s
theorem gW:∀{ns:List Int} {vs:List Value},aO (ns.map V.int) vs→IntsAre vs ns
 | [],_,.nil=>.nil
 | n::ns,_,.cons r t=>by
  obtain⟨tk,rfl⟩:=r
  exact .cons n tk (gW t)
theorem m8:∀{ns:List Int} {vs:List Value},IntsAre vs ns→aO (ns.map V.int) vs
 | _,_,.nil=>.nil
 | _,_,.cons n t h=>.cons ⟨t,rfl⟩ (m8 h)
section
variable{X:Cx}{pins:List (Addr×Obj)}{σ:St}{H:Hp}{s:Shared}{v:Value}{ns:List Int}{Q:VK}
theorem og(C:lN X pins σ H s v ns)(hz:ns.length<64)(h:∀(l:Addr) (ns':List Int),H l=none→ns'.Perm ns→ns'.Pairwise (·≤·)→Q (.ref l) (upd H l (.lst (ns'.map V.int)))) :
  wpAny (model X.prog X.w) X.A (call (.builtin "sorted") [v]) (EP X pins σ Q) X.xe s:=by
 refine Calls.call_function_entry kind_sorted plain_sorted entry_sorted (args_sorted1 _) ?_
 unfold Builtin.«sorted»
 refine wpAny_bind (m:=checkCount "sorted" 1 1 _) (wpAny_pure ?_)
 refine wpAny_bind (C _ _ fun s1 vs I1 rv=>?_)
 have vl:=rv.length
 rw[ya] at vl
 refine wpAny_bind (wpAny_newList ?_ (My.aL (by lia)))
 have hoL:(s1.heap.push (seqObj "list" vs.toArray 0)).get? s1.heap.objs.size=some (seqObj "list" vs.toArray 0):=Heap.get?_push_size _ rfl
 refine wpAny_bind (wpAny_holding (wpAny_call_entry slot_list_sort ⟨_,hoL,rfl⟩ entry_list_sort (list_sort_tree (s:={ s1 with heap:=s1.heap.push (seqObj "list" vs.toArray 0) }) hoL (gW rv) (by lia) fun out ns' a1 a2 a3=>⟨_,rfl,?_⟩) (args_list_sort _)))
 refine wpAny_pure ⟨_,rfl,.ref s1.heap.objs.size,_,?_,rfl,h _ ns' (I1.hok.fresh (yi _)) a2 a3⟩
 obtain⟨c,hc⟩:=sortedHeap_at (vs:=vs) (out:=out) hoL
 refine I1.laid (t':=s1.toks) (o:=.lst (ns'.map V.int)) (fun b u e=>?_) (yi _) ⟨by rw[ya,a2.length_eq];exact My.aL (by lia),out.toList,c,m8 a1,by simpa using hc⟩
 have hlt:b<s1.heap.objs.size:=Heap.lt_size e
 rw[sortedHeap_old (yE hlt) (by rw[size_push'];exact ySa hlt)]
 exact Heap.get?_push_of_some _ e
theorem iW{l:Addr}(I:Inv X pins σ H s)(hl:SqL X.K H l (ns.map V.int)):lN X pins σ H s (.ref l) ns:=by
 intro Q' E h
 obtain⟨its,rv,pl,hz⟩:=I.list hl
 have vl:=rv.length
 refine collect_list pl.isList (h _ its (I.kept (t':=s.toks) fun b o q=>?_) rv) (by lia)
 have hlt:b<s.heap.objs.size:=Heap.lt_size q
 rw[Heap.get?_update_ne _ _ _ _ (yE hlt),Heap.get?_push_ne _ _ _ (yE hlt)]
 exact q
end
section
variable{X:Cx}
noncomputable def re(K:PySem.W.Frag):List V→Hp→VK→Prop:=fun xs H Q=>∃(a:Addr) (ns:List Int),xs=[.ref a]∧SqL K H a (ns.map V.int)∧ns.length≤63∧∀(l:Addr) (ns':List Int),H l=none→ns'.Perm ns→ns'.Pairwise (·≤·)→Q (.ref l) (upd H l (.lst (ns'.map V.int)))
theorem l6:b6 X (.builtin "sorted") (re X.K):=by
 intro pins s σ H xs us Q I r h
 obtain⟨a,ns,rfl,hl,hz,q⟩:=h
 obtain⟨u,rfl,rx⟩:=aO.one r
 cases rx
 exact og (iW I hl) (by lia) q
end
end L2
namespace My
open PySem L2
variable{c:ClD}
theorem mZ{d:Int}{hs:List Int}{ps:List Pst}{ss:List Sp4}{ns:List Int}{sts:List Stp}{tabs:List (List (List Int))}(h:dn ss.length (-1) ns=false):cz d hs ps ss ns sts tabs=false:=by
 unfold cz
 rw[h]
 rfl
theorem sD{d:Int}{hs:List Int}{ps:List Pst}{ss:List Sp4}{ns:List Int}{sts:List Stp}{tabs:List (List (List Int))}(h:tabs.length≠ns.length):cz d hs ps ss ns sts tabs=false:=by
 unfold cz
 rw[decide_eq_false h,yX,yja]
theorem j8{d:Int}{hs:List Int}{ps:List Pst}{ss:List Sp4}{ns:List Int}{sts:List Stp}{tabs:List (List (List Int))}(h:cP (bX (dQ ((ns.map fun n=>ss.getD n.toNat ⟨0,0,0,0⟩).map (aT d.toNat hs.length ps)) hs ps d) sts)=false):cz d hs ps ss ns sts tabs=false:=by
 unfold cz
 rw[h,yX,yja,yja]
theorem gY{d:Int}{hs:List Int}{ps:List Pst}{ss:List Sp4}{ns:List Int}{sts:List Stp}{tabs:List (List (List Int))}{k:Nat}{rows:List (List Int)}(hk:tabs[k]? = some rows)(h:fF d hs ps ((ns.map fun n=>ss.getD n.toNat ⟨0,0,0,0⟩).map (aT d.toNat hs.length ps)) rows k=false):cz d hs ps ss ns sts tabs=false:=by
 unfold cz
 have:(List.range tabs.length).all (fun k=>fF d hs ps ((ns.map fun n=>ss.getD n.toNat ⟨0,0,0,0⟩).map (aT d.toNat hs.length ps)) (tabs.getD k []) k)=false:=by
  rw[yqb]
  refine⟨k,yu.mpr (List.getElem?_eq_some_iff.mp hk).1,?_⟩
  rw[yz,hk,yP,h]
  decide
 rw[this,yja,yja,yja]
theorem Ppr.ctx{x y:Ctx}{m:Nat}{us:List Tri}{sts:List Stp}(p:Ppr x m us sts)(h1:x.n=y.n)(h2:x.D=y.D)(h3:x.own=y.own):Ppr y m us sts:=by
 cases p with
 | one=>exact .one
 | par h d f l=>exact .par h d (by rw[← h1,← h2];exact f) (by rw[← h3];exact l)
theorem ClD.Ok.bad_drop(o:c.Ok){t:Int}{us:List Tri}(pm:us.Perm (c.us0 t)){m:Nat}(m1:1≤m){sts:List Stp}(p:Ppr c.X m us sts){a:Nat}(ha:a≤c.n)(tabs:List (List (List Int))):cz c.D c.hs c.ps c.ss (c.ns.take a++c.ns.drop (a+1)) sts tabs=false:=by
 refine j8 (Ppr.bad (p.ctx rfl rfl rfl) m1 fun q=>?_)
 show i8 _ us q _ _ _=false
 unfold i8
 rw[yab]
 left
 rw[yqb]
 refine⟨c.u0 t c.n,pm.mem_iff.mpr (List.mem_map.mpr ⟨c.n,yu.mpr (by lia),rfl⟩),?_⟩
 unfold My.okU ClD.u0
 rw[pT]
 ·show ¬(false&&_)=true
  rw[yX]
  decide
 ·rw[ya,ya,yd,yf,yw,show c.ns.length=c.n+1 by unfold ClD.ns;rw[ya,o.nsL]]
  lia
theorem ClD.Ok.nsG(o:c.Ok){k:Nat}(hk:k≤c.n){x:Int}(h:c.ns[k]? = some x):c.ss.getD x.toNat ⟨0,0,0,0⟩=c.rl (c.cs.getD k 0):=by
 have e:=congrArg (fun l=>l[k]?) c.chos
 simp only[yc,h,(o.csG hk).1,yT] at e
 exact yt e
theorem ClD.Ok.bad_more(o:c.Ok){x:Int}{ns':List Int}(hx:x∉c.ns)(hp:ns'.Perm (c.ns++[x]))(hs':ns'.Pairwise (·≤·))(sts:List Stp){tabs:List (List (List Int))}(ht:tabs=c.tbs++c.tbs.take 1):cz c.D c.hs c.ps c.ss ns' sts tabs=false:=by
 subst ht
 have nl:c.ns.length=c.n+1:=by unfold ClD.ns;rw[ya,o.nsL]
 have hin:x∈ns':=hp.mem_iff.mpr (yB _ (List.mem_singleton.mpr rfl))
 obtain⟨A,B,e⟩:=List.append_of_mem hin
 have h1:(A++B).Perm c.ns:=by
  have h2:(x::(A++B)).Perm (x::c.ns):=by
   refine List.perm_middle.symm.trans ?_
   rw[← e]
   exact hp.trans (ylb x c.ns)
  exact h2.cons_inv
 have h2:(A++B).Pairwise (·≤·):=by
  rw[e] at hs'
  rw[yIb] at hs' ⊢
  obtain⟨a1,a2,a3⟩:=hs'
  rw[yjb] at a2
  exact⟨a1,a2.2,fun u hu v hv=>a3 u hu v (yj _ hv)⟩
 have h3:c.ns.Pairwise (·≤·):=(g9 o.ris).imp fun h=>Int.le_of_lt h
 have h4:A++B=c.ns:=h1.eq_of_pairwise (fun a b _ _ h g=>Int.le_antisymm h g) h2 h3
 rw[e]
 cases B with
 | nil =>
  rw[yI] at h4
  have g0:=o.csG (yH c.n)
  have i0:0<c.ns.length:=by lia
  refine gY (k:=c.n+1) (rows:=c.tb (c.cs.getD 0 0)) ?_ ?_
  ·rw[yM (by rw[o.tbL];exact yi _),o.tbL,yvb,yPb,if_pos (by decide)]
   unfold ClD.tbs
   rw[yc,g0.1]
   rfl
  ·refine gd (r:=0) (ls:=aT c.D c.n c.ps (c.rl (c.cs.getD 0 0))) ?_ (by lia) (o.broke g0.2)
   rw[yc,yc,h4,yZ i0,yb i0,yT,yT,o.nsG (yH _) (yb i0),o.hl,yh]
 | cons b B =>
  have hq:A.length≤c.n:=by
   have:=congrArg List.length h4
   rw[yd,yp,nl] at this
   lia
  have g0:=o.csG hq
  have hb:c.ns[A.length]? = some b:=by rw[← h4,yM (yi _),yvb];rfl
  refine gY (k:=A.length) (rows:=c.tb (c.cs.getD A.length 0)) ?_ ?_
  ·rw[yZ (by rw[o.tbL];lia)]
   unfold ClD.tbs
   rw[yc,g0.1]
   rfl
  ·refine gd (r:=A.length+1) (ls:=aT c.D c.n c.ps (c.rl (c.cs.getD A.length 0))) ?_ (by lia) (o.broke g0.2)
   rw[yc,yc,yM (by lia),show A.length+1-A.length=1 by lia]
   show Option.map _ (Option.map _ (some b))=_
   rw[yT,yT,o.nsG hq hb,o.hl,yh]
theorem ClD.Ok.bad_swap(o:c.Ok){a:Nat}{x y:Int}(hx:c.ns[a]? = some x)(hy:c.ns[a+1]? = some y)(sts:List Stp)(tabs:List (List (List Int))):cz c.D c.hs c.ps c.ss (c.ns.take a++[y,x]++c.ns.drop (a+2)) sts tabs=false:=by
 refine mZ ?_
 cases z:dn c.ss.length (-1) (c.ns.take a++[y,x]++c.ns.drop (a+2)) with
 | false=>rfl
 | true =>
  have h1:=g9 z
  rw[yHa,yIb] at h1
  have h2:=h1.2.1
  have h3:y<x:=(yjb.mp h2).1 x yq
  have h4:=List.pairwise_iff_getElem.mp (g9 o.ris) a (a+1) (List.getElem?_eq_some_iff.mp hx).1 (List.getElem?_eq_some_iff.mp hy).1 (by lia)
  rw[(List.getElem?_eq_some_iff.mp hx).2,(List.getElem?_eq_some_iff.mp hy).2] at h4
  lia
theorem ClD.Ok.bad_in(o:c.Ok){ns':List Int}{x:Int}(hm:x∈ns')(hx:x<0∨(c.N:Int)≤x)(sts:List Stp)(tabs:List (List (List Int))):cz c.D c.hs c.ps c.ss ns' sts tabs=false:=by
 refine mZ ?_
 cases z:dn c.ss.length (-1) ns' with
 | false=>rfl
 | true =>
  have:=dI z x hm
  have e:c.ss.length=c.N:=by unfold ClD.ss;rw[ya,o.len]
  omega
theorem ClD.Ok.bad_len(o:c.Ok)(sts:List Stp){tabs:List (List (List Int))}(h:tabs.length≠c.n+1):cz c.D c.hs c.ps c.ss c.ns sts tabs=false:=sD (by rw[show c.ns.length=c.n+1 by unfold ClD.ns;rw[ya,o.nsL]];exact h)
noncomputable def ClD.wr(c:ClD)(i:Nat):List (List Int):=if 0<i then c.tb 0 else c.tb 1
noncomputable def ClD.wrs(c:ClD):List (List (List Int)):=c.cs.map c.wr
theorem ClD.Ok.chT(o:c.Ok):((c.ns.map fun n=>c.ss.getD n.toNat ⟨0,0,0,0⟩).map (aT ((c.D:Int)).toNat c.hs.length c.ps))=c.S:=by
 rw[c.chos,o.hl,yh]
 rfl
theorem pP{α:Type}{xs:List α}{a:Nat}(ha:a<xs.length)(w:α):(xs.take a++[w]++xs.drop (a+1))[a]? = some w:=by
 rw[yHa,yM (by rw[yf];lia),yf,show a-min a xs.length=0 by lia]
 rfl
theorem ClD.Ok.bad_wrong(o:c.Ok){a:Nat}(ha:a≤c.n)(sts:List Stp){w:List (List Int)}(hw:c.wrs[a]? = some w):cz c.D c.hs c.ps c.ss c.ns sts (c.tbs.take a++[w]++c.tbs.drop (a+1))=false:=by
 obtain⟨g1,g2⟩:=o.csG ha
 have ew:w=c.wr (c.cs.getD a 0):=by
  unfold ClD.wrs at hw
  rw[yc,g1] at hw
  exact(yt hw).symm
 refine gY (k:=a) (pP (by rw[o.tbL];lia) w) ?_
 rw[o.chT,ew]
 obtain⟨i,hi,hne,ei⟩:∃i,i≤c.n∧i≠c.cs.getD a 0∧c.wr (c.cs.getD a 0)=c.tb i:=by
  unfold ClD.wr
  by_cases z:0<c.cs.getD a 0
  ·exact⟨0,by lia,by lia,by rw[if_pos z]⟩
  ·exact⟨1,o.n1,by lia,by rw[if_neg z]⟩
 obtain⟨r,hr⟩:=yKa (o.csM.mpr hi)
 rw[ei]
 refine gd (ClD.SG hr) (fun z=>hne ?_) (o.broke hi)
 rw[z,g1] at hr
 exact(yt hr).symm
theorem ClD.Ok.bad_odd(o:c.Ok){a:Nat}(ha:a≤c.n)(sts:List Stp){w:List (List Int)}(hw:bI c.D c.hs c.ps w=false):cz c.D c.hs c.ps c.ss c.ns sts (c.tbs.take a++[w]++c.tbs.drop (a+1))=false:=by
 refine gY (k:=a) (pP (by rw[o.tbL];lia) w) ?_
 unfold fF
 rw[hw]
 rfl
theorem ClD.Ok.no_tab(o:c.Ok){w:List (List Int)}{row:List Int}{h:Nat}{v:Int}(hr:w[h]? = some row)(hv:v∈row)(h3:v<0∨(c.ps.length:Int)<v):bI c.D c.hs c.ps w=false:=by
 cases z:bI c.D c.hs c.ps w with
 | false=>rfl
 | true =>
  unfold bI at z
  rw[yK,yL] at z
  have z:=z.2 h (yu.mpr (List.getElem?_eq_some_iff.mp hr).1)
  unfold kc at z
  rw[hr,yP] at z
  unfold eU at z
  rw[yK,yL] at z
  have z:=of_decide_eq_true (z.2 v hv)
  rw[o.own] at z
  rcases List.mem_cons.mp z with e | e
  ·lia
  ·have:=iI e
   lia
theorem ClD.Ok.bad_cut(o:c.Ok){t:Int}(h1:1≤t){us:List Tri}(pm:us.Perm (c.us0 t)){m:Nat}(m1:1≤m){sts:List Stp}(p:Ppr c.X m us sts)(tabs:List (List (List Int))):cz c.D c.hs c.ps c.ss c.ns sts.dropLast tabs=false:=by
 refine j8 ?_
 rw[o.chT]
 exact p.cut m1 fun q=>o.ends h1 pm q
theorem tH{α:Type}{xs:List α}{a:Nat}{x y:α}(nd:xs.Nodup)(ha:xs[a]? = some x)(hy:y∈xs.take a++xs.drop (a+1)):y∈xs∧y≠x:=by
 have hl:=(List.getElem?_eq_some_iff.mp ha).1
 have e:xs=xs.take a++x::xs.drop (a+1):=by
  rw[← (List.getElem?_eq_some_iff.mp ha).2,← yPa hl,ywa]
 rw[e] at nd
 have h1:(x::(xs.take a++xs.drop (a+1))).Nodup:=List.perm_middle.nodup_iff.mp nd
 rw[yW] at h1
 refine⟨?_,fun z=>h1.1 (z ▸ hy)⟩
 rw[e]
 rcases List.mem_append.mp hy with h | h
 ·exact yha _ h
 ·exact yB _ (yj _ h)
theorem ClD.Ok.bad_sum(o:c.Ok){t:Int}(h1:1≤t){us:List Tri}(pm:us.Perm (c.us0 t)){a:Nat}(ha:a≤c.n)(tabs:List (List (List Int))):cz c.D c.hs c.ps c.ss c.ns [.sum (us.take a++us.drop (a+1))] tabs=false:=by
 refine j8 ?_
 rw[o.chT]
 have ul:us.length=c.n+1:=by rw[pm.length_eq];unfold ClD.us0;rw[ya,yo]
 have ui:Function.Injective (c.u0 t):=fun x y z=>by
  have z:=congrArg (fun u:Tri=>u.1) z
  have z:(x:Int)=(y:Int):=z
  lia
 have nd:us.Nodup:=by
  rw[pm.nodup_iff]
  unfold ClD.us0
  rw[List.Nodup,List.pairwise_map]
  exact List.Pairwise.imp (fun h z=>h (ui z)) (yYa (n:=c.n+1))
 have hal:a<us.length:=by lia
 have hx:=yb hal
 obtain⟨k,hk,ek⟩:=List.mem_map.mp (pm.mem_iff.mp (yO hal))
 have hk:k≤c.n:=by have:=yu.mp hk;lia
 obtain⟨g1,g2⟩:=o.csG hk
 have key:∀u∈us.take a++us.drop (a+1),∃j,j≤c.n∧j≠c.cs.getD k 0∧My.lnAt c.S u=some (c.lnOf j)∧u.2.2=t:=fun u hu=>by
  obtain⟨m1,m2⟩:=tH nd hx hu
  obtain⟨k',hk',rfl⟩:=List.mem_map.mp (pm.mem_iff.mp m1)
  have hk':k'≤c.n:=by have:=yu.mp hk'; lia
  obtain⟨f1,f2⟩:=o.csG hk'
  refine⟨c.cs.getD k' 0,f2,fun z=>m2 ?_,o.lnU t hk',rfl⟩
  rw[← ek]
  rw[z,← g1] at f1
  rw[(List.getElem?_inj (by rw[o.csL];lia) o.csN).mp f1]
 have h0:c.X.E (us.take a++us.drop (a+1)) []=false:=by
  show i8 c.S _ [] (fun h=>ch (c.hs[h]?.getD 0) c.ps) c.hs.length ((c.D:Int)).toNat=false
  unfold i8
  rw[yab]
  right
  refine decide_eq_false ?_
  rw[o.hl,yh]
  have h2:=qB (rows:=c.tb (c.cs.getD k 0)) (p:=[]) (own:=fun h=>ch (c.hs[h]?.getD 0) c.ps) (n:=c.n) (D:=c.D) (P:=c.ps.length+1) (ls:=usL c.S (us.take a++us.drop (a+1))) Agr.nil (fun h d hh hd=>by
   show val (tabO _ _ _ _ _) h d∈ch _ _
   rw[iP hh hd,o.own]
   split
   ·exact yj _ o.hp
   ·exact yq) (fun l hl=>by
   obtain⟨u,hu,rfl⟩:=List.mem_map.mp hl
   obtain⟨j,j1,j2,j3,j4⟩:=key u hu
   show ∀q∈((My.lnAt c.S u).getD iU).ps,_
   rw[j3]
   obtain⟨a1,a2⟩:=o.k3 (i:=j) (by unfold ClD.N;lia)
   have h5:=uz a1 a2 (by have:=o.D1;lia) (by have:=o.D31;lia) o.P2 o.n8
   rw[yh] at h5
   exact(h5.2.2 _ (yk (o.lnAt j1).2)).2)
  have h3:eY (usL c.S (us.take a++us.drop (a+1)))≤((usL c.S (us.take a++us.drop (a+1))).map fun l=>tot (c.tb (c.cs.getD k 0)) l.1.ps*l.2).sum:=by
   unfold eY
   refine lX fun l hl=>?_
   obtain⟨u,hu,rfl⟩:=List.mem_map.mp hl
   obtain⟨j,j1,j2,j3,j4⟩:=key u hu
   show((My.lnAt c.S u).getD iU).b*u.2.2≤tot _ ((My.lnAt c.S u).getD iU).ps*u.2.2
   rw[j3,j4]
   have:=o.kept g2 (k:=j) (by unfold ClD.N;lia) j2 _ (yk (o.lnAt j1).2)
   exact Int.mul_le_mul_of_nonneg_right this (by lia)
  lia
 show cP (cV c.X ([]++[[]]) (.sum _))=false
 rw[ck,if_neg (by rw[show cN c.X [] (.sum (us.take a++us.drop (a+1)))=c.X.E _ [] from rfl,h0];decide)]
 rfl
theorem ClD.Ok.rota_bad(o:c.Ok){is:List Nat}{i:Nat}(hi:i≤c.n)(hm:i∈is):bA (c.tb i) ((is.map c.rl).map (aT c.D c.n c.ps))≠[]:=fun z=>by
 obtain⟨r,hr⟩:=yKa hm
 obtain⟨f,hf,_⟩:=kB (sums:=(is.map c.rl).map (aT c.D c.n c.ps)) (r:=r) (by rw[yc,yc,hr];rfl) (o.broke hi)
 rw[z] at hf
 cases hf
theorem ClD.Ok.rota_good(o:c.Ok){is:List Nat}{i:Nat}(hi:i≤c.n)(hm:i∉is)(hN:∀j∈is,j<c.N):bA (c.tb i) ((is.map c.rl).map (aT c.D c.n c.ps))=[]:=by
 refine mr fun ls hls=>?_
 obtain⟨s,hs,rfl⟩:=List.mem_map.mp hls
 obtain⟨j,hj,rfl⟩:=List.mem_map.mp hs
 exact o.kept hi (hN j hj) fun z=>hm (z ▸ hj)
end My
namespace My
open PySem L2
theorem de{α β:Type}{F:α→β→Prop}:∀{xs:List α} {ys:List β} (n:Nat),Paired F xs ys→Paired F (xs.take n) (ys.take n)
 | _,_,0,_=>by rw[ypa,ypa];exact .nil
 | _,_,n+1,.nil=>.nil
 | _,_,n+1,.cons a r=>.cons a (de n r)
theorem fO{α β:Type}{F:α→β→Prop}:∀{xs:List α} {ys:List β} (n:Nat),Paired F xs ys→Paired F (xs.drop n) (ys.drop n)
 | _,_,0,h=>h
 | _,_,n+1,.nil=>.nil
 | _,_,n+1,.cons _ r=>fO n r
theorem xu{α β:Type}{F:α→β→Prop}{x:α}{y:β}(h:F x y):∀n,Paired F (List.replicate n x) (List.replicate n y)
 | 0=>.nil
 | n+1=>.cons h (xu h n)
theorem wo{α:Type}(x:α):∀n,(List.replicate n [x]).flatten=List.replicate n x
 | 0=>rfl
 | n+1=>by rw[yU,yxa,wo x n,yU];rfl
structure RlG(C:Nat→Addr)(P:Nat)(H:Hp)(L:Addr)(ss:List Sp4)(H':Hp):Prop where
 ex:∃us:List V,aA H H'∧H' L=some (.lst us)∧cy C P H' us ss
theorem RlG.same{C:Nat→Addr}{P:Nat}{H H':Hp}{L:Addr}{ss:List Sp4}(h:RlG C P H L ss H'):aA H H':=by
 obtain⟨_,g,_⟩:=h.ex
 exact g
theorem RlG.step{C:Nat→Addr}{P:Nat}{H H' H2:Hp}{L x:Addr}{ss:List Sp4}{s:Sp4}(h:RlG C P H L ss H')(hL:H L=none)(hi:ss.length≤900)(g2:aA H' H2)(hx:qZ C P H2 (.ref x) s) :
  ∃xs,H2 L=some (.lst xs)∧xs.length<sizeLine∧RlG C P H L (ss++[s]) (upd H2 L (.lst (xs++[.ref x]))):=by
 obtain⟨us,g,e,hS⟩:=h.ex
 have hul:=Paired.length hS
 have eL:=g2 _ _ e
 refine⟨us,eL,aE (by lia),us++[.ref x],aI hL (g.trans g2) _,af,?_⟩
 exact Paired.mapP (aP (cy.mono g2 hS) hx) fun _ _ ⟨y,dy,ey,qy⟩=>⟨y,dy,ey,by rw[av (fun z=>by rw[z,eL] at qy;cases qy)];exact qy⟩
theorem ko{H:Hp}{x dx C:Addr}{fs:List (Str×V)}(hx:H x=none)(hdx:H dx=none)(nx:dx≠x):aA H (upd (upd (upd H dx (.own x)) x (.ins C dx [])) x (.ins C dx fs)):=by
 rw[cf]
 have h2:upd H dx (.own x) x=none:=by rw[av nx.symm];exact hx
 exact(ah hdx _).trans (ah h2 _)
structure cX(H:Hp)(t:Addr)(ns:List Int)(sts:List Stp)(tabs:List (List (List Int))):Prop where
 ex:∃(n pl rl:Addr) (uv ut:List V),H t=some (.tup [.str "clash",.ref n,.ref pl,.ref rl])∧H n=some (.lst (ns.map V.int))∧H pl=some (.lst uv)∧cn H uv sts∧H rl=some (.lst ut)∧cm H ut tabs
theorem cX.mono{H H':Hp}{t:Addr}{ns:List Int}{sts:List Stp}{tabs:List (List (List Int))}(h:cX H t ns sts tabs)(g:aA H H'):cX H' t ns sts tabs:=by
 obtain⟨n,pl,rl,uv,ut,e1,e2,e3,e4,e5,e6⟩:=h.ex
 exact⟨n,pl,rl,uv,ut,g _ _ e1,g _ _ e2,g _ _ e3,cn.tmono (az g) e4,g _ _ e5,cm.mono g e6⟩
noncomputable def jb:Stp→Prop
 | .sum us=>jT us
 | .part _ _=>True
 | .oth _=>False
structure jo(ns:List Int)(sts:List Stp)(tabs:List (List (List Int))):Prop where
 nl:ns.length≤20
 sl:sts.length≤20
 su:∀st∈sts,jb st
 tl:tabs.length≤20
 tt:∀t∈tabs,t.length≤40∧∀row∈t,row.length≤40
theorem jb.us:∀{st:Stp},jb st→oA st
 | .sum _,h=>h
 | .part _ _,_=>True.intro
 | .oth _,h=>h.elim
noncomputable def stD:Stp→DV
 | .part h d=>.tup [.str "part",.int h,.int d]
 | .sum us=>.tup [.str "sum",.tup (us.map tD3)]
 | .oth _=>.non
theorem jV{K:PySem.W.Frag}{H:Hp}{n:Nat}{s:Str}:Den K H n (.str s) (.str s):=by cases n <;> exact rfl
theorem pH{K:PySem.W.Frag}{H:Hp}{n:Nat}{a:Addr}{us:List V}{ts:List Tri}(h:H a=some (.tup us))(hT:cU H us ts):Den K H (n+2) (.ref a) (.tup (ts.map tD3)):=by
 refine⟨_,SqT.of h,?_⟩
 clear h
 induction hT with
 | nil=>exact .nil
 | cons x _ ih =>
  obtain⟨t,rfl,e⟩:=x
  exact .cons ⟨_,SqT.of e,.cons cS (.cons cS (.cons cS .nil))⟩ ih
theorem tU{K:PySem.W.Frag}{H:Hp}{n:Nat}{v:V}:∀{st:Stp},eI H v st→jb st→Den K H (n+3) v (stD st)
 | .part h d,⟨t,e,q⟩,_=>by subst e;exact⟨_,SqT.of q,.cons jV (.cons cS (.cons cS .nil))⟩
 | .sum us,⟨t,ut,uv,e,q,r,z⟩,_=>by subst e;exact⟨_,SqT.of q,.cons jV (.cons (pH r z) .nil)⟩
 | .oth s,_,h=>h.elim
theorem lx{K:PySem.W.Frag}{H:Hp}{n:Nat}{us:List V}{sts:List Stp}(h:cn H us sts):(∀st∈sts,jb st)→Paired (Den K H (n+3)) us (sts.map stD):=by
 induction h with
 | nil=>intro _;exact .nil
 | cons a _ ih=>intro o;exact .cons (tU a (o _ yq)) (ih fun st hs=>o st (yj _ hs))
theorem qu{K:PySem.W.Frag}{H:Hp}{n:Nat}{us:List V}{ts:List (List (List Int))}(h:cm H us ts):Paired (Den K H (n+2)) us (ts.map tD):=by
 induction h with
 | nil=>exact .nil
 | cons a _ ih =>
  obtain⟨r,us,rfl,e,q⟩:=a
  exact .cons (qG (SqL.of e) q) ih
noncomputable def AH(ns:List Int)(sts:List Stp)(tabs:List (List (List Int))):DV:=.tup [.str "clash",.lst (ns.map DV.int),.lst (sts.map stD),.lst (tabs.map tD)]
theorem cX.den{K:PySem.W.Frag}{H:Hp}{t:Addr}{ns:List Int}{sts:List Stp}{tabs:List (List (List Int))}(h:cX H t ns sts tabs)(o:∀st∈sts,jb st):Den K H 5 (.ref t) (AH ns sts tabs):=by
 obtain⟨n,pl,rl,uv,ut,e1,e2,e3,e4,e5,e6⟩:=h.ex
 exact⟨_,SqT.of e1,.cons jV (.cons (fH (SqL.of e2)) (.cons ⟨_,SqL.of e3,lx e4 o⟩ (.cons ⟨_,SqL.of e5,qu e6⟩ .nil)))⟩
variable{c:ClD}
theorem ClD.Ok.all(o:c.Ok){is:List Nat}(h:∀i∈is,i<c.N):(∀s∈is.map c.rl,K3 s)∧(∀s∈is.map c.rl,kg c.D c.hs.length c.ps.length s)∧(∀s∈is.map c.rl,i7 c.hs.length ((c.D:Int)).toNat (c.ps.length+1) (aT ((c.D:Int)).toNat c.hs.length c.ps s))∧(∀s∈is.map c.rl,oj c.D c.hs.length (aT ((c.D:Int)).toNat c.hs.length c.ps s)):=by
 have key:∀s∈is.map c.rl,K3 s∧kg c.D c.hs.length c.ps.length s:=fun s hs=>by
  obtain⟨i,hi,rfl⟩:=List.mem_map.mp hs
  have:=o.k3 (h i hi)
  rw[o.hl]
  exact this
 have f:∀s∈is.map c.rl,_:=fun s hs=>uz (key s hs).1 (key s hs).2 (by have:=o.D1;lia) (by have:=o.D31;lia) o.P2 (by rw[o.hl];exact o.n8)
 exact⟨fun s hs=>(key s hs).1,fun s hs=>(key s hs).2,fun s hs=>(f s hs).2,fun s hs=>(f s hs).1⟩
theorem ClD.Ok.osN(o:c.Ok):∀i∈c.os,i<c.N:=fun i hi=>yu.mp (o.pm.mem_iff.mp hi)
theorem ClD.Ok.usO(o:c.Ok){t:Int}(h0:1≤t)(h1:t≤1000000000){us:List Tri}(pm:us.Perm (c.us0 t)):jT us:=by
 refine⟨?_,fun u hu=>?_⟩
 ·rw[pm.length_eq]
  unfold ClD.us0
  rw[ya,yo]
  have:=o.n8
  lia
 ·obtain⟨k,_,rfl⟩:=List.mem_map.mp (pm.mem_iff.mp hu)
  exact⟨by show -(2 ^ 40)<t;lia,by show t<2 ^ 40;lia⟩
theorem Ppr.last{x:Ctx}{m:Nat}{us:List Tri}{sts:List Stp}(p:Ppr x m us sts)(m1:1≤m):∃ini,sts=ini++[.sum us]∧sts.length≤m+1∧∀st∈sts,st=.sum us∨∃h d,st=.part h d:=by
 cases p with
 | one=>exact⟨[],rfl,by rw[yx];lia,fun st h=>.inl (List.mem_singleton.mp h)⟩
 | par h d f l =>
  obtain⟨m',rfl⟩:∃m',m=m'+1:=⟨m-1,by lia⟩
  refine⟨.part h d::List.replicate m' (.sum us),?_,?_,fun st hs=>?_⟩
  ·rw[yHb,yJa]
  ·rw[yp,yG];lia
  ·rcases List.mem_cons.mp hs with e | e
   ·exact .inr ⟨h,d,e⟩
   ·exact .inl (yxb e)
theorem sP{n D:Nat}{h:Int}{d:Nat}{p:Int}(hn:n≤8)(hD:D≤31):(tabO n D h d p).length≤40∧∀row∈tabO n D h d p,row.length≤40:=by
 refine⟨by rw[df];lia,fun row hr=>?_⟩
 unfold tabO at hr
 obtain⟨i,_,rfl⟩:=List.mem_map.mp hr
 rw[ya,yo]
 lia
theorem ClD.Ok.tbO(o:c.Ok)(i:Nat):(c.tb i).length≤40∧∀row∈c.tb i,row.length≤40:=sP o.n8 o.D31
inductive iX(N:Nat)(xs:List Int)(k:Nat):List Int→Prop where
 | more (x:Int) (ys:List Int):x∉xs→ys.Perm (xs++[x])→ys.Pairwise (·≤·)→iX N xs k ys
 | last:iX N xs k (xs.dropLast++[(N:Int)])
 | first (x:Int):xs[0]? = some x→iX N xs k ((x-(N:Int))::xs.drop 1)
 | drop:iX N xs k (xs.take k++xs.drop (k+1))
inductive kW(tabs:List (List (List Int)))(k:Nat)(wt:List (List Int)):List (List (List Int))→Prop where
 | few:kW tabs k wt (tabs.take k++tabs.drop (k+1))
 | many:kW tabs k wt (tabs.take k++[wt]++tabs.drop k)
 | wrong:kW tabs k wt (tabs.take k++[wt]++tabs.drop (k+1))
 | odd (t:List (List Int)) (x:Int) (xs:List Int):tabs[k]? = some t→t[0]? = some (x::xs)→kW tabs k wt (tabs.take k++[t.set 0 (3::xs)]++tabs.drop (k+1))
inductive oC(ini:List Stp)(ws:List Tri):List Stp→Prop where
 | cut:oC ini ws ini
 | few (k:Nat):k<ws.length→oC ini ws [.sum (ws.take k++ws.drop (k+1))]
end My
namespace My
open PySem L2
theorem wR{D:Nat}(h:D≤900):[V.int 0].length*((D:Int)).toNat≤sizeLine:=by
 rw[yh]
 exact yQa (aE (by show 1*D≤_;lia))
variable{c:ClD}
theorem ClD.Ok.nsK(o:c.Ok){i:Nat}(hi:i≤c.n):∃k:Nat,c.nsN[i]? = some k∧c.ns[i]? = some (k:Int)∧k<c.os.length∧c.os[k]? = some (c.cs.getD i 0):=by
 have hl:i<c.nsN.length:=by rw[o.nsL];lia
 have e:=yb hl
 have hk:=c.nsB (yO hl)
 refine⟨_,e,by unfold ClD.ns;rw[yc,e];rfl,hk,?_⟩
 have h:=congrArg (fun l=>l[i]?) c.nsC
 simp only[yc,e,(o.csG hi).1,yT] at h
 rw[← yt h,yz,yb hk]
 rfl
theorem ClD.Ok.par(o:c.Ok){h d:Nat}(hh:h<c.n)(hd:d<c.D)(ws:List Tri):Ppr c.X (c.ps.length+1) ws (.part h d::List.replicate (c.ps.length+1) (.sum ws)):=by
 refine .par _ _ ?_ ?_
 ·show c5 c.hs.length ((c.D:Int)).toNat [] h d=true
  rw[o.hl,yh]
  unfold c5
  rw[decide_eq_true (show(0:Int)≤(h:Int) by lia),decide_eq_true (show(h:Int)<(c.n:Int) by omega),decide_eq_true (show(0:Int)≤(d:Int) by lia),decide_eq_true (show(d:Int)<(c.D:Int) by lia)]
  rfl
 ·show(ch _ c.ps).length=_
  rw[o.own,yp]
  unfold bN dR
  rw[ya,yo]
theorem qM{α:Type}(xs:List α)(k:Nat):(xs.drop k++xs.take k).Perm xs:=by
 have:=List.perm_append_comm (l₁:=xs.drop k) (l₂:=xs.take k)
 rw[ywa] at this
 exact this
theorem Paired.app2{α β:Type}{F:α→β→Prop}{xs xs':List α}{ys ys':List β}(h:Paired F xs ys)(h':Paired F xs' ys'):Paired F (xs++xs') (ys++ys'):=by
 induction h with
 | nil=>exact h'
 | cons a _ ih=>exact .cons a ih
noncomputable def eO(H:Hp)(Ls:List Addr)(v:V)(rows:List (List Int)):Prop:=∃r us,v=.ref r∧H r=some (.lst us)∧Rows H us rows∧r∉Ls∧∀t,V.ref t∈us→t∉Ls
theorem eO.mono{H H':Hp}(g:aA H H'){Ls:List Addr}{v:V}{rows:List (List Int)}(h:eO H Ls v rows):eO H' Ls v rows:=by
 obtain⟨r,us,e,q,w,n1,n2⟩:=h
 exact⟨r,us,e,g _ _ q,w.mono g,n1,n2⟩
theorem eO.off{H:Hp}{Ls:List Addr}{L:Addr}{o:HO}(hL:L∈Ls){v:V}{rows:List (List Int)}(h:eO H Ls v rows):eO (upd H L o) Ls v rows:=by
 obtain⟨r,us,e,q,w,n1,n2⟩:=h
 exact⟨r,us,e,by rw[av (fun z=>n1 (by rw[z];exact hL))];exact q,w.off fun z=>n2 L z hL,n1,n2⟩
structure RoG(Ls:List Addr)(L:Addr)(tabs:List (List (List Int)))(H:Hp):Prop where
 ex:∃us:List V,H L=some (.lst us)∧Paired (eO H Ls) us tabs
theorem RoG.mono{Ls:List Addr}{L:Addr}{tabs:List (List (List Int))}{H H':Hp}(h:RoG Ls L tabs H)(g:aA H H'):RoG Ls L tabs H':=by
 obtain⟨us,e,p⟩:=h.ex
 exact⟨us,g _ _ e,Paired.mapP p fun _ _=>eO.mono g⟩
theorem RoG.off{Ls:List Addr}{L L2:Addr}{tabs:List (List (List Int))}{H:Hp}{o:HO}(h:RoG Ls L tabs H)(h2:L2∈Ls)(ne:L2≠L):RoG Ls L tabs (upd H L2 o):=by
 obtain⟨us,e,p⟩:=h.ex
 exact⟨us,by rw[av ne.symm];exact e,Paired.mapP p fun _ _=>eO.off h2⟩
theorem RoG.step{Ls:List Addr}{L:Addr}{tabs:List (List (List Int))}{rows:List (List Int)}{H:Hp}{v:V}(h:RoG Ls L tabs H)(hL:L∈Ls)(hl:tabs.length≤900)(hv:eO H Ls v rows):∃xs,H L=some (.lst xs)∧xs.length<sizeLine∧RoG Ls L (tabs++[rows]) (upd H L (.lst (xs++[v]))):=by
 obtain⟨us,e,p⟩:=h.ex
 have:=Paired.length p
 exact⟨us,e,aE (by lia),us++[v],af,Paired.mapP (aP p hv) fun _ _=>eO.off hL⟩
theorem RoG.rots{Ls:List Addr}{L:Addr}{tabs:List (List (List Int))}{H:Hp}(h:RoG Ls L tabs H):∃us,H L=some (.lst us)∧cm H us tabs:=by
 obtain⟨us,e,p⟩:=h.ex
 exact⟨us,e,Paired.mapP p fun _ _ ⟨r,us,a,b,c,_,_⟩=>⟨r,us,a,b,c⟩⟩
theorem eO.of{H H':Hp}{Ls:List Addr}{r:Addr}{us:List V}{rows:List (List Int)}(hr:H r=none)(e:H' r=some (.lst us))(q:Rows H' us rows)(fr:∀t,V.ref t∈us→t≠r∧H t=none)(hs:∀L∈Ls,∃o,H L=some o):eO H' Ls (.ref r) rows:=by
 refine⟨r,us,rfl,e,q,fun z=>?_,fun t ht z=>?_⟩
 ·obtain⟨o,ho⟩:=hs r z
  rw[hr] at ho
  cases ho
 ·obtain⟨o,ho⟩:=hs t z
  rw[(fr t ht).2] at ho
  cases ho
theorem ue{K:PySem.W.Frag}{H:Hp}{n:Nat}{a b:Addr}{ds:List DV}{Q:VK}(h1:Den K H (n+1) (.ref a) (.lst ds))(h2:H b=some (.lst []))(hq:Q (.bl (!decide (ds=[]))) H):Av K n (.ref a) (.ref b) H Q:=by
 refine⟨a,b,.lst ds,.lst [],rfl,rfl,h1,⟨_,SqL.of h2,.nil⟩,la,?_⟩
 have e:eqD (.lst ds) (.lst [])=decide (ds=[]):=by
  unfold eqD
  exact decide_eq_decide.mpr ⟨fun h=>by injection h,fun h=>by rw[h]⟩
 rw[e]
 exact hq
end My
namespace My
open PySem L2
theorem qN{α β:Type}{F:α→β→Prop}:∀{us:List α} {ys:List β} {y:β},Paired F us (ys++[y])→∃us' u,us=us'++[u]∧Paired F us' ys∧F u y
 | _,[],_,.cons a .nil=>⟨[],_,rfl,.nil,a⟩
 | _,_::_,_,.cons a r=>by
  obtain⟨us',u,e,p,q⟩:=qN r
  exact⟨_::us',u,by rw[e];rfl,.cons a p,q⟩
variable{c:ClD}
theorem ClD.Ok.nsl(o:c.Ok):c.ns.length=c.n+1:=by unfold ClD.ns;rw[ya,o.nsL]
theorem ClD.Ok.wrL(o:c.Ok):c.wrs.length=c.n+1:=by unfold ClD.wrs;rw[ya,o.csL]
theorem ClD.Ok.nsIn(o:c.Ok){x:Int}(h:x∈c.ns):0≤x∧x<(c.N:Int):=by
 have:=dI o.ris x h
 have e:c.ss.length=c.N:=by unfold ClD.ss;rw[ya,o.len]
 omega
theorem iX.len{N:Nat}{xs:List Int}{k:Nat}{ys:List Int}(h:iX N xs k ys)(hk:k<xs.length):ys.length≤xs.length+1:=by
 cases h with
 | more x _ _ p _=>rw[p.length_eq,yd];exact yi _
 | last=>rw[yd,yEb,yx];lia
 | first x e=>rw[yp,yw];lia
 | drop=>rw[yd,yf,yw];omega
theorem ClD.Ok.badSet(o:c.Ok){t:Int}{us:List Tri}(pm:us.Perm (c.us0 t)){m:Nat}(m1:1≤m){sts:List Stp}(p:Ppr c.X m us sts){k:Nat}(hk:k≤c.n){ys:List Int}(h:iX c.N c.ns k ys):cz c.D c.hs c.ps c.ss ys sts (c.tbs.take ys.length++c.tbs.take (ys.length-c.tbs.length))=false:=by
 have nl:=o.nsl
 have tl:=o.tbL
 cases h with
 | more x _ hx hp hs =>
  have yl:ys.length=c.n+2:=by rw[hp.length_eq,yd,nl];rfl
  refine o.bad_more hx hp hs sts ?_
  rw[yl,tl,yoa (by lia),show c.n+2-(c.n+1)=1 by lia]
 | last=>exact o.bad_in (yB _ (List.mem_singleton.mpr rfl)) (.inr (yBa _)) _ _
 | first x e=>exact o.bad_in yq (.inl (by have:=o.nsIn (yk e);lia)) _ _
 | drop=>exact o.bad_drop pm m1 p hk _
theorem ClD.Ok.badTab(o:c.Ok)(sts:List Stp){k:Nat}(hk:k≤c.n){wt:List (List Int)}(hw:c.wrs[k]? = some wt){tabs:List (List (List Int))}(h:kW c.tbs k wt tabs):cz c.D c.hs c.ps c.ss c.ns sts tabs=false:=by
 have tl:=o.tbL
 cases h with
 | few=>exact o.bad_len _ (by rw[yd,yf,yw];omega)
 | many=>exact o.bad_len _ (by rw[yd,yd,yf,yw,yx];lia)
 | wrong=>exact o.bad_wrong hk _ hw
 | odd t x xs ht h0 =>
  refine o.bad_odd hk _ (o.no_tab (h:=0) (row:=3::xs) (v:=3) ?_ yq (.inr (by have:=o.P2;lia)))
  rw[ypb,if_pos rfl,if_pos (List.getElem?_eq_some_iff.mp h0).1]
theorem ClD.Ok.badPap(o:c.Ok){t:Int}(h1:1≤t){us:List Tri}(pm:us.Perm (c.us0 t)){m:Nat}(m1:1≤m){ini:List Stp}(p:Ppr c.X m us (ini++[.sum us]))(tabs:List (List (List Int))){sts:List Stp}(h:oC ini us sts):cz c.D c.hs c.ps c.ss c.ns sts tabs=false:=by
 have ul:us.length=c.n+1:=by rw[pm.length_eq];unfold ClD.us0;rw[ya,yo]
 cases h with
 | cut =>
  have:=o.bad_cut h1 pm m1 p tabs
  rw[yza] at this
  exact this
 | few k hk=>exact o.bad_sum h1 pm (by lia) tabs
theorem oC.ok{ini:List Stp}{ws:List Tri}{sts:List Stp}(h:oC ini ws sts)(hi:∀st∈ini++[.sum ws],jb st)(h20:(ini++[Stp.sum ws]).length≤20):sts.length≤20∧∀st∈sts,jb st:=by
 rw[yd,yx] at h20
 cases h with
 | cut=>exact⟨by lia,fun st hs=>hi st (yha _ hs)⟩
 | few k hk =>
  refine⟨by rw[yx];decide,fun st hs=>?_⟩
  rw[List.mem_singleton.mp hs]
  obtain⟨w1,w2⟩:jT ws:=hi _ (yB _ (List.mem_singleton.mpr rfl))
  refine⟨by rw[yd,yf,yw];omega,fun u hu=>w2 u ?_⟩
  rcases List.mem_append.mp hu with h | h
  ·exact yY h
  ·exact yAa h
theorem kW.ok{tabs:List (List (List Int))}{k:Nat}{wt:List (List Int)}{tabs':List (List (List Int))}(h:kW tabs k wt tabs')(hl:tabs.length≤9)(ht:∀t∈tabs,t.length≤40∧∀row∈t,row.length≤40)(hw:wt.length≤40∧∀row∈wt,row.length≤40):tabs'.length≤20∧∀t∈tabs',t.length≤40∧∀row∈t,row.length≤40:=by
 have a1:∀{j:Nat},∀t∈tabs.take j,t.length≤40∧∀row∈t,row.length≤40:=fun t h=>ht t (yY h)
 have a2:∀{j:Nat},∀t∈tabs.drop j,t.length≤40∧∀row∈t,row.length≤40:=fun t h=>ht t (yAa h)
 have mid:∀(w:List (List Int)) (i j:Nat),(w.length≤40∧∀row∈w,row.length≤40)→(tabs.take i++[w]++tabs.drop j).length≤20∧∀t∈tabs.take i++[w]++tabs.drop j,t.length≤40∧∀row∈t,row.length≤40:=fun w i j hw=>by
  refine⟨by rw[yd,yd,yf,yw,yx];omega,fun t h=>?_⟩
  rcases List.mem_append.mp h with h | h
  ·rcases List.mem_append.mp h with h | h
   ·exact a1 t h
   ·rw[List.mem_singleton.mp h];exact hw
  ·exact a2 t h
 cases h with
 | few =>
  refine⟨by rw[yd,yf,yw];omega,fun t h=>?_⟩
  rcases List.mem_append.mp h with h | h
  ·exact a1 t h
  ·exact a2 t h
 | many=>exact mid _ _ _ hw
 | wrong=>exact mid _ _ _ hw
 | odd t x xs e e0 =>
  obtain⟨t1,t2⟩:=ht t (yk e)
  refine mid _ _ _ ⟨by rw[yFa];exact t1,fun row hr=>?_⟩
  rcases yrb hr with h | h
  ·exact t2 row h
  ·rw[h]
   have:=t2 _ (yk e0)
   rw[yp] at this ⊢
   exact this
theorem ClD.Ok.tbT(o:c.Ok):∀t∈c.tbs,t.length≤40∧∀row∈t,row.length≤40:=fun t h=>by
 obtain⟨i,_,rfl⟩:=List.mem_map.mp h
 exact o.tbO i
theorem ClD.Ok.wrT(o:c.Ok):∀t∈c.wrs,t.length≤40∧∀row∈t,row.length≤40:=fun t h=>by
 obtain⟨i,_,rfl⟩:=List.mem_map.mp h
 unfold ClD.wr
 split
 ·exact o.tbO _
 ·exact o.tbO _
theorem ClD.Ok.tbF(o:c.Ok):∀t∈c.tbs,t.length≤40∧∃row x xs,t[0]? = some row∧row=x::xs:=fun t h=>by
 obtain⟨i,_,rfl⟩:=List.mem_map.mp h
 refine⟨(o.tbO i).1,?_⟩
 have e:=dg (D:=c.D) (h:=(i:Int)-1) (d:=c.day) (p:=c.post) (show 0<c.n from o.n1)
 obtain⟨D',hD⟩:∃D',c.D=D'+1:=⟨c.D-1,by have:=o.D1;lia⟩
 cases z:(List.range c.D).map fun j:Nat=>if ((0:Nat):Int)=(i:Int)-1∧j=c.day then c.post else 0 with
 | nil =>
  have:=congrArg List.length z
  rw[ya,yo,yea] at this
  lia
 | cons x xs =>
  rw[z] at e
  exact⟨_,x,xs,e,rfl⟩
theorem ClD.Ok.tolB(o:c.Ok){t:Int}(h0:1≤t)(h1:t≤1000000000){us:List Tri}(pm:us.Perm (c.us0 t)){sts:List Stp}(p:Ppr c.X (c.ps.length+1) us sts):jo c.ns sts c.tbs:=by
 obtain⟨ini,e,l,hs⟩:=p.last (by lia)
 have P2:=o.P2
 have n8:=o.n8
 refine⟨by rw[o.nsl];lia,by lia,fun st h=>?_,by rw[o.tbL];lia,o.tbT⟩
 rcases hs st h with z | ⟨a,b,z⟩
 ·rw[z];exact o.usO h0 h1 pm
 ·rw[z];exact True.intro
end My
namespace My
open PySem L2
theorem Cv(h:Int):Builtin.bitAnd h 0=0:=by
 unfold Builtin.bitAnd
 cases h <;> simp
noncomputable def fh:List Pst:=[(0,8,1),(0,5,0)]
theorem zQ{P:Nat}(h2:P≤2)(h:Int):ch h (fh.take P)=0::bN (fh.take P):=by
 unfold ch bN dR chI
 congr 1
 have e:∀j:Nat,cv h ((fh.take P)[j]?.getD gq).1=true:=fun j=>by
  unfold cv
  rw[show((fh.take P)[j]?.getD gq).1=0 from ?_]
  ·rw[Cv];rfl
  ·rw[yPb]
   split
   ·match j with
    | 0=>rfl
    | 1=>rfl
    | j+2=>rfl
   ·rfl
 rw[List.filter_eq_self.mpr fun j _=>e j]
 refine yCa fun j _=>?_
 lia
theorem Ae{P:Nat}(h2:P≤2):(fh.take P).length=P:=by
 rw[yf]
 show min P 2=P
 lia
theorem zG{P:Nat}:∀q∈fh.take P,okP q:=fun q hq=>by
 have:=yY hq
 unfold fh at this
 rcases List.mem_cons.mp this with e | e
 ·rw[e];unfold okP;decide
 ·rw[List.mem_singleton.mp e];unfold okP;decide
noncomputable def nsI(c:ClD)(i:Nat):List Int:=((List.range i).filter fun k=>decide (c.os.getD k 0≤c.n)).map fun k:Nat=>(k:Int)
theorem p8(c:ClD)(i:Nat):nsI c (i+1)=nsI c i++if c.os.getD i 0≤c.n then [(i:Int)] else []:=by
 unfold nsI
 rw[yN,yga,yg]
 congr 1
 by_cases e:c.os.getD i 0≤c.n
 ·rw[if_pos e,ysa (p:=fun k=>decide (c.os.getD k 0≤c.n)) (decide_eq_true e)];rfl
 ·rw[if_neg e,yra (p:=fun k=>decide (c.os.getD k 0≤c.n)) (fun z=>e (of_decide_eq_true z))];rfl
theorem tQ(c:ClD)(i:Nat):(nsI c i).length≤i:=by
 unfold nsI
 rw[ya]
 have:=yba (fun k=>decide (c.os.getD k 0≤c.n)) (List.range i)
 rw[yo] at this
 exact this
theorem rZ(c:ClD):nsI c c.os.length=c.ns:=rfl
structure SpI(H:Hp)(L:Addr)(at':Nat)(i:Nat)(H':Hp):Prop where
 ex:∃us:List V,aA H H'∧H' L=some (.lst us)∧Paired (fun v (h:Nat)=>∃t,v=V.ref t∧H' t=some (.tup [.int (h:Int),.int (at':Int)])) us (List.range i)
theorem SpI.start{H:Hp}{L:Addr}{at':Nat}(hL:H L=none):SpI H L at' 0 (upd H L (.lst [])):=⟨[],ah hL _,af,.nil⟩
theorem SpI.step{H H':Hp}{L t:Addr}{at' i:Nat}(h:SpI H L at' i H')(hL:H L=none)(hi:i≤900)(ht:H' t=none):∃xs,upd H' t (.tup [.int (i:Int),.int (at':Int)]) L=some (.lst xs)∧xs.length<sizeLine∧SpI H L at' (i+1) (upd (upd H' t (.tup [.int (i:Int),.int (at':Int)])) L (.lst (xs++[.ref t]))):=by
 obtain⟨us,g,e,hP⟩:=h.ex
 have ul:=Paired.length hP
 rw[yo] at ul
 have gt:=ah ht (.tup [.int (i:Int),.int (at':Int)])
 have eL:=gt _ _ e
 refine⟨us,eL,aE (by lia),us++[.ref t],aI hL (g.trans gt) _,af,?_⟩
 rw[yN]
 refine aP (Paired.mapP hP fun v h ⟨t',e1,e2⟩=>⟨t',e1,?_⟩) ⟨t,rfl,?_⟩
 ·rw[av (fun z=>by rw[z,e] at e2;cases e2)]
  exact gt _ _ e2
 ·rw[av (fun z=>by rw[z,e] at ht;cases ht)]
  exact af
end My
namespace My
open PySem L2
theorem xV0{v:V}{s:St}{H:Hp}{Q:VK}:mP 0 (some v::s) H Q=Q v H:=by
 unfold mP
 refine propext ⟨?_,fun h=>⟨v,rfl,h⟩⟩
 rintro⟨w,e,h⟩
 cases e
 exact h
theorem xVS{i:Nat}{x:Option V}{s:St}{H:Hp}{Q:VK}:mP (i+1) (x::s) H Q=mP i s H Q:=rfl
theorem Cy{i:Int}{P:Int→Prop}:(∃j,V.int i=V.int j∧P j)=P i:=propext ⟨fun⟨_,e,h⟩=>by cases e;exact h,fun h=>⟨i,rfl,h⟩⟩
theorem xBl{i:Bool}{P:Bool→Prop}:(∃j,V.bl i=V.bl j∧P j)=P i:=propext ⟨fun⟨_,e,h⟩=>by cases e;exact h,fun h=>⟨i,rfl,h⟩⟩
theorem Co{i:Addr}{P:Addr→Prop}:(∃j,V.ref i=V.ref j∧P j)=P i:=propext ⟨fun⟨_,e,h⟩=>by cases e;exact h,fun h=>⟨i,rfl,h⟩⟩
theorem xI0{g:Int→Int→V}{i j:Int}{H:Hp}{Q:VK}:rI0 g (.int i) (.int j) H Q=Q (g i j) H:=propext ⟨fun⟨_,_,e,f,h⟩=>by cases e;cases f;exact h,fun h=>⟨i,j,rfl,rfl,h⟩⟩
theorem xI{C:Int→Int→Prop}{g:Int→Int→V}{i j:Int}{H:Hp}{Q:VK}:rI C g (.int i) (.int j) H Q=(C i j∧Q (g i j) H):=propext ⟨fun⟨_,_,e,f,h⟩=>by cases e;cases f;exact h,fun h=>⟨i,j,rfl,rfl,h⟩⟩
theorem xU{g:Int→V}{i:Int}{H:Hp}{Q:VK}:rU g (.int i) H Q=Q (g i) H:=propext ⟨fun⟨_,e,h⟩=>by cases e;exact h,fun h=>⟨i,rfl,h⟩⟩
theorem Bd{K:PySem.W.Frag}{p:Addr}{i:Int}{H:Hp}{Q:VK}:tO K (.ref p) (.int i) H Q = ∃xs,SqL K H p xs∧∃v,atI xs i=some v∧Q v H:=propext ⟨fun⟨_,xs,_,v,e,f,a,b,h⟩=>by cases e;cases f;exact⟨xs,a,v,b,h⟩,fun⟨xs,a,v,b,h⟩=>⟨p,xs,i,v,rfl,rfl,a,b,h⟩⟩
theorem CK{K:PySem.W.Frag}{p:Addr}{i:Int}{H:Hp}{Q:VK}:sB K (.ref p) (.int i) H Q = ∃xs,SqT K H p xs∧∃v,atI xs i=some v∧Q v H:=propext ⟨fun⟨_,xs,_,v,e,f,a,b,h⟩=>by cases e;cases f;exact⟨xs,a,v,b,h⟩,fun⟨xs,a,v,b,h⟩=>⟨p,xs,i,v,rfl,rfl,a,b,h⟩⟩
theorem CO{K:PySem.W.Frag}{a:Addr}{lo hi:Option Int}{H:Hp}{Q:VK}:x6 K (.ref a) lo hi H Q = ∃xs,SqL K H a xs∧∀p,H p=none→Q (.ref p) (upd H p (.lst (eJ xs lo hi))):=propext ⟨fun⟨_,xs,e,h⟩=>by cases e;exact⟨xs,h⟩,fun⟨xs,h⟩=>⟨a,xs,rfl,h⟩⟩
theorem AZ{a b:Addr}{H:Hp}{Q:VK}:zk (.ref a) (.ref b) H Q = ∃xs,H a=some (.lst xs)∧∃zs,H b=some (.lst zs)∧xs.length+zs.length≤sizeLine∧∀p,H p=none→Q (.ref p) (upd H p (.lst (xs++zs))):=propext ⟨fun⟨_,_,xs,zs,e,f,h1,h2⟩=>by cases e;cases f;exact⟨xs,h1,zs,h2⟩,fun⟨xs,h1,zs,h2⟩=>⟨a,b,xs,zs,rfl,rfl,h1,h2⟩⟩
theorem A6{K:PySem.W.Frag}{p:Addr}{H:Hp}{Q:VK}:u9 K [.ref p] H Q = ∃ys,(SqL K H p ys∨SqT K H p ys)∧Q (.int ys.length) H:=propext ⟨fun⟨_,xs,e,h⟩=>by cases e;exact⟨xs,h⟩,fun⟨xs,h⟩=>⟨p,xs,rfl,h⟩⟩
theorem Cz{K:PySem.W.Frag}{n:Nat}{t:TGs}{a:Addr}{σ:St}{H:Hp}{Q:St→Hp→Prop}:sQ K n t (.ref a) σ H Q = ∃xs,SqT K H a xs∧xs.length=n∧t xs σ H Q:=propext ⟨fun⟨_,xs,e,h⟩=>by cases e;exact⟨xs,h⟩,fun⟨xs,h⟩=>⟨a,xs,rfl,h⟩⟩
theorem zD{p:Addr}{k:Int}{v:V}{H:Hp}{Q:Hp→Prop}:qH (.ref p) (.int k) v H Q = ∃xs,H p=some (.lst xs)∧∃j,ixN xs.length k=some j∧Q (upd H p (.lst (xs.set j v))):=propext ⟨fun⟨_,xs,_,j,e,f,a,b,h⟩=>by cases e;cases f;exact⟨xs,a,j,b,h⟩,fun⟨xs,a,j,b,h⟩=>⟨p,xs,k,j,rfl,rfl,a,b,h⟩⟩
theorem Bj{l:Addr}{y:V}{H:Hp}{Q:VK}:j7 (.ref l) [y] H Q = ∃xs,H l=some (.lst xs)∧xs.length<sizeLine∧Q .non (upd H l (.lst (xs++[y]))):=propext ⟨fun⟨_,xs,_,e,f,h⟩=>by cases e;cases f;exact⟨xs,h⟩,fun⟨xs,h⟩=>⟨l,xs,y,rfl,rfl,h⟩⟩
theorem Dj{i j:Int}{H:Hp}{Q:VK}:rEq (.int i) (.int j) H Q=Q (.bl (decide (i=j))) H:=by
 unfold rEq
 have e:decide (V.int i=V.int j)=decide (i=j):=decide_eq_decide.mpr ⟨fun h=>by cases h;rfl,fun h=>by rw[h]⟩
 rw[e]
 exact propext ⟨fun h=>h.2,fun h=>⟨rfl,h⟩⟩
theorem Bx{i j:Int}{H:Hp}{Q:VK}:rNe (.int i) (.int j) H Q=Q (.bl (!decide (i=j))) H:=by
 unfold rNe
 have e:decide (V.int i=V.int j)=decide (i=j):=decide_eq_decide.mpr ⟨fun h=>by cases h;rfl,fun h=>by rw[h]⟩
 rw[e]
 exact propext ⟨fun h=>h.2,fun h=>⟨rfl,h⟩⟩
theorem B8{p:Prop}[Decidable p]{a b:Prop}:(if decide p=true then a else b)=if p then a else b:=by
 by_cases h:p
 ·rw[if_pos h,if_pos (decide_eq_true h)]
 ·rw[if_neg h,if_neg (fun z=>h (of_decide_eq_true z))]
theorem AC{K:PySem.W.Frag}{f:Str}{x:Addr}{H:Hp}{P:V→Prop}:(∃a C dx fs v,V.ref x=V.ref a∧H a=some (.ins C dx fs)∧Cls K C∧bH K C f∧fs.lookup f=some v∧P v) = ∃C dx fs,H x=some (.ins C dx fs)∧Cls K C∧bH K C f∧∃v,fs.lookup f=some v∧P v:=propext ⟨fun⟨_,C,dx,fs,v,e,h1,h2,h3,h4,h5⟩=>by cases e;exact⟨C,dx,fs,h1,h2,h3,v,h4,h5⟩,fun⟨C,dx,fs,h1,h2,h3,v,h4,h5⟩=>⟨x,C,dx,fs,v,rfl,h1,h2,h3,h4,h5⟩⟩
theorem AK{α:Sort _}{x:Addr}{P:Addr→α→Prop}:(∃a b,V.ref x=V.ref a∧P a b) = ∃b,P x b:=propext ⟨fun⟨_,b,e,h⟩=>by cases e;exact⟨b,h⟩,fun⟨b,h⟩=>⟨x,b,rfl,h⟩⟩
theorem Ag{α β:Sort _}{x:Addr}{P:Addr→α→β→Prop}:(∃a b c,V.ref x=V.ref a∧P a b c) = ∃b c,P x b c:=propext ⟨fun⟨_,b,c,e,h⟩=>by cases e;exact⟨b,c,h⟩,fun⟨b,c,h⟩=>⟨x,b,c,rfl,h⟩⟩
theorem Ap{α β γ:Sort _}{x:Addr}{P:Addr→α→β→γ→Prop}:(∃a b c d,V.ref x=V.ref a∧P a b c d) = ∃b c d,P x b c d:=propext ⟨fun⟨_,b,c,d,e,h⟩=>by cases e;exact⟨b,c,d,h⟩,fun⟨b,c,d,h⟩=>⟨x,b,c,d,rfl,h⟩⟩
end My
set_option maxHeartbeats 4000000
namespace My
open PySem L2
noncomputable def top(i:Nat):Stmt:=PySem.Challenge.pw_rotaward_k62_a_clash_is_looked_at.main.body.getD i (.Pass ⟨0,0,0,0⟩)
noncomputable abbrev xh:Stmt:=top 2
noncomputable abbrev xc:Stmt:=top 4
noncomputable abbrev wV:Stmt:=top 5
noncomputable abbrev vK:Stmt:=top 6
noncomputable abbrev mi:Stmt:=top 7
noncomputable abbrev xG:Stmt:=top 8
noncomputable abbrev wJ:Stmt:=top 10
noncomputable abbrev zl:Stmt:=top 11
noncomputable abbrev xa:Stmt:=top 12
noncomputable abbrev vN:Stmt:=cc (top 17) 0
noncomputable abbrev wy:Stmt:=cc (top 17) 1
noncomputable abbrev wH:Stmt:=cc (top 17) 2
noncomputable abbrev zO_:Stmt:=cc (top 18) 0
noncomputable abbrev zd:Stmt:=cc (top 18) 1
noncomputable abbrev vX:Stmt:=cc (top 18) 2
noncomputable abbrev xk:Stmt:=cc (top 19) 0
noncomputable abbrev vR:Stmt:=cc (top 19) 1
noncomputable abbrev vg:Stmt:=cc (top 19) 2
noncomputable abbrev uU:Stmt:=top 20
noncomputable abbrev va:Stmt:=top 21
noncomputable abbrev xL:Stmt:=top 22
noncomputable abbrev xj:Stmt:=top 23
noncomputable abbrev zn:Stmt:=top 24
noncomputable abbrev uX:Stmt:=top 25
noncomputable abbrev vZ:Stmt:=top 26
noncomputable abbrev wL:Stmt:=top 27
noncomputable abbrev lY:Stmt:=top 30
noncomputable abbrev xA:Stmt:=top 31
noncomputable abbrev mR:Stmt:=top 32
noncomputable abbrev xH:Stmt:=top 33
noncomputable abbrev wI:Stmt:=top 34
noncomputable abbrev xY:Stmt:=top 35
noncomputable abbrev vj:Stmt:=top 36
noncomputable abbrev xw:Stmt:=top 45
noncomputable abbrev vv:Stmt:=top 46
noncomputable abbrev wZ:Stmt:=top 47
noncomputable abbrev wC:Stmt:=top 48
noncomputable abbrev zP_:Stmt:=cc (top 51) 0
noncomputable abbrev vY:Stmt:=top 52
noncomputable abbrev lO:Stmt:=top 53
noncomputable abbrev wO:Stmt:=top 54
noncomputable abbrev xB:Stmt:=top 55
noncomputable abbrev zq:Stmt:=top 57
noncomputable abbrev w6:Stmt:=top 58
noncomputable abbrev zQ_:Stmt:=top 59
noncomputable abbrev vo:Stmt:=cc (top 64) 0
noncomputable abbrev vc:Stmt:=cc (top 64) 1
noncomputable abbrev wm:Stmt:=top 65
noncomputable abbrev vh:Stmt:=top 66
noncomputable abbrev xS:Stmt:=top 67
noncomputable abbrev vJ:Stmt:=top 68
noncomputable abbrev vQ:Stmt:=top 69
noncomputable abbrev xD:Stmt:=top 71
noncomputable abbrev vw:Stmt:=top 72
noncomputable abbrev wP:Stmt:=top 73
noncomputable abbrev xn:Stmt:=top 74
noncomputable abbrev xp:Stmt:=top 75
noncomputable abbrev wY:Stmt:=top 76
noncomputable abbrev vi:Stmt:=top 77
noncomputable abbrev zA_:Stmt:=top 78
noncomputable abbrev zt_:Stmt:=top 79
noncomputable abbrev zF_:Stmt:=top 80
noncomputable abbrev xT:Stmt:=top 81
noncomputable abbrev vP:Stmt:=top 82
noncomputable abbrev uW:Stmt:=top 83
noncomputable abbrev wM:Stmt:=top 84
noncomputable abbrev vk:Stmt:=top 85
noncomputable abbrev ww:Stmt:=top 86
noncomputable abbrev zR_:Stmt:=top 87
noncomputable abbrev za:Stmt:=top 88
noncomputable abbrev uT:Stmt:=top 89
noncomputable abbrev pY:Stmt:=top 90
structure Cs where
 (a b c d e f:Addr)
structure Txt(K:PySem.W.Frag)(mg:Str→Option Value)(ζ:Cs):Prop where
 all:mg "all" = none
 bool:mg "bool" = none
 dict:mg "dict" = none
 enumerate:mg "enumerate" = none
 int:mg "int" = none
 isinstance:mg "isinstance" = none
 len:mg "len" = none
 list:mg "list" = none
 max:mg "max" = none
 min:mg "min" = none
 range:mg "range" = none
 reversed:mg "reversed" = none
 sorted:mg "sorted" = none
 str:mg "str" = none
 sum:mg "sum" = none
 tuple:mg "tuple" = none
 g_MOST_DAYS:∃tk,mg "MOST_DAYS" = some (.int 31 tk)
 g_MOST_HANDS:∃tk,mg "MOST_HANDS" = some (.int 8 tk)
 g_MOST_MANY:∃tk,mg "MOST_MANY" = some (.int 99 tk)
 g_MOST_POSTS:∃tk,mg "MOST_POSTS" = some (.int 6 tk)
 g_MOST_RULES:∃tk,mg "MOST_RULES" = some (.int 120 tk)
 cl_Ward:Cls K ζ.a
 n_Ward_days:bH K ζ.a "days"
 n_Ward_hands:bH K ζ.a "hands"
 n_Ward_posts:bH K ζ.a "posts"
 cl_Terms:Cls K ζ.b
 n_Terms_ward:bH K ζ.b "ward"
 n_Terms_rules:bH K ζ.b "rules"
 n_Terms_sums:bH K ζ.b "sums"
 cl_Want:Cls K ζ.c
 n_Want_day:bH K ζ.c "day"
 n_Want_post:bH K ζ.c "post"
 n_Want_many:bH K ζ.c "many"
 cl_Least:Cls K ζ.d
 n_Least_hand:bH K ζ.d "hand"
 n_Least_days:bH K ζ.d "days"
 n_Least_many:bH K ζ.d "many"
 cl_Away:Cls K ζ.e
 n_Away_hand:bH K ζ.e "hand"
 n_Away_days:bH K ζ.e "days"
 x_NoTable:rL K mg "NoTable" ζ.f
section
variable{P:Program}{w:World}{K:PySem.W.Frag}{mg:Str→Option Value}{base:Heap}
local macro_rules | `(pv $a)=>`(@pv _ $a _ _ rfl (by first | exact Or.inl rfl | exact Or.inr (Or.inl rfl) | exact Or.inr (Or.inr rfl)) (by decide) (by decide)) | `(ae $a $b)=>`(@ae _ _ _ _ _ $a $b rfl) | `(ak $a $b)=>`(@ak _ _ _ _ _ $a $b) | `(am $a)=>`(@am _ _ _ $a) | `(ax $a $b $c)=>`(@ax _ _ _ _ _ _ _ _ $a $b $c) | `(ar $a $b $c $d)=>`(@ar _ _ _ _ _ _ _ _ _ _ $a $b $c $d (by decide) rfl rfl) | `(ay $a)=>`(@ay _ _ _ _ $a) | `(aq (i:=$a) $b $c $d)=>`(@aq _ _ $a _ $b $c $d (by first | exact .inl rfl | exact .inr rfl | assumption)) | `(aD (i:=$a) $b $c $d $e)=>`(@aD _ _ $a _ _ _ _ $b $c $d $e rfl (by first | exact .inl rfl | exact .inr rfl | assumption)) | `(aM $a $b $c $d)=>`(@aM _ _ _ _ _ _ _ $a $b $c $d) | `(aH $a)=>`(@aH $a _ (by decide) (by decide)) | `(aB $a $b)=>`(@aB _ _ _ _ _ $a $b rfl) | `(aC $a $b $c $d $e)=>`(@aC _ _ _ _ _ _ _ _ _ $a $b $c $d $e (by decide) (by decide) rfl rfl) | `(bh $a $b $c)=>`(@bh _ _ _ _ _ _ _ _ $a $b $c) | `(aK $a $b $c $d)=>`(@aK _ _ _ _ _ _ _ _ $a $b $c $d) | `(aV $a)=>`(@aV _ _ _ _ _ $a) | `(aU $a $b)=>`(@aU _ _ _ _ _ $a $b) | `(aF (K:=$a) $b)=>`(@aF _ $a $b) | `(aY $a)=>`(@aY _ _ _ _ $a) | `(aQ $a $b $c $d)=>`(@aQ _ _ _ _ _ _ _ _ _ _ $a $b $c $d) | `(bd $a)=>`(@bd _ _ _ $a) | `(bM $a $b)=>`(@bM _ _ _ _ _ _ _ $a $b) | `(aS $a $b $c $d $e)=>`(@aS _ _ _ _ _ _ _ _ _ $a $b $c $d $e (by decide) (by decide) rfl rfl) | `(bG $a)=>`(@bG _ _ _ _ $a) | `(bY $a $b $c $d $e)=>`(@bY _ _ _ _ _ _ _ _ $a $b $c $d $e (by intro _;rfl)) | `(bJ $a $b $c $d)=>`(@bJ _ _ _ _ _ _ _ _ $a $b $c $d) | `(b8 $a)=>`(@b8 _ _ _ $a (by intro _;rfl)) | `(bO $a)=>`(@bO _ _ _ _ $a rfl) | `(cp $a)=>`(@cp _ _ _ _ _ $a) | `(cE $a $b $c)=>`(@cE _ _ _ _ _ _ _ _ $a $b $c) | `(cx (n:=$a) $b $c)=>`(@cx _ _ _ _ _ $a $b $c rfl rfl) | `(cG $a)=>`(@cG _ _ _ _ $a) | `(bE $a $b $c)=>`(@bE _ _ _ _ _ _ $a $b $c rfl) | `(bU $a $b $c $d $e)=>`(@bU _ _ _ _ _ _ _ _ _ _ _ _ $a $b $c $d $e (by with_unfolding_all rfl)) | `(dD $a $b $c $d $e $f)=>`(@dD _ _ _ _ _ _ _ _ _ _ _ _ $a $b $c $d $e $f rfl rfl rfl rfl rfl) | `(dS $a $b)=>`(@dS _ _ _ _ _ _ $a $b) | `(bC (K:=$a) $b)=>`(@bC _ $a $b) | `(cB $a $b $c $d)=>`(@cB _ _ _ _ _ _ _ _ _ _ _ _ _ _ $a $b $c $d rfl rfl rfl) | `(gn $a $b)=>`(@gn _ _ _ _ _ _ _ $a $b) | `(dW $a)=>`(@dW _ _ _ _ $a) | `(c9 (K:=$a) (n:=$b) $c $d $e)=>`(@c9 _ $a _ _ _ $b _ $c $d $e rfl rfl) | `(dH $a $b)=>`(@dH _ _ _ _ _ _ $a $b rfl rfl rfl) | `(dA $a)=>`(@dA _ _ _ $a) | `(c7 $a $b $c $d)=>`(@c7 _ _ _ _ _ _ _ _ _ _ _ $a $b $c $d (by decide) rfl rfl) | `(iQ $a)=>`(@iQ _ _ $a) | `(dO $a $b)=>`(@dO _ _ _ _ $a $b (by decide)) | `(cD $a $b $c)=>`(@cD _ _ _ _ _ _ _ _ $a $b $c rfl) | `(fj (K:=$a) $b $c $d)=>`(@fj _ $a _ _ _ _ $b $c $d) | `(fL (K:=$a) $b)=>`(@fL _ $a $b) | `(dZ $a)=>`(@dZ _ $a) | `(cW (K:=$a) $b)=>`(@cW _ $a $b) | `(iy $a)=>`(@iy _ _ _ _ $a)
local macro_rules | `(tactic| walk_at "rd")=>`(tactic| try simp only[ze,As,zH,oH,uJ,uG,tOp,tUn,mP,tC,rI0,rI,rU,rEq,rNe,L2.start,rR,nD,rh,tB,tCB,uH,zM,tO,sB,Aw,AG,tOr,Al,uc,BU,nL,AJ,uy,Aj,rS,wW,lR,tIf,Ax,Ak,py,xM,fb,uk,Cx.comp,List.replicate_one,List.replicate_zero,yP,tBM,Ac,u9,nJ,uh,qw,wq,vG,Ad,zV,Au,dG.gone,Bh,C5,vO,uZ,pU,pb,zF,sY,wU,sQ,uq,zK,zZ,qH,zk,nT,tSl,nR,uu,x6,j7,vB,uF,zS,eQ,Cx.nox,Cx.wish,ym,ycb,yp,yea,Nat.reduceAdd,Nat.reduceSub,List.reduceReplicate,yJa,List.nil_append,yI,yyb,yDa,List.set_cons_zero,List.set_cons_succ,Option.some.injEq,V.int.injEq,V.bl.injEq,V.ref.injEq,V.str.injEq,V.ty.injEq,List.cons.injEq,and_true,true_and,and_assoc,exists_eq_left,exists_eq_left',exists_eq_right,exists_eq,exists_eq',exists_and_left,exists_const,decide_eq_true_eq,tj,sJ,tK,uM,yTa,Bool.not_eq_true,decide_eq_false_iff_not,if_true,if_false,yRa,reduceIte,rP,wk,sS,rN,tZ,pA,sO,qe,ox,sL,sG,rV,rO,rY,rQ,sN,Bool.not_true,Bool.not_false,not_true_eq_false,Bool.true_eq_false,re,AD,uj,sY,oa,B0,um,pM,Cp,Ay,Bm,rIn,AI,qF,pW,uC,uO,nZ,zO,Dq,tw,iDT,uI,pV,qd,y9,De,CM,AE,Cj,Ao,↓Dj,↓Bx,↓B8,↓AC,↓AK,↓Ag,↓Ap,↓xV0,↓xVS,↓Cy,↓xBl,↓Co,↓xI0,↓xI,↓xU,↓Bd,↓CK,↓CO,↓AZ,↓A6,↓Cz,↓zD,↓Bj])
inductive zS_(K:PySem.W.Frag)(ζ:Cs)(vs:List V)(H:Hp)(Q:VK)(E:XK):Prop
 | mk (x dx:Addr) (d p m:Int) (_:vs=[.ref x,.int d,.int p,.int m]) (_:H x=some (.ins ζ.c dx [])) (_:Q .non (upd H x (.ins ζ.c dx (wf3 d p m)))):zS_ K ζ vs H Q E
theorem Ck:aw ["self","day","post","many"] ["self","day","post","many"] (ao vN):=⟨rfl,rfl,rfl,k!,rfl,k!,k!⟩
theorem A2{ζ:Cs}{f:Addr}{fd:FuncData}(F:Fun K "__init__" "Want.__init__" vN f fd)(T:Txt K mg ζ) :aN P w K mg base CX0 1 f fd ["self","day","post","many"] (zS_ K ζ):=by
 refine F.ok Ck (fun vs H Q E h=>?_) (fun cdv A outer s H vs Q E hr h=>?_)
 ·obtain⟨x,dx,d,p,m,rfl,_⟩:=h
  rfl
 ·obtain⟨x,dx,d,p,m,rfl,hx,q⟩:=h
  refine⟨_,(ak (cE (pv 0) (pv 1) rfl)
  (ak (cE (pv 0) (pv 2) rfl)
  (am (cE (pv 0) (pv 3) rfl)))),?_⟩
  walk_at "rd"
  refine⟨_,_,_,hx,T.cl_Want,T.n_Want_day,by decide,?_⟩
  refine⟨_,_,_,af,T.cl_Want,T.n_Want_post,yS (aZ _ _ _) (by show 1<1000;decide),?_⟩
  refine⟨_,_,_,af,T.cl_Want,T.n_Want_many,yS (yJ (aZ _ _ _) (yIa (aZ _ _ _))) (by show 2<1000;decide),?_⟩
  rw[cf,cf]
  exact q
inductive zT_(K:PySem.W.Frag)(ζ:Cs)(vs:List V)(H:Hp)(Q:VK)(E:XK):Prop
 | mk (x dx:Addr) (h s:Int) (_:vs=[.ref x,.int h,.int s]) (_:H x=some (.ins ζ.e dx [])) (_:Q .non (upd H x (.ins ζ.e dx (af2 h s)))):zT_ K ζ vs H Q E
theorem Dx:aw ["self","hand","days"] ["self","hand","days"] (ao xk):=⟨rfl,rfl,rfl,k!,rfl,k!,k!⟩
theorem Dt{ζ:Cs}{f:Addr}{fd:FuncData}(F:Fun K "__init__" "Away.__init__" xk f fd)(T:Txt K mg ζ) :aN P w K mg base CX0 1 f fd ["self","hand","days"] (zT_ K ζ):=by
 refine F.ok Dx (fun vs H Q E h=>?_) (fun cdv A outer s H vs Q E hr h=>?_)
 ·obtain⟨x,dx,h,m,rfl,_⟩:=h
  rfl
 ·obtain⟨x,dx,h,m,rfl,hx,q⟩:=h
  refine⟨_,(ak (cE (pv 0) (pv 1) rfl)
  (am (cE (pv 0) (pv 2) rfl))),?_⟩
  walk_at "rd"
  refine⟨_,_,_,hx,T.cl_Away,T.n_Away_hand,by decide,?_⟩
  refine⟨_,_,_,af,T.cl_Away,T.n_Away_days,yS (aZ _ _ _) (by show 1<1000;decide),?_⟩
  rw[cf]
  exact q
inductive zG_(K:PySem.W.Frag)(ζ:Cs)(vs:List V)(H:Hp)(Q:VK)(E:XK):Prop
 | mk (x dx:Addr) (d p m:Int) (_:vs=[.ref x,.int d,.int p,.int m]) (_:H x=some (.ins ζ.d dx [])) (_:Q .non (upd H x (.ins ζ.d dx (mf3 d p m)))):zG_ K ζ vs H Q E
theorem BK:aw ["self","hand","days","many"] ["self","hand","days","many"] (ao zO_):=⟨rfl,rfl,rfl,k!,rfl,k!,k!⟩
theorem A5{ζ:Cs}{f:Addr}{fd:FuncData}(F:Fun K "__init__" "Least.__init__" zO_ f fd)(T:Txt K mg ζ) :aN P w K mg base CX0 1 f fd ["self","hand","days","many"] (zG_ K ζ):=by
 refine F.ok BK (fun vs H Q E h=>?_) (fun cdv A outer s H vs Q E hr h=>?_)
 ·obtain⟨x,dx,d,p,m,rfl,_⟩:=h
  rfl
 ·obtain⟨x,dx,d,p,m,rfl,hx,q⟩:=h
  refine⟨_,(ak (cE (pv 0) (pv 1) rfl)
  (ak (cE (pv 0) (pv 2) rfl)
  (am (cE (pv 0) (pv 3) rfl)))),?_⟩
  walk_at "rd"
  refine⟨_,_,_,hx,T.cl_Least,T.n_Least_hand,by decide,?_⟩
  refine⟨_,_,_,af,T.cl_Least,T.n_Least_days,yS (aZ _ _ _) (by show 1<1000;decide),?_⟩
  refine⟨_,_,_,af,T.cl_Least,T.n_Least_many,yS (yJ (aZ _ _ _) (yIa (aZ _ _ _))) (by show 2<1000;decide),?_⟩
  rw[cf,cf]
  exact q
inductive wx(K_:PySem.W.Frag)(ζ:Cs)(vs:List V)(H:Hp)(Q:VK)(E:XK):Prop
 | mk (d:Int) (_:vs=[.int d]) (_:1≤d) (_:d≤31) (_:Q .non H):wx K_ ζ vs H Q E
theorem DB:aw ["days"] ["days"] (ao wm):=⟨rfl,rfl,rfl,k!,rfl,k!,k!⟩
theorem C3{ζ:Cs}{f:Addr}{fd:FuncData}(F:Fun K "need_month" "need_month" wm f fd)(T:Txt K mg ζ) :aN P w K mg base CX0 1 f fd ["days"] (wx K ζ):=by
 refine F.ok DB (fun vs H Q E h=>?_) (fun cdv A outer s H vs Q E hr h=>?_)
 ·obtain⟨n,rfl,_⟩:=h
  rfl
 ·obtain⟨n,rfl,n0,n1,q⟩:=h
  refine⟨_,(am (bh (PW.pt (gn (aK cR (pv 0) aj (aH _)) (dW (aK gx (pv 0) (dO rfl T.g_MOST_DAYS) (aH _))))) (am fD) aJ)),?_⟩
  walk_at "rd"
  rw[if_neg (by lia),if_neg (by lia)]
  exact q
inductive sH(K_:PySem.W.Frag)(ζ:Cs)(vs:List V)(H:Hp)(Q:VK)(E:XK):Prop
 | mk (n:Int) (_:vs=[.int n]) (_:okH n) (_:Q (.bl true) H):sH K_ ζ vs H Q E
theorem Dm:aw ["number"] ["number"] (ao vJ):=⟨rfl,rfl,rfl,k!,rfl,k!,k!⟩
theorem BZ{ζ:Cs}{f:Addr}{fd:FuncData}(F:Fun K "is_skills" "is_skills" vJ f fd)(T:Txt K mg ζ) :aN P w K mg base CX0 1 f fd ["number"] (sH K ζ):=by
 refine F.ok Dm (fun vs H Q E h=>?_) (fun cdv A outer s H vs Q E hr h=>?_)
 ·obtain⟨n,rfl,_⟩:=h
  rfl
 ·obtain⟨n,rfl,hn,q⟩:=h
  refine⟨_,(am (ay (bU cu cR aj (pv 0) (ax eX aj aj)))),?_⟩
  walk_at "rd"
  rw[if_pos hn.1]
  refine⟨⟨by decide,by decide,by decide⟩,?_⟩
  rw[show(2:Int) ^ Int.toNat 30=1073741824 by decide,decide_eq_true hn.2]
  exact q
inductive x5(K:PySem.W.Frag)(ζ:Cs)(vs:List V)(H:Hp)(Q:VK)(E:XK):Prop
 | mk (a:Addr) (hs:List Int) (_:vs=[.ref a]) (_:SqL K H a (hs.map V.int)) (_:(∀x∈hs,okH x)) (_:hs.length≤8) (_:∀H',aA H H'→Q .non H'):x5 K ζ vs H Q E
theorem vA:aw ["hands","number","skills"] ["hands"] (ao vh):=⟨rfl,rfl,rfl,k!,rfl,k!,k!⟩
theorem BW{ζ:Cs}{f:Addr}{fd:FuncData}(F:Fun K "need_hands" "need_hands" vh f fd)(T:Txt K mg ζ)(zy_:Cal P w K mg base "is_skills" ["number"] 1 (sH K ζ)):aN P w K mg base CX0 2 f fd ["hands"] (x5 K ζ):=by
 refine F.ok vA (fun vs H Q E h=>?_) (fun cdv A outer s H vs Q E hr h=>?_)
 ·obtain⟨a,hs,rfl,_⟩:=h
  rfl
 ·obtain⟨a,hs,rfl,hS,hh,hl,q⟩:=h
  refine⟨_,(am (bY PassesOwn.never rfl (cD rfl T.enumerate (pv 0)) (cx (n:=2) rfl (aB (aq (i:=1) vA.nd rfl (Or.inl rfl)) (aB (aq (i:=2) vA.nd rfl (Or.inl rfl)) bx)))
   (am (bh (PW.pt (gn (aK kX (pv 1) (dO rfl T.g_MOST_HANDS) (aH _)) (dW (cG (b8 (ar zy_ (hr.mono (by decide)) rfl (ae (pv 2) ag))))))) (am fD) aJ)))),?_⟩
  walk_at "rd"
  refine⟨⟨_,hS⟩,bZ (xs:=hs.map V.int) (fun i σ H'=>aA H H'∧∃v1 v2,σ=[some (.ref a),v1,v2]) ⟨aA.refl H,none,none,rfl⟩ (fun i σ H' _ hh=>hh.1.seq hS) ?_ ?_⟩
  ·rintro i x σ H' t hx ⟨g,v1,v2,rfl⟩ ht
   rw[yc] at hx
   obtain⟨p,hpi,rfl⟩:=Option.map_eq_some_iff.mp hx
   have hi:i<hs.length:=(List.getElem?_eq_some_iff.mp hpi).1
   walk_at "rd"
   refine⟨_,SqT.of af,rfl,_,_,rfl,_,_,rfl,rfl,?_⟩
   walk_at "rd"
   rw[if_neg (by lia)]
   refine⟨p,rfl,hh p (yk hpi),?_⟩
   walk_at "rd"
   first | exact⟨g.trans (ah ht _),_,_,rfl⟩ | exact⟨g.trans (ah ht _),_,rfl⟩ | exact g.trans (ah ht _)
  ·rintro σ H' ⟨g,_⟩
   exact q H' g
inductive ve(K_:PySem.W.Frag)(ζ:Cs)(vs:List V)(H:Hp)(Q:VK)(E:XK):Prop
 | mk (t:Addr) (q:Pst) (_:vs=[.ref t]) (_:H t=some (.tup [.int q.1,.int q.2.1,.int q.2.2])) (_:okP q) (_:Q (.bl true) H):ve K_ ζ vs H Q E
theorem B7:aw ["post"] ["post"] (ao vQ):=⟨rfl,rfl,rfl,k!,rfl,k!,k!⟩
theorem Bo{ζ:Cs}{f:Addr}{fd:FuncData}(F:Fun K "is_post" "is_post" vQ f fd)(T:Txt K mg ζ)(zy_:Cal P w K mg base "is_skills" ["number"] 1 (sH K ζ)):aN P w K mg base CX0 2 f fd ["post"] (ve K ζ):=by
 refine F.ok B7 (fun vs H Q E h=>?_) (fun cdv A outer s H vs Q E hr h=>?_)
 ·obtain⟨t,p,rfl,_⟩:=h
  rfl
 ·obtain⟨t,p,rfl,ht,hp,q⟩:=h
  refine⟨_,(am (ay (bM (ar zy_ (hr.mono (by decide)) rfl (ae (aM bi (pv 0) aj (fun _ _=>rfl)) ag)) (bM (bU cu cu aj (aM bi (pv 0) aj (fun _ _=>rfl)) (ax eX aj aj)) (cp (bU cu cu aj (aM bi (pv 0) aj (fun _ _=>rfl)) aj)))))),?_⟩
  walk_at "rd"
  refine⟨_,SqT.of ht,_,rfl,_,rfl,hp.1,?_⟩
  walk_at "rd"
  refine⟨_,SqT.of ht,_,rfl,?_⟩
  walk_at "rd"
  rw[if_pos hp.2.1.1]
  refine⟨⟨by decide,by decide,by decide⟩,?_⟩
  rw[show(10:Int) ^ Int.toNat 9=1000000000 by decide,if_pos hp.2.1.2]
  refine⟨_,SqT.of ht,_,rfl,?_⟩
  walk_at "rd"
  rw[if_pos hp.2.2.1,decide_eq_true hp.2.2.2]
  exact q
inductive xi(K:PySem.W.Frag)(ζ:Cs)(vs:List V)(H:Hp)(Q:VK)(E:XK):Prop
 | mk (a:Addr) (ts:List V) (ps:List Pst) (_:vs=[.ref a]) (_:SqL K H a ts) (_:cQ H ts ps) (_:(∀q∈ps,okP q)) (_:ps.length≤6) (_:∀H',aA H H'→Q .non H'):xi K ζ vs H Q E
theorem zx:aw ["posts","number","post"] ["posts"] (ao xS):=⟨rfl,rfl,rfl,k!,rfl,k!,k!⟩
theorem AS{ζ:Cs}{f:Addr}{fd:FuncData}(F:Fun K "need_posts" "need_posts" xS f fd)(T:Txt K mg ζ)(zcK_:Cal P w K mg base "is_post" ["post"] 2 (ve K ζ)):aN P w K mg base CX0 3 f fd ["posts"] (xi K ζ):=by
 refine F.ok zx (fun vs H Q E h=>?_) (fun cdv A outer s H vs Q E hr h=>?_)
 ·obtain⟨a,ts,ps,rfl,_⟩:=h
  rfl
 ·obtain⟨a,ts,ps,rfl,hS,hT,hp,hl,q⟩:=h
  refine⟨_,(am (bY PassesOwn.never rfl (i9 rfl T.enumerate (pv 0)) (cx (n:=2) rfl (aB (aq (i:=1) zx.nd rfl (Or.inl rfl)) (aB (aq (i:=2) zx.nd rfl (Or.inl rfl)) bx)))
   (am (bh (PW.pt (gn (aK gx (pv 1) (dO rfl T.g_MOST_POSTS) (aH _)) (dW (cG (b8 (ar zcK_ (hr.mono (by decide)) rfl (ae (pv 2) ag))))))) (am fD) aJ)))),?_⟩
  walk_at "rd"
  refine⟨⟨_,hS⟩,bZ (xs:=ts) (fun i σ H'=>aA H H'∧∃v1 v2,σ=[some (.ref a),v1,v2]) ⟨aA.refl H,none,none,rfl⟩ (fun i σ H' _ hh=>hh.1.seq hS) ?_ ?_⟩
  ·rintro i x σ H' t hx ⟨g,v1,v2,rfl⟩ ht
   obtain⟨p,hpi,t',rfl,ht'⟩:=hT.at' hx
   have hi:i<ps.length:=(List.getElem?_eq_some_iff.mp hpi).1
   have g2:=g.trans (ah ht (.tup [.int (((1+i:Nat)):Int),.ref t']))
   walk_at "rd"
   refine⟨_,SqT.of af,rfl,_,_,rfl,_,_,rfl,rfl,?_⟩
   walk_at "rd"
   rw[if_neg (by lia)]
   refine⟨t',p,rfl,g2 _ _ ht',hp p (yk hpi),?_⟩
   walk_at "rd"
   first | exact⟨g2,_,_,rfl⟩ | exact⟨g2,_,rfl⟩ | exact g2
  ·rintro σ H' ⟨g,_⟩
   exact q H' g
inductive zU_(K:PySem.W.Frag)(ζ:Cs)(vs:List V)(H:Hp)(Q:VK)(E:XK):Prop
 | mk (x dx a b:Addr) (d:Int) (hs:List Int) (ts:List V) (ps:List Pst) (_:vs=[.ref x,.int d,.ref a,.ref b]) (_:H x=some (.ins ζ.a dx [])) (_:SqL K H a (hs.map V.int)) (_:SqL K H b ts) (_:cQ H ts ps) (_:Ok d hs ps) (_:∀H',(∀c o,H c=some o→c≠x→H' c=some o)→bt ζ.a H' x d hs ps→Q .non H'):zU_ K ζ vs H Q E
theorem CV:aw ["self","days","hands","posts"] ["self","days","hands","posts"] (ao vo):=⟨rfl,rfl,rfl,k!,rfl,k!,k!⟩
theorem Bt{ζ:Cs}{f:Addr}{fd:FuncData}(F:Fun K "__init__" "Ward.__init__" vo f fd)(T:Txt K mg ζ)(zbs_:Cal P w K mg base "need_month" ["days"] 1 (wx K ζ))(zbt_:Cal P w K mg base "need_hands" ["hands"] 2 (x5 K ζ))(zbu_:Cal P w K mg base "need_posts" ["posts"] 3 (xi K ζ)):aN P w K mg base CX0 4 f fd ["self","days","hands","posts"] (zU_ K ζ):=by
 refine F.ok CV (fun vs H Q E h=>?_) (fun cdv A outer s H vs Q E hr h=>?_)
 ·obtain⟨x,dx,a,b,d,hs,ts,ps,rfl,_⟩:=h
  rfl
 ·obtain⟨x,dx,a,b,d,hs,ts,ps,rfl,hx,hA,hB,hT,ok,q⟩:=h
  refine⟨_,(ak (bO (ar zbs_ (hr.mono (by decide)) rfl (ae (pv 1) ag)))
  (ak (bO (ar zbt_ (hr.mono (by decide)) rfl (ae (pv 2) ag)))
  (ak (bO (ar zbu_ (hr.mono (by decide)) rfl (ae (pv 3) ag)))
  (ak (cE (pv 0) (pv 1) rfl)
  (ak (cE (pv 0) (aS (bC (K:=K) rfl) (by rfl) T.tuple PyProof.Rows.boot_tuple (ae (pv 2) ag)) rfl)
  (am (cE (pv 0) (aS (bC (K:=K) rfl) (by rfl) T.tuple PyProof.Rows.boot_tuple (ae (pv 3) ag)) rfl))))))),?_⟩
  walk_at "rd"
  refine⟨d,rfl,ok.d1,ok.d2,a,hs,rfl,hA,ok.h,ok.hl,fun H1 g1=>⟨b,ts,ps,rfl,g1.seq hB,hT.mono g1,ok.p,ok.pl,fun H2 g2=>?_⟩⟩
  have g:=g1.trans g2
  have hx2:=g _ _ hx
  walk_at "rd"
  refine⟨ζ.a,dx,[],hx2,T.cl_Ward,T.n_Ward_days,by decide,_,(g.seq hA).off (by intro ys z;rw[hx2] at z;cases z) (by intro v u z;rw[hx2] at z;cases z),fun l1 hl1=>?_⟩
  have n1:x≠l1:=fun z=>by rw[← z,af] at hl1;cases hl1
  have e1:H2 l1=none:=by rw[av n1.symm] at hl1;exact hl1
  refine⟨ζ.a,dx,bn "days" (.int d) [],by rw[av n1,af],T.cl_Ward,T.n_Ward_hands,yS (aZ _ _ _) (by show 1<1000;decide),ts,?_,fun l2 hl2=>?_⟩
  ·refine SqL.off ((ah (by rw[av n1.symm];exact e1) _).seq ((g.seq hB).off ?_ ?_)) ?_ ?_
   ·intro ys z;rw[hx2] at z;cases z
   ·intro v u z;rw[hx2] at z;cases z
   ·intro ys z;rw[av n1,af] at z;cases z
   ·intro v u z;rw[av n1,af] at z;cases z
  have n2:x≠l2:=fun z=>by rw[← z,af] at hl2;cases hl2
  have n3:l1≠l2:=fun z=>by rw[← z,av n1.symm,af] at hl2;cases hl2
  have e2:H2 l2=none:=by rw[av n2.symm,av n3.symm,av n2.symm] at hl2;exact hl2
  refine⟨ζ.a,dx,bn "hands" (.ref l1) (bn "days" (.int d) []),by rw[av n2,af],T.cl_Ward,T.n_Ward_posts,yS (yJ (aZ _ _ _) (yIa (aZ _ _ _))) (by show 2<1000;decide),?_⟩
  have fr:∀c o,H2 c=some o→c≠x→upd (upd (upd (upd (upd H2 x (.ins ζ.a dx (bn "days" (.int d) []))) l1 (.tup (hs.map V.int))) x (.ins ζ.a dx (bn "hands" (.ref l1) (bn "days" (.int d) [])))) l2 (.tup ts)) x (.ins ζ.a dx (wf d l1 l2)) c=some o:=fun c o hc ne=>by
   rw[av ne,av (aG hc e2),av ne,av (aG hc e1),av ne]
   exact hc
  refine q _ (fun c o hc ne=>fr c o (g _ _ hc) ne) ⟨dx,l1,l2,ts,af,?_,?_,?_⟩
  ·rw[av n1.symm,av n3,av n1.symm,af]
  ·rw[av n2.symm,af]
  ·exact Paired.mapP hT fun v p ⟨t,e,ht⟩=>⟨t,e,fr _ _ (g _ _ ht) (fun z=>by subst z;rw[hx] at ht;cases ht)⟩
inductive tT(K:PySem.W.Frag)(ζ:Cs)(vs:List V)(H:Hp)(Q:VK)(E:XK):Prop
 | mk (x:Addr) (d:Int) (hs:List Int) (ps:List Pst) (y:Int) (_:vs=[.ref x,.int y]) (_:bt ζ.a H x d hs ps) (_:Q (.bl (decide (0≤y)&&decide (y<d))) H):tT K ζ vs H Q E
theorem Dz:aw ["ward","day"] ["ward","day"] (ao va):=⟨rfl,rfl,rfl,k!,rfl,k!,k!⟩
theorem BD{ζ:Cs}{f:Addr}{fd:FuncData}(F:Fun K "has_day" "has_day" va f fd)(T:Txt K mg ζ) :aN P w K mg base CX0 1 f fd ["ward","day"] (tT K ζ):=by
 refine F.ok Dz (fun vs H Q E h=>?_) (fun cdv A outer s H vs Q E hr h=>?_)
 ·obtain⟨x,d,hs,ps,y,rfl,_⟩:=h
  rfl
 ·obtain⟨x,d,hs,ps,y,rfl,hW,q⟩:=h
  refine⟨_,(am (ay (bU cu cR aj (pv 1) (aU (pv 0) rfl)))),?_⟩
  obtain⟨dx,ha,pa,ts,h1,h2,h3,h4⟩:=hW.ex
  walk_at "rd"
  by_cases y0:0≤y
  ·rw[if_pos y0]
   rw[decide_eq_true y0,yla] at q
   exact⟨_,_,_,h1,T.cl_Ward,T.n_Ward_days,_,ee _ _ _,d,rfl,q⟩
  ·rw[if_neg y0]
   rw[decide_eq_false y0] at q
   exact q
inductive xz(K:PySem.W.Frag)(ζ:Cs)(vs:List V)(H:Hp)(Q:VK)(E:XK):Prop
 | mk (x:Addr) (d:Int) (hs:List Int) (ps:List Pst) (y:Int) (_:vs=[.ref x,.int y]) (_:bt ζ.a H x d hs ps) (_:1≤y) (_:y≤ps.length) (_:Q (.bl true) H):xz K ζ vs H Q E
theorem Ce:aw ["ward","post"] ["ward","post"] (ao xL):=⟨rfl,rfl,rfl,k!,rfl,k!,k!⟩
theorem Ba{ζ:Cs}{f:Addr}{fd:FuncData}(F:Fun K "has_post" "has_post" xL f fd)(T:Txt K mg ζ) :aN P w K mg base CX0 1 f fd ["ward","post"] (xz K ζ):=by
 refine F.ok Ce (fun vs H Q E h=>?_) (fun cdv A outer s H vs Q E hr h=>?_)
 ·obtain⟨x,d,hs,ps,y,rfl,_⟩:=h
  rfl
 ·obtain⟨x,d,hs,ps,y,rfl,hW,y0,y1,q⟩:=h
  refine⟨_,(am (ay (bU cu cu aj (pv 1) (aC (aF (K:=K) rfl) (by rfl) T.len PySem.boot_len (ae (aU (pv 0) rfl) ag))))),?_⟩
  obtain⟨dx,ha,pa,ts,h1,h2,h3,h4⟩:=hW.ex
  have hl:=h4.len
  walk_at "rd"
  rw[if_pos y0]
  refine⟨_,_,_,h1,T.cl_Ward,T.n_Ward_posts,_,io _ _ _,_,rfl,_,.inr (SqT.of h3),?_⟩
  rw[decide_eq_true (show y≤(ts.length:Int) by lia)]
  exact q
inductive tV(K:PySem.W.Frag)(ζ:Cs)(vs:List V)(H:Hp)(Q:VK)(E:XK):Prop
 | mk (m:Int) (_:vs=[.int m]) (_:Q (.bl (isM m)) H):tV K ζ vs H Q E
theorem BP:aw ["many"] ["many"] (ao xj):=⟨rfl,rfl,rfl,k!,rfl,k!,k!⟩
theorem CY{ζ:Cs}{f:Addr}{fd:FuncData}(F:Fun K "is_many" "is_many" xj f fd)(T:Txt K mg ζ) :aN P w K mg base CX0 1 f fd ["many"] (tV K ζ):=by
 refine F.ok BP (fun vs H Q E h=>?_) (fun cdv A outer s H vs Q E hr h=>?_)
 ·obtain⟨m,rfl,_⟩:=h
  rfl
 ·obtain⟨m,rfl,q⟩:=h
  refine⟨_,(am (ay (bU cu cu aj (pv 0) (dO rfl T.g_MOST_MANY)))),?_⟩
  walk_at "rd"
  unfold isM at q
  by_cases e:0≤m
  ·rw[if_pos e]
   rw[decide_eq_true e,yla] at q
   exact q
  ·rw[if_neg e]
   rw[decide_eq_false e,yX] at q
   exact q
inductive xF(K:PySem.W.Frag)(ζ:Cs)(vs:List V)(H:Hp)(Q:VK)(E:XK):Prop
 | mk (x dx y:Addr) (dd p m d:Int) (hs:List Int) (ps:List Pst) (_:vs=[.ref x,.ref y]) (_:H x=some (.ins ζ.c dx (wf3 dd p m))) (_:bt ζ.a H y d hs ps) (_:0≤dd) (_:dd<d) (_:1≤p) (_:p≤ps.length) (_:isM m=true) (_:Q (.bl true) H):xF K ζ vs H Q E
theorem Dk:aw ["self","ward"] ["self","ward"] (ao wy):=⟨rfl,rfl,rfl,k!,rfl,k!,k!⟩
theorem BM{ζ:Cs}{f:Addr}{fd:FuncData}(F:Fun K "fits" "Want.fits" wy f fd)(T:Txt K mg ζ)(zX_:Cal P w K mg base "has_day" ["ward","day"] 1 (tT K ζ))(zct_:Cal P w K mg base "has_post" ["ward","post"] 1 (xz K ζ))(zY_:Cal P w K mg base "is_many" ["many"] 1 (tV K ζ)):aN P w K mg base CX0 2 f fd ["self","ward"] (xF K ζ):=by
 refine F.ok Dk (fun vs H Q E h=>?_) (fun cdv A outer s H vs Q E hr h=>?_)
 ·obtain⟨x,dx,y,dd,p,m,d,hs,ps,rfl,_⟩:=h
  rfl
 ·obtain⟨x,dx,y,dd,p,m,d,hs,ps,rfl,hx,hW,a1,a2,a3,a4,a5,q⟩:=h
  refine⟨_,(am (ay (bM (ar zX_ (hr.mono (by decide)) rfl (ae (pv 1) (ae (aU (pv 0) rfl) ag))) (bM (ar zct_ (hr.mono (by decide)) rfl (ae (pv 1) (ae (aU (pv 0) rfl) ag))) (cp (ar zY_ (hr.mono (by decide)) rfl (ae (aU (pv 0) rfl) ag))))))),?_⟩
  walk_at "rd"
  refine⟨_,_,_,hx,T.cl_Want,T.n_Want_day,_,kh _ _ _,y,d,hs,ps,dd,rfl,hW,_,rfl,?_⟩
  rw[show(decide (0≤dd)&&decide (dd<d))=true by rw[decide_eq_true a1,decide_eq_true a2];rfl,if_pos rfl]
  refine⟨_,_,_,hx,T.cl_Want,T.n_Want_post,_,kz _ _ _,y,d,hs,ps,p,rfl,hW,a3,a4,true,rfl,?_⟩
  rw[if_pos rfl]
  refine⟨_,_,_,hx,T.cl_Want,T.n_Want_many,_,li _ _ _,m,rfl,?_⟩
  rw[a5]
  exact q
inductive zK_(K:PySem.W.Frag)(ζ:Cs)(vs:List V)(H:Hp)(Q:VK)(E:XK):Prop
 | mk (x:Addr) (d:Int) (hs:List Int) (ps:List Pst) (h:Int) (_:vs=[.ref x,.int h]) (_:bt ζ.a H x d hs ps) (_:Q (.bl (ja hs h)) H):zK_ K ζ vs H Q E
theorem Bs:aw ["ward","hand"] ["ward","hand"] (ao uU):=⟨rfl,rfl,rfl,k!,rfl,k!,k!⟩
theorem Bc{ζ:Cs}{f:Addr}{fd:FuncData}(F:Fun K "has_hand" "has_hand" uU f fd)(T:Txt K mg ζ) :aN P w K mg base CX0 1 f fd ["ward","hand"] (zK_ K ζ):=by
 refine F.ok Bs (fun vs H Q E h=>?_) (fun cdv A outer s H vs Q E hr h=>?_)
 ·obtain⟨x,d,hs,ps,h,rfl,_⟩:=h
  rfl
 ·obtain⟨x,d,hs,ps,h,rfl,hW,q⟩:=h
  refine⟨_,(am (ay (bU cu cR aj (pv 1) (aC (aF (K:=K) rfl) (by rfl) T.len PySem.boot_len (ae (aU (pv 0) rfl) ag))))),?_⟩
  obtain⟨dx,ha,pa,ts,h1,h2,h3,h4⟩:=hW.ex
  walk_at "rd"
  unfold ja at q
  by_cases e:0≤h
  ·rw[if_pos e]
   refine⟨_,_,_,h1,T.cl_Ward,T.n_Ward_hands,_,dU _ _ _,_,rfl,_,.inr (SqT.of h2),?_⟩
   rw[decide_eq_true e,yla] at q
   rw[ya]
   exact q
  ·rw[if_neg e]
   rw[decide_eq_false e,yX] at q
   exact q
inductive tF(K:PySem.W.Frag)(ζ:Cs)(vs:List V)(H:Hp)(Q:VK)(E:XK):Prop
 | mk (s:Int) (_:vs=[.int s]) (_:0≤s) (_:s<2147483648) (_:Q (.bl true) H):tF K ζ vs H Q E
theorem CL:aw ["days"] ["days"] (ao zn):=⟨rfl,rfl,rfl,k!,rfl,k!,k!⟩
theorem A7{ζ:Cs}{f:Addr}{fd:FuncData}(F:Fun K "is_days" "is_days" zn f fd)(T:Txt K mg ζ) :aN P w K mg base CX0 1 f fd ["days"] (tF K ζ):=by
 refine F.ok CL (fun vs H Q E h=>?_) (fun cdv A outer s H vs Q E hr h=>?_)
 ·obtain⟨s,rfl,_⟩:=h
  rfl
 ·obtain⟨s,rfl,s0,s1,q⟩:=h
  refine⟨_,(am (ay (bU cu cR aj (pv 0) (ax eX aj aj)))),?_⟩
  walk_at "rd"
  rw[if_pos s0]
  refine⟨⟨by decide,by decide,by decide⟩,?_⟩
  rw[decide_eq_true (show s<(2:Int) ^ Int.toNat 31 by rw[show(2:Int) ^ Int.toNat 31=2147483648 by decide];exact s1)]
  exact q
inductive zr(K:PySem.W.Frag)(ζ:Cs)(vs:List V)(H:Hp)(Q:VK)(E:XK):Prop
 | mk (x dx y:Addr) (h s m d:Int) (hs:List Int) (ps:List Pst) (_:vs=[.ref x,.ref y]) (_:H x=some (.ins ζ.d dx (mf3 h s m))) (_:bt ζ.a H y d hs ps) (_:ja hs h=true) (_:0≤s) (_:s<2147483648) (_:0≤m) (_:m≤99) (_:Q (.bl true) H):zr K ζ vs H Q E
theorem Bi:aw ["self","ward"] ["self","ward"] (ao zd):=⟨rfl,rfl,rfl,k!,rfl,k!,k!⟩
theorem Dr{ζ:Cs}{f:Addr}{fd:FuncData}(F:Fun K "fits" "Least.fits" zd f fd)(T:Txt K mg ζ)(zi_:Cal P w K mg base "has_hand" ["ward","hand"] 1 (zK_ K ζ))(zZ_:Cal P w K mg base "is_days" ["days"] 1 (tF K ζ))(zY_:Cal P w K mg base "is_many" ["many"] 1 (tV K ζ)):aN P w K mg base CX0 2 f fd ["self","ward"] (zr K ζ):=by
 refine F.ok Bi (fun vs H Q E h=>?_) (fun cdv A outer s H vs Q E hr h=>?_)
 ·obtain⟨x,dx,y,h,s,m,d,hs,ps,rfl,_⟩:=h
  rfl
 ·obtain⟨x,dx,y,h,s',m,d,hs,ps,rfl,hx,hW,a1,a2,a3,m0,m1,q⟩:=h
  refine⟨_,(am (ay (bM (ar zi_ (hr.mono (by decide)) rfl (ae (pv 1) (ae (aU (pv 0) rfl) ag))) (bM (ar zZ_ (hr.mono (by decide)) rfl (ae (aU (pv 0) rfl) ag)) (cp (ar zY_ (hr.mono (by decide)) rfl (ae (aU (pv 0) rfl) ag))))))),?_⟩
  walk_at "rd"
  refine⟨_,_,_,hx,T.cl_Least,T.n_Least_hand,_,fE _ _ _,y,d,hs,ps,h,rfl,hW,_,rfl,?_⟩
  rw[a1,if_pos rfl]
  refine⟨_,_,_,hx,T.cl_Least,T.n_Least_days,_,lh _ _ _,s',rfl,a2,a3,?_⟩
  refine⟨true,rfl,?_⟩
  rw[if_pos rfl]
  refine⟨_,_,_,hx,T.cl_Least,T.n_Least_many,_,lm _ _ _,m,rfl,?_⟩
  rw[show isM m=true by unfold isM;rw[decide_eq_true m0,decide_eq_true m1];rfl]
  exact q
inductive uR(K:PySem.W.Frag)(ζ:Cs)(vs:List V)(H:Hp)(Q:VK)(E:XK):Prop
 | mk (x dx y:Addr) (h s d:Int) (hs:List Int) (ps:List Pst) (_:vs=[.ref x,.ref y]) (_:H x=some (.ins ζ.e dx (af2 h s))) (_:bt ζ.a H y d hs ps) (_:ja hs h=true) (_:0≤s) (_:s<2147483648) (_:Q (.bl true) H):uR K ζ vs H Q E
theorem CB:aw ["self","ward"] ["self","ward"] (ao vR):=⟨rfl,rfl,rfl,k!,rfl,k!,k!⟩
theorem Cr{ζ:Cs}{f:Addr}{fd:FuncData}(F:Fun K "fits" "Away.fits" vR f fd)(T:Txt K mg ζ)(zi_:Cal P w K mg base "has_hand" ["ward","hand"] 1 (zK_ K ζ))(zZ_:Cal P w K mg base "is_days" ["days"] 1 (tF K ζ)):aN P w K mg base CX0 2 f fd ["self","ward"] (uR K ζ):=by
 refine F.ok CB (fun vs H Q E h=>?_) (fun cdv A outer s H vs Q E hr h=>?_)
 ·obtain⟨x,dx,y,h,s,d,hs,ps,rfl,_⟩:=h
  rfl
 ·obtain⟨x,dx,y,h,s',d,hs,ps,rfl,hx,hW,a1,a2,a3,q⟩:=h
  refine⟨_,(am (ay (bM (ar zi_ (hr.mono (by decide)) rfl (ae (pv 1) (ae (aU (pv 0) rfl) ag))) (cp (ar zZ_ (hr.mono (by decide)) rfl (ae (aU (pv 0) rfl) ag)))))),?_⟩
  walk_at "rd"
  refine⟨_,_,_,hx,T.cl_Away,T.n_Away_hand,_,ia _ _,y,d,hs,ps,h,rfl,hW,_,rfl,?_⟩
  rw[a1,if_pos rfl]
  exact⟨_,_,_,hx,T.cl_Away,T.n_Away_days,_,kT _ _,s',rfl,a2,a3,q⟩
inductive vV(K:PySem.W.Frag)(ζ:Cs)(vs:List V)(H:Hp)(Q:VK)(E:XK):Prop
 | mk (y a:Addr) (d:Int) (hs:List Int) (ps:List Pst) (us:List V) (ss:List Sp4) (_:vs=[.ref y,.ref a]) (_:bt ζ.a H y d hs ps) (_:H a=some (.lst us)) (_:cy (dE ζ.c ζ.d ζ.e) ps.length H us ss) (_:(∀s∈ss,K3 s)) (_:(∀s∈ss,kg d hs.length ps.length s)) (_:ss.length≤120) (_:∀H',aA H H'→Q .non H'):vV K ζ vs H Q E
theorem vx:aw ["ward","rules","number","rule"] ["ward","rules"] (ao vY):=⟨rfl,rfl,rfl,k!,rfl,k!,k!⟩
theorem BV{ζ:Cs}{f:Addr}{fd:FuncData}(F:Fun K "need_rules" "need_rules" vY f fd)(T:Txt K mg ζ)(zce_:iB P w K mg base ζ.c "fits" ["self","ward"] 2 (xF K ζ))(zbx_:iB P w K mg base ζ.d "fits" ["self","ward"] 2 (zr K ζ))(zcf_:iB P w K mg base ζ.e "fits" ["self","ward"] 2 (uR K ζ)):aN P w K mg base CX0 3 f fd ["ward","rules"] (vV K ζ):=by
 refine F.ok vx (fun vs H Q E h=>?_) (fun cdv A outer s H vs Q E hr h=>?_)
 ·obtain⟨y,a,d,hs,ps,us,ss,rfl,_⟩:=h
  rfl
 ·obtain⟨y,a,d,hs,ps,us,ss,rfl,hW,ha,hU,k3,ok,h120,q⟩:=h
  refine⟨_,(am (bY PassesOwn.never rfl (cD rfl T.enumerate (pv 1)) (cx (n:=2) rfl (aB (aq (i:=2) vx.nd rfl (Or.inl rfl)) (aB (aq (i:=3) vx.nd rfl (Or.inl rfl)) bx)))
   (am (bh (PW.pt (gn (aK kX (pv 2) (dO rfl T.g_MOST_RULES) (aH _)) (dW (cG (b8 (jM (cB zce_ (hr.mono (by decide)) (pv 3) (ae (pv 0) ag)) (jM (cB zbx_ (hr.mono (by decide)) (pv 3) (ae (pv 0) ag)) (cB zcf_ (hr.mono (by decide)) (pv 3) (ae (pv 0) ag))))))))) (am fD) aJ)))),?_⟩
  have hul:=Paired.length hU
  refine cq fun B1 b1=>?_
  walk_at "rd"
  refine⟨⟨_,SqL.of ha⟩,bZ (xs:=us) (fun i σ H'=>aA H H'∧∃v2 v3,σ=[some (.ref y),some (.ref a),v2,v3]) ⟨aA.refl _,none,none,rfl⟩ (fun i σ H' _ hh=>SqL.of (hh.1 _ _ ha)) ?_ ?_⟩
  ·rintro i v σ H' tt hx ⟨g,v2,v3,rfl⟩ htt
   obtain⟨s,hsp,x,dx,rfl,qx⟩:=Paired.get' hU hx
   have okS:=ok s (yk hsp)
   have hi:=(List.getElem?_eq_some_iff.mp hsp).1
   rw[ygb]
   have gt:=ah htt (.tup [.int (i:Int),.ref x])
   have et:=af (H:=H') (a:=tt) (o:=.tup [.int (i:Int),.ref x])
   generalize upd H' tt (.tup [.int (i:Int),.ref x])=H2 at gt et ⊢
   have gg:=g.trans gt
   have qx2:=gg _ _ qx
   have hW2:=hW.mono gg
   walk_at "rd"
   refine⟨_,SqT.of et,rfl,_,_,rfl,_,_,rfl,rfl,?_⟩
   rw[b1]
   walk_at "rd"
   rw[if_neg (by lia)]
   have k6:=okS.k6
   obtain hk | hk | hk:=k3 s (yk hsp)
   ·have e:=uK hk qx2
    obtain⟨a1,a2,a3,a4⟩:=okS.w hk
    have p1:=yv s.b (b:=(ps.length:Int)) (by have:=okS.P0;lia)
    have p2:=yD s.b (b:=(ps.length:Int)) (by have:=okS.P0;lia)
    exact .inl ⟨_,_,e,qf _ _ _ k! k! k!,x,dx,y,_,_,_,d,hs,ps,rfl,e,hW2,a1,a2,by lia,by lia,vt a3 a4,true,rfl,by rw[if_neg (by decide)];exact gg⟩
   ·have e:=uD hk qx2
    obtain⟨a1,a2⟩:=okS.h (by lia)
    obtain⟨b1,b2⟩:=okS.b (by lia)
    obtain⟨c1,c2⟩:=okS.c2 hk
    exact .inr (.inl ⟨_,_,e,qv _ _ _ k! k! k!,x,dx,y,_,_,_,d,hs,ps,rfl,e,hW2,qr a1 a2,b1,b2,c1,c2,true,rfl,by rw[if_neg (by decide)];exact gg⟩)
   ·have e:=ud hk qx2
    obtain⟨a1,a2⟩:=okS.h (by lia)
    obtain⟨b1,b2⟩:=okS.b (by lia)
    exact .inr (.inr ⟨_,_,e,qz _ _ k! k!,x,dx,y,_,_,d,hs,ps,rfl,e,hW2,qr a1 a2,b1,b2,true,rfl,by rw[if_neg (by decide)];exact gg⟩)
  rintro σ H' ⟨g,v2,v3,rfl⟩
  exact q H' g
inductive wS(K:PySem.W.Frag)(ζ:Cs)(vs:List V)(H:Hp)(Q:VK)(E:XK):Prop
 | mk (x dx y:Addr) (dd p m d:Int) (hs:List Int) (ps:List Pst) (_:vs=[.ref x,.ref y]) (_:H x=some (.ins ζ.c dx (wf3 dd p m))) (_:bt ζ.a H y d hs ps) (_:hs.length≤8) (_:∀r us H',aA H H'→H r=none→H' r=some (.lst us)→iT H' us [⟨bF hs.length dd p,m⟩]→Q (.ref r) H'):wS K ζ vs H Q E
theorem zA:aw ["self","ward","parts"] ["self","ward"] (ao wH):=⟨rfl,rfl,rfl,k!,rfl,k!,k!⟩
theorem CH{ζ:Cs}{f:Addr}{fd:FuncData}(F:Fun K "lines" "Want.lines" wH f fd)(T:Txt K mg ζ) :aN P w K mg base CX0 1 f fd ["self","ward"] (wS K ζ):=by
 refine F.ok zA (fun vs H Q E h=>?_) (fun cdv A outer s H vs Q E hr h=>?_)
 ·obtain⟨x,dx,y,dd,p,m,d,hs,ps,rfl,_⟩:=h
  rfl
 ·obtain⟨x,dx,y,dd,p,m,d,hs,ps,rfl,hx,hW,hl8,q⟩:=h
  refine⟨_,(ak (da (i:=2) zA.nd rfl rfl (own:=["hand"]) (fnames:=["self"]) (fr:=[0]) (N':=["hand","self"]) ⟨rfl,rfl,rfl,rfl,rfl,rfl,rfl⟩ rfl (bE rfl T.range (ae (aC (aF (K:=K) rfl) (by rfl) T.len PySem.boot_len (ae (aU (pv 1) rfl) ag)) ag)) (fun s0 H0 fp0 C0=>⟨(aq (i:=0) (by show(["hand","self"]:List Str).Nodup;decide +kernel) rfl (Or.inl rfl)),bo,(aV (ae (pv 0) (ae (fj (K:=K) rfl (pv 1) rfl) (ae (fj (K:=K) rfl (pv 1) rfl) (ae aj ag)))))⟩))
  (am (ay (aY (ae (aV (ae (aS (bC (K:=K) rfl) (by rfl) T.tuple PyProof.Rows.boot_tuple (ae (pv 2) ag)) (ae (aU (pv 0) rfl) ag))) ag))))),?_⟩
  obtain⟨dy,ha,pa,ts0,h1,h2,h3,h4⟩:=hW.ex
  refine au fun U1 u1=>?_
  walk_at "rd"
  refine⟨_,_,_,h1,T.cl_Ward,T.n_Ward_hands,_,dU _ _ _,_,rfl,_,.inr (SqT.of h2),by lia,by rw[ya];omega,fun D hD=>bw (fun i σ H'=>∃(us:List V) (v0:Option V),aA H H'∧H' D=some (.lst us)∧gJ H' us (bF i dd p)∧σ=[v0,some (.ref x)]) ⟨[],none,ah hD _,af,.nil,rfl⟩ ?_ ?_⟩
  ·rintro i σ H' hi ⟨us,v0,g,e,hP,rfl⟩
   rw[ya,yh] at hi
   rw[show(0+(i:Int))=i by lia]
   have hul:=Paired.length hP
   rw[show(bF i dd p).length=i by unfold bF;rw[ya,yo]] at hul
   walk_at "rd"
   refine⟨_,_,_,g _ _ hx,T.cl_Want,T.n_Want_day,_,kh _ _ _,_,_,_,g _ _ hx,T.cl_Want,T.n_Want_post,_,kz _ _ _,by decide,fun t ht=>?_⟩
   have gt:=ah ht (.tup [.int (i:Int),.int dd,.int p,.int 1])
   refine⟨us,gt _ _ e,aE (by lia),aI hD (g.trans gt) _,_,af,?_⟩
   rw[lZ]
   exact gJ.mono (cI (gt _ _ e)) (aP (hP.mono (az gt)) ⟨t,rfl,af⟩)
  rintro σ H1 ⟨us,v0,g1,e1,hP1,rfl⟩
  rw[ya,yh] at hP1
  rw[u1];clear u1
  walk_at "rd"
  refine⟨_,SqL.of e1,fun l hl=>?_⟩
  have g2:=ah hl (.tup us)
  refine⟨_,_,_,(g1.trans g2) _ _ hx,T.cl_Want,T.n_Want_many,_,li _ _ _,by decide,fun u hu=>⟨by decide,fun r hr=>?_⟩⟩
  have g3:=ah hu (.tup [.ref l,.int m])
  have g4:=ah hr (.lst [.ref u])
  exact q r _ _ (g1.trans (g2.trans (g3.trans g4))) ((g1.trans (g2.trans g3)).free hr) af (.cons ⟨u,l,us,rfl,g4 _ _ af,(g3.trans g4) _ _ af,hP1.mono (az (g2.trans (g3.trans g4)))⟩ .nil)
inductive sg(K:PySem.W.Frag)(ζ:Cs)(vs:List V)(H:Hp)(Q:VK)(E:XK):Prop
 | mk (a b:Addr) (h n:Int) (ds ps:List Int) (_:vs=[.int h,.ref a,.ref b,.int n]) (_:H a=some (.lst (ds.map V.int))) (_:H b=some (.lst (ps.map V.int))) (_:ds.length≤100) (_:ps.length≤8) (_:∀t ts H',aA H H'→H' t=some (.tup ts)→gJ H' ts (spr h ds ps n)→Q (.ref t) H'):sg K ζ vs H Q E
theorem zw:aw ["hand","days","posts","number","parts","day"] ["hand","days","posts","number"] (ao wL):=⟨rfl,rfl,rfl,k!,rfl,k!,k!⟩
theorem BJ{ζ:Cs}{f:Addr}{fd:FuncData}(F:Fun K "spread" "spread" wL f fd)(T:Txt K mg ζ) :aN P w K mg base CX0 1 f fd ["hand","days","posts","number"] (sg K ζ):=by
 refine F.ok zw (fun vs H Q E h=>?_) (fun cdv A outer s H vs Q E hr h=>?_)
 ·obtain⟨a,b,h,n,ds,ps,rfl,_⟩:=h
  rfl
 ·obtain⟨a,b,h,n,ds,ps,rfl,hA,hB,hd,hp,q⟩:=h
  refine⟨_,(ak (aD (i:=4) zw.nd rfl (Or.inl rfl) (aY ag))
  (ak (bY PassesOwn.never rfl (bG (pv 1)) (aq (i:=5) zw.nd rfl (Or.inr rfl))
   (am (bO (dD PySem.F.plainAttrs_list PySem.F.slot_list_extend PySem.F.type_list_extend jz (pv 4) (ae (bp (own:=["post"]) (fnames:=["hand","number","day"]) (fr:=[0,3,5]) (N':=["post","hand","number","day"]) ⟨rfl,rfl,rfl,rfl,rfl,rfl,rfl⟩ rfl (bG (pv 2)) (fun s0 H0 fp0 C0=>⟨(aq (i:=0) (by show(["post","hand","number","day"]:List Str).Nodup;decide +kernel) rfl (Or.inl rfl)),bo,(aV (ae (pv 1) (ae (pv 3) (ae (pv 0) (ae (pv 2) ag)))))⟩)) ag)))))
  (am (ay (aS (bC (K:=K) rfl) (by rfl) T.tuple PyProof.Rows.boot_tuple (ae (pv 4) ag)))))),?_⟩
  refine au fun U1 u1=>?_
  walk_at "rd"
  refine⟨yH _,fun p hp0=>?_⟩
  have g0:=ah hp0 (.lst [])
  rw[u1];clear u1
  refine au fun U1 u1=>cq fun B1 b1=>?_
  walk_at "rd"
  refine⟨⟨_,SqL.of (g0 _ _ hA)⟩,bg (xs:=ds.map V.int) (fun i σ H'=>∃(ts:List V) (v:Option V),aA H H'∧H' p=some (.lst ts)∧gJ H' ts (spr h (ds.take i) ps n)∧σ=[some (.int h),some (.ref a),some (.ref b),some (.int n),some (.ref p),v]) ⟨[],none,g0,af,.nil,rfl⟩ (fun i σ H' _ ⟨_,_,g,_⟩=>SqL.of (g _ _ hA)) ?_ ?_⟩
  ·rintro i x σ H' hx ⟨ts,v,g,e,hP,rfl⟩
   rw[yc] at hx
   obtain⟨d,hd',rfl⟩:=Option.map_eq_some_iff.mp hx
   have hi:i<ds.length:=(List.getElem?_eq_some_iff.mp hd').1
   have htl:=Paired.length hP
   rw[fN,yf] at htl
   have hb1:min i ds.length*ps.length≤100*8:=yhb (by lia) hp
   rw[b1]
   walk_at "rd"
   refine⟨.inl ⟨rfl,_,SqL.of e⟩,⟨_,SqL.of (g _ _ hB)⟩,fun D hD=>bg (xs:=ps.map V.int) (fun j σ H2=>∃(us:List V) (v2:Option V),aA H' H2∧H2 D=some (.lst us)∧gJ H2 us ((ps.take j).map fun q=>⟨h,d,q,n⟩)∧σ=[v2,some (.int h),some (.int n),some (.int d)]) ⟨[],none,ah hD _,af,.nil,rfl⟩ (fun j σ H2 _ ⟨_,_,g2,_⟩=>SqL.of (g2 _ _ (g _ _ hB))) ?_ ?_⟩
   ·rintro j y σ H2 hy ⟨us,v2,g2,e2,hU,rfl⟩
    rw[yc] at hy
    obtain⟨z,hz,rfl⟩:=Option.map_eq_some_iff.mp hy
    have hul:=Paired.length hU
    rw[ya,yf] at hul
    walk_at "rd"
    refine⟨by decide,fun t ht=>?_⟩
    have g3:=ah ht (.tup [.int h,.int d,.int z,.int n])
    refine⟨us,g3 _ _ e2,aE (by lia),aI hD (g2.trans g3) _,us++[.ref t],af,?_⟩
    rw[ba hz,yg]
    exact gJ.mono (cI (g3 _ _ e2)) (aP (hU.mono (az g3)) ⟨t,rfl,af⟩)
   ·rintro σ H2 ⟨us,v2,g2,e2,hU,rfl⟩
    rw[yoa (by rw[ya];exact yi _)] at hU
    have hul:=Paired.length hU
    rw[ya] at hul
    have e':=g2 _ _ e
    walk_at "rd"
    refine⟨ts,e',us,e2,aL (by lia),aI hp0 (g.trans g2) _,ts++us,af,?_⟩
    rw[ba hd',qX]
    exact gJ.mono (cI e') (lT (hP.mono (az g2)) hU)
  ·rintro σ H' ⟨ts,v,g,e,hP,rfl⟩
   rw[u1];clear u1
   walk_at "rd"
   refine⟨_,SqL.of e,fun l hl=>?_⟩
   rw[ya,yA] at hP
   exact q l ts _ (g.trans (ah hl _)) af (hP.mono (az (ah hl _)))
inductive tW(K:PySem.W.Frag)(ζ:Cs)(vs:List V)(H:Hp)(Q:VK)(E:XK):Prop
 | mk (h n:Int) (_:vs=[.int h,.int n]) (_:Q (.bl (cv h n)) H):tW K ζ vs H Q E
theorem C2:aw ["have","need"] ["have","need"] (ao zl):=⟨rfl,rfl,rfl,k!,rfl,k!,k!⟩
theorem Cw{ζ:Cs}{f:Addr}{fd:FuncData}(F:Fun K "covers" "covers" zl f fd)(T:Txt K mg ζ) :aN P w K mg base CX0 1 f fd ["have","need"] (tW K ζ):=by
 refine F.ok C2 (fun vs H Q E h=>?_) (fun cdv A outer s H vs Q E hr h=>?_)
 ·obtain⟨h,n,rfl,_⟩:=h
  rfl
 ·obtain⟨h,n,rfl,q⟩:=h
  refine⟨_,(am (ay (bJ bW (ax mI (pv 0) (pv 1)) (pv 1) (aH _)))),?_⟩
  walk_at "rd"
  exact q
inductive zp(K:PySem.W.Frag)(ζ:Cs)(vs:List V)(H:Hp)(Q:VK)(E:XK):Prop
 | mk (n:Int) (_:vs=[.int n]) (_:0≤n) (_:n<2 ^ 40) (_:∀r H',New H H' r ((pl n).map V.int)→Q (.ref r) H'):zp K ζ vs H Q E
theorem Do:aw ["number"] ["number"] (ao wJ):=⟨rfl,rfl,rfl,k!,rfl,k!,k!⟩
theorem BL{ζ:Cs}{f:Addr}{fd:FuncData}(F:Fun K "members" "members" wJ f fd)(T:Txt K mg ζ)(zan_:Cal P w K mg base "covers" ["have","need"] 1 (tW K ζ)):aN P w K mg base CX0 2 f fd ["number"] (zp K ζ):=by
 refine F.ok Do (fun vs H Q E h=>?_) (fun cdv A outer s H vs Q E hr h=>?_)
 ·obtain⟨n,rfl,_⟩:=h
  rfl
 ·obtain⟨n,rfl,n0,n1,q⟩:=h
  refine⟨_,(am (ay (bp (own:=["place"]) (fnames:=["number"]) (fr:=[0]) (N':=["place","number"]) ⟨rfl,rfl,rfl,rfl,rfl,rfl,rfl⟩ rfl (bE rfl T.range (ae (pL PySem.F.plainAttrs_int PySem.F.slot_int_bit_length PySem.F.type_int_bit_length o0 (pv 0)) ag)) (fun s0 H0 fp0 C0=>⟨(aq (i:=0) (by show(["place","number"]:List Str).Nodup;decide +kernel) rfl (Or.inl rfl)),(dA (b8 (ar zan_ (hr.mono (by decide)) rfl (ae (pv 1) (ae (ax mn aj (pv 0)) ag))))),(pv 0)⟩)))),?_⟩
  walk_at "rd"
  obtain⟨b1,b2⟩:=tX n0 n1
  refine⟨rfl,by lia,by omega,fun D hD=>bw (fun i σ H'=>(∃v,σ=[v,some (.int n)])∧H'=upd H D (.lst (((plN n.toNat i).map fun j:Nat=>(j:Int)).map V.int))) ⟨⟨none,rfl⟩,rfl⟩ ?_ ?_⟩
  ·rintro i σ H' hi ⟨⟨v,rfl⟩,rfl⟩
   walk_at "rd"
   have et:(0+(i:Int)).toNat=i:=by lia
   rw[et]
   refine⟨⟨by lia,by lia,by decide⟩,n,_,rfl,?_⟩
   rw[show cv n (1*2 ^ i)=n.toNat.testBit i from sf n0 i]
   walk_at "rd"
   have hs:=qc n.toNat i
   split
   ·rename_i hb
    rw[if_pos hb] at hs
    have hl:=sF n.toNat i
    refine⟨_,af,by simp only[ya];exact aE (by lia),?_⟩
    rw[cf,hs]
    simp
   ·rename_i hb
    rw[if_neg hb,yI] at hs
    first | (rw[hs];done) | (rw[hs];exact⟨⟨_,rfl⟩,rfl⟩)
  ·rintro σ H' ⟨_,rfl⟩
   refine q D _ ⟨ah hD _,hD,?_⟩
   rw[af,yh,lF b2 b1]
   rfl
inductive xK(K:PySem.W.Frag)(ζ:Cs)(vs:List V)(H:Hp)(Q:VK)(E:XK):Prop
 | mk (m:Int) (_:vs=[.int m]) (_:0≤m) (_:m≤1000) (_:Q (.int (2 ^ m.toNat-1)) H):xK K ζ vs H Q E
theorem C7:aw ["many"] ["many"] (ao xa):=⟨rfl,rfl,rfl,k!,rfl,k!,k!⟩
theorem CI{ζ:Cs}{f:Addr}{fd:FuncData}(F:Fun K "first_days" "first_days" xa f fd)(T:Txt K mg ζ) :aN P w K mg base CX0 1 f fd ["many"] (xK K ζ):=by
 refine F.ok C7 (fun vs H Q E h=>?_) (fun cdv A outer s H vs Q E hr h=>?_)
 ·obtain⟨m,rfl,_⟩:=h
  rfl
 ·obtain⟨m,rfl,m0,m1,q⟩:=h
  refine⟨_,(am (ay (ax cM (ax mn aj (pv 0)) aj))),?_⟩
  walk_at "rd"
  refine⟨⟨m0,by lia,by decide⟩,?_⟩
  rw[Int.one_mul]
  exact q
inductive tG(K:PySem.W.Frag)(ζ:Cs)(vs:List V)(H:Hp)(Q:VK)(E:XK):Prop
 | mk (x:Addr) (d:Int) (hs:List Int) (ps:List Pst) (s:Nat) (_:vs=[.ref x,.int s]) (_:bt ζ.a H x d hs ps) (_:0≤d) (_:d≤31) (_:s<2147483648) (_:∀r H',New H H' r ((dsN s d.toNat).map V.int)→Q (.ref r) H'):tG K ζ vs H Q E
theorem Bp:aw ["ward","days"] ["ward","days"] (ao uX):=⟨rfl,rfl,rfl,k!,rfl,k!,k!⟩
theorem Dv{ζ:Cs}{f:Addr}{fd:FuncData}(F:Fun K "days_of" "days_of" uX f fd)(T:Txt K mg ζ)(zcM_:Cal P w K mg base "members" ["number"] 2 (zp K ζ))(zby_:Cal P w K mg base "first_days" ["many"] 1 (xK K ζ)):aN P w K mg base CX0 3 f fd ["ward","days"] (tG K ζ):=by
 refine F.ok Bp (fun vs H Q E h=>?_) (fun cdv A outer s H vs Q E hr h=>?_)
 ·obtain⟨x,d,hs,ps,s,rfl,_⟩:=h
  rfl
 ·obtain⟨x,d,hs,ps,s,rfl,hW,d0,d31,s1,q⟩:=h
  refine⟨_,(am (ay (ar zcM_ (hr.mono (by decide)) rfl (ae (ax mI (pv 1) (ar zby_ (hr.mono (by decide)) rfl (ae (aU (pv 0) rfl) ag))) ag)))),?_⟩
  obtain⟨dx,ha,pa,ts,h1,h2,h3,h4⟩:=hW.ex
  walk_at "rd"
  refine⟨_,_,_,h1,T.cl_Ward,T.n_Ward_days,_,ee _ _ _,d,rfl,d0,by lia,?_⟩
  walk_at "rd"
  rw[o8]
  exact⟨_,rfl,yfa _,oQ s1,fun r H' hN=>q r H' (by rw[← wB (days:=s) (d:=d.toNat) (by lia)];exact hN)⟩
inductive rM(K:PySem.W.Frag)(ζ:Cs)(vs:List V)(H:Hp)(Q:VK)(E:XK):Prop
 | mk (x:Addr) (d:Int) (hs:List Int) (ps:List Pst) (_:vs=[.ref x]) (_:bt ζ.a H x d hs ps) (_:ps.length≤6) (_:∀r H',New H H' r ((bN ps).map V.int)→Q (.ref r) H'):rM K ζ vs H Q E
theorem Cu:aw ["ward"] ["ward"] (ao vZ):=⟨rfl,rfl,rfl,k!,rfl,k!,k!⟩
theorem A0{ζ:Cs}{f:Addr}{fd:FuncData}(F:Fun K "all_posts" "all_posts" vZ f fd)(T:Txt K mg ζ) :aN P w K mg base CX0 1 f fd ["ward"] (rM K ζ):=by
 refine F.ok Cu (fun vs H Q E h=>?_) (fun cdv A outer s H vs Q E hr h=>?_)
 ·obtain⟨x,d,hs,ps,rfl,_⟩:=h
  rfl
 ·obtain⟨x,d,hs,ps,rfl,hW,hl,q⟩:=h
  refine⟨_,(am (ay (aS (iS rfl) (by rfl) T.list PyProof.Rows.boot_list (ae (aS gF (by rfl) T.range PyProof.Rows.boot_range (ae aj (ae (ax bz (aC (aF (K:=K) rfl) (by rfl) T.len PySem.boot_len (ae (aU (pv 0) rfl) ag)) aj) ag))) ag)))),?_⟩
  obtain⟨dx,ha,pa,ts,h1,h2,h3,h4⟩:=hW.ex
  have hlen:=h4.len
  walk_at "rd"
  refine⟨_,_,_,h1,T.cl_Ward,T.n_Ward_posts,_,io _ _ _,_,rfl,_,.inr (SqT.of h3),fun p hp=>?_⟩
  refine⟨_,_,af,by decide,by decide,by lia,by lia,fun l hl=>?_⟩
  have e:((ts.length:Int)+1-1).toNat=ps.length:=by lia
  rw[e]
  exact q l _ ⟨(ah hp _).trans (ah hl _),(ah hp _).free hl,af⟩
inductive xb(K:PySem.W.Frag)(ζ:Cs)(vs:List V)(H:Hp)(Q:VK)(E:XK):Prop
 | mk (x dx y:Addr) (h m d:Int) (s:Nat) (hs:List Int) (ps:List Pst) (_:vs=[.ref x,.ref y]) (_:H x=some (.ins ζ.d dx (mf3 h s m))) (_:bt ζ.a H y d hs ps) (_:Ok d hs ps) (_:s<2147483648) (_:∀r us H',aA H H'→H r=none→H' r=some (.lst us)→iT H' us [⟨spr h (dsN s d.toNat) (bN ps) (1),m⟩]→Q (.ref r) H'):xb K ζ vs H Q E
theorem BG:aw ["self","ward"] ["self","ward"] (ao vX):=⟨rfl,rfl,rfl,k!,rfl,k!,k!⟩
theorem CU{ζ:Cs}{f:Addr}{fd:FuncData}(F:Fun K "lines" "Least.lines" vX f fd)(T:Txt K mg ζ)(zap_:Cal P w K mg base "spread" ["hand","days","posts","number"] 1 (sg K ζ))(zaa_:Cal P w K mg base "days_of" ["ward","days"] 3 (tG K ζ))(zz_:Cal P w K mg base "all_posts" ["ward"] 1 (rM K ζ)):aN P w K mg base CX0 4 f fd ["self","ward"] (xb K ζ):=by
 refine F.ok BG (fun vs H Q E h=>?_) (fun cdv A outer s H vs Q E hr h=>?_)
 ·obtain⟨x,dx,y,h,m,d,s,hs,ps,rfl,_⟩:=h
  rfl
 ·obtain⟨x,dx,y,h,m,d,s',hs,ps,rfl,hx,hW,ok,s1,q⟩:=h
  refine⟨_,(am (ay (aY (ae (aV (ae (ar zap_ (hr.mono (by decide)) rfl (ae (aU (pv 0) rfl) (ae (ar zaa_ (hr.mono (by decide)) rfl (ae (pv 1) (ae (aU (pv 0) rfl) ag))) (ae (ar zz_ (hr.mono (by decide)) rfl (ae (pv 1) ag)) (ae aj ag))))) (ae (aU (pv 0) rfl) ag))) ag)))),?_⟩
  have od1:=ok.d1
  have od2:=ok.d2
  have opl:=ok.pl
  have hdl:=ke s' d.toNat
  have hal:=iA ps
  walk_at "rd"
  refine⟨_,_,_,hx,T.cl_Least,T.n_Least_hand,_,fE _ _ _,_,_,_,hx,T.cl_Least,T.n_Least_days,_,lh _ _ _,y,d,hs,ps,s',rfl,hW,by lia,by omega,s1,fun r0 H1 ⟨g1,f1,e1⟩=>?_⟩
  refine⟨y,d,hs,ps,rfl,hW.mono g1,opl,fun b2 H2 ⟨g2,f2,e2⟩=>?_⟩
  refine⟨r0,b2,h,(1),dsN s' d.toNat,bN ps,rfl,g2 _ _ e1,e2,by lia,by lia,fun t ts H3 g3 et hts=>?_⟩
  have gA:=g1.trans (g2.trans g3)
  refine⟨_,_,_,gA _ _ hx,T.cl_Least,T.n_Least_many,_,lm _ _ _,?_⟩
  refine⟨by decide,fun u hu=>⟨by decide,fun r hr=>?_⟩⟩
  have g4:=ah hu (.tup [.ref t,.int (m)])
  have g5:=ah hr (.lst [.ref u])
  exact q r _ _ (gA.trans (g4.trans g5)) ((gA.trans g4).free hr) af (.cons ⟨u,t,ts,rfl,g5 _ _ af,(g4.trans g5) _ _ et,hts.mono (az (g4.trans g5))⟩ .nil)
inductive xC(K:PySem.W.Frag)(ζ:Cs)(vs:List V)(H:Hp)(Q:VK)(E:XK):Prop
 | mk (x dx y:Addr) (h d:Int) (s:Nat) (hs:List Int) (ps:List Pst) (_:vs=[.ref x,.ref y]) (_:H x=some (.ins ζ.e dx (af2 h s))) (_:bt ζ.a H y d hs ps) (_:Ok d hs ps) (_:s<2147483648) (_:∀r us H',aA H H'→H r=none→H' r=some (.lst us)→iT H' us (iz h ps s d.toNat)→Q (.ref r) H'):xC K ζ vs H Q E
theorem Ca:aw ["self","ward"] ["self","ward"] (ao vg):=⟨rfl,rfl,rfl,k!,rfl,k!,k!⟩
theorem Da{ζ:Cs}{f:Addr}{fd:FuncData}(F:Fun K "lines" "Away.lines" vg f fd)(T:Txt K mg ζ)(zap_:Cal P w K mg base "spread" ["hand","days","posts","number"] 1 (sg K ζ))(zaa_:Cal P w K mg base "days_of" ["ward","days"] 3 (tG K ζ))(zz_:Cal P w K mg base "all_posts" ["ward"] 1 (rM K ζ)):aN P w K mg base CX0 4 f fd ["self","ward"] (xC K ζ):=by
 refine F.ok Ca (fun vs H Q E h=>?_) (fun cdv A outer s H vs Q E hr h=>?_)
 ·obtain⟨x,dx,y,h,d,s,hs,ps,rfl,_⟩:=h
  rfl
 ·obtain⟨x,dx,y,h,d,s',hs,ps,rfl,hx,hW,ok,s1,q⟩:=h
  refine⟨_,(am (ay (bp (own:=["day"]) (fnames:=["self","ward"]) (fr:=[0,1]) (N':=["day","self","ward"]) ⟨rfl,rfl,rfl,rfl,rfl,rfl,rfl⟩ rfl (bG (ar zaa_ (hr.mono (by decide)) rfl (ae (pv 1) (ae (aU (pv 0) rfl) ag)))) (fun s0 H0 fp0 C0=>⟨(aq (i:=0) (by show(["day","self","ward"]:List Str).Nodup;decide +kernel) rfl (Or.inl rfl)),bo,(aV (ae (ar zap_ (hr.mono (by decide)) rfl (ae (fj (K:=K) rfl (pv 1) rfl) (ae (aY (ae (pv 0) ag)) (ae (ar zz_ (hr.mono (by decide)) rfl (ae (pv 2) ag)) (ae (dS cY aj) ag))))) (ae aj ag)))⟩)))),?_⟩
  have od1:=ok.d1
  have od2:=ok.d2
  have opl:=ok.pl
  have hdl:(dsN s' d.toNat).length≤31:=by
   unfold dsN
   rw[ya]
   exact yJ (yba _ _) (by rw[yo];lia)
  walk_at "rd"
  refine⟨_,_,_,hx,T.cl_Away,T.n_Away_days,_,kT _ _,y,d,hs,ps,s',rfl,hW,by lia,by omega,s1,fun r0 H1 ⟨g1,f1,e1⟩=>?_⟩
  walk_at "rd"
  refine⟨⟨_,SqL.of e1⟩,fun D hD=>bg (xs:=(dsN s' d.toNat).map V.int) (fun i σ H'=>∃(us:List V) (v0:Option V),aA H1 H'∧H' D=some (.lst us)∧iT H' us (((dsN s' d.toNat).take i).map fun x=>⟨spr h [x] (bN ps) (-1),0⟩)∧σ=[v0,some (.ref x),some (.ref y)]) ⟨[],none,ah hD _,af,.nil,rfl⟩ (fun i σ H' _ ⟨_,_,g,_⟩=>SqL.of (g _ _ e1)) ?_ ?_⟩
  ·rintro i v σ H' hv ⟨us,v0,g,e,hL,rfl⟩
   obtain⟨z,hz,rfl⟩:=oy hv
   have hul:=Paired.length hL
   rw[ya,yf] at hul
   have ga:=g1.trans g
   walk_at "rd"
   refine⟨_,_,_,ga _ _ hx,T.cl_Away,T.n_Away_hand,_,ia _ _,by decide,fun l hl=>?_⟩
   have gl:=ah hl (.lst [.int z])
   refine⟨y,d,hs,ps,rfl,hW.mono (ga.trans gl),opl,fun b2 H2 ⟨g2,f2,e2⟩=>?_⟩
   have hal:=iA ps
   refine⟨l,b2,h,-1,[z],bN ps,rfl,g2 _ _ af,e2,by simp,by lia,fun t ts H3 g3 et hts=>⟨by decide,fun u hu=>?_⟩⟩
   have gu:=ah hu (.tup [.ref t,.int 0])
   have g5:=(gl.trans (g2.trans g3)).trans gu
   refine⟨us,g5 _ _ e,aE (by lia),aI hD (g.trans g5) _,_,af,?_⟩
   rw[ba hz,yg]
   exact iT.mono (cI (g5 _ _ e)) (aP (hL.mono (az g5)) ⟨u,t,ts,rfl,af,gu _ _ et,hts.mono (az gu)⟩)
  rintro σ H' ⟨us,v0,g,e,hL,rfl⟩
  rw[ya,yA] at hL
  exact q D us H' (g1.trans g) (g1.free hD) e hL
inductive zo_(K:PySem.W.Frag)(ζ:Cs)(vs:List V)(H:Hp)(Q:VK)(E:XK):Prop
 | mk (x dx y a:Addr) (d:Int) (hs:List Int) (ps:List Pst) (us:List V) (ss:List Sp4) (_:vs=[.ref x,.ref y,.ref a]) (_:H x=some (.ins ζ.b dx [])) (_:bt ζ.a H y d hs ps) (_:Ok d hs ps) (_:H a=some (.lst us)) (_:cy (dE ζ.c ζ.d ζ.e) ps.length H us ss) (_:(∀s∈ss,K3 s)) (_:(∀s∈ss,kg d hs.length ps.length s)) (_:ss.length≤120) (_:∀H',(∀c o,H c=some o→c≠x→H' c=some o)→cJ (dE ζ.c ζ.d ζ.e) ζ.b ζ.a H' x d hs ps ss→Q .non H'):zo_ K ζ vs H Q E
theorem Dw:aw ["self","ward","rules"] ["self","ward","rules"] (ao zP_):=⟨rfl,rfl,rfl,k!,rfl,k!,k!⟩
theorem Dc{ζ:Cs}{f:Addr}{fd:FuncData}(F:Fun K "__init__" "Terms.__init__" zP_ f fd)(T:Txt K mg ζ)(zbz_:Cal P w K mg base "need_rules" ["ward","rules"] 3 (vV K ζ))(zbA_:iB P w K mg base ζ.c "lines" ["self","ward"] 1 (wS K ζ))(zaL_:iB P w K mg base ζ.d "lines" ["self","ward"] 4 (xb K ζ))(zbB_:iB P w K mg base ζ.e "lines" ["self","ward"] 4 (xC K ζ)):aN P w K mg base CX0 5 f fd ["self","ward","rules"] (zo_ K ζ):=by
 refine F.ok Dw (fun vs H Q E h=>?_) (fun cdv A outer s H vs Q E hr h=>?_)
 ·obtain⟨x,dx,y,a,d,hs,ps,us,ss,rfl,_⟩:=h
  rfl
 ·obtain⟨x,dx,y,a,d,hs,ps,us,ss,rfl,hx,hW,okw,ha,hU,k3,ok,h120,q⟩:=h
  refine⟨_,(ak (bO (ar zbz_ (hr.mono (by decide)) rfl (ae (pv 1) (ae (pv 2) ag))))
  (ak (cE (pv 0) (pv 1) rfl)
  (ak (cE (pv 0) (aS (bC (K:=K) rfl) (by rfl) T.tuple PyProof.Rows.boot_tuple (ae (pv 2) ag)) rfl)
  (am (cE (pv 0) (aS (bC (K:=K) rfl) (by rfl) T.tuple PyProof.Rows.boot_tuple (ae (bp (own:=["rule"]) (fnames:=["ward"]) (fr:=[1]) (N':=["rule","ward"]) ⟨rfl,rfl,rfl,rfl,rfl,rfl,rfl⟩ rfl (bG (pv 2)) (fun s0 H0 fp0 C0=>⟨(aq (i:=0) (by show(["rule","ward"]:List Str).Nodup;decide +kernel) rfl (Or.inl rfl)),bo,(aS (bC (K:=K) rfl) (by rfl) T.tuple PyProof.Rows.boot_tuple (ae (jM (cB zbA_ (hr.mono (by decide)) (pv 0) (ae (pv 1) ag)) (jM (cB zaL_ (hr.mono (by decide)) (pv 0) (ae (pv 1) ag)) (cB zbB_ (hr.mono (by decide)) (pv 0) (ae (pv 1) ag)))) ag))⟩)) ag)) rfl))))),?_⟩
  have hul:=Paired.length hU
  refine au fun U1 u1=>?_
  walk_at "rd"
  refine⟨y,a,d,hs,ps,us,ss,rfl,hW,ha,hU,k3,ok,h120,fun H1 g1=>?_⟩
  rw[u1];clear u1
  walk_at "rd"
  have hx1:=g1 _ _ hx
  have ha1:=g1 _ _ ha
  have hW1:=hW.mono g1
  have hU1:=cy.mono g1 hU
  have nax:a≠x:=fun z=>by rw[z,hx1] at ha1;cases ha1
  refine⟨_,_,_,hx1,T.cl_Terms,T.n_Terms_ward,by decide,us,SqL.of (by rw[av nax];exact ha1),fun l hl=>?_⟩
  have nlx:l≠x:=fun z=>by rw[z,af] at hl;cases hl
  have hl1:H1 l=none:=by rw[av nlx] at hl;exact hl
  refine⟨ζ.b,dx,bn "ward" (.ref y) [],by rw[av nlx.symm,af],T.cl_Terms,T.n_Terms_rules,yS (aZ _ _ _) (by show 1<1000;decide),?_⟩
  have fr4:∀c o,H1 c=some o→c≠x→upd (upd (upd H1 x (.ins ζ.b dx (bn "ward" (.ref y) []))) l (.tup us)) x (.ins ζ.b dx (bn "rules" (.ref l) (bn "ward" (.ref y) []))) c=some o:=fun c o e n=>by
   rw[av n,av (aG e hl1),av n]
   exact e
  have ex4:=af (H:=upd (upd H1 x (.ins ζ.b dx (bn "ward" (.ref y) []))) l (.tup us)) (a:=x) (o:=.ins ζ.b dx (bn "rules" (.ref l) (bn "ward" (.ref y) [])))
  have el4:upd (upd (upd H1 x (.ins ζ.b dx (bn "ward" (.ref y) []))) l (.tup us)) x (.ins ζ.b dx (bn "rules" (.ref l) (bn "ward" (.ref y) []))) l=some (.tup us):=by rw[av nlx,af]
  generalize upd (upd (upd H1 x (.ins ζ.b dx (bn "ward" (.ref y) []))) l (.tup us)) x (.ins ζ.b dx (bn "rules" (.ref l) (bn "ward" (.ref y) [])))=H4 at fr4 ex4 el4 ⊢
  have nx:∀{c:Addr} {C:Addr} {dd:Addr} {fs:List (Str×V)},H1 c=some (.ins C dd fs)→fs≠[]→c≠x:=fun e n z=>by rw[z,hx1] at e;cases e;exact n rfl
  have ha4:=fr4 _ _ ha1 nax
  refine⟨⟨_,SqL.of ha4⟩,fun D hD=>bg (xs:=us) (fun i σ H'=>jd H4 D (ss.map (aT d.toNat hs.length ps)) i H'∧∃v0,σ=[v0,some (.ref y)]) ⟨jd.start hD,none,rfl⟩ (fun i σ H' _ hh=>SqL.of (hh.1.same _ _ ha4)) ?_ ?_⟩
  ·rintro i v σ H' hv ⟨sI,v0,rfl⟩
   obtain⟨s,hsp,xr,dr,rfl,qx⟩:=Paired.get' hU1 hv
   have okS:=ok s (yk hsp)
   have hi:=(List.getElem?_eq_some_iff.mp hsp).1
   have qx2:=sI.same _ _ (fr4 _ _ qx (nx qx (jG _ _)))
   have hW2:bt ζ.a H' y d hs ps:=by
    obtain⟨dw,wa,pa,ts,w1,w2,w3,w4⟩:=hW1.ex
    have f5:∀c xs,H1 c=some (.tup xs)→H' c=some (.tup xs):=fun c xs e=>sI.same _ _ (fr4 _ _ e fun z=>by rw[z,hx1] at e;cases e)
    exact⟨dw,wa,pa,ts,sI.same _ _ (fr4 _ _ w1 (nx w1 (fun z=>by have:=ee d wa pa;rw[z] at this;cases this))),f5 _ _ w2,f5 _ _ w3,cQ.tmono f5 w4⟩
   have lr:(ss.map (aT d.toNat hs.length ps))[i]? = some (aT d.toNat hs.length ps s):=by rw[yc,hsp];rfl
   have fin:∀(p:Addr) (ul:List V) (H5:Hp),aA H' H5→H5 p=some (.lst ul)→iT H5 ul (aT d.toNat hs.length ps s)→∃q,V.ref p=V.ref q∧∃x4,SqL K H5 q x4∧∀l,H5 l=none→∃xs,upd H5 l (.tup x4) D=some (.lst xs)∧xs.length<sizeLine∧jd H4 D (ss.map (aT d.toNat hs.length ps)) (i+1) (upd (upd H5 l (.tup x4)) D (.lst (xs++[.ref l]))):=fun p ul H5 g5 ep hL=>⟨p,rfl,ul,SqL.of ep,fun l hl=>sI.step hD (by lia) g5 lr hl hL⟩
   have dd:=yR (show 0≤d by have:=okw.d1;lia)
   have k6:=okS.k6
   walk_at "rd"
   obtain hk | hk | hk:=k3 s (yk hsp)
   ·have e:=uK hk qx2
    rw[qg hk] at fin
    exact .inl ⟨_,_,e,qf _ _ _ k! k! k!,xr,dr,y,_,_,_,d,hs,ps,rfl,e,hW2,okw.hl,fun r ul H5 g5 _ er hL=>fin r ul H5 g5 er hL⟩
   ·have e:=uD hk qx2
    obtain⟨b1,b2⟩:=okS.b (by lia)
    rw[qo hk] at fin
    exact .inr (.inl ⟨_,_,e,qv _ _ _ k! k! k!,xr,dr,y,_,_,d,s.b.toNat,hs,ps,rfl,by rw[yR b1];exact e,hW2,okw,by lia,fun r ul H5 g5 _ er hL=>fin r ul H5 g5 er hL⟩)
   ·have e:=ud hk qx2
    obtain⟨b1,b2⟩:=okS.b (by lia)
    rw[rF hk] at fin
    exact .inr (.inr ⟨_,_,e,qz _ _ k! k!,xr,dr,y,_,d,s.b.toNat,hs,ps,rfl,by rw[yR b1];exact e,hW2,okw,by lia,fun r ul H5 g5 _ er hL=>fin r ul H5 g5 er hL⟩)
  rintro σ H6 ⟨sI,v0,rfl⟩
  obtain⟨vs,g6,e6,hS6⟩:=sI.ex
  rw[hul,yoa (by rw[ya];exact yi _)] at hS6
  refine⟨_,SqL.of e6,fun l2 hl2=>?_⟩
  have gl2:=ah hl2 (.tup vs)
  have g7:=g6.trans gl2
  have nl2x:l2≠x:=(aG (g6 _ _ ex4) hl2).symm
  refine⟨ζ.b,dx,_,g7 _ _ ex4,T.cl_Terms,T.n_Terms_sums,yS (yJ (aZ _ _ _) (yIa (aZ _ _ _))) (by show 2<1000;decide),?_⟩
  have f8:∀c o,H1 c=some o→c≠x→upd (upd H6 l2 (.tup vs)) x (.ins ζ.b dx (bn "sums" (.ref l2) (bn "rules" (.ref l) (bn "ward" (.ref y) [])))) c=some o:=fun c o e n=>by
   rw[av n]
   exact g7 _ _ (fr4 _ _ e n)
  have f9:∀c xs,H1 c=some (.tup xs)→upd (upd H6 l2 (.tup vs)) x (.ins ζ.b dx (bn "sums" (.ref l2) (bn "rules" (.ref l) (bn "ward" (.ref y) [])))) c=some (.tup xs):=fun c xs e=>f8 _ _ e fun z=>by rw[z,hx1] at e;cases e
  refine q _ (fun c o e n=>f8 _ _ (g1 _ _ e) n) ⟨dx,y,l,l2,us,vs,af,?_,by rw[av nlx];exact g7 _ _ el4,?_,by rw[av nl2x];exact af,?_⟩
  ·obtain⟨dw,wa,pa,ts,w1,w2,w3,w4⟩:=hW1.ex
   exact⟨dw,wa,pa,ts,f8 _ _ w1 (nx w1 (fun z=>by have:=ee d wa pa;rw[z] at this;cases this)),f9 _ _ w2,f9 _ _ w3,cQ.tmono f9 w4⟩
  ·exact Paired.mapP hU1 fun _ s ⟨xx,dd2,e1,e2⟩=>⟨xx,dd2,e1,f8 _ _ e2 (nx e2 (jG _ s))⟩
  ·exact fX.tmono (lB fun xs z=>by rw[g7 _ _ ex4] at z;cases z) (fX.tmono (az gl2) hS6)
inductive zn_(K_:PySem.W.Frag)(ζ:Cs)(vs:List V)(H:Hp)(Q:VK)(E:XK):Prop
 | mk (x:Addr) (d:Int) (hs:List Int) (ps:List Pst) (i:Nat) (h:Int) (_:vs=[.ref x,.int i]) (_:bt ζ.a H x d hs ps) (_:hs[i]? = some h) (_:ps.length≤6) (_:∀r H',New H H' r ((ch h ps).map V.int)→Q (.ref r) H'):zn_ K_ ζ vs H Q E
theorem zB:aw ["self","hand","skills"] ["self","hand"] (ao vc):=⟨rfl,rfl,rfl,k!,rfl,k!,k!⟩
theorem Cb{ζ:Cs}{f:Addr}{fd:FuncData}(F:Fun K "choices" "Ward.choices" vc f fd)(T:Txt K mg ζ)(zan_:Cal P w K mg base "covers" ["have","need"] 1 (tW K ζ)):aN P w K mg base CX0 2 f fd ["self","hand"] (zn_ K ζ):=by
 refine F.ok zB (fun vs H Q E h=>?_) (fun cdv A outer s H vs Q E hr h=>?_)
 ·obtain⟨x,d,hs,ps,i,h,rfl,_⟩:=h
  rfl
 ·obtain⟨x,d,hs,ps,i,h,rfl,hW,hi,hl,q⟩:=h
  refine⟨_,(ak (aD (i:=2) zB.nd rfl (Or.inr rfl) (aM bi (aU (pv 0) rfl) (pv 1) (fun _ _=>rfl)))
  (am (ay (ax bS (aY (ae aj ag)) (bp (own:=["number","post"]) (fnames:=["skills"]) (fr:=[2]) (N':=["number","post","skills"]) ⟨rfl,rfl,rfl,rfl,rfl,rfl,rfl⟩ rfl (kd rfl T.enumerate (aU (pv 0) rfl)) (fun s0 H0 fp0 C0=>⟨(c9 (K:=K) (n:=2) rfl rfl (aB (aq (i:=0) (by show(["number","post","skills"]:List Str).Nodup;decide +kernel) rfl (Or.inl rfl)) (aB (aq (i:=1) (by show(["number","post","skills"]:List Str).Nodup;decide +kernel) rfl (Or.inl rfl)) bx))),(dA (b8 (ar zan_ (hr.mono (by decide)) rfl (ae (pv 2) (ae (aM (fL (K:=K) rfl) (pv 1) aj (fun _ _=>rfl)) ag))))),(pv 0)⟩)))))),?_⟩
  obtain⟨dx,ha,pa,ts,h1,h2,h3,h4⟩:=hW.ex
  walk_at "rd"
  refine⟨_,_,_,h1,T.cl_Ward,T.n_Ward_hands,_,dU _ _ _,_,rfl,_,SqT.of h2,.int h,aR (by rw[yc,hi];rfl),by decide,fun p hp=>?_⟩
  have g1:=ah hp (.lst [.int 0])
  refine⟨_,_,_,g1 _ _ h1,T.cl_Ward,T.n_Ward_posts,_,io _ _ _,_,rfl,⟨_,SqT.of (g1 _ _ h3)⟩,fun D hD=>bZ (S:=SqT K) (xs:=ts) (fun j σ H'=>aA (upd H p (.lst [.int 0])) H'∧H' D=some (.lst ((chI h ps j).map V.int))∧∃v1 v2,σ=[v1,v2,some (.int h)]) ⟨ah hD _,af,none,none,rfl⟩ (fun j σ H' _ hh=>SqT.of (hh.1 _ _ (g1 _ _ h3))) ?_ ?_⟩
  ·rintro j x σ H' t hx ⟨g,e,v1,v2,rfl⟩ ht
   obtain⟨qq,hq,t',rfl,ht'⟩:=h4.at' hx
   have hj:j<ps.length:=(List.getElem?_eq_some_iff.mp hq).1
   have g2:aA H' (upd H' t (.tup [.int (((1+j:Nat)):Int),.ref t'])):=ah ht _
   walk_at "rd"
   refine⟨_,SqT.of af,rfl,_,_,rfl,_,_,rfl,rfl,?_⟩
   walk_at "rd"
   refine⟨_,SqT.of (g2 _ _ (g _ _ (g1 _ _ ht'))),_,rfl,h,qq.1,rfl,?_⟩
   walk_at "rd"
   have hs':=qS h ps j
   rw[hq,yP] at hs'
   have hcl:=jZ h ps j
   split
   ·rename_i hb
    rw[if_pos hb] at hs'
    refine⟨_,g2 _ _ e,aE (by simp only[ya];lia),fun b o hb=>?_,?_⟩
    ·have ne:b≠D:=fun z=>by subst z;rw[hD] at hb;cases hb
     rw[av ne]
     exact g2 _ _ (g _ _ hb)
    ·rw[af,hs',yg,show((1+j:Nat):Int)=(j:Int)+1 by lia]
     first | done | rfl
   ·rename_i hb
    rw[if_neg hb,yI] at hs'
    exact⟨g.trans g2,by rw[hs'];exact g2 _ _ e⟩
  ·rintro σ H' ⟨g,e,v1,v2,rfl⟩
   have hcl:=jZ h ps ps.length
   refine⟨_,g _ _ af,_,e,aL (by simp only[ya,yp,yea,h4.len];lia),fun r hr=>q r _ ⟨?_,?_,?_⟩⟩
   ·exact(g1.trans g).trans (ah hr _)
   ·exact(g1.trans g).free hr
   ·rw[af,h4.len]
    rfl
inductive wb(K:PySem.W.Frag)(ζ:Cs)(vs:List V)(H:Hp)(Q:VK)(E:XK):Prop
 | mk (x t:Addr) (d:Int) (hs:List Int) (ps:List Pst) (i:Nat) (h:Int) (row:List Int) (_:vs=[.ref x,.int i,.ref t]) (_:bt ζ.a H x d hs ps) (_:hs[i]? = some h) (_:ps.length≤6) (_:H t=some (.lst (row.map V.int))) (_:row.length≤900) (_:∀H',aA H H'→Q (.bl (eU d h ps row)) H'):wb K ζ vs H Q E
theorem zW:aw ["ward","hand","row","choices"] ["ward","hand","row"] (ao vv):=⟨rfl,rfl,rfl,k!,rfl,k!,k!⟩
theorem Bv{ζ:Cs}{f:Addr}{fd:FuncData}(F:Fun K "is_row" "is_row" vv f fd)(T:Txt K mg ζ)(zd_:iB P w K mg base ζ.a "choices" ["self","hand"] 2 (zn_ K ζ)):aN P w K mg base CX0 3 f fd ["ward","hand","row"] (wb K ζ):=by
 refine F.ok zW (fun vs H Q E h=>?_) (fun cdv A outer s H vs Q E hr h=>?_)
 ·obtain⟨x,t,d,hs,ps,i,h,row,rfl,_⟩:=h
  rfl
 ·obtain⟨x,t,d,hs,ps,i,h,row,rfl,hW,hi,hl,ht,hrl,q⟩:=h
  refine⟨_,(ak (bh (aK pG (aC (aF (K:=K) rfl) (by rfl) T.len PySem.boot_len (ae (pv 2) ag)) (aU (pv 0) rfl) (aH _)) (am (ay cF)) aJ)
  (ak (aD (i:=3) zW.nd rfl (Or.inr rfl) (cB zd_ (hr.mono (by decide)) (pv 0) (ae (pv 1) ag)))
  (am (ay (aC (dZ rfl) (by rfl) T.all PyProof.Rows.boot_all (ae (bp (own:=["value"]) (fnames:=["choices"]) (fr:=[3]) (N':=["value","choices"]) ⟨rfl,rfl,rfl,rfl,rfl,rfl,rfl⟩ rfl (bG (pv 2)) (fun s0 H0 fp0 C0=>⟨(aq (i:=0) (by show(["value","choices"]:List Str).Nodup;decide +kernel) rfl (Or.inl rfl)),bo,(bJ (mw (K:=K) rfl) (pv 0) (pv 1) (by with_unfolding_all rfl))⟩)) ag)))))),?_⟩
  obtain⟨dx,ha,pa,ts,w1,w2,w3,w4⟩:=hW.ex
  walk_at "rd"
  refine⟨_,.inl (SqL.of ht),_,_,_,w1,T.cl_Ward,T.n_Ward_days,_,ee _ _ _,rfl,?_⟩
  walk_at "rd"
  split
  ·rename_i hne
   have e:eU d h ps row=false:=by
    unfold eU
    rw[decide_eq_false (by simpa using hne),yX]
   rw[e] at q
   exact q H (aA.refl H)
  ·rename_i heq
   have hlen:(row.length:Int)=d:=by simpa using heq
   refine⟨_,_,w1,zC _ _ _ k! k! k!,x,d,hs,ps,i,h,rfl,hW,hi,hl,fun r H1 ⟨g1,f1,e1⟩=>?_⟩
   walk_at "rd"
   refine⟨⟨_,SqL.of (g1 _ _ ht)⟩,fun D hD=>bg (xs:=row.map V.int) (fun j σ H'=>H'=upd H1 D (.lst (((row.take j).map fun v=>decide (v∈ch h ps)).map V.bl))∧∃v1,σ=[v1,some (.ref r)]) ⟨by simp,none,rfl⟩ (fun j σ H' _ hh=>by rw[hh.1];exact SqL.of ((ah hD _) _ _ (g1 _ _ ht))) ?_ ?_⟩
   ·rintro j v σ H' hx ⟨rfl,v1,rfl⟩
    rw[yc] at hx
    obtain⟨p,hpi,rfl⟩:=Option.map_eq_some_iff.mp hx
    have hj:j<row.length:=(List.getElem?_eq_some_iff.mp hpi).1
    have g2:=ah hD (.lst (((row.take j).map fun v=>decide (v∈ch h ps)).map V.bl))
    walk_at "rd"
    refine⟨_,.inl (SqL.of (g2 _ _ e1)),rfl,jk _,_,af,aE (by simp only[ya,yf];lia),?_⟩
    rw[cf,List.take_add_one,hpi,mW]
    simp
   ·rintro σ H' ⟨rfl,v1,rfl⟩
    rw[ya,yA]
    refine⟨row.map fun v=>decide (v∈ch h ps),SqL.of af,?_⟩
    have e:eU d h ps row=(row.map fun v=>decide (v∈ch h ps)).all id:=by
     unfold eU
     rw[decide_eq_true hlen,yla,yub]
     rfl
    rw[e] at q
    exact q _ (g1.trans (ah hD _))
inductive zL_(K:PySem.W.Frag)(ζ:Cs)(vs:List V)(H:Hp)(Q:VK)(E:XK):Prop
 | mk (x r:Addr) (d:Int) (hs:List Int) (ps:List Pst) (us:List V) (rows:List (List Int)) (_:vs=[.ref x,.ref r]) (_:bt ζ.a H x d hs ps) (_:ps.length≤6) (_:hs.length≤8) (_:H r=some (.lst us)) (_:Rows H us rows) (_:(∀row∈rows,row.length≤900)) (_:∀H',aA H H'→Q (.bl (bI d hs ps rows)) H'):zL_ K ζ vs H Q E
theorem AV:aw ["ward","rota"] ["ward","rota"] (ao xw):=⟨rfl,rfl,rfl,k!,rfl,k!,k!⟩
theorem CF{ζ:Cs}{f:Addr}{fd:FuncData}(F:Fun K "is_table" "is_table" xw f fd)(T:Txt K mg ζ)(zdt_:Cal P w K mg base "is_row" ["ward","hand","row"] 3 (wb K ζ)):aN P w K mg base CX0 4 f fd ["ward","rota"] (zL_ K ζ):=by
 refine F.ok AV (fun vs H Q E h=>?_) (fun cdv A outer s H vs Q E hr h=>?_)
 ·obtain⟨x,r,d,hs,ps,us,rows,rfl,_⟩:=h
  rfl
 ·obtain⟨x,r,d,hs,ps,us,rows,rfl,hW,hl,h8,hr1,hR,hrl,q⟩:=h
  refine⟨_,(ak (bh (aK pG (aC (aF (K:=K) rfl) (by rfl) T.len PySem.boot_len (ae (pv 1) ag)) (aC (aF (K:=K) rfl) (by rfl) T.len PySem.boot_len (ae (aU (pv 0) rfl) ag)) (aH _)) (am (ay cF)) aJ)
  (am (ay (aC (dZ rfl) (by rfl) T.all PyProof.Rows.boot_all (ae (bp (own:=["hand","row"]) (fnames:=["ward"]) (fr:=[0]) (N':=["hand","row","ward"]) ⟨rfl,rfl,rfl,rfl,rfl,rfl,rfl⟩ rfl (cD rfl T.enumerate (pv 1)) (fun s0 H0 fp0 C0=>⟨(c9 (K:=K) (n:=2) rfl rfl (aB (aq (i:=0) (by show(["hand","row","ward"]:List Str).Nodup;decide +kernel) rfl (Or.inl rfl)) (aB (aq (i:=1) (by show(["hand","row","ward"]:List Str).Nodup;decide +kernel) rfl (Or.inl rfl)) bx))),bo,(ar zdt_ (hr.mono (by decide)) rfl (ae (pv 2) (ae (pv 0) (ae (pv 1) ag))))⟩)) ag))))),?_⟩
  obtain⟨dx,ha,pa,ts,w1,w2,w3,w4⟩:=hW.ex
  walk_at "rd"
  refine⟨_,.inl (SqL.of hr1),_,_,_,w1,T.cl_Ward,T.n_Ward_hands,_,dU _ _ _,_,rfl,_,.inr (SqT.of w2),?_⟩
  rw[ya,hR.len]
  split
  ·rename_i hne
   have e:bI d hs ps rows=false:=by
    unfold bI
    rw[decide_eq_false (by lia),yX]
   rw[e] at q
   exact q H (aA.refl H)
  ·rename_i heq
   have hlen:rows.length=hs.length:=by lia
   have hul:=hR.len
   refine⟨⟨_,SqL.of hr1⟩,fun D hD=>bZ (S:=SqL K) (xs:=us) (fun j σ H'=>aA H H'∧H' D=some (.lst (((List.range j).map (kc d hs ps rows)).map V.bl))∧∃v1 v2,σ=[v1,v2,some (.ref x)]) ⟨ah hD _,af,none,none,rfl⟩ (fun j σ H' _ hh=>SqL.of (hh.1 _ _ hr1)) ?_ ?_⟩
   ·rintro j v σ H' t hx ⟨g,e,v1,v2,rfl⟩ ht
    obtain⟨row,hrow,t',rfl,ht'⟩:=hR.at' hx
    have hj:j<rows.length:=(List.getElem?_eq_some_iff.mp hrow).1
    have hj':j<hs.length:=by lia
    have g2:aA H' (upd H' t (.tup [.int (((0+j:Nat)):Int),.ref t'])):=ah ht _
    have eb:kc d hs ps rows j=eU d hs[j] ps row:=by
     unfold kc
     rw[hrow,yb hj',yP,yP]
    walk_at "rd"
    refine⟨_,SqT.of af,rfl,_,_,rfl,_,_,rfl,rfl,?_⟩
    walk_at "rd"
    refine⟨x,t',d,hs,ps,j,hs[j],row,by rw[show((0+j:Nat):Int)=(j:Int) by lia],hW.mono (g.trans g2),yb hj',hl,g2 _ _ (g _ _ ht'),hrl row (yk hrow),fun H5 g5=>?_⟩
    refine⟨_,g5 _ _ (g2 _ _ e),aE (by simp only[ya,yo];lia),?_⟩
    walk_at "rd"
    refine⟨aI hD (g.trans (g2.trans g5)) _,?_⟩
    rw[af,yN,yg,yg,← eb]
    rfl
   ·rintro σ H' ⟨g,e,v1,v2,rfl⟩
    refine⟨(List.range us.length).map (kc d hs ps rows),SqL.of e,?_⟩
    have e2:bI d hs ps rows=((List.range us.length).map (kc d hs ps rows)).all id:=by
     unfold bI
     rw[iu,hul,decide_eq_true hlen,yla]
    rw[e2] at q
    exact q H' g
inductive xZ(K_:PySem.W.Frag)(ζ:Cs)(vs:List V)(H:Hp)(Q:VK)(E:XK):Prop
 | mk (r:Addr) (us:List V) (rows:List (List Int)) (_:vs=[.ref r]) (_:H r=some (.lst us)) (_:Rows H us rows) (_:rows.length≤900) (_:∀r' us' H',aA H H'→H r'=none→H' r'=some (.lst us')→Rows H' us' rows→us'.Nodup→(∀t,V.ref t∈us'→t≠r'∧H t=none)→Q (.ref r') H'):xZ K_ ζ vs H Q E
theorem AY:aw ["rota"] ["rota"] (ao wC):=⟨rfl,rfl,rfl,k!,rfl,k!,k!⟩
theorem Dd{ζ:Cs}{f:Addr}{fd:FuncData}(F:Fun K "copied" "copied" wC f fd)(T:Txt K mg ζ) :aN P w K mg base CX0 1 f fd ["rota"] (xZ K ζ):=by
 refine F.ok AY (fun vs H Q E h=>?_) (fun cdv A outer s H vs Q E hr h=>?_)
 ·obtain⟨r,us,rows,rfl,_⟩:=h
  rfl
 ·obtain⟨r,us,rows,rfl,hr1,hR,hl,q⟩:=h
  refine⟨_,(am (ay (bp (own:=["row"]) (fnames:=[]) (fr:=[]) (N':=["row"]) ⟨rfl,rfl,rfl,rfl,rfl,rfl,rfl⟩ rfl (bG (pv 0)) (fun s0 H0 fp0 C0=>⟨(aq (i:=0) (by show(["row"]:List Str).Nodup;decide +kernel) rfl (Or.inl rfl)),bo,(aS (cW (K:=K) rfl) (by rfl) T.list PyProof.Rows.boot_list (ae (pv 0) ag))⟩)))),?_⟩
  have hul:=hR.len
  walk_at "rd"
  refine⟨⟨_,SqL.of hr1⟩,fun D hD=>bg (xs:=us) (fun i σ H'=>cr H D rows i H'∧∃v1,σ=[v1]) ⟨cr.start hD,none,rfl⟩ (fun i σ H' _ hh=>SqL.of (hh.1.same _ _ hr1)) ?_ ?_⟩
  ·rintro i v σ H' hx ⟨hc,v1,rfl⟩
   obtain⟨row,hrow,t',rfl,ht'⟩:=hR.at' hx
   have hi:i<us.length:=(List.getElem?_eq_some_iff.mp hx).1
   walk_at "rd"
   exact⟨_,.inl (SqL.of (hc.same _ _ ht')),fun l hl=>hc.step hD hrow hl (by lia)⟩
  ·rintro σ H5 ⟨hc,v1,rfl⟩
   obtain⟨us',g5,e5,hR5,nd5,fr5⟩:=hc.done hul
   exact q D us' H5 g5 hD e5 hR5 nd5 fr5
inductive wd(K:PySem.W.Frag)(ζ:Cs)(vs:List V)(H:Hp)(Q:VK)(E:XK):Prop
 | mk (x r:Addr) (d:Int) (hs:List Int) (ps:List Pst) (us:List V) (rows:List (List Int)) (_:vs=[.ref x,.ref r]) (_:bt ζ.a H x d hs ps) (_:ps.length≤6) (_:hs.length≤8) (_:H r=some (.lst us)) (_:Rows H us rows) (_:(∀row∈rows,row.length≤900)) (_:rows.length≤900) (_:(bI d hs ps rows=true→∀r' us' H',aA H H'→H r'=none→H' r'=some (.lst us')→Rows H' us' rows→us'.Nodup→(∀t,V.ref t∈us'→t≠r'∧H t=none)→Q (.ref r') H')) (_:(bI d hs ps rows=false→∀H',aA H H'→E (.ref ζ.f) none H')):wd K ζ vs H Q E
theorem Cd:aw ["ward","rota"] ["ward","rota"] (ao wZ):=⟨rfl,rfl,rfl,k!,rfl,k!,k!⟩
theorem BY{ζ:Cs}{f:Addr}{fd:FuncData}(F:Fun K "need_table" "need_table" wZ f fd)(T:Txt K mg ζ)(zdu_:Cal P w K mg base "copied" ["rota"] 1 (xZ K ζ))(zj_:Cal P w K mg base "is_table" ["ward","rota"] 4 (zL_ K ζ)):aN P w K mg base (CX1 P w) 5 f fd ["ward","rota"] (wd K ζ):=by
 refine F.okX Cd (fun vs H Q E h=>?_) (fun cdv A outer s H vs Q E hr h=>?_)
 ·obtain⟨x,r,d,hs,ps,us,rows,rfl,_⟩:=h
  rfl
 ·obtain⟨x,r,d,hs,ps,us,rows,rfl,hW,hl,h8,hr1,hR,hrl,hr9,q1,q2⟩:=h
  refine⟨_,(ak (bh (cG (b8 (ar zj_ (hr.mono (by decide)) rfl (ae (pv 0) (ae (pv 1) ag))))) (am (pE vn rfl rfl T.x_NoTable (ae bT ag))) aJ)
  (am (ay (ar zdu_ (hr.mono (by decide)) rfl (ae (pv 1) ag))))),?_⟩
  walk_at "rd"
  refine⟨x,r,d,hs,ps,us,rows,rfl,hW,hl,h8,hr1,hR,hrl,fun H1 g1=>?_⟩
  walk_at "rd"
  split
  ·rename_i hf
   exact⟨by decide,q2 hf H1 g1⟩
  ·rename_i ht
   have ht':bI d hs ps rows=true:=by simpa using ht
   exact⟨r,us,rows,rfl,g1 _ _ hr1,hR.mono g1,hr9,fun r' us' H2 g2 f2 e2 hR2 nd fr=>q1 ht' r' us' H2 (g1.trans g2) (g1.free f2) e2 hR2 nd fun t z=>⟨(fr t z).1,g1.free (fr t z).2⟩⟩
inductive wT(K:PySem.W.Frag)(ζ:Cs)(vs:List V)(H:Hp)(Q:VK)(E:XK):Prop
 | mk (r:Addr) (h d p:Int) (us:List V) (rows:List (List Int)) (D:Nat) (_:vs=[.ref r,.int h,.int d,.int p]) (_:H r=some (.lst us)) (_:Rows H us rows) (_:(∀row∈rows,row.length=D)) (_:0≤h) (_:h<rows.length) (_:0≤d) (_:d<D) (_:Q (.bl (decide (val rows h.toNat d.toNat=p))) H):wT K ζ vs H Q E
theorem AX:aw ["rota","hand","day","post"] ["rota","hand","day","post"] (ao wV):=⟨rfl,rfl,rfl,k!,rfl,k!,k!⟩
theorem C8{ζ:Cs}{f:Addr}{fd:FuncData}(F:Fun K "holds" "holds" wV f fd)(T:Txt K mg ζ) :aN P w K mg base CX0 1 f fd ["rota","hand","day","post"] (wT K ζ):=by
 refine F.ok AX (fun vs H Q E h=>?_) (fun cdv A outer s H vs Q E hr h=>?_)
 ·obtain⟨r,h,d,p,us,rows,D,rfl,_⟩:=h
  rfl
 ·obtain⟨r,h,d,p,us,rows,D,rfl,hr1,hR,hD,h0,h1,d0,d1,q⟩:=h
  refine⟨_,(am (ay (bM (bU cu cR aj (pv 1) (aC (aF (K:=K) rfl) (by rfl) T.len PySem.boot_len (ae (pv 0) ag))) (bM (bU cu cR aj (pv 2) (aC (aF (K:=K) rfl) (by rfl) T.len PySem.boot_len (ae (aM aW (pv 0) (pv 1) (fun _ _=>rfl)) ag))) (cp (bJ bW (aM aW (aM aW (pv 0) (pv 1) (fun _ _=>rfl)) (pv 2) (fun _ _=>rfl)) (pv 3) (aH _))))))),?_⟩
  have hul:=hR.len
  obtain⟨n,rfl⟩:∃n:Nat,h=n:=⟨h.toNat,by lia⟩
  obtain⟨m,rfl⟩:∃m:Nat,d=m:=⟨d.toNat,by lia⟩
  have hn:n<rows.length:=by lia
  obtain⟨t1,a1,q1⟩:=hR.get (yb hn)
  have l1:=hD _ (yO hn)
  have hm:m<rows[n].length:=by lia
  have ev:val rows n m=rows[n][m]:=zf (yb hn) hm
  rw[yh,yh,ev] at q
  walk_at "rd"
  rw[if_pos h0]
  refine⟨_,.inl (SqL.of hr1),?_⟩
  rw[if_pos (by lia),if_pos d0]
  refine⟨_,SqL.of hr1,_,aR a1,t1,rfl,_,.inl (SqL.of q1),?_⟩
  rw[if_pos (by rw[ya];lia)]
  refine⟨_,SqL.of hr1,_,aR a1,t1,rfl,_,SqL.of q1,.int rows[n][m],aR (by rw[yc,yb hm];rfl),rfl,?_⟩
  rw[uM]
  exact q
inductive vS(K:PySem.W.Frag)(ζ:Cs)(vs:List V)(H:Hp)(Q:VK)(E:XK):Prop
 | mk (r t:Addr) (us ts:List V) (rows:List (List Int)) (D:Nat) (qs:List Prt) (_:vs=[.ref r,.ref t]) (_:H r=some (.lst us)) (_:Rows H us rows) (_:(∀row∈rows,row.length=D)) (_:H t=some (.tup ts)) (_:gJ H ts qs) (_:InT rows D qs) (_:qs.length≤900) (_:∀H',aA H H'→Q (.int (tot rows qs)) H'):vS K ζ vs H Q E
theorem AW:aw ["rota","parts"] ["rota","parts"] (ao xc):=⟨rfl,rfl,rfl,k!,rfl,k!,k!⟩
theorem Cn{ζ:Cs}{f:Addr}{fd:FuncData}(F:Fun K "total" "total" xc f fd)(T:Txt K mg ζ)(zdM_:Cal P w K mg base "holds" ["rota","hand","day","post"] 1 (wT K ζ)):aN P w K mg base CX0 2 f fd ["rota","parts"] (vS K ζ):=by
 refine F.ok AW (fun vs H Q E h=>?_) (fun cdv A outer s H vs Q E hr h=>?_)
 ·obtain⟨r,t,us,ts,rows,D,qs,rfl,_⟩:=h
  rfl
 ·obtain⟨r,t,us,ts,rows,D,qs,rfl,hr1,hR,hD,ht,hP,hI,hl,q⟩:=h
  refine⟨_,(am (ay (aC (ou rfl) (by rfl) T.sum PyProof.Rows.boot_sum (ae (bp (own:=["hand","day","post","number"]) (fnames:=["rota"]) (fr:=[0]) (N':=["hand","day","post","number","rota"]) ⟨rfl,rfl,rfl,rfl,rfl,rfl,rfl⟩ rfl (iy (pv 1)) (fun s0 H0 fp0 C0=>⟨(c9 (K:=K) (n:=4) rfl rfl (aB (aq (i:=0) (by show(["hand","day","post","number","rota"]:List Str).Nodup;decide +kernel) rfl (Or.inl rfl)) (aB (aq (i:=1) (by show(["hand","day","post","number","rota"]:List Str).Nodup;decide +kernel) rfl (Or.inl rfl)) (aB (aq (i:=2) (by show(["hand","day","post","number","rota"]:List Str).Nodup;decide +kernel) rfl (Or.inl rfl)) (aB (aq (i:=3) (by show(["hand","day","post","number","rota"]:List Str).Nodup;decide +kernel) rfl (Or.inl rfl)) bx))))),(dA (b8 (ar zdM_ (hr.mono (by decide)) rfl (ae (pv 4) (ae (pv 0) (ae (pv 1) (ae (pv 2) ag))))))),(pv 3)⟩)) ag)))),?_⟩
  walk_at "rd"
  refine⟨⟨_,SqT.of ht⟩,fun L hL=>dX (xs:=ts) (fun i σ H'=>aA H H'∧H' L=some (.lst ((kZ rows (qs.take i)).map V.int))∧∃v0 v1 v2 v3,σ=[v0,v1,v2,v3,some (.ref r)]) ⟨ah hL _,af,none,none,none,none,rfl⟩ (fun i σ H' _ hh=>SqT.of (hh.1 _ _ ht)) ?_ ?_⟩
  ·rintro i v σ H' hx ⟨g,e,v0,v1,v2,v3,rfl⟩
   obtain⟨pq,hpq,tq,rfl,htq⟩:=Paired.get' hP hx
   obtain⟨c1,c2,c3,c4⟩:=hI pq (yk hpq)
   have hsl:=qD rows (qs.take i)
   rw[yf] at hsl
   walk_at "rd"
   refine⟨_,SqT.of (g _ _ htq),rfl,_,_,rfl,_,_,rfl,_,_,rfl,_,_,rfl,rfl,r,pq.h,pq.d,pq.p,us,rows,D,rfl,g _ _ hr1,hR.mono g,hD,c1,c2,c3,c4,_,rfl,?_⟩
   rw[ba hpq,o5]
   show if oT rows pq=true then _ else _
   by_cases z:oT rows pq=true
   ·rw[if_pos z,if_pos z]
    refine⟨_,e,aE (by rw[ya];lia),aI hL g _,?_⟩
    rw[af,yg]
    rfl
   ·rw[if_neg z,if_neg z,yI]
    exact⟨g,e⟩
  ·rintro σ H' ⟨g,e,v0,v1,v2,v3,rfl⟩
   rw[Paired.length hP,yA] at e
   refine⟨_,SqL.of e,?_⟩
   rw[kK]
   exact q H' g
inductive sK(K:PySem.W.Frag)(ζ:Cs)(vs:List V)(H:Hp)(Q:VK)(E:XK):Prop
 | mk (x r:Addr) (d:Int) (hs:List Int) (ps:List Pst) (us:List V) (rows:List (List Int)) (sums:List (List Lin)) (_:vs=[.ref x,.ref r]) (_:ce ζ.b ζ.a H x d hs ps sums) (_:ps.length≤6) (_:hs.length≤8) (_:H r=some (.lst us)) (_:Rows H us rows) (_:(∀row∈rows,row.length≤900)) (_:rows.length≤900) (_:sums.length≤20) (_:(∀ls∈sums,ls.length≤40∧∀ℓ∈ls,ℓ.ps.length≤900∧∀q∈ℓ.ps,0≤q.h∧q.h<(hs.length:Int)∧0≤q.d∧q.d<d)) (_:(bI d hs ps rows=true→∀r' us' H',aA H H'→H r'=none→H' r'=some (.lst us')→cU H' us' (bA rows sums)→Q (.ref r') H')) (_:(bI d hs ps rows=false→∀H',aA H H'→E (.ref ζ.f) none H')):sK K ζ vs H Q E
theorem zs_:aw ["terms","rota","table","found","rule","lines","number","line","short"] ["terms","rota"] (ao wO):=⟨rfl,rfl,rfl,k!,rfl,k!,k!⟩
theorem Dp{ζ:Cs}{f:Addr}{fd:FuncData}(F:Fun K "faults" "faults" wO f fd)(T:Txt K mg ζ)(X_need_table:ph P w K mg base "need_table" ["ward","rota"] 5 (wd K ζ))(zdN_:Cal P w K mg base "total" ["rota","parts"] 2 (vS K ζ)):aN P w K mg base (CX1 P w) 6 f fd ["terms","rota"] (sK K ζ):=by
 refine F.okX zs_ (fun vs H Q E h=>?_) (fun cdv A outer s H vs Q E hr h=>?_)
 ·obtain⟨x,r,d,hs,ps,us,rows,sums,rfl,_⟩:=h
  rfl
 ·obtain⟨x,r,d,hs,ps,us,rows,sums,rfl,hT,p6,h8,er,hR,r9,rl9,s9,hb,q1,q2⟩:=h
  refine⟨_,(ak (aD (i:=2) zs_.nd rfl (Or.inl rfl) (j6 X_need_table zU (hr.mono (by decide)) rfl (ae (aU (pv 0) rfl) (ae (pv 1) ag))))
  (ak (aD (i:=3) zs_.nd rfl (Or.inl rfl) (aY ag))
  (ak (bY AB rfl (gy rfl T.enumerate (aU (pv 0) rfl)) (cx (n:=2) rfl (aB (aq (i:=4) zs_.nd rfl (Or.inl rfl)) (aB (aq (i:=5) zs_.nd rfl (Or.inl rfl)) bx)))
   (am (bY AB rfl (gy rfl T.enumerate (pv 5)) (cx (n:=2) rfl (aB (aq (i:=6) zs_.nd rfl (Or.inl rfl)) (aB (aq (i:=7) zs_.nd rfl (Or.inl rfl)) bx)))
     (ak (aD (i:=8) zs_.nd rfl (Or.inl rfl) (ax cM (aM bi (pv 7) aj (fun _ _=>rfl)) (ar zdN_ (hr.mono (by decide)) rfl (ae (pv 2) (ae (aM bi (pv 7) aj (fun _ _=>rfl)) ag)))))
      (am (bh (aK gx (pv 8) aj (aH _)) (am (bO (dD PySem.F.plainAttrs_list PySem.F.slot_list_append PySem.F.type_list_append b5 (pv 3) (ae (aV (ae (pv 4) (ae (pv 6) (ae (pv 8) ag)))) ag)))) aJ))))))
  (am (ay (pv 3)))))),?_⟩
  obtain⟨dx,y,rt,st,vr,vss,t1,t2,t3,t4,t5⟩:=hT.ex
  refine au fun U1 u1=>?_
  walk_at "rd"
  have hvl:=Paired.length t5
  refine⟨_,_,_,t1,T.cl_Terms,T.n_Terms_ward,_,dm _ _ _,y,r,d,hs,ps,us,rows,rfl,t2,p6,h8,er,hR,r9,rl9,(fun ht ra ua H1 g1 hra ea hRa nda fra=>?_),fun hf H1 g1=>q2 hf H1 g1⟩
  rw[u1];clear u1
  refine au fun U1 u1=>?_
  walk_at "rd"
  refine⟨yH _,fun L hL=>?_⟩
  rw[u1];clear u1
  refine au fun U1 u1=>cq fun B1 b1=>?_
  walk_at "rd"
  have gL:=ah hL (.lst [])
  have g1L:=g1.trans gL
  have hrl:=hRa.len
  have hqs:∀i ls,sums[i]? = some ls→((sums.map (cA rows))[i]?.getD [])=cA rows ls:=fun i ls e=>by rw[yc,e];rfl
  refine⟨_,_,_,g1L _ _ t1,T.cl_Terms,T.n_Terms_sums,_,gU _ _ _,st,rfl,⟨_,SqT.of (g1L _ _ t4)⟩,bZ (S:=SqT K) (xs:=vss) (fun i σ H'=>dq H1 L (cK (sums.map (cA rows)) i) H'∧∃v4 v5 v6 v7 v8,σ=[some (.ref x),some (.ref r),some (.ref ra),some (.ref L),v4,v5,v6,v7,v8]) ⟨dq.start hL,none,none,none,none,none,rfl⟩ (fun i σ H' _ hh=>SqT.of ((g1.trans hh.1.same) _ _ t4)) ?_ ?_⟩
  ·rintro i v σ H' tt hx ⟨tI,v4,v5,v6,v7,v8,rfl⟩ htt
   obtain⟨ls,hls,t6,ul,rfl,q6,hL6⟩:=Paired.get' t5 hx
   have hi:=(List.getElem?_eq_some_iff.mp hls).1
   have hll:=Paired.length hL6
   rw[ygb]
   have gt:=ah htt (.tup [.int (i:Int),.ref t6])
   have et:=af (H:=H') (a:=tt) (o:=.tup [.int (i:Int),.ref t6])
   generalize upd H' tt (.tup [.int (i:Int),.ref t6])=H2 at gt et ⊢
   have tI2:=tI.mono gt
   have g02:=g1.trans tI2.same
   walk_at "rd"
   refine⟨_,SqT.of et,rfl,_,_,rfl,_,_,rfl,rfl,?_⟩
   rw[b1]
   refine cq fun B2 b2=>?_
   walk_at "rd"
   rw[gj,hqs i ls hls]
   refine⟨⟨_,SqT.of (g02 _ _ q6)⟩,bZ (S:=SqT K) (xs:=ul) (fun j σ H3=>dq H1 L (cK (sums.map (cA rows)) i++cL i (cA rows ls) j) H3∧∃v6 v7 v8,σ=[some (.ref x),some (.ref r),some (.ref ra),some (.ref L),some (.int i),some (.ref t6),v6,v7,v8]) ⟨?_,v6,v7,v8,rfl⟩ (fun j σ H3 _ hh=>SqT.of ((g1.trans hh.1.same) _ _ q6)) ?_ ?_⟩
   ·rw[show cL i (cA rows ls) 0=[] from rfl,yI]
    exact tI2
   ·rintro j v σ H3 t3 hv ⟨tJ,v6,v7,v8,rfl⟩ ht3
    obtain⟨ℓ,hℓ,t7,u7,ts7,rfl,q7,q8,hP7⟩:=Paired.get' hL6 hv
    rw[ygb]
    have gt3:=ah ht3 (.tup [.int (j:Int),.ref t7])
    have et3:=af (H:=H3) (a:=t3) (o:=.tup [.int (j:Int),.ref t7])
    generalize upd H3 t3 (.tup [.int (j:Int),.ref t7])=H4 at gt3 et3 ⊢
    have tJ2:=tJ.mono gt3
    have g14:=tJ2.same
    have g04:=g1.trans g14
    walk_at "rd"
    refine⟨_,SqT.of et3,rfl,_,_,rfl,_,_,rfl,rfl,?_⟩
    rw[b2]
    refine au fun U3 u3=>?_
    walk_at "rd"
    obtain⟨l40,hbl⟩:=hb ls (yk hls)
    obtain⟨p9,hbq⟩:=hbl ℓ (yk hℓ)
    have hj:=(List.getElem?_eq_some_iff.mp hℓ).1
    obtain⟨tl1,tl2⟩:=jL ht
    refine⟨_,SqT.of (g04 _ _ q7),_,rfl,_,SqT.of (g04 _ _ q7),_,rfl,ra,u7,ua,ts7,rows,d.toNat,ℓ.ps,rfl,g14 _ _ ea,hRa.mono g14,(fun row hr=>by have:=tl2 row hr;lia),g04 _ _ q8,hP7.mono (az g04),(fun q hq=>by have:=hbq q hq;lia),p9,fun H5 g5=>⟨_,rfl,_,rfl,?_⟩⟩
    have tJ5:=tJ2.mono g5
    have flen:(cK (sums.map (cA rows)) i++cL i (cA rows ls) j).length≤900:=by
     rw[yd]
     have h1:=e9 i (cA rows ls) j
     have h2:(cK (sums.map (cA rows)) i).length≤i*40:=eW (fun qs hq=>by
      obtain⟨l0,hl0,rfl⟩:=List.mem_map.mp hq
      unfold cA
      rw[ya]
      exact(hb l0 hl0).1) i
     lia
    have ef:du i (cA rows ls) j=if 0<ℓ.b-tot rows ℓ.ps then [((i:Int),(j:Int),ℓ.b-tot rows ℓ.ps)] else []:=by
     unfold du cA
     rw[yc,hℓ]
     rfl
    rw[u3];clear u3
    rw[gw,← yHa,ef]
    obtain⟨us5,_,e5,_⟩:=tJ5.ex
    walk_at "rd"
    by_cases z:0<ℓ.b-tot rows ℓ.ps
    ·rw[if_pos z,if_pos z]
     exact⟨.inl ⟨rfl,_,SqL.of e5⟩,by decide,fun p hp=>tJ5.step hL flen hp⟩
    ·rw[if_neg z,if_neg z,yI]
     exact tJ5
   ·rintro σ H3 ⟨tJ,v6,v7,v8,rfl⟩
    rw[show(cA rows ls).length=ul.length by unfold cA;rw[ya,hll]]
    exact⟨tJ,_,_,_,_,_,rfl⟩
  rintro σ H' ⟨tI,v4,v5,v6,v7,v8,rfl⟩
  rw[u1];clear u1
  walk_at "rd"
  obtain⟨us',g,e,hTr⟩:=tI.ex
  rw[hvl] at hTr
  exact q1 ht L us' H' (g1.trans g) (g1.free hL) e hTr
inductive vH(K:PySem.W.Frag)(ζ:Cs)(vs:List V)(H:Hp)(Q:VK)(E:XK):Prop
 | mk (x r:Addr) (d:Int) (hs:List Int) (ps:List Pst) (us:List V) (rows:List (List Int)) (sums:List (List Lin)) (_:vs=[.ref x,.ref r]) (_:ce ζ.b ζ.a H x d hs ps sums) (_:ps.length≤6) (_:hs.length≤8) (_:H r=some (.lst us)) (_:Rows H us rows) (_:(∀row∈rows,row.length≤900)) (_:rows.length≤900) (_:sums.length≤20) (_:(∀ls∈sums,ls.length≤40∧∀ℓ∈ls,ℓ.ps.length≤900∧∀q∈ℓ.ps,0≤q.h∧q.h<(hs.length:Int)∧0≤q.d∧q.d<d)) (_:∀H',aA H H'→Q (.bl (bI d hs ps rows&&decide (bA rows sums=[]))) H'):vH K ζ vs H Q E
theorem Dh:aw ["terms","rota"] ["terms","rota"] (ao xB):=⟨rfl,rfl,rfl,k!,rfl,k!,k!⟩
theorem B3{ζ:Cs}{f:Addr}{fd:FuncData}(F:Fun K "meets" "meets" xB f fd)(T:Txt K mg ζ)(zj_:Cal P w K mg base "is_table" ["ward","rota"] 4 (zL_ K ζ))(X_faults:ph P w K mg base "faults" ["terms","rota"] 6 (sK K ζ)):aN P w K mg base CX0 7 f fd ["terms","rota"] (vH K ζ):=by
 refine F.ok Dh (fun vs H Q E h=>?_) (fun cdv A outer s H vs Q E hr h=>?_)
 ·obtain⟨x,r,d,hs,ps,us,rows,sums,rfl,_⟩:=h
  rfl
 ·obtain⟨x,r,d,hs,ps,us,rows,sums,rfl,hT,p6,h8,er,hR,r9,rl9,s9,hb,q⟩:=h
  refine⟨_,(am (ay (bM (ar zj_ (hr.mono (by decide)) rfl (ae (aU (pv 0) rfl) (ae (pv 1) ag))) (cp (bJ (qT 1 hr) (j6 X_faults rC (hr.mono (by decide)) rfl (ae (pv 0) (ae (pv 1) ag))) (aY ag) (aH _)))))),?_⟩
  walk_at "rd"
  obtain⟨dx,y,rt,st,vr,vss,t1,t2,t3,t4,t5⟩:=hT.ex
  refine⟨_,_,_,t1,T.cl_Terms,T.n_Terms_ward,_,dm _ _ _,y,r,d,hs,ps,us,rows,rfl,t2,p6,h8,er,hR,r9,fun H1 g1=>⟨_,rfl,?_⟩⟩
  by_cases ht:bI d hs ps rows=true
  ·rw[if_pos ht]
   refine⟨x,r,d,hs,ps,us,rows,sums,rfl,hT.mono g1,p6,h8,g1 _ _ er,hR.mono g1,r9,rl9,s9,hb,(fun _ r' us' H2 g2 hr' e2 hTr=>?_),fun hf=>absurd ht (by rw[hf];decide)⟩
   refine⟨yH _,fun p hp=>?_⟩
   have gp:=ah hp (.lst [])
   refine⟨r',p,_,_,rfl,rfl,qm (SqL.of (gp _ _ e2)) (cU.tmono (az gp) hTr),fH (ns:=[]) (SqL.of af),la,?_⟩
   rw[tN]
   have q1:=q _ ((g1.trans g2).trans gp)
   rw[ht,yla] at q1
   exact q1
  ·rw[if_neg ht]
   rw[Bool.not_eq_true] at ht
   have q1:=q H1 g1
   rw[ht,yX] at q1
   exact q1
inductive zh(K:PySem.W.Frag)(ζ:Cs)(vs:List V)(H:Hp)(Q:VK)(E:XK):Prop
 | mk (x a:Addr) (d:Int) (hs:List Int) (ps:List Pst) (ss:List Sp4) (ns:List Int) (_:vs=[.ref x,.ref a]) (_:cJ (dE ζ.c ζ.d ζ.e) ζ.b ζ.a H x d hs ps ss) (_:Ok d hs ps) (_:(∀s∈ss,K3 s)) (_:(∀s∈ss,kg d hs.length ps.length s)) (_:H a=some (.lst (ns.map V.int))) (_:(∀n∈ns,0≤n∧n<(ss.length:Int))) (_:ns.length≤120) (_:∀(r:Addr) (H':Hp),aA H H'→H r=none→cJ (dE ζ.c ζ.d ζ.e) ζ.b ζ.a H' r d hs ps (ns.map fun n=>ss.getD n.toNat ⟨0,0,0,0⟩)→Q (.ref r) H'):zh K ζ vs H Q E
theorem CN:aw ["terms","numbers"] ["terms","numbers"] (ao lO):=⟨rfl,rfl,rfl,k!,rfl,k!,k!⟩
theorem Cm{ζ:Cs}{f:Addr}{fd:FuncData}(F:Fun K "only" "only" lO f fd)(T:Txt K mg ζ)(zaq_:kU P w K mg base "Terms" ζ.b ["self","ward","rules"] 5 (zo_ K ζ)):aN P w K mg base CX0 7 f fd ["terms","numbers"] (zh K ζ):=by
 refine F.ok CN (fun vs H Q E h=>?_) (fun cdv A outer s H vs Q E hr h=>?_)
 ·obtain⟨x,a,d,hs,ps,ss,ns,rfl,_⟩:=h
  rfl
 ·obtain⟨x,a,d,hs,ps,ss,ns,rfl,hT,okw,k3,ok,ha,hb,n120,q⟩:=h
  refine⟨_,(am (ay (c7 zaq_ (hr.mono (by decide)) rfl (ae (aU (pv 0) rfl) (ae (bp (own:=["number"]) (fnames:=["terms"]) (fr:=[0]) (N':=["number","terms"]) ⟨rfl,rfl,rfl,rfl,rfl,rfl,rfl⟩ rfl (bG (pv 1)) (fun s0 H0 fp0 C0=>⟨(aq (i:=0) (by show(["number","terms"]:List Str).Nodup;decide +kernel) rfl (Or.inl rfl)),bo,(aM (fL (K:=K) rfl) (fj (K:=K) rfl (pv 1) rfl) (pv 0) (fun _ _=>rfl))⟩)) ag))))),?_⟩
  walk_at "rd"
  obtain⟨dx,y,rt,st,us,vs,e1,hW,e2,hR,e3,hS⟩:=hT.ex
  have hrl:=Paired.length hR
  refine⟨_,_,_,e1,T.cl_Terms,T.n_Terms_ward,_,dm _ _ _,⟨_,SqL.of ha⟩,fun D hD=>bg (xs:=ns.map V.int) (fun i σ H'=>∃(ws:List V) (v0:Option V),aA H H'∧H' D=some (.lst ws)∧cy (dE ζ.c ζ.d ζ.e) ps.length H ws ((ns.take i).map fun n=>ss.getD n.toNat ⟨0,0,0,0⟩)∧σ=[v0,some (.ref x)]) ⟨[],none,ah hD _,af,.nil,rfl⟩ (fun i σ H' _ ⟨_,_,g,_⟩=>SqL.of (g _ _ ha)) ?_ ?_⟩
  ·rintro i v σ H' hv ⟨ws,v0,g,e,hw,rfl⟩
   obtain⟨n,hn,rfl⟩:=fA hv
   have hi:=(List.getElem?_eq_some_iff.mp hn).1
   obtain⟨n0,n1⟩:=hb n (yk hn)
   have hnl:n.toNat<ss.length:=by lia
   have hsn:=yb hnl
   obtain⟨w,hw1,hw2⟩:=c6 hR hsn
   have hwl:=Paired.length hw
   rw[ya,yf] at hwl
   walk_at "rd"
   refine⟨_,_,_,g _ _ e1,T.cl_Terms,T.n_Terms_rules,_,lL _ _ _,rt,rfl,us,SqT.of (g _ _ e2),w,by rw[show n=(n.toNat:Int) by lia];exact aR hw1,ws,e,aE (by lia),aI hD g _,_,af,?_⟩
   rw[ba hn,yg]
   refine aP hw ?_
   show qZ (dE ζ.c ζ.d ζ.e) ps.length H w (ss.getD n.toNat ⟨0,0,0,0⟩)
   rw[eC hsn]
   exact hw2
  rintro σ H1 ⟨ws,v0,g1,e,hw,rfl⟩
  rw[ya,yA] at hw
  intro x2 dx2 hx2 hdx2 nx2
  have g2:=ah hdx2 (.own x2)
  have hx2':upd H1 dx2 (.own x2) x2=none:=by rw[av nx2.symm];exact hx2
  have g3:=g2.trans (ah hx2' (.ins ζ.b dx2 []))
  have gg:=g1.trans g3
  have mem:∀s∈ns.map (fun n=>ss.getD n.toNat ⟨0,0,0,0⟩),s∈ss:=fun s hs=>by
   obtain⟨n,hn,rfl⟩:=List.mem_map.mp hs
   obtain⟨n0,n1⟩:=hb n hn
   rw[eC (yb (show n.toNat<ss.length by lia))]
   exact yO _
  refine⟨x2,dx2,y,D,d,hs,ps,ws,_,rfl,af,hW.mono gg,okw,g3 _ _ e,cy.mono gg hw,(fun s h=>k3 s (mem s h)),(fun s h=>ok s (mem s h)),by rw[ya];exact n120,fun H4 kk TR=>⟨rfl,?_⟩⟩
  have gH:aA H H4:=fun c o e'=>kk c o (gg c o e') fun z=>by rw[z,g1.free hx2] at e'; cases e'
  exact q x2 H4 gH (g1.free hx2) TR
inductive zb(K:PySem.W.Frag)(ζ:Cs)(vs:List V)(H:Hp)(Q:VK)(E:XK):Prop
 | mk (x pd:Addr) (h d D:Int) (hs:List Int) (ps:List Pst) (pns:List (List Key×V)) (_:vs=[.ref x,.ref pd,.int h,.int d]) (_:bt ζ.a H x D hs ps) (_:1≤D) (_:H pd=some (.dT pns)) (_:∀H',aA H H'→Q (.bl (c5 hs.length D.toNat pns h d)) H'):zb K ζ vs H Q E
theorem BH:aw ["ward","pins","hand","day"] ["ward","pins","hand","day"] (ao wI):=⟨rfl,rfl,rfl,k!,rfl,k!,k!⟩
theorem C9{ζ:Cs}{f:Addr}{fd:FuncData}(F:Fun K "is_free" "is_free" wI f fd)(T:Txt K mg ζ)(zi_:Cal P w K mg base "has_hand" ["ward","hand"] 1 (zK_ K ζ))(zX_:Cal P w K mg base "has_day" ["ward","day"] 1 (tT K ζ)):aN P w K mg base CX0 2 f fd ["ward","pins","hand","day"] (zb K ζ):=by
 refine F.ok BH (fun vs H Q E h=>?_) (fun cdv A outer s H vs Q E hr h=>?_)
 ·obtain⟨x,pd,h,d,D,hs,ps,pns,rfl,_⟩:=h
  rfl
 ·obtain⟨x,pd,h,d,D,hs,ps,pns,rfl,hW,D1,ep,q⟩:=h
  refine⟨_,(am (ay (bM (ar zi_ (hr.mono (by decide)) rfl (ae (pv 0) (ae (pv 2) ag))) (bM (ar zX_ (hr.mono (by decide)) rfl (ae (pv 0) (ae (pv 3) ag))) (cp (vf (oJ (iQ hr) (aV (ae (pv 2) (ae (pv 3) ag))) (pv 1)))))))),?_⟩
  walk_at "rd"
  refine⟨x,D,hs,ps,h,rfl,hW,_,rfl,?_⟩
  have hq:∀H',aA H H'→Q (.bl (ja hs h&&((decide (0≤d)&&decide (d<D)) && !(bv pns (k2 h d)).isSome))) H':=fun H' g=>by
   have e:c5 hs.length D.toNat pns h d=(ja hs h&&((decide (0≤d)&&decide (d<D)) && !(bv pns (k2 h d)).isSome)):=by
    unfold c5 ja
    rw[yR (by lia)]
   rw[← e]
   exact q H' g
  cases z:ja hs h with
  | false =>
   rw[if_neg (by decide)]
   have h1:=hq H (aA.refl _)
   rw[z] at h1
   exact h1
  | true =>
   rw[if_pos rfl]
   refine⟨x,D,hs,ps,d,rfl,hW,_,rfl,?_⟩
   cases z2:(decide (0≤d)&&decide (d<D)) with
   | false =>
    rw[if_neg (by decide)]
    have h1:=hq H (aA.refl _)
    rw[z,z2] at h1
    exact h1
   | true =>
    rw[if_pos rfl]
    refine⟨by decide,fun p hp=>?_⟩
    have gp:=ah hp (.tup [.int h,.int d])
    refine⟨_,fu.t (k:=k2 h d) (gp _ _ ep) af,?_⟩
    have h1:=hq _ gp
    rw[z,z2] at h1
    exact h1
inductive wA(K:PySem.W.Frag)(ζ:Cs)(vs:List V)(H:Hp)(Q:VK)(E:XK):Prop
 | mk (a:Addr) (us:List V) (ls:List (Lin×Int)) (_:vs=[.ref a]) (_:H a=some (.lst us)) (_:Prs H us ls) (_:(∀l∈ls,-(2 ^ 40)<l.2∧l.2<2 ^ 40)) (_:bL ls≤900) (_:∀t d H',aA H H'→H d=none→H' t=some (.tup [.ref d,.int (eY ls)])→H' d=some (.dT (bD ls))→Q (.ref t) H'):wA K ζ vs H Q E
theorem zk_:aw ["pairs","numbers","bound","line","times","hand","day","post","number"] ["pairs"] (ao vK):=⟨rfl,rfl,rfl,k!,rfl,k!,k!⟩
theorem BO{ζ:Cs}{f:Addr}{fd:FuncData}(F:Fun K "summed" "summed" vK f fd)(T:Txt K mg ζ) :aN P w K mg base CX0 1 f fd ["pairs"] (wA K ζ):=by
 refine F.ok zk_ (fun vs H Q E h=>?_) (fun cdv A outer s H vs Q E hr h=>?_)
 ·obtain⟨a,us,ls,rfl,_⟩:=h
  rfl
 ·obtain⟨a,us,ls,rfl,hA,hP,ht,hn,q⟩:=h
  refine⟨_,(ak (aD (i:=1) zk_.nd rfl (Or.inl rfl) lE)
  (ak (aD (i:=2) zk_.nd rfl (Or.inl rfl) aj)
  (ak (bY PassesOwn.never rfl (bG (pv 0)) (cx (n:=2) rfl (aB (aq (i:=3) zk_.nd rfl (Or.inl rfl)) (aB (aq (i:=4) zk_.nd rfl (Or.inl rfl)) bx)))
   (ak (aD (i:=2) zk_.nd rfl (Or.inl rfl) (ax bz (pv 2) (ax gh (aM bi (pv 3) aj (fun _ _=>rfl)) (pv 4))))
    (am (bY PassesOwn.never rfl (iy (aM bi (pv 3) aj (fun _ _=>rfl))) (cx (n:=4) rfl (aB (aq (i:=5) zk_.nd rfl (Or.inl rfl)) (aB (aq (i:=6) zk_.nd rfl (Or.inl rfl)) (aB (aq (i:=7) zk_.nd rfl (Or.inl rfl)) (aB (aq (i:=8) zk_.nd rfl (Or.inl rfl)) bx)))))
     (am (mY (iQ hr) (pv 1) (aV (ae (pv 5) (ae (pv 6) (ae (pv 7) ag)))) (ax bz (lI (iQ hr) (pv 1) (aV (ae (pv 5) (ae (pv 6) (ae (pv 7) ag)))) aj ⟨rfl,rfl,rfl,rfl⟩) (ax gh (pv 8) (pv 4))) rfl))))))
  (am (ay (aV (ae (pv 1) (ae (pv 2) ag)))))))),?_⟩
  refine au fun U1 u1=>?_
  walk_at "rd"
  intro d hd
  have g0:=ah hd (.dT [])
  rw[u1];clear u1
  refine au fun U1 u1=>?_
  walk_at "rd"
  rw[u1];clear u1
  refine au fun U1 u1=>cq fun B1 b1=>?_
  walk_at "rd"
  have hul:=Paired.length hP
  refine⟨⟨_,SqL.of (g0 _ _ hA)⟩,bg (xs:=us) (fun i σ H'=>∃(v3 v4 v5 v6 v7 v8:Option V),aA H H'∧H' d=some (.dT (bD (ls.take i)))∧σ=[some (.ref a),some (.ref d),some (.int (eY (ls.take i))),v3,v4,v5,v6,v7,v8]) ⟨none,none,none,none,none,none,g0,af,rfl⟩ (fun i σ H' _ ⟨_,_,_,_,_,_,g,_⟩=>SqL.of (g _ _ hA)) ?_ ?_⟩
  ·rintro i v σ H' hx ⟨v3,v4,v5,v6,v7,v8,g,e,rfl⟩
   obtain⟨l,hli,t,u,rfl,w1,tu,pt,ts,eu,w2,w3,w4⟩:=Paired.get' hP hx
   cases eu
   obtain⟨lt1,lt2⟩:=ht l (yk hli)
   have hlen:(bD (ls.take i)).length+l.1.ps.length≤900:=by
    have z1:(bD (ls.take i)).length≤0+bL (ls.take i):=fR
    have z2:bL (ls.take (i+1))=bL (ls.take i)+l.1.ps.length:=by
     rw[ba hli]
     unfold bL
     rw[yg,yda]
     simp
    have z3:bL (ls.take (i+1))≤bL ls:=by
     have:bL ls=bL (ls.take (i+1))+bL (ls.drop (i+1)):=by
      unfold bL
      rw[← yda,← yg,ywa]
     lia
    lia
   have hok:db (bD (ls.take i)):=lK ie
   walk_at "rd"
   refine⟨_,SqT.of (g _ _ w1),rfl,_,_,rfl,_,_,rfl,rfl,?_⟩
   rw[b1]
   refine au fun U2 u2=>?_
   walk_at "rd"
   refine⟨_,SqT.of (g _ _ w2),.int l.1.b,rfl,_,rfl,.inr ⟨by lia,by lia⟩,?_⟩
   rw[u2];clear u2
   refine cq fun B2 b2=>?_
   walk_at "rd"
   refine⟨_,SqT.of (g _ _ w2),_,rfl,pt,rfl,⟨_,SqT.of (g _ _ w3)⟩,dX (xs:=ts) (fun j σ H2=>∃(v5 v6 v7 v8:Option V),aA H H2∧H2 d=some (.dT ((l.1.ps.take j).foldl (cT l.2) (bD (ls.take i))))∧σ=[some (.ref a),some (.ref d),some (.int (eY (ls.take i)+l.1.b*l.2)),some (.ref u),some (.int l.2),v5,v6,v7,v8]) ⟨v5,v6,v7,v8,g,e,rfl⟩ (fun j σ H2 _ ⟨_,_,_,_,g2,_⟩=>SqT.of (g2 _ _ w3)) ?_ ?_⟩
   ·rintro j v σ H2 hx2 ⟨v5,v6,v7,v8,g2,e2,rfl⟩
    obtain⟨pq,hpq,tq,rfl,htq⟩:=Paired.get' w4 hx2
    have hj:j<l.1.ps.length:=(List.getElem?_eq_some_iff.mp hpq).1
    have hlj:((l.1.ps.take j).foldl (cT l.2) (bD (ls.take i))).length<901:=by
     have:((l.1.ps.take j).foldl (cT l.2) (bD (ls.take i))).length≤(bD (ls.take i)).length+(l.1.ps.take j).length:=fZ
     rw[yf] at this
     lia
    have hokj:db ((l.1.ps.take j).foldl (cT l.2) (bD (ls.take i))):=iE hok
    have est:(l.1.ps.take (j+1)).foldl (cT l.2) (bD (ls.take i))=cT l.2 ((l.1.ps.take j).foldl (cT l.2) (bD (ls.take i))) pq:=by
     rw[ba hpq,yUa]
     rfl
    rw[est]
    generalize (l.1.ps.take j).foldl (cT l.2) (bD (ls.take i))=kvs at e2 hlj hokj
    walk_at "rd"
    refine⟨_,SqT.of (g2 _ _ htq),rfl,_,_,rfl,_,_,rfl,_,_,rfl,_,_,rfl,rfl,?_⟩
    rw[b2]
    walk_at "rd"
    refine⟨.inr ⟨_,.inl e2⟩,by decide,fun t1 ht1=>?_⟩
    have y1:=ah ht1 (.tup [.int pq.h,.int pq.d,.int pq.p])
    refine⟨_,fu.t (k:=kk pq.h pq.d pq.p) (y1 _ _ e2) af,.inr ⟨by lia,by lia⟩,_,qI hokj _,by decide,fun t2 ht2=>?_⟩
    have y2:=y1.trans (ah ht2 (.tup [.int pq.h,.int pq.d,.int pq.p]))
    exact⟨_,oG.t (k:=kk pq.h pq.d pq.p) (y2 _ _ e2) af (aE (by lia)),aI hd (g2.trans y2) _,by rw[af];rfl⟩
   ·rintro σ H2 ⟨v5,v6,v7,v8,g2,e2,rfl⟩
    rw[Paired.length w4,yA] at e2
    have e3:bD (ls.take (i+1))=l.1.ps.foldl (cT l.2) (bD (ls.take i)):=by
     unfold bD
     rw[ba hli,yUa]
     rfl
    have e4:eY (ls.take (i+1))=eY (ls.take i)+l.1.b*l.2:=by
     unfold eY
     rw[ba hli,yg,yda]
     simp
    rw[e3,e4]
    exact⟨g2,e2,_,_,_,_,_,_,rfl⟩
  rintro σ H' ⟨v3,v4,v5,v6,v7,v8,g,e,rfl⟩
  rw[hul,yA] at e ⊢
  rw[u1];clear u1
  walk_at "rd"
  refine⟨by decide,fun t ht'=>?_⟩
  have g1:=ah ht' (.tup [.ref d,.int (eY ls)])
  exact q t d _ (g.trans g1) hd af (g1 _ _ e)
inductive vM(K:PySem.W.Frag)(ζ:Cs)(vs:List V)(H:Hp)(Q:VK)(E:XK):Prop
 | mk (x pd nd:Addr) (d:Int) (hs:List Int) (ps:List Pst) (pns kvs:List (List Key×V)) (_:vs=[.ref x,.ref pd,.ref nd]) (_:bt ζ.a H x d hs ps) (_:Ok d hs ps) (_:H pd=some (.dT pns)) (_:H nd=some (.dT kvs)) (_:pd≠nd) (_:db pns) (_:b9 hs.length d.toNat (ps.length+1) kvs) (_:kvs.length≤900) (_:∀H',aA H H'→Q (.int (fg pns kvs (fun h=>ch (hs[h]?.getD 0) ps) hs.length d.toNat)) H'):vM K ζ vs H Q E
theorem lU:aw ["ward","pins","numbers","choices","reached","hand","day","values"] ["ward","pins","numbers"] (ao mi):=⟨rfl,rfl,rfl,k!,rfl,k!,k!⟩
theorem Di{ζ:Cs}{f:Addr}{fd:FuncData}(F:Fun K "best" "best" mi f fd)(T:Txt K mg ζ)(zd_:iB P w K mg base ζ.a "choices" ["self","hand"] 2 (zn_ K ζ)):aN P w K mg base CX0 3 f fd ["ward","pins","numbers"] (vM K ζ):=by
 refine F.ok lU (fun vs H Q E h=>?_) (fun cdv A outer s H vs Q E hr h=>?_)
 ·obtain⟨x,pd,nd,d,hs,ps,pns,kvs,rfl,_⟩:=h
  rfl
 ·obtain⟨x,pd,nd,d,hs,ps,pns,kvs,rfl,hW,okw,hp,hn,npn,aip,ok,kl,q⟩:=h
  refine⟨_,(ak (da (i:=3) lU.nd rfl rfl (own:=["hand"]) (fnames:=["ward"]) (fr:=[0]) (N':=["hand","ward"]) ⟨rfl,rfl,rfl,rfl,rfl,rfl,rfl⟩ rfl (bE rfl T.range (ae (aC (aF (K:=K) rfl) (by rfl) T.len PySem.boot_len (ae (aU (pv 0) rfl) ag)) ag)) (fun s0 H0 fp0 C0=>⟨(aq (i:=0) (by show(["hand","ward"]:List Str).Nodup;decide +kernel) rfl (Or.inl rfl)),bo,(cB zd_ (hr.mono (by decide)) (pv 1) (ae (pv 0) ag))⟩))
  (ak (aD (i:=4) lU.nd rfl (Or.inl rfl) aj)
  (ak (bY PassesOwn.never rfl (lD (aS (lW rfl hr) (by rfl) T.dict PyProof.Rows.boot_dict (ae (bp (own:=["hand","day","post"]) (fnames:=[]) (fr:=[]) (N':=["hand","day","post"]) ⟨rfl,rfl,rfl,rfl,rfl,rfl,rfl⟩ rfl (lD (pv 2)) (fun s0 H0 fp0 C0=>⟨(c9 (K:=K) (n:=3) rfl rfl (aB (aq (i:=0) (by show(["hand","day","post"]:List Str).Nodup;decide +kernel) rfl (Or.inl rfl)) (aB (aq (i:=1) (by show(["hand","day","post"]:List Str).Nodup;decide +kernel) rfl (Or.inl rfl)) (aB (aq (i:=2) (by show(["hand","day","post"]:List Str).Nodup;decide +kernel) rfl (Or.inl rfl)) bx)))),bo,(aV (ae (aV (ae (pv 0) (ae (pv 1) ag))) (ae cF ag)))⟩)) ag))) (cx (n:=2) rfl (aB (aq (i:=5) lU.nd rfl (Or.inr rfl)) (aB (aq (i:=6) lU.nd rfl (Or.inr rfl)) bx)))
   (am (bh (PW.pt (qP (lp cu cR aj (pv 5) (aC (aF (K:=K) rfl) (by rfl) T.len PySem.boot_len (ae (pv 3) ag))) (mU (lp cu cR aj (pv 6) (aU (pv 0) rfl))))) (jR (aD (i:=7) lU.nd rfl (Or.inl rfl) (qW (vT (xq (iQ hr) (aV (ae (pv 5) (ae (pv 6) ag))) (pv 1))) (aY (ae (sx (iQ hr) (pv 1) (aV (ae (pv 5) (ae (pv 6) ag))) (fun _ _=>rfl)) ag)) (aM aW (pv 3) (pv 5) (fun _ _=>rfl))))
     (am (aD (i:=4) lU.nd rfl (Or.inl rfl) (ax bz (pv 4) (aC (o3 rfl) (by rfl) T.max PyProof.Rows.boot_max (ae (bp (own:=["value"]) (fnames:=["numbers","hand","day"]) (fr:=[2,5,6]) (N':=["value","numbers","hand","day"]) ⟨rfl,rfl,rfl,rfl,rfl,rfl,rfl⟩ rfl (bG (pv 7)) (fun s0 H0 fp0 C0=>⟨(aq (i:=0) (by show(["value","numbers","hand","day"]:List Str).Nodup;decide +kernel) rfl (Or.inl rfl)),bo,(lI (iQ hr) (pv 1) (aV (ae (pv 2) (ae (pv 3) (ae (pv 0) ag)))) aj ⟨rfl,rfl,rfl,rfl⟩)⟩)) ag)))))) aJ)))
  (lJ (lJ (am (ay (pv 4)))))))),?_⟩
  obtain⟨dx,ha,pa,ts,h1,h2,h3,h4⟩:=hW.ex
  have hs8:=okw.hl
  have p6:=okw.pl
  refine au fun U1 u1=>?_
  walk_at "rd"
  refine⟨_,_,_,h1,T.cl_Ward,T.n_Ward_hands,_,dU _ _ _,_,rfl,_,.inr (SqT.of h2),by rw[ya];lia,by rw[ya];lia,fun D hD=>bw (fun i σ H'=>iD H D (fun j row=>row=ch (hs[j]?.getD 0) ps) i H'∧∃v0,σ=[v0,some (.ref x)]) ⟨iD.start hD,none,rfl⟩ ?_ ?_⟩
  ·rintro i σ H' hi ⟨gf,v0,rfl⟩
   rw[show(0+(i:Int))=i by lia]
   rw[ya] at hi
   have hi':i<hs.length:=by lia
   walk_at "rd"
   refine⟨_,_,gf.same _ _ h1,rfl,x,d,hs,ps,i,hs[i],rfl,hW.mono gf.same,yb hi',p6,fun r H2 nw=>?_⟩
   exact gf.step hD (by lia) nw.1 nw.2.1 nw.2.2 (by rw[yb hi'];rfl)
  rintro σ H1 ⟨gf,v0,rfl⟩
  rw[ya] at gf
  obtain⟨us,rows,rl,g1,eD,hR,hrow⟩:=gf.done
  clear gf
  rw[u1];clear u1
  refine au fun U1 u1=>?_
  walk_at "rd"
  rw[u1];clear u1
  refine au fun U1 u1=>cq fun B1 b1=>?_
  walk_at "rd"
  have en1:=g1 _ _ hn
  refine⟨kvs,en1,fun ob D1 hD1=>jq (fun i σ H'=>PrI (upd H1 nd (.frz ob (.dT kvs))) D1 kvs i H'∧∃v0 v1 v2,σ=[v0,v1,v2]) ⟨PrI.start hD1,none,none,none,rfl⟩ (fun i σ H' _ hh=>hh.1.same _ _ af) ?_ ?_⟩
  ·rintro i bk k v σ H' hk hb ⟨pI,v0,v1,v2,rfl⟩
   obtain⟨h,dd,p,e,c1,c2,c3⟩:=ok.inb _ (yk hk)
   have e:k=kk h dd p:=e
   subst e
   have hik:=(List.getElem?_eq_some_iff.mp hk).1
   show ∃a,_
   refine⟨_,rfl,_,SqT.of hb,rfl,_,_,rfl,_,_,rfl,_,_,rfl,rfl,?_⟩
   walk_at "rd"
   refine⟨by decide,fun b hb2=>⟨by decide,fun t ht=>?_⟩⟩
   exact pI.step hD1 hk (by lia) hb2 ht
  rintro σ H2 ⟨pI,v0,v1,v2,rfl⟩
  obtain⟨us2,g2,eD1,hP2⟩:=pI.ex
  rw[yA] at hP2
  refine⟨us2,eD1,_,hP2,by rw[ya];lia,fun p hpp=>⟨_,af,fun ob2=>?_⟩⟩
  rw[cf]
  show ∃W,_
  have np:nd≠p:=aG (g2 _ _ af) hpp
  have prl:=r8 kvs
  refine jq (kvs:=prD kvs) (fun i σ H'=>aA (upd H2 p (.frz ob2 (.dT (prD kvs)))) H'∧∃v5 v6 v7,σ=[some (.ref x),some (.ref pd),some (.ref nd),some (.ref D),some (.int (gs pns kvs (fun h=>ch (hs[h]?.getD 0) ps) ((prD kvs).take i))),v5,v6,v7]) ⟨aA.refl _,none,none,none,rfl⟩ (fun i σ H' _ hh=>hh.1 _ _ af) ?_ ?_
  ·rintro i bk k v σ H' hk hb ⟨g,v5,v6,v7,rfl⟩
   obtain⟨h,dd,e,c1,c2⟩:=ku ok _ (yk hk)
   have e:k=k2 h dd:=e
   subst e
   have hb:H' bk=some (.tup [.int h,.int dd]):=hb
   have G0:aA (upd H1 nd (.frz ob (.dT kvs))) H':=g2.trans ((ah hpp _).trans g)
   have hx':=G0 _ _ (nv (o:=.frz ob (.dT kvs)) en1 (g1 _ _ h1) (fun k z=>by cases z))
   have hpd':H' pd=some (.dT pns):=G0 _ _ (by rw[av npn];exact g1 _ _ hp)
   have hnd':H' nd=some (.frz ob (.dT kvs)):=G0 _ _ af
   have hD':=G0 _ _ (nv (o:=.frz ob (.dT kvs)) en1 eD (fun k z=>by cases z))
   have hR':=(hR.frz en1 (.frz ob (.dT kvs))).mono G0
   have hh:h<rows.length:=by lia
   obtain⟨t1,a1,q1⟩:=hR'.get (yb hh)
   rw[hrow h _ (yb hh)] at q1
   have hcl:=mS (hs[h]?.getD 0) ps
   have em:mxC pns kvs (fun h=>ch (hs[h]?.getD 0) ps) (ka (k2 h dd) 0).toNat (ka (k2 h dd) 1).toNat=mxL ((kJ pns (ch (hs[h]?.getD 0) ps) h dd).map fun p=>nO kvs h dd p):=rfl
   rw[mH hk,em]
   have hc1:0<(ch (hs[h]?.getD 0) ps).length:=yfb _
   generalize ch (hs[h]?.getD 0) ps=ow at q1 hcl hc1 ⊢
   generalize gs pns kvs (fun h=>ch (hs[h]?.getD 0) ps) ((prD kvs).take i)=s0
   refine⟨_,rfl,_,SqT.of hb,rfl,_,_,rfl,_,_,rfl,rfl,?_⟩
   rw[b1]
   refine sW fun A1 i1=>?_
   walk_at "rd"
   rw[if_pos (by lia)]
   refine⟨_,.inl (SqL.of hD'),?_⟩
   rw[if_pos (by rw[hR'.len];lia),if_pos (by lia)]
   refine⟨_,_,_,hx',T.cl_Ward,T.n_Ward_days,_,ee _ _ _,_,rfl,?_⟩
   rw[if_pos (by lia)]
   rw[i1];clear i1
   refine mo (fun σ H4=>aA H' H4∧∃(L3:Addr) (own:List Int),H4 L3=some (.lst (own.map V.int))∧own=kJ pns ow h dd∧0<own.length∧own.length≤9∧σ=[some (.ref x),some (.ref pd),some (.ref nd),some (.ref D),some (.int s0),some (.int h),some (.int dd),some (.ref L3)]) ?_ ?_
   ·walk_at "rd"
    refine⟨by decide,fun t2 ht2=>?_⟩
    have gt2:=ah ht2 (.tup [.int h,.int dd])
    refine⟨_,fu.t (k:=k2 h dd) (gt2 _ _ hpd') af,?_⟩
    unfold kJ
    cases ev:bv pns (k2 h dd) with
    | none =>
     rw[if_neg (by simp)]
     exact⟨_,SqL.of (gt2 _ _ hD'),_,aR a1,gt2,t1,ow,gt2 _ _ q1,rfl,hc1,by lia,rfl⟩
    | some v =>
     obtain⟨pv,rfl⟩:=aip _ v ev
     rw[if_pos (show(some (V.int pv)).isSome=true from rfl)]
     refine⟨by decide,fun t3 ht3=>?_⟩
     have gt3:=ah ht3 (.tup [.int h,.int dd])
     refine⟨.int pv,.inr ⟨pns,k2 h dd,t3,.inl ((gt2.trans gt3) _ _ hpd'),rfl,af,ev.symm⟩,by decide,fun t4 ht4=>?_⟩
     exact⟨(gt2.trans gt3).trans (ah ht4 _),t4,[pv],af,rfl,Nat.zero_lt_one,by show 1≤9;decide,rfl⟩
   rintro σ H4 ⟨g4,L3,own,eL,eo,o1,o9,rfl⟩
   rw[← eo]
   walk_at "rd"
   have hnd4:=g4 _ _ hnd'
   refine⟨⟨_,SqL.of eL⟩,fun D5 hD5=>bg (xs:=own.map V.int) (fun j σ H5=>aA H4 H5∧H5 D5=some (.lst (((own.take j).map fun p=>nO kvs h dd p).map V.int))∧∃v0,σ=[v0,some (.ref nd),some (.int h),some (.int dd)]) ⟨ah hD5 _,af,none,rfl⟩ (fun j σ H5 _ hh=>SqL.of (hh.1 _ _ eL)) ?_ ?_⟩
   ·rintro j v σ H5 hx2 ⟨g5,e5,v0,rfl⟩
    obtain⟨z,hz,rfl⟩:=fA hx2
    have hj:=(List.getElem?_eq_some_iff.mp hz).1
    have hnd5:=g5 _ _ hnd4
    walk_at "rd"
    refine⟨.inr ⟨_,.inr ⟨_,hnd5⟩⟩,by decide,fun t6 ht6=>?_⟩
    have g6:=ah ht6 (.tup [.int h,.int dd,.int z])
    refine⟨_,.inr ⟨kvs,kk h dd z,t6,.inr ⟨ob,g6 _ _ hnd5⟩,rfl,af,rfl⟩,_,g6 _ _ e5,aE (by rw[ya,ya,yf];lia),aI hD5 (g5.trans g6) _,?_⟩
    rw[af,sA ok.ai,ba hz,yg,yg]
    rfl
   rintro σ H5 ⟨g5,e5,v0,rfl⟩
   rw[ya,yA] at e5
   refine⟨_,SqL.of e5,by rw[ya];exact o1,fun M hM1 hM2=>⟨g.trans (g4.trans g5),?_⟩⟩
   rw[pJ hM1 hM2]
  rintro σ H3 ⟨g3,v5,v6,v7,rfl⟩
  rw[u1];clear u1
  walk_at "rd"
  refine⟨p,ob2,prD kvs,g3 _ _ af,fun _ _ z=>?_,nd,ob,kvs,?_,fun _ _ z=>?_,?_⟩
  ·have nz:p≠nd:=np.symm
   have z1:=g2 _ _ ((av nz).trans (g1 _ _ z))
   rw[hpp] at z1
   cases z1
  ·rw[av np]
   exact g3 _ _ (by rw[av np];exact g2 _ _ af)
  ·rw[hn] at z
   cases z
  rw[yA,pB (own:=fun h=>ch (hs[h]?.getD 0) ps) ok fun h _=>yfb _]
  refine q _ (g1.trans (oO en1 (o':=.frz ob (.dT kvs)) fun b o hb=>?_))
  have hb2:=g2 _ _ hb
  have nb:b≠p:=aG hb2 hpp
  rw[av nb]
  exact g3 _ _ (by rw[av nb];exact hb2)
inductive xo(K:PySem.W.Frag)(ζ:Cs)(vs:List V)(H:Hp)(Q:VK)(E:XK):Prop
 | mk (x pd a:Addr) (d:Int) (hs:List Int) (ps:List Pst) (pns:List (List Key×V)) (us:List V) (ls:List (Lin×Int)) (_:vs=[.ref x,.ref pd,.ref a]) (_:bt ζ.a H x d hs ps) (_:Ok d hs ps) (_:H pd=some (.dT pns)) (_:db pns) (_:H a=some (.lst us)) (_:Prs H us ls) (_:(∀l∈ls,-(2 ^ 40)<l.2∧l.2<2 ^ 40)) (_:bL ls≤900) (_:b9 hs.length d.toNat (ps.length+1) (bD ls)) (_:∀H',aA H H'→Q (.bl (decide (fg pns (bD ls) (fun h=>ch (hs[h]?.getD 0) ps) hs.length d.toNat<eY ls))) H'):xo K ζ vs H Q E
theorem zz:aw ["ward","pins","pairs","added"] ["ward","pins","pairs"] (ao xG):=⟨rfl,rfl,rfl,k!,rfl,k!,k!⟩
theorem Dl{ζ:Cs}{f:Addr}{fd:FuncData}(F:Fun K "closes" "closes" xG f fd)(T:Txt K mg ζ)(zdy_:Cal P w K mg base "summed" ["pairs"] 1 (wA K ζ))(C_best:Cal P w K mg base "best" ["ward","pins","numbers"] 3 (vM K ζ)):aN P w K mg base CX0 4 f fd ["ward","pins","pairs"] (xo K ζ):=by
 refine F.ok zz (fun vs H Q E h=>?_) (fun cdv A outer s H vs Q E hr h=>?_)
 ·obtain⟨x,pd,a,d,hs,ps,pns,us,ls,rfl,_⟩:=h
  rfl
 ·obtain⟨x,pd,a,d,hs,ps,pns,us,ls,rfl,hW,okw,hp,aip,ha,hP,hb,hl,ok,q⟩:=h
  refine⟨_,(ak (aD (i:=3) zz.nd rfl (Or.inl rfl) (ar zdy_ (hr.mono (by decide)) rfl (ae (pv 2) ag)))
  (am (ay (bJ cR (ar C_best (hr.mono (by decide)) rfl (ae (pv 0) (ae (pv 1) (ae (aM bi (pv 3) aj (fun _ _=>rfl)) ag)))) (aM bi (pv 3) aj (fun _ _=>rfl)) (aH _))))),?_⟩
  refine au fun U1 u1=>?_
  walk_at "rd"
  refine⟨a,us,ls,rfl,ha,hP,hb,hl,fun t d2 H1 g1 f1 et ed=>?_⟩
  rw[u1];clear u1
  walk_at "rd"
  have npd:pd≠d2:=aG hp f1
  have kl:(bD ls).length≤900:=by
   have z1:(bD ls).length≤0+bL ls:=fR
   lia
  refine⟨_,SqT.of et,_,rfl,x,pd,d2,d,hs,ps,pns,bD ls,rfl,hW.mono g1,okw,g1 _ _ hp,ed,npd,aip,ok,kl,fun H2 g2=>?_⟩
  exact⟨_,SqT.of (g2 _ _ et),.int (eY ls),rfl,_,rfl,_,rfl,q H2 (g1.trans g2)⟩
inductive we(K:PySem.W.Frag)(ζ:Cs)(vs:List V)(H:Hp)(Q:VK)(E:XK):Prop
 | mk (x:Addr) (r l:Int) (d:Int) (hs:List Int) (ps:List Pst) (sums:List (List Lin)) (_:vs=[.ref x,.int r,.int l]) (_:ce ζ.b ζ.a H x d hs ps sums) (_:Q (.bl (lnAt sums (r,l,0)).isSome) H):we K ζ vs H Q E
theorem C4:aw ["terms","rule","line"] ["terms","rule","line"] (ao xA):=⟨rfl,rfl,rfl,k!,rfl,k!,k!⟩
theorem Ds{ζ:Cs}{f:Addr}{fd:FuncData}(F:Fun K "is_there" "is_there" xA f fd)(T:Txt K mg ζ) :aN P w K mg base CX0 1 f fd ["terms","rule","line"] (we K ζ):=by
 refine F.ok C4 (fun vs H Q E h=>?_) (fun cdv A outer s H vs Q E hr h=>?_)
 ·obtain⟨x,r,l,d,hs,ps,sums,rfl,_⟩:=h
  rfl
 ·obtain⟨x,r,l,d,hs,ps,sums,rfl,hT,q⟩:=h
  refine⟨_,(am (ay (bM (bU cu cR aj (pv 1) (aC (aF (K:=K) rfl) (by rfl) T.len PySem.boot_len (ae (aU (pv 0) rfl) ag))) (cp (bU cu cR aj (pv 2) (aC (aF (K:=K) rfl) (by rfl) T.len PySem.boot_len (ae (aM bi (aU (pv 0) rfl) (pv 1) (fun _ _=>rfl)) ag))))))),?_⟩
  obtain⟨dx,y,rt,st,vr,vss,t1,t2,t3,t4,t5⟩:=hT.ex
  have hvl:=Paired.length t5
  walk_at "rd"
  by_cases r0:0≤r
  ·rw[if_pos r0]
   refine⟨_,_,_,t1,T.cl_Terms,T.n_Terms_sums,_,gU _ _ _,st,rfl,_,.inr (SqT.of t4),?_⟩
   by_cases r1:r<(vss.length:Int)
   ·rw[if_pos r1]
    have hr:r.toNat<sums.length:=by omega
    obtain⟨v,ev,tv,ul,rfl,q1,q2⟩:=Paired.at t5 (yb hr)
    by_cases l0:0≤l
    ·rw[if_pos l0]
     have ea:=aR ev
     rw[show((r.toNat:Nat):Int)=r by lia] at ea
     refine⟨_,_,_,t1,T.cl_Terms,T.n_Terms_sums,_,gU _ _ _,st,rfl,_,SqT.of t4,_,ea,tv,rfl,_,.inr (SqT.of q1),?_⟩
     rw[lb r0 (yb hr) l0] at q
     have hull:=Paired.length q2
     by_cases z:l<(ul.length:Int)
     ·rw[decide_eq_true z]
      rw[yb (by lia)] at q
      exact q
     ·rw[decide_eq_false z]
      rw[yC (by lia)] at q
      exact q
    ·rw[if_neg l0]
     rw[uE (fun z=>l0 z.2)] at q
     exact q
   ·rw[if_neg r1]
    rw[pT (by lia)] at q
    exact q
  ·rw[if_neg r0]
   rw[uE (fun z=>r0 z.1)] at q
   exact q
inductive xO(K:PySem.W.Frag)(ζ:Cs)(vs:List V)(H:Hp)(Q:VK)(E:XK):Prop
 | mk (x pd ut:Addr) (d:Int) (hs:List Int) (ps:List Pst) (sums:List (List Lin)) (pns:List (List Key×V)) (uv:List V) (us:List Tri) (_:vs=[.ref x,.ref pd,.ref ut]) (_:ce ζ.b ζ.a H x d hs ps sums) (_:Ok d hs ps) (_:H pd=some (.dT pns)) (_:db pns) (_:H ut=some (.tup uv)) (_:cU H uv us) (_:jT us) (_:(∀ls∈sums,i7 hs.length d.toNat (ps.length+1) ls)) (_:∀H',aA H H'→Q (.bl (i8 sums us pns (fun h=>ch (hs[h]?.getD 0) ps) hs.length d.toNat)) H'):xO K ζ vs H Q E
theorem Bz:aw ["terms","pins","uses"] ["terms","pins","uses"] (ao lY):=⟨rfl,rfl,rfl,k!,rfl,k!,k!⟩
theorem CD{ζ:Cs}{f:Addr}{fd:FuncData}(F:Fun K "ends" "ends" lY f fd)(T:Txt K mg ζ)(zdz_:Cal P w K mg base "closes" ["ward","pins","pairs"] 4 (xo K ζ))(zcw_:Cal P w K mg base "is_there" ["terms","rule","line"] 1 (we K ζ)):aN P w K mg base CX0 5 f fd ["terms","pins","uses"] (xO K ζ):=by
 refine F.ok Bz (fun vs H Q E h=>?_) (fun cdv A outer s H vs Q E hr h=>?_)
 ·obtain⟨x,pd,ut,d,hs,ps,sums,pns,uv,us,rfl,_⟩:=h
  rfl
 ·obtain⟨x,pd,ut,d,hs,ps,sums,pns,uv,us,rfl,hT,okw,hp,aip,eu,hU,uok,hf,q⟩:=h
  refine⟨_,(ak (bh (cG (b8 (aC (dZ rfl) (by rfl) T.all PyProof.Rows.boot_all (ae (bp (own:=["rule","line","times"]) (fnames:=["terms"]) (fr:=[0]) (N':=["rule","line","times","terms"]) ⟨rfl,rfl,rfl,rfl,rfl,rfl,rfl⟩ rfl (iy (pv 2)) (fun s0 H0 fp0 C0=>⟨(c9 (K:=K) (n:=3) rfl rfl (aB (aq (i:=0) (by show(["rule","line","times","terms"]:List Str).Nodup;decide +kernel) rfl (Or.inl rfl)) (aB (aq (i:=1) (by show(["rule","line","times","terms"]:List Str).Nodup;decide +kernel) rfl (Or.inl rfl)) (aB (aq (i:=2) (by show(["rule","line","times","terms"]:List Str).Nodup;decide +kernel) rfl (Or.inl rfl)) bx)))),bo,(bM (ar zcw_ (hr.mono (by decide)) rfl (ae (pv 3) (ae (pv 0) (ae (pv 1) ag)))) (cp (bJ kX (pv 2) aj (aH _))))⟩)) ag)))) (am (ay cF)) aJ)
  (am (ay (ar zdz_ (hr.mono (by decide)) rfl (ae (aU (pv 0) rfl) (ae (pv 1) (ae (bp (own:=["rule","line","times"]) (fnames:=["terms"]) (fr:=[0]) (N':=["rule","line","times","terms"]) ⟨rfl,rfl,rfl,rfl,rfl,rfl,rfl⟩ rfl (iy (pv 2)) (fun s0 H0 fp0 C0=>⟨(c9 (K:=K) (n:=3) rfl rfl (aB (aq (i:=0) (by show(["rule","line","times","terms"]:List Str).Nodup;decide +kernel) rfl (Or.inl rfl)) (aB (aq (i:=1) (by show(["rule","line","times","terms"]:List Str).Nodup;decide +kernel) rfl (Or.inl rfl)) (aB (aq (i:=2) (by show(["rule","line","times","terms"]:List Str).Nodup;decide +kernel) rfl (Or.inl rfl)) bx)))),bo,(aV (ae (aM (fL (K:=K) rfl) (aM (fL (K:=K) rfl) (fj (K:=K) rfl (pv 3) rfl) (pv 0) (fun _ _=>rfl)) (pv 1) (fun _ _=>rfl)) (ae (pv 2) ag)))⟩)) ag))))))),?_⟩
  refine au fun U1 u1=>?_
  walk_at "rd"
  have hvl:=Paired.length hU
  refine⟨⟨_,SqT.of eu⟩,fun D hD=>dX (xs:=uv) (fun i σ H'=>aA H H'∧H' D=some (.lst (((us.take i).map (okU sums)).map V.bl))∧∃v0 v1 v2,σ=[v0,v1,v2,some (.ref x)]) ⟨ah hD _,af,none,none,none,rfl⟩ (fun i σ H' _ hh=>SqT.of (hh.1 _ _ eu)) ?_ ?_⟩
  ·rintro i v σ H' hx ⟨g,e,v0,v1,v2,rfl⟩
   obtain⟨u,hu,t,rfl,qt⟩:=Paired.get' hU hx
   have hi:=(List.getElem?_eq_some_iff.mp hu).1
   have u6:=uok.1
   walk_at "rd"
   refine⟨_,SqT.of (g _ _ qt),rfl,_,_,rfl,_,_,rfl,_,_,rfl,rfl,?_⟩
   refine⟨x,u.1,u.2.1,d,hs,ps,sums,rfl,hT.mono g,_,rfl,?_⟩
   have et:((us.take (i+1)).map (okU sums)).map V.bl=((us.take i).map (okU sums)).map V.bl++[V.bl (okU sums u)]:=by
    rw[ba hu,yg,yg]
    rfl
   have hl:(((us.take i).map (okU sums)).map V.bl).length<sizeLine:=aE (by rw[ya,ya,yf];lia)
   cases z:(lnAt sums (u.1,u.2.1,0)).isSome with
   | true =>
    rw[if_pos rfl]
    have eo:okU sums u=decide (1≤u.2.2):=by
     show((lnAt sums (u.1,u.2.1,0)).isSome&&_)=_
     rw[z]
     rfl
    exact⟨_,rfl,_,e,hl,aI hD g _,by rw[af,et,eo]⟩
   | false =>
    rw[if_neg (by decide)]
    have eo:okU sums u=false:=by
     show((lnAt sums (u.1,u.2.1,0)).isSome&&_)=_
     rw[z]
     rfl
    exact⟨_,e,hl,aI hD g _,by rw[af,et,eo]⟩
  rintro σ H1 ⟨g1,e1,v0,v1,v2,rfl⟩
  rw[hvl,yA] at e1
  refine⟨_,SqL.of e1,?_⟩
  have ea:(us.map (okU sums)).all id=us.all (okU sums):=by
   rw[yub]
   rfl
  rw[ea]
  cases z:us.all (okU sums) with
  | false =>
   rw[if_pos rfl]
   have h1:=q H1 g1
   unfold i8 at h1
   rw[z] at h1
   exact h1
  | true =>
  rw[if_neg (by decide)]
  rw[u1];clear u1
  obtain⟨dx,y,rt,st,vr,vss,t1,t2,t3,t4,t5⟩:=(hT.mono g1).ex
  walk_at "rd"
  refine⟨_,_,_,t1,T.cl_Terms,T.n_Terms_ward,_,dm _ _ _,⟨_,SqT.of (g1 _ _ eu)⟩,fun E hE=>dX (xs:=uv) (fun i σ H'=>PaG H1 E (usL sums us) i H'∧∃v0 v1 v2,σ=[v0,v1,v2,some (.ref x)]) ⟨PaG.start hE,none,none,none,rfl⟩ (fun i σ H' _ hh=>SqT.of ((g1.trans hh.1.same) _ _ eu)) ?_ ?_⟩
  ·rintro i v σ H' hx ⟨pg,v0,v1,v2,rfl⟩
   obtain⟨u,hu,t,rfl,qt⟩:=Paired.get' hU hx
   have hi:=(List.getElem?_eq_some_iff.mp hu).1
   have u6:=uok.1
   have g:=g1.trans pg.same
   have hok:okU sums u=true:=(yL.mp z) u (yk hu)
   obtain⟨r0,r1,l0,m1,ls,ℓ,er,el,en⟩:=t8 hok
   obtain⟨v,ev,tv,ul,rfl,q1,q2⟩:=Paired.at t5 er
   obtain⟨w,ew,q3⟩:=Paired.at q2 el
   obtain⟨t',u',ts',rfl,w1,w2,w3⟩:=q3
   have ea:=aR ev
   rw[show((u.1.toNat:Nat):Int)=u.1 by lia] at ea
   have eb:=aR ew
   rw[show((u.2.1.toNat:Nat):Int)=u.2.1 by lia] at eb
   walk_at "rd"
   refine⟨_,SqT.of (g _ _ qt),rfl,_,_,rfl,_,_,rfl,_,_,rfl,rfl,?_⟩
   have h':=pg.same
   refine⟨_,_,_,h' _ _ t1,T.cl_Terms,T.n_Terms_sums,_,gU _ _ _,st,rfl,_,_,rfl,SqT.of (h' _ _ t4),_,ea,tv,rfl,_,_,rfl,SqT.of (h' _ _ q1),_,eb,by decide,fun p hp'=>?_⟩
   have hl:(usL sums us)[i]? = some (ℓ,u.2.2):=by
    unfold usL
    rw[yc,hu]
    show some ((lnAt sums u).getD iU,u.2.2)=_
    rw[en]
    rfl
   exact pg.step (l:=(ℓ,u.2.2)) hE (by lia) hl (kP.mono (az h') ⟨t',u',ts',rfl,w1,w2,w3⟩) hp'
  rintro σ H2 ⟨pg,v0,v1,v2,rfl⟩
  obtain⟨up,g2,eE,hPr⟩:=pg.ex
  rw[hvl,show us.length=(usL sums us).length from (ya ..).symm,yA] at hPr
  refine⟨y,pd,E,d,hs,ps,pns,up,usL sums us,rfl,t2.mono g2,okw,(g1.trans g2) _ _ hp,aip,eE,hPr,si uok,?_,x8 hf us,fun H3 g3=>?_⟩
  ·have h1:=jE (sums:=sums) (fun ls hls ℓ hℓ=>((hf ls hls).2 ℓ hℓ).1) us
   have h2:=uok.1
   lia
  ·have h1:=q H3 (g1.trans (g2.trans g3))
   unfold i8 at h1
   rw[z,yla] at h1
   exact h1
inductive wG(K:PySem.W.Frag)(ζ:Cs)(vs:List V)(H:Hp)(Q:VK)(E:XK):Prop
 | mk (x pd:Addr) (sv:V) (st:Stp) (d:Int) (hs:List Int) (ps:List Pst) (sums:List (List Lin)) (pns:List (List Key×V)) (_:vs=[.ref x,.ref pd,sv]) (_:ce ζ.b ζ.a H x d hs ps sums) (_:Ok d hs ps) (_:(∀ls∈sums,i7 hs.length d.toNat (ps.length+1) ls)) (_:H pd=some (.dT pns)) (_:db pns) (_:eI H sv st) (_:oA st) (_:∀H',aA H H'→Q (.bl (cN (dQ sums hs ps d) pns st)) H'):wG K ζ vs H Q E
theorem AQ:aw ["terms","pins","step"] ["terms","pins","step"] (ao xH):=⟨rfl,rfl,rfl,k!,rfl,k!,k!⟩
theorem A4{ζ:Cs}{f:Addr}{fd:FuncData}(F:Fun K "is_step" "is_step" xH f fd)(T:Txt K mg ζ)(zcR_:Cal P w K mg base "is_free" ["ward","pins","hand","day"] 2 (zb K ζ))(C_ends:Cal P w K mg base "ends" ["terms","pins","uses"] 5 (xO K ζ)):aN P w K mg base CX0 6 f fd ["terms","pins","step"] (wG K ζ):=by
 refine F.ok AQ (fun vs H Q E h=>?_) (fun cdv A outer s H vs Q E hr h=>?_)
 ·obtain⟨x,pd,sv,st,d,hs,ps,sums,pns,rfl,_⟩:=h
  rfl
 ·obtain⟨x,pd,sv,st,d,hs,ps,sums,pns,rfl,hT,okw,hf,ep,aip,hs0,hus,q⟩:=h
  refine⟨_,(ak (bh (aK bW (aM bi (pv 2) aj (fun _ _=>rfl)) bT (aH _)) (am (ay (ar zcR_ (hr.mono (by decide)) rfl (ae (aU (pv 0) rfl) (ae (pv 1) (ae (aM bi (pv 2) aj (fun _ _=>rfl)) (ae (aM bi (pv 2) aj (fun _ _=>rfl)) ag))))))) aJ)
  (am (ay (bM (bJ bW (aM bi (pv 2) aj (fun _ _=>rfl)) bT (aH _)) (cp (ar C_ends (hr.mono (by decide)) rfl (ae (pv 0) (ae (pv 1) (ae (aM bi (pv 2) aj (fun _ _=>rfl)) ag))))))))),?_⟩
  obtain⟨t,rfl⟩:=hs0.rf
  refine au fun U1 u1=>?_
  walk_at "rd"
  obtain⟨dx,y,rt,stt,vr,vss,t1,t2,t3,t4,t5⟩:=hT.ex
  cases st with
  | part h d' =>
   obtain⟨t0,e0,et⟩:=nK hs0
   cases e0
   refine⟨_,SqT.of et,_,rfl,rfl,?_⟩
   rw[if_pos rfl]
   exact⟨_,_,_,t1,T.cl_Terms,T.n_Terms_ward,_,dm _ _ _,_,SqT.of et,_,rfl,_,SqT.of et,_,rfl,y,pd,h,d',d,hs,ps,pns,rfl,t2,okw.d1,ep,q⟩
  | sum us =>
   obtain⟨t0,ut,uv,e0,et,eu,hU⟩:=qR hs0
   cases e0
   refine⟨_,SqT.of et,_,rfl,rfl,?_⟩
   rw[if_neg k!]
   rw[u1];clear u1
   walk_at "rd"
   refine⟨_,SqT.of et,_,rfl,rfl,?_⟩
   rw[if_pos rfl]
   exact⟨_,SqT.of et,_,rfl,x,pd,ut,d,hs,ps,sums,pns,uv,us,rfl,hT,okw,ep,aip,eu,hU,hus,hf,q⟩
  | oth s =>
   obtain⟨t0,vs,e0,et,n1,n2⟩:=vb hs0
   cases e0
   refine⟨_,SqT.of et,_,at0 _ _,rfl,?_⟩
   rw[if_neg n1]
   rw[u1];clear u1
   walk_at "rd"
   refine⟨_,SqT.of et,_,at0 _ _,rfl,?_⟩
   rw[if_neg n2]
   exact q H (aA.refl _)
inductive vy(K:PySem.W.Frag)(ζ:Cs)(vs:List V)(H:Hp)(Q:VK)(E:XK):Prop
 | mk (x pd:Addr) (h d D:Int) (hs:List Int) (ps:List Pst) (pns:List (List Key×V)) (_:vs=[.ref x,.ref pd,.int h,.int d]) (_:bt ζ.a H x D hs ps) (_:Ok D hs ps) (_:H pd=some (.dT pns)) (_:cO hs.length D.toNat 0 pns) (_:pns.length≤900) (_:0≤h) (_:h<(hs.length:Int)) (_:0≤d) (_:d<D) (_:∀r us H',aA H H'→H r=none→H' r=some (.lst us)→eZ H' us (cb pns (ch (hs[h.toNat]?.getD 0) ps) h d)→Frs H us→Q (.ref r) H'):vy K ζ vs H Q E
theorem sr:aw ["ward","pins","hand","day","cases","value","case"] ["ward","pins","hand","day"] (ao xY):=⟨rfl,rfl,rfl,k!,rfl,k!,k!⟩
theorem B4{ζ:Cs}{f:Addr}{fd:FuncData}(F:Fun K "parted" "parted" xY f fd)(T:Txt K mg ζ)(zd_:iB P w K mg base ζ.a "choices" ["self","hand"] 2 (zn_ K ζ)):aN P w K mg base CX0 3 f fd ["ward","pins","hand","day"] (vy K ζ):=by
 refine F.ok sr (fun vs H Q E h=>?_) (fun cdv A outer s H vs Q E hr h=>?_)
 ·obtain⟨x,pd,h,d,D,hs,ps,pns,rfl,_⟩:=h
  rfl
 ·obtain⟨x,pd,h,d,D,hs,ps,pns,rfl,hW,okw,ep,pok,pl,h0,h1,d0,d1,q⟩:=h
  refine⟨_,(ak (aD (i:=4) sr.nd rfl (Or.inl rfl) (aY ag))
  (ak (bY PassesOwn.never rfl (vD rfl T.reversed (cB zd_ (hr.mono (by decide)) (pv 0) (ae (pv 2) ag))) (aq (i:=5) sr.nd rfl (Or.inl rfl))
   (ak (aD (i:=6) sr.nd rfl (Or.inl rfl) (aS md (by rfl) T.dict PyProof.Rows.boot_dict (ae (pv 1) ag)))
    (ak (mY (iQ hr) (pv 6) (aV (ae (pv 2) (ae (pv 3) ag))) (pv 5) rfl)
    (am (bO (dD PySem.F.plainAttrs_list PySem.F.slot_list_append PySem.F.type_list_append b5 (pv 4) (ae (pv 6) ag)))))))
  (am (ay (pv 4))))),?_⟩
  refine au fun U1 u1=>?_
  walk_at "rd"
  refine⟨yH _,fun L hL=>?_⟩
  have g0:=ah hL (.lst [])
  rw[u1];clear u1
  refine au fun U1 u1=>cq fun B1 b1=>?_
  walk_at "rd"
  obtain⟨dx,ha,pa,ts,w1,w2,w3,w4⟩:=hW.ex
  have hh:h.toNat<hs.length:=by lia
  have eh:hs[h.toNat]? = some hs[h.toNat]:=yb hh
  refine⟨_,_,g0 _ _ w1,rfl,x,D,hs,ps,h.toNat,hs[h.toNat],by rw[yR h0],hW.mono g0,eh,okw.pl,fun rc H1 nw=>⟨rc,rfl,_,SqL.of nw.2.2,?_⟩⟩
  obtain⟨g1,f1,e1⟩:=nw
  rw[eh,yP] at q
  have owl:(ch hs[h.toNat] ps).length≤9:=by
   have h2:=mS hs[h.toNat] ps
   have h3:=okw.pl
   lia
  generalize ch hs[h.toNat] ps=ow at e1 q owl
  have lf0:LfI H L [] H1:=⟨[],g0.trans g1,g1 _ _ af,.nil⟩
  have nrc:rc≠L:=(aG (af (H:=H) (a:=L) (o:=.lst [])) f1).symm
  refine qk (xs:=ow.map V.int) (fun i σ H'=>(LfI H L ((ow.reverse.take i).map fun v=>bR pns (k2 h d) (.int v)) H'∧H' rc=some (.lst (ow.map V.int))∧FrL H L H')∧∃v5 v6,σ=[some (.ref x),some (.ref pd),some (.int h),some (.int d),some (.ref L),v5,v6]) ⟨⟨lf0,e1,⟨[],g1 _ _ af,fun d z=>by cases z⟩⟩,none,none,rfl⟩ (fun i σ H' _ hh=>SqL.of hh.1.2.1) ?_ ?_
  ·rintro i v σ H' hx ⟨⟨lf,er,fr⟩,v5,v6,rfl⟩
   rw[← List.map_reverse] at hx
   obtain⟨z,hz,rfl⟩:=fA hx
   have hi:=(List.getElem?_eq_some_iff.mp hz).1
   rw[yna] at hi
   rw[b1]
   refine au fun U2 u2=>?_
   walk_at "rd"
   refine⟨pns,lf.same _ _ ep,pok.hash okw.hl (by have:=okw.d2;lia) _ _,fun p hp=>?_⟩
   rw[u2];clear u2
   refine au fun U2 u2=>?_
   walk_at "rd"
   refine⟨by decide,fun pk hpk=>?_⟩
   have y1:=ah hp (.dT pns)
   have y2:=ah hpk (.tup [.int h,.int d])
   have ep2:=y2 _ _ (af (H:=H') (a:=p) (o:=.dT pns))
   refine⟨_,oG.t (k:=k2 h d) ep2 af (aE (by lia)),?_⟩
   have gN:aA H' (upd (upd (upd H' p (.dT pns)) pk (.tup [.int h,.int d])) p (.dT (bR pns (k2 h d) (.int z)))):=aI hp (y1.trans y2) _
   have epN:=af (H:=upd (upd H' p (.dT pns)) pk (.tup [.int h,.int d])) (a:=p) (o:=.dT (bR pns (k2 h d) (.int z)))
   generalize upd (upd (upd H' p (.dT pns)) pk (.tup [.int h,.int d])) p (.dT (bR pns (k2 h d) (.int z)))=H3 at gN epN ⊢
   have lf3:=lf.mono gN
   obtain⟨us3,g3,eL3,hD3⟩:=lf3.ex
   have hl3:=Paired.length hD3
   rw[ya,yf,yna] at hl3
   rw[u2];clear u2
   walk_at "rd"
   refine⟨.inl ⟨rfl,_,SqL.of eL3⟩,_,eL3,aE (by lia),?_,?_,?_⟩
   ·rw[ba hz,yg]
    exact lf3.put hL (aP hD3 ⟨p,rfl,epN,(pok.plain2 h0 h1 d0 (by lia) z).plain⟩)
   ·rw[av nrc]
    exact gN _ _ er
   ·obtain⟨usf,ef,hf⟩:=fr
    have ef3:=gN _ _ ef
    rw[eL3] at ef3
    cases ef3
    exact⟨_,af,hf.snoc (lf.same.free hp)⟩
  rintro σ H' ⟨⟨lf,er,fr⟩,v5,v6,rfl⟩
  rw[u1];clear u1
  walk_at "rd"
  obtain⟨us,g,eL,hD⟩:=lf.ex
  rw[ya,show ow.length=ow.reverse.length from (yna ..).symm,yA] at hD
  obtain⟨usf,ef,hf⟩:=fr
  rw[eL] at ef
  cases ef
  exact q L us H' g hL eL hD hf
inductive wQ(K:PySem.W.Frag)(ζ:Cs)(vs:List V)(H:Hp)(Q:VK)(E:XK):Prop
 | mk (x pl:Addr) (d:Int) (hs:List Int) (ps:List Pst) (sums:List (List Lin)) (uv:List V) (sts:List Stp) (_:vs=[.ref x,.ref pl]) (_:ce ζ.b ζ.a H x d hs ps sums) (_:Ok d hs ps) (_:(∀ls∈sums,i7 hs.length d.toNat (ps.length+1) ls)) (_:H pl=some (.lst uv)) (_:cn H uv sts) (_:(∀st∈sts,oA st)) (_:sts.length≤700) (_:(bX (dQ sums hs ps d) sts=none→∀H',aA H H'→Q .non H')) (_:∀cs,bX (dQ sums hs ps d) sts=some cs→∀r us H',aA H H'→H r=none→H' r=some (.lst us)→eZ H' us cs→gP hs.length d.toNat 700 cs→Frs H us→Q (.ref r) H'):wQ K ζ vs H Q E
theorem sU:aw ["terms","paper","cases","step","pins"] ["terms","paper"] (ao mR):=⟨rfl,rfl,rfl,k!,rfl,k!,k!⟩
theorem Bg{ζ:Cs}{f:Addr}{fd:FuncData}(F:Fun K "left" "left" mR f fd)(T:Txt K mg ζ)(zcT_:Cal P w K mg base "is_step" ["terms","pins","step"] 6 (wG K ζ))(zdA_:Cal P w K mg base "parted" ["ward","pins","hand","day"] 3 (vy K ζ)):aN P w K mg base CX0 7 f fd ["terms","paper"] (wQ K ζ):=by
 refine F.ok sU (fun vs H Q E h=>?_) (fun cdv A outer s H vs Q E hr h=>?_)
 ·obtain⟨x,pl,d,hs,ps,sums,uv,sts,rfl,_⟩:=h
  rfl
 ·obtain⟨x,pl,d,hs,ps,sums,uv,sts,rfl,hT,okw,hf,epl,hSt,hus,s20,q1,q2⟩:=h
  refine⟨_,(ak (aD (i:=2) sU.nd rfl (Or.inl rfl) (aY (ae lE ag)))
  (ak (bY PassesOwn.never rfl (bG (pv 1)) (aq (i:=3) sU.nd rfl (Or.inl rfl))
   (ak (bh (PW.pt (gn (aK (rj hr) (pv 2) (aY ag) (aH _)) (dW (cG (b8 (ar zcT_ (hr.mono (by decide)) rfl (ae (pv 0) (ae (aM aW (pv 2) (dS cY aj) (fun _ _=>rfl)) (ae (pv 3) ag))))))))) (am (ay y8)) aJ)
    (ak (aD (i:=4) sU.nd rfl (Or.inl rfl) (pL PySem.F.plainAttrs_list PySem.F.slot_list_pop PySem.F.type_list_pop zc (pv 2)))
    (am (bh (aK bW (aM bi (pv 3) aj (fun _ _=>rfl)) bT (aH _)) (am (bO (dD PySem.F.plainAttrs_list PySem.F.slot_list_extend PySem.F.type_list_extend jz (pv 2) (ae (ar zdA_ (hr.mono (by decide)) rfl (ae (aU (pv 0) rfl) (ae (pv 4) (ae (aM bi (pv 3) aj (fun _ _=>rfl)) (ae (aM bi (pv 3) aj (fun _ _=>rfl)) ag))))) ag)))) aJ)))))
  (am (ay (pv 2))))),?_⟩
  refine au fun U1 u1=>?_
  walk_at "rd"
  intro p hp
  refine⟨by decide,fun L hL=>?_⟩
  have y1:=ah hp (.dT [])
  have y2:=ah hL (.lst [.ref p])
  have hL0:=y1.free hL
  have lf:LfI H L [[]] (upd (upd H p (.dT [])) L (.lst [.ref p])):=⟨[.ref p],y1.trans y2,af,.cons ⟨p,rfl,y2 _ _ af,fun kv z=>by cases z⟩ .nil⟩
  have frl:FrL H L (upd (upd H p (.dT [])) L (.lst [.ref p])):=⟨_,af,fun d z=>by rw[V.ref.inj (List.mem_singleton.mp z)];exact hp⟩
  generalize upd (upd H p (.dT [])) L (.lst [.ref p])=H1 at lf frl ⊢
  rw[u1];clear u1
  refine au fun U1 u1=>cq fun B1 b1=>?_
  walk_at "rd"
  have hul:=Paired.length hSt
  refine⟨⟨_,SqL.of (lf.same _ _ epl)⟩,bg (xs:=uv) (fun i σ H'=>(∃cs,bX (dQ sums hs ps d) (sts.take i)=some cs∧LfI H L cs H'∧gP hs.length d.toNat i cs∧FrL H L H')∧∃v3 v4,σ=[some (.ref x),some (.ref pl),some (.ref L),v3,v4]) ⟨⟨[[]],rfl,lf,gP.init,frl⟩,none,none,rfl⟩ (fun i σ H' _ hh=>by obtain⟨⟨cs,_,lf,_⟩,_⟩:=hh;exact SqL.of (lf.same _ _ epl)) ?_ ?_⟩
  ·clear lf
   rintro i v σ H' hx ⟨⟨cs,hc,lf,cok,fr⟩,v3,v4,rfl⟩
   obtain⟨st,hst,hsv⟩:=Paired.get' hSt hx
   have hi:=(List.getElem?_eq_some_iff.mp hst).1
   have hsnoc:bX (dQ sums hs ps d) (sts.take (i+1))=cV (dQ sums hs ps d) cs st:=by
    rw[ba hst,mK,hc]
    rfl
   obtain⟨tv,rfl⟩:=hsv.rf
   rw[b1]
   refine au fun U2 u2=>?_
   obtain⟨us,g,eL,hD⟩:=lf.ex
   obtain⟨usf,ef,hfr⟩:=fr
   rw[eL] at ef
   cases ef
   walk_at "rd"
   refine⟨yH _,fun e he=>?_⟩
   have ge:=ah he (.lst [])
   refine⟨e,rfl,SqL.of af,.inr ⟨L,us,rfl,SqL.of (ge _ _ eL),_,rfl,?_⟩⟩
   replace g:=g.trans ge
   replace eL:=ge _ _ eL
   replace hD:=eZ.mono ge hD
   replace lf:=lf.mono ge
   clear ge he
   generalize upd H' e (.lst [])=H2 at g eL hD lf ⊢
   rcases gR cs with rfl | ⟨cs',pns,rfl⟩
   ·cases hD
    rw[if_pos (by rw[decide_eq_true rfl])]
    exact q1 (kG (i:=i+1) hsnoc) H2 g
   obtain⟨us',w,rfl,hD',hw⟩:=Paired.split hD
   obtain⟨pd,rfl,epd,ppl⟩:=hw
   have hfr':Frs H us':=fun d z=>hfr d (yha _ z)
   rw[if_neg (by simp)]
   have pok:=cok.2 pns (yB _ (List.mem_singleton.mpr rfl))
   refine⟨_,SqL.of eL,_,wN _ _,x,pd,.ref tv,st,d,hs,ps,sums,pns,rfl,hT.mono g,okw,hf,epd,pok.1.ai,hsv.tmono (az g),hus st (yk hst),fun H3 g3=>⟨_,rfl,?_⟩⟩
   rw[ck] at hsnoc
   cases z:cN (dQ sums hs ps d) pns st with
   | false =>
    rw[if_pos rfl]
    rw[z,if_neg (by decide)] at hsnoc
    exact q1 (kG (i:=i+1) hsnoc) H3 (g.trans g3)
   | true =>
   rw[if_neg (by decide)]
   rw[z,if_pos rfl] at hsnoc
   have cok2:=cok.step (c:=dQ sums hs ps d) (fun h _=>by have:=mS (hs[h]?.getD 0) ps;have:=okw.pl;show(ch (hs[h]?.getD 0) ps).length≤9;lia) z
   replace g:=g.trans g3
   replace eL:=g3 _ _ eL
   replace hD':=eZ.mono g3 hD'
   replace epd:=g3 _ _ epd
   replace lf:=lf.mono g3
   rw[u2];clear u2
   refine au fun U2 u2=>?_
   walk_at "rd"
   refine⟨.inl ⟨rfl,_,SqL.of eL⟩,L,us'++[.ref pd],.ref pd,rfl,rfl,eL,by simp,?_⟩
   rw[yza]
   have lf2:=lf.put hL0 hD'
   have npL:pd≠L:=fun y=>by rw[y,eL] at epd;cases epd
   have epd2:upd H3 L (.lst us') pd=some (.dT pns):=by rw[av npL];exact epd
   have eL4':=af (H:=H3) (a:=L) (o:=.lst us')
   generalize upd H3 L (.lst us')=H4 at lf2 epd2 eL4' ⊢
   have g4:=lf2.same
   have hT4:=hT.mono g4
   have hsv4:=hsv.tmono (az g4)
   obtain⟨us4,_,eL4,hD4⟩:=lf2.ex
   rw[eL4'] at eL4
   cases eL4
   have eL4:=eL4'
   rw[u2];clear u2
   walk_at "rd"
   cases st with
   | part h d' =>
    obtain⟨t0,e0,et⟩:=nK hsv4
    cases e0
    obtain⟨dx,y,rt,stt,vr,vss,t1,t2,t3,t4,t5⟩:=hT4.ex
    obtain⟨f0,f1,f2,f3,fv⟩:=nH (show c5 hs.length d.toNat pns h d'=true from z)
    refine⟨_,SqT.of et,_,rfl,rfl,?_⟩
    rw[if_pos rfl]
    refine⟨.inl ⟨rfl,_,SqL.of eL4⟩,_,_,_,t1,T.cl_Terms,T.n_Terms_ward,_,dm _ _ _,_,SqT.of et,_,rfl,_,SqT.of et,_,rfl,y,pd,h,d',d,hs,ps,pns,rfl,t2,okw,epd2,pok.1,by have:=pok.2;lia,f0,f1,f2,by lia,fun r ur H5 g5 hr er hDr hfu=>?_⟩
    have hl1:=Paired.length hD4
    have hl2:=Paired.length hDr
    have hl3:=cok2.1
    rw[yd,show(gE (dQ sums hs ps d) pns (.part h d')).length=ur.length from hl2.symm] at hl3
    refine⟨r,rfl,us',g5 _ _ eL4,ur,er,tY (by lia),_,hsnoc,(lf2.mono g5).put hL0 (Paired.app (eZ.mono g5 hD4) hDr),cok2,_,af,hfr'.app (hfu.back g4)⟩
   | sum us0 =>
    obtain⟨t0,ut,uv0,e0,et,eu,hU⟩:=qR hsv4
    cases e0
    refine⟨_,SqT.of et,_,rfl,rfl,?_⟩
    rw[if_neg k!]
    have e:cs'++gE (dQ sums hs ps d) pns (.sum us0)=cs':=yI _
    rw[e] at hsnoc cok2
    exact⟨cs',hsnoc,lf2,cok2,us',eL4,hfr'⟩
   | oth s =>
    have z:false=true:=z
    cases z
  clear lf
  rintro σ H' ⟨⟨cs,hc,lf,cok,fr⟩,v3,v4,rfl⟩
  rw[u1];clear u1
  walk_at "rd"
  rw[hul,yA] at hc
  obtain⟨us,g,eL,hD⟩:=lf.ex
  obtain⟨usf,ef,hfr⟩:=fr
  rw[eL] at ef
  cases ef
  exact q2 cs hc L us H' g hL0 eL hD (gP.mono cok (by lia)) hfr
inductive vC(K:PySem.W.Frag)(ζ:Cs)(vs:List V)(H:Hp)(Q:VK)(E:XK):Prop
 | mk (x pl:Addr) (d:Int) (hs:List Int) (ps:List Pst) (sums:List (List Lin)) (uv:List V) (sts:List Stp) (_:vs=[.ref x,.ref pl]) (_:ce ζ.b ζ.a H x d hs ps sums) (_:Ok d hs ps) (_:(∀ls∈sums,i7 hs.length d.toNat (ps.length+1) ls)) (_:H pl=some (.lst uv)) (_:cn H uv sts) (_:(∀st∈sts,oA st)) (_:sts.length≤700) (_:∀H',aA H H'→Q (.bl (cP (bX (dQ sums hs ps d) sts))) H'):vC K ζ vs H Q E
theorem Ct:aw ["terms","paper"] ["terms","paper"] (ao vj):=⟨rfl,rfl,rfl,k!,rfl,k!,k!⟩
theorem BB{ζ:Cs}{f:Addr}{fd:FuncData}(F:Fun K "is_paper" "is_paper" vj f fd)(T:Txt K mg ζ)(C_left:Cal P w K mg base "left" ["terms","paper"] 7 (wQ K ζ)):aN P w K mg base CX0 8 f fd ["terms","paper"] (vC K ζ):=by
 refine F.ok Ct (fun vs H Q E h=>?_) (fun cdv A outer s H vs Q E hr h=>?_)
 ·obtain⟨x,pl,d,hs,ps,sums,uv,sts,rfl,_⟩:=h
  rfl
 ·obtain⟨x,pl,d,hs,ps,sums,uv,sts,rfl,hT,okw,hf,epl,hSt,hus,s20,q⟩:=h
  refine⟨_,(am (ay (bJ (rj hr) (ar C_left (hr.mono (by decide)) rfl (ae (pv 0) (ae (pv 1) ag))) (aY ag) (aH _)))),?_⟩
  walk_at "rd"
  refine⟨x,pl,d,hs,ps,sums,uv,sts,rfl,hT,okw,hf,epl,hSt,hus,s20,(fun hz H1 g1=>⟨yH _,fun e he=>?_⟩),fun cs hz r us H1 g1 hr er hD hok _=>⟨yH _,fun e he=>?_⟩⟩
  ·have ge:=ah he (.lst [])
   have h1:=q _ (g1.trans ge)
   rw[hz] at h1
   exact⟨e,rfl,SqL.of af,.inl ⟨rfl,h1⟩⟩
  ·have ge:=ah he (.lst [])
   have h1:=q _ (g1.trans ge)
   rw[hz] at h1
   refine⟨e,rfl,SqL.of af,.inr ⟨r,us,rfl,SqL.of (ge _ _ er),?_⟩⟩
   have hl:=Paired.length hD
   have e1:decide (us=[])=cP (some cs):=by
    cases us with
    | nil =>
     cases cs with
     | nil=>rfl
     | cons=>cases hl
    | cons =>
     cases cs with
     | nil=>cases hl
     | cons=>rfl
   rw[e1]
   exact h1
inductive uQ(K:PySem.W.Frag)(ζ:Cs)(vs:List V)(H:Hp)(Q:VK)(E:XK):Prop
 | mk (t a:Addr) (us:List V) (ns:List Int) (_:vs=[.ref t,.ref a]) (_:H t=some (.tup us)) (_:H a=some (.lst (ns.map V.int))) (_:Q (.bl (dn us.length (-1) ns)) H):uQ K ζ vs H Q E
theorem zN_:aw ["things","numbers","last","number"] ["things","numbers"] (ao xh):=⟨rfl,rfl,rfl,k!,rfl,k!,k!⟩
theorem B5{ζ:Cs}{f:Addr}{fd:FuncData}(F:Fun K "are_rising" "are_rising" xh f fd)(T:Txt K mg ζ) :aN P w K mg base CX0 1 f fd ["things","numbers"] (uQ K ζ):=by
 refine F.ok zN_ (fun vs H Q E h=>?_) (fun cdv A outer s H vs Q E hr h=>?_)
 ·obtain⟨t,a,us,ns,rfl,_⟩:=h
  rfl
 ·obtain⟨t,a,us,ns,rfl,ht,ha,q⟩:=h
  refine⟨_,(ak (aD (i:=2) zN_.nd rfl (Or.inl rfl) (dS cY aj))
  (ak (bY PassesOwn.never rfl (bG (pv 1)) (aq (i:=3) zN_.nd rfl (Or.inl rfl))
   (ak (bh (PW.pt (gn (aK cu (pv 3) (pv 2) (aH _)) (dW (aK kX (pv 3) (aC (aF (K:=K) rfl) (by rfl) T.len PySem.boot_len (ae (pv 0) ag)) (aH _))))) (am (ay cF)) aJ)
    (am (aD (i:=2) zN_.nd rfl (Or.inl rfl) (pv 3)))))
  (am (ay cF)))),?_⟩
  refine au fun U1 u1=>?_
  walk_at "rd"
  rw[u1];clear u1
  refine au fun U1 u1=>cq fun B1 b1=>?_
  walk_at "rd"
  refine⟨⟨_,SqL.of ha⟩,bg (xs:=ns.map V.int) (fun i σ H'=>∃(l:Int) (v3:Option V),H'=H∧dn us.length (-1) ns=dn us.length l (ns.drop i)∧σ=[some (.ref t),some (.ref a),some (.int l),v3]) ⟨-1,none,rfl,rfl,rfl⟩ (fun i σ H' _ ⟨_,_,e,_⟩=>by rw[e];exact SqL.of ha) ?_ ?_⟩
  ·rintro i v σ H' hv ⟨l,v3,rfl,hr',rfl⟩
   obtain⟨x,hx,rfl⟩:=fA hv
   have hi:=(List.getElem?_eq_some_iff.mp hx).1
   have hd:ns.drop i=x::ns.drop (i+1):=by rw[yPa hi];congr 1;rw[yb hi] at hx;exact yt hx
   rw[hd] at hr'
   rw[gb] at hr'
   rw[b1]
   walk_at "rd"
   by_cases z1:x≤l
   ·rw[if_pos z1]
    rw[if_pos (.inl z1)] at hr'
    rw[hr'] at q
    exact q
   ·rw[if_neg z1]
    refine⟨_,.inr (SqT.of ht),?_⟩
    by_cases z2:(us.length:Int)≤x
    ·rw[if_pos z2]
     rw[if_pos (.inr z2)] at hr'
     rw[hr'] at q
     exact q
    ·rw[if_neg z2]
     rw[if_neg (by lia)] at hr'
     exact⟨x,hr',rfl⟩
  rintro σ H' ⟨l,v3,rfl,hr',rfl⟩
  rw[ya,List.drop_length] at hr'
  rw[u1];clear u1
  walk_at "rd"
  rw[hr'] at q
  exact q
inductive zH_(K:PySem.W.Frag)(ζ:Cs)(vs:List V)(H:Hp)(Q:VK)(E:XK):Prop
 | mk (x r:Addr) (d:Int) (hs:List Int) (ps:List Pst) (us:List V) (rows:List (List Int)) (sums:List (List Lin)) (pl:Nat) (_:vs=[.ref x,.ref r,.int (pl:Int)]) (_:ce ζ.b ζ.a H x d hs ps sums) (_:ps.length≤6) (_:hs.length≤8) (_:H r=some (.lst us)) (_:Rows H us rows) (_:(∀row∈rows,row.length≤900)) (_:rows.length≤900) (_:sums.length≤20) (_:(∀ls∈sums,ls.length≤40∧∀ℓ∈ls,ℓ.ps.length≤900∧∀q∈ℓ.ps,0≤q.h∧q.h<(hs.length:Int)∧0≤q.d∧q.d<d)) (_:∀H',aA H H'→Q (.bl (fF d hs ps sums rows pl)) H'):zH_ K ζ vs H Q E
theorem Bf:aw ["terms","rota","place"] ["terms","rota","place"] (ao zQ_):=⟨rfl,rfl,rfl,k!,rfl,k!,k!⟩
theorem BI{ζ:Cs}{f:Addr}{fd:FuncData}(F:Fun K "breaks_at_most" "breaks_at_most" zQ_ f fd)(T:Txt K mg ζ)(zj_:Cal P w K mg base "is_table" ["ward","rota"] 4 (zL_ K ζ))(X_faults:ph P w K mg base "faults" ["terms","rota"] 6 (sK K ζ)):aN P w K mg base CX0 7 f fd ["terms","rota","place"] (zH_ K ζ):=by
 refine F.ok Bf (fun vs H Q E h=>?_) (fun cdv A outer s H vs Q E hr h=>?_)
 ·obtain⟨x,r,d,hs,ps,us,rows,sums,pl,rfl,_⟩:=h
  rfl
 ·obtain⟨x,r,d,hs,ps,us,rows,sums,pl,rfl,hT,p6,h8,hr',hR,hw,hl,s20,hfin,q⟩:=h
  refine⟨_,(am (ay (bM (ar zj_ (hr.mono (by decide)) rfl (ae (aU (pv 0) rfl) (ae (pv 1) ag))) (cp (aC (dZ rfl) (by rfl) T.all PyProof.Rows.boot_all (ae (bp (own:=["fault"]) (fnames:=["place"]) (fr:=[2]) (N':=["fault","place"]) ⟨rfl,rfl,rfl,rfl,rfl,rfl,rfl⟩ rfl (bG (j6 X_faults rC (hr.mono (by decide)) rfl (ae (pv 0) (ae (pv 1) ag)))) (fun s0 H0 fp0 C0=>⟨(aq (i:=0) (by show(["fault","place"]:List Str).Nodup;decide +kernel) rfl (Or.inl rfl)),bo,(bJ bW (aM (fL (K:=K) rfl) (pv 0) aj (fun _ _=>rfl)) (pv 1) (aH _))⟩)) ag)))))),?_⟩
  walk_at "rd"
  obtain⟨dx,y,rt,st,vr,vs,e1,hW,e2,e3,hS⟩:=hT.ex
  refine⟨_,_,_,e1,T.cl_Terms,T.n_Terms_ward,_,dm _ _ _,y,r,d,hs,ps,us,rows,rfl,hW,p6,h8,hr',hR,hw,fun H1 g1=>⟨_,rfl,?_⟩⟩
  unfold fF at q
  cases hI:bI d hs ps rows with
  | false =>
   rw[if_neg (fun w=>(nomatch w))]
   rw[hI,yX] at q
   exact q H1 g1
  | true =>
   rw[if_pos rfl]
   rw[hI,yla] at q
   refine⟨x,r,d,hs,ps,us,rows,sums,rfl,hT.mono g1,p6,h8,g1 _ _ hr',hR.mono g1,hw,hl,s20,hfin,fun _ rf uf H2 g2 hrf erf hTr=>?_,fun z=>by rw[hI] at z;cases z⟩
   have g12:=g1.trans g2
   have hul:=Paired.length hTr
   have hfl:=jO (rows:=rows) s20 fun ls h=>(hfin ls h).1
   refine⟨rf,rfl,⟨_,SqL.of erf⟩,fun D hD=>bg (xs:=uf) (fun i σ H'=>aA H2 H'∧H' D=some (.lst ((((bA rows sums).take i).map fun f=>decide (f.1=(pl:Int))).map V.bl))∧∃v0,σ=[v0,some (.int (pl:Int))]) ⟨ah hD _,af,none,rfl⟩ (fun i σ H' _ hh=>SqL.of (hh.1 _ _ erf)) ?_ ?_⟩
   ·rintro i v σ H' hv ⟨g,e,v0,rfl⟩
    obtain⟨f,hf,a,rfl,ea⟩:=Paired.get' hTr hv
    have hi:=(List.getElem?_eq_some_iff.mp hf).1
    walk_at "rd"
    refine⟨_,SqT.of (g _ _ ea),_,rfl,rfl,_,e,aE (by rw[ya,ya,yf];lia),aI hD g _,?_⟩
    rw[af,ba hf,yg,yg]
    simp only[V.int.injEq]
    rfl
   rintro σ H3 ⟨g3,e,v0,rfl⟩
   rw[hul,yA] at e
   refine⟨_,SqL.of e,?_⟩
   rw[yub]
   exact q H3 (g12.trans g3)
inductive vI(K:PySem.W.Frag)(ζ:Cs)(vs:List V)(H:Hp)(Q:VK)(E:XK):Prop
 | mk (x n pl rl:Addr) (d:Int) (hs:List Int) (ps:List Pst) (ss:List Sp4) (ns:List Int) (uv ut:List V) (sts:List Stp) (tabs:List (List (List Int))) (_:vs=[.ref x,.ref n,.ref pl,.ref rl]) (_:cJ (dE ζ.c ζ.d ζ.e) ζ.b ζ.a H x d hs ps ss) (_:Ok d hs ps) (_:ps.length≤6) (_:hs.length≤8) (_:(∀s∈ss,K3 s)) (_:(∀s∈ss,kg d hs.length ps.length s)) (_:ss.length≤20) (_:(∀s∈ss,i7 hs.length d.toNat (ps.length+1) (aT d.toNat hs.length ps s))) (_:(∀s∈ss,oj d hs.length (aT d.toNat hs.length ps s))) (_:H n=some (.lst (ns.map V.int))) (_:ns.length≤100) (_:H pl=some (.lst uv)) (_:cn H uv sts) (_:(∀st∈sts,oA st)) (_:sts.length≤700) (_:H rl=some (.lst ut)) (_:cm H ut tabs) (_:tabs.length≤100) (_:(∀t∈tabs,t.length≤900∧∀row∈t,row.length≤900)) (_:∀H',aA H H'→Q (.bl (cz d hs ps ss ns sts tabs)) H'):vI K ζ vs H Q E
theorem zy:aw ["terms","numbers","paper","rotas","chosen"] ["terms","numbers","paper","rotas"] (ao w6):=⟨rfl,rfl,rfl,k!,rfl,k!,k!⟩
theorem CJ{ζ:Cs}{f:Addr}{fd:FuncData}(F:Fun K "are_shown" "are_shown" w6 f fd)(T:Txt K mg ζ)(C_only:Cal P w K mg base "only" ["terms","numbers"] 7 (zh K ζ))(zcy_:Cal P w K mg base "is_paper" ["terms","paper"] 8 (vC K ζ))(zbD_:Cal P w K mg base "are_rising" ["things","numbers"] 1 (uQ K ζ))(zV_:Cal P w K mg base "breaks_at_most" ["terms","rota","place"] 7 (zH_ K ζ)):aN P w K mg base CX0 9 f fd ["terms","numbers","paper","rotas"] (vI K ζ):=by
 refine F.ok zy (fun vs H Q E h=>?_) (fun cdv A outer s H vs Q E hr h=>?_)
 ·obtain⟨x,n,pl,rl,d,hs,ps,ss,ns,uv,ut,sts,tabs,rfl,_⟩:=h
  rfl
 ·obtain⟨x,n,pl,rl,d,hs,ps,ss,ns,uv,ut,sts,tabs,rfl,hT,okw,p6,h8,k3,ok,s20,hfp,hfn,hn,n100,hp,hSt,stu,s700,hrl,hRo,t100,ht9,q⟩:=h
  refine⟨_,(ak (bh (PW.pt (gn (cG (b8 (ar zbD_ (hr.mono (by decide)) rfl (ae (aU (pv 0) rfl) (ae (pv 1) ag))))) (dW (aK pG (aC (aF (K:=K) rfl) (by rfl) T.len PySem.boot_len (ae (pv 3) ag)) (aC (aF (K:=K) rfl) (by rfl) T.len PySem.boot_len (ae (pv 1) ag)) (aH _))))) (am (ay cF)) aJ)
  (ak (aD (i:=4) zy.nd rfl (Or.inr rfl) (ar C_only (hr.mono (by decide)) rfl (ae (pv 0) (ae (pv 1) ag))))
  (ak (bh (cG (b8 (ar zcy_ (hr.mono (by decide)) rfl (ae (pv 4) (ae (pv 2) ag))))) (am (ay cF)) aJ)
  (am (ay (aC (dZ rfl) (by rfl) T.all PyProof.Rows.boot_all (ae (bp (own:=["place","rota"]) (fnames:=["chosen"]) (fr:=[4]) (N':=["place","rota","chosen"]) ⟨rfl,rfl,rfl,rfl,rfl,rfl,rfl⟩ rfl (cD rfl T.enumerate (pv 3)) (fun s0 H0 fp0 C0=>⟨(c9 (K:=K) (n:=2) rfl rfl (aB (aq (i:=0) (by show(["place","rota","chosen"]:List Str).Nodup;decide +kernel) rfl (Or.inl rfl)) (aB (aq (i:=1) (by show(["place","rota","chosen"]:List Str).Nodup;decide +kernel) rfl (Or.inl rfl)) bx))),bo,(ar zV_ (hr.mono (by decide)) rfl (ae (pv 2) (ae (pv 1) (ae (pv 0) ag))))⟩)) ag))))))),?_⟩
  refine au fun U1 u1=>?_
  walk_at "rd"
  obtain⟨dx,y,rt,st,vr,vs,e1,hW,e2,hRu,e3,hS⟩:=hT.ex
  have hrl':=Paired.length hRu
  have hut:=Paired.length hRo
  refine⟨_,_,_,e1,T.cl_Terms,T.n_Terms_rules,_,lL _ _ _,rt,n,vr,ns,rfl,e2,hn,_,rfl,?_⟩
  rw[hrl']
  unfold cz at q
  cases hri:dn ss.length (-1) ns with
  | false =>
   rw[if_pos rfl]
   rw[hri,yX] at q
   exact q H (aA.refl _)
  | true =>
   rw[if_neg (fun w=>(nomatch w))]
   rw[hri,yla] at q
   refine⟨_,.inl (SqL.of hrl),_,.inl (SqL.of hn),?_⟩
   rw[ya,hut]
   by_cases hlen:tabs.length=ns.length
   ·rw[if_neg (fun w=>w (by rw[hlen]))]
    rw[decide_eq_true hlen,yla] at q
    have hmem:=dI hri
    rw[u1];clear u1
    refine au fun U1 u1=>?_
    walk_at "rd"
    refine⟨x,n,d,hs,ps,ss,ns,rfl,hT,okw,k3,ok,hn,(fun m hm=>by have:=hmem m hm;lia),by lia,fun r H1 g1 hr0 hTc=>?_⟩
    have mem:∀ls∈(ns.map fun n=>ss.getD n.toNat ⟨0,0,0,0⟩).map (aT d.toNat hs.length ps),∃s∈ss,ls=aT d.toNat hs.length ps s:=fun ls hls=>by
     obtain⟨s,hs1,rfl⟩:=List.mem_map.mp hls
     obtain⟨m,hm,rfl⟩:=List.mem_map.mp hs1
     have:=hmem m hm
     rw[eC (yb (show m.toNat<ss.length by lia))]
     exact⟨_,yO _,rfl⟩
    have hTA:=hTc.at
    have hsl:((ns.map fun n=>ss.getD n.toNat ⟨0,0,0,0⟩).map (aT d.toNat hs.length ps)).length≤20:=by
     rw[ya,ya]
     rcases lu hri with h | h
     ·lia
     ·rw[h];decide
    generalize (ns.map fun n=>ss.getD n.toNat ⟨0,0,0,0⟩).map (aT d.toNat hs.length ps)=sums at q mem hTA hsl
    rw[u1];clear u1
    refine au fun U1 u1=>?_
    walk_at "rd"
    refine⟨r,pl,d,hs,ps,sums,uv,sts,rfl,hTA,okw,(fun ls h=>by obtain⟨s,h1,rfl⟩:=mem ls h;exact hfp s h1),g1 _ _ hp,cn.tmono (az g1) hSt,stu,s700,fun H2 g2=>⟨_,rfl,?_⟩⟩
    have g12:=g1.trans g2
    cases hnil:cP (bX (dQ sums hs ps d) sts) with
    | false =>
     rw[if_pos rfl]
     rw[hnil,yX] at q
     exact q H2 g12
    | true =>
     rw[if_neg (fun w=>(nomatch w))]
     rw[hnil,yla] at q
     rw[u1];clear u1
     walk_at "rd"
     refine⟨⟨_,SqL.of (g12 _ _ hrl)⟩,fun D hD=>bZ (xs:=ut) (fun i σ H'=>aA H2 H'∧H' D=some (.lst (((List.range i).map fun k=>fF d hs ps sums (tabs.getD k []) k).map V.bl))∧∃v0 v1,σ=[v0,v1,some (.ref r)]) ⟨ah hD _,af,none,none,rfl⟩ (fun i σ H' _ hh=>SqL.of ((g12.trans hh.1) _ _ hrl)) ?_ ?_⟩
     ·rintro i v σ H' t hv ⟨g,e,v0,v1,rfl⟩ ht
      rw[ygb]
      obtain⟨rows,hro,rr,ur,rfl,er,hRr⟩:=Paired.get' hRo hv
      have hi:=(List.getElem?_eq_some_iff.mp hro).1
      obtain⟨t9,tw9⟩:=ht9 rows (yk hro)
      have gt:=ah ht (.tup [.int (i:Int),.ref rr])
      have et:upd H' t (.tup [.int (i:Int),.ref rr]) t=_:=af
      generalize upd H' t (.tup [.int (i:Int),.ref rr])=H3 at gt et ⊢
      have g3:=g.trans gt
      have gA:=g12.trans g3
      walk_at "rd"
      refine⟨_,SqT.of et,rfl,_,_,rfl,_,_,rfl,rfl,?_⟩
      walk_at "rd"
      refine⟨r,rr,d,hs,ps,ur,rows,sums,i,rfl,hTA.mono (g2.trans g3),p6,h8,gA _ _ er,hRr.mono gA,tw9,t9,hsl,(fun ls h=>by obtain⟨s,h1,rfl⟩:=mem ls h;exact hfn s h1),fun H4 g4=>?_⟩
      refine⟨_,g4 _ _ (gt _ _ e),aE (by rw[ya,ya,yo];lia),aI hD (g3.trans g4) _,?_⟩
      rw[af,mv,yg,eC hro]
      rfl
     rintro σ H3 ⟨g3,e,v0,v1,rfl⟩
     rw[hut] at e
     refine⟨_,SqL.of e,?_⟩
     rw[iu]
     exact q H3 (g12.trans g3)
   ·rw[if_pos (fun w=>hlen (by lia))]
    rw[decide_eq_false hlen,yX] at q
    exact q H (aA.refl _)
inductive zM_(K:PySem.W.Frag)(ζ:Cs)(vs:List V)(H:Hp)(Q:VK)(E:XK):Prop
 | mk (x t:Addr) (d:Int) (hs:List Int) (ps:List Pst) (ss:List Sp4) (_:vs=[.ref x,.ref t]) (_:cJ (dE ζ.c ζ.d ζ.e) ζ.b ζ.a H x d hs ps ss) (_:Ok d hs ps) (_:ps.length≤6) (_:hs.length≤8) (_:(∀s∈ss,K3 s)) (_:(∀s∈ss,kg d hs.length ps.length s)) (_:ss.length≤20) (_:(∀s∈ss,i7 hs.length d.toNat (ps.length+1) (aT d.toNat hs.length ps s))) (_:(∀s∈ss,oj d hs.length (aT d.toNat hs.length ps s))) (_:((H t=some (.tup [.str "open"])∧Q (.bl false) H)∨(∃(r:Addr) (us:List V) (rows:List (List Int)),H t=some (.tup [.str "rota",.ref r])∧H r=some (.lst us)∧Rows H us rows∧(∀row∈rows,row.length≤900)∧rows.length≤900∧∀H',aA H H'→Q (.bl (bI d hs ps rows&&decide (bA rows (ss.map (aT d.toNat hs.length ps))=[]))) H')∨∃(n pl rl:Addr) (ns:List Int) (uv ut:List V) (sts:List Stp) (tabs:List (List (List Int))),H t=some (.tup [.str "clash",.ref n,.ref pl,.ref rl])∧H n=some (.lst (ns.map V.int))∧ns.length≤100∧H pl=some (.lst uv)∧cn H uv sts∧(∀st∈sts,oA st)∧sts.length≤700∧H rl=some (.lst ut)∧cm H ut tabs∧tabs.length≤100∧(∀t∈tabs,t.length≤900∧∀row∈t,row.length≤900)∧∀H',aA H H'→Q (.bl (cz d hs ps ss ns sts tabs)) H')):zM_ K ζ vs H Q E
theorem A8:aw ["terms","told"] ["terms","told"] (ao zq):=⟨rfl,rfl,rfl,k!,rfl,k!,k!⟩
theorem CC{ζ:Cs}{f:Addr}{fd:FuncData}(F:Fun K "is_clash" "is_clash" zq f fd)(T:Txt K mg ζ)(zdS_:Cal P w K mg base "meets" ["terms","rota"] 7 (vH K ζ))(zci_:Cal P w K mg base "are_shown" ["terms","numbers","paper","rotas"] 9 (vI K ζ)):aN P w K mg base CX0 10 f fd ["terms","told"] (zM_ K ζ):=by
 refine F.ok A8 (fun vs H Q E h=>?_) (fun cdv A outer s H vs Q E hr h=>?_)
 ·obtain⟨x,t,d,hs,ps,ss,rfl,_⟩:=h
  rfl
 ·obtain⟨x,t,d,hs,ps,ss,rfl,hT,okw,p6,h8,k3,ok,s20,hfp,hfn,q⟩:=h
  refine⟨_,(ak (bh (aK bW (aM bi (pv 1) aj (fun _ _=>rfl)) bT (aH _)) (am (ay (ar zdS_ (hr.mono (by decide)) rfl (ae (pv 0) (ae (aM bi (pv 1) aj (fun _ _=>rfl)) ag))))) aJ)
  (am (ay (bM (bJ bW (aM bi (pv 1) aj (fun _ _=>rfl)) bT (aH _)) (cp (ar zci_ (hr.mono (by decide)) rfl (ae (pv 0) (ae (aM bi (pv 1) aj (fun _ _=>rfl)) (ae (aM bi (pv 1) aj (fun _ _=>rfl)) (ae (aM bi (pv 1) aj (fun _ _=>rfl)) ag)))))))))),?_⟩
  refine au fun U1 u1=>ifs_ofK fun A1 a1=>?_
  walk_at "rd"
  have s20':(ss.map (aT d.toNat hs.length ps)).length≤20:=by rw[ya];exact s20
  have fin':∀ls∈ss.map (aT d.toNat hs.length ps),oj d hs.length ls:=fun ls h=>by obtain⟨s,h1,rfl⟩:=List.mem_map.mp h;exact hfn s h1
  rcases q with ⟨et,q⟩ | ⟨r,us,rows,et,er,hR,hw,hl,q⟩ | ⟨n,pl,rl,ns,uv,ut,sts,tabs,et,hn,n100,hp,hSt,stu,s700,hrl,hRo,t100,ht9,q⟩
  ·refine⟨_,SqT.of et,_,rfl,rfl,?_⟩
   rw[if_neg k!]
   rw[u1];clear u1
   walk_at "rd"
   refine⟨_,SqT.of et,_,rfl,rfl,?_⟩
   rw[if_neg k!]
   exact q
  ·refine⟨_,SqT.of et,_,rfl,rfl,?_⟩
   rw[if_pos rfl]
   rw[a1];clear a1 u1
   walk_at "rd"
   exact⟨_,SqT.of et,_,rfl,x,r,d,hs,ps,us,rows,_,rfl,hT.at,p6,h8,er,hR,hw,hl,s20',fin',q⟩
  ·refine⟨_,SqT.of et,_,rfl,rfl,?_⟩
   rw[if_neg k!]
   rw[u1];clear u1
   walk_at "rd"
   refine⟨_,SqT.of et,_,rfl,rfl,?_⟩
   rw[if_pos rfl]
   exact⟨_,SqT.of et,_,rfl,_,SqT.of et,_,rfl,_,SqT.of et,_,rfl,x,n,pl,rl,d,hs,ps,ss,ns,uv,ut,sts,tabs,rfl,hT,okw,p6,h8,k3,ok,s20,hfp,hfn,hn,n100,hp,hSt,stu,s700,hrl,hRo,t100,ht9,q⟩
inductive zf_(K:PySem.W.Frag)(ζ:Cs)(vs:List V)(H:Hp)(Q:VK)(E:XK):Prop
 | mk (a:Addr) (ns:List Int) (k:Int) (_:vs=[.ref a,.int k]) (_:SqL K H a (ns.map V.int)) (_:ns.length≤63) (_:0≤k) (_:k≤100000) (_:∀v:Int,Q (.int v) H):zf_ K ζ vs H Q E
theorem zt:aw ["_law_script","_law_k","_law_number"] ["_law_script","_law_k"] (ao xD):=⟨rfl,rfl,rfl,k!,rfl,k!,k!⟩
theorem BQ{ζ:Cs}{f:Addr}{fd:FuncData}(F:Fun K "_law_cell" "_law_cell" xD f fd)(T:Txt K mg ζ) :aN P w K mg base CX0 1 f fd ["_law_script","_law_k"] (zf_ K ζ):=by
 refine F.ok zt (fun vs H Q E h=>?_) (fun cdv A outer s H vs Q E hr h=>?_)
 ·obtain⟨a,ns,k,rfl,_⟩:=h
  rfl
 ·obtain⟨a,ns,k,rfl,hS,hl,k0,k1,q⟩:=h
  refine⟨_,(ak (bh (aK cR (pv 1) (aC (aF (K:=K) rfl) (by rfl) T.len PySem.boot_len (ae (pv 0) ag)) (aH _)) (am (ay (aM aW (pv 0) (pv 1) (fun _ _=>rfl)))) aJ)
  (ak (aD (i:=2) zt.nd rfl (Or.inl rfl) (ax bz (ax gh (ax gh (pv 1) (pv 1)) aj) aj))
  (ak (bh (aK gx (aC (aF (K:=K) rfl) (by rfl) T.len PySem.boot_len (ae (pv 0) ag)) aj (aH _)) (am (aD (i:=2) zt.nd rfl (Or.inl rfl) (ax bz (pv 2) (ax gh (ax bc (aM aW (pv 0) (ax bc (pv 1) (aC (aF (K:=K) rfl) (by rfl) T.len PySem.boot_len (ae (pv 0) ag))) (fun _ _=>rfl)) aj) aj)))) aJ)
  (am (ay (ax bc (ax gh (pv 2) aj) aj)))))),?_⟩
  walk_at "rd"
  refine⟨_,.inl hS,?_⟩
  have kk:k*k≤100000*100000:=Int.mul_le_mul k1 k1 k0 (by lia)
  split
  ·rename_i hk
   rw[ya] at hk
   obtain⟨v,hv⟩:=nU k0 hk
   exact⟨_,hS,_,hv,q v⟩
  ·refine⟨.inl ⟨by lia,by lia⟩,.inr ⟨by decide,by decide⟩,_,.inl hS,?_⟩
   split
   ·rename_i hp
    rw[ya] at hp
    have hm0:=yv k (b:=(ns.length:Int)) (by lia)
    have hm1:=yD k (b:=(ns.length:Int)) hp
    obtain⟨v,hv⟩:=nU hm0 hm1
    refine⟨_,.inl hS,by rw[ya];exact hp,_,hS,_,by rw[ya];exact hv,v,rfl,by decide,.inr ⟨by decide,by decide⟩,.inr ⟨by decide,by decide⟩,by decide,q _⟩
   ·exact⟨.inr ⟨by decide,by decide⟩,by decide,q _⟩
inductive xW(K:PySem.W.Frag)(ζ:Cs)(vs:List V)(H:Hp)(Q:VK)(E:XK):Prop
 | mk (a:Addr) (ns:List Int) (_:vs=[.ref a]) (_:SqL K H a (ns.map V.int)) (_:ns.length≤63) (_:∀(t:Addr) (n D P:Nat) (H':Hp),aA H H'→H' t=some (.tup [.int (n:Int),.int (D:Int),.int (P:Int)])→1≤n→n≤8→1≤D→D≤31→1≤P→P≤2→Q (.ref t) H'):xW K ζ vs H Q E
theorem zh_:aw ["_law_script","_law_hands","_law_days"] ["_law_script"] (ao uT):=⟨rfl,rfl,rfl,k!,rfl,k!,k!⟩
theorem Df{ζ:Cs}{f:Addr}{fd:FuncData}(F:Fun K "_law_sizes" "_law_sizes" uT f fd)(T:Txt K mg ζ)(za_:Cal P w K mg base "_law_cell" ["_law_script","_law_k"] 1 (zf_ K ζ)):aN P w K mg base CX0 2 f fd ["_law_script"] (xW K ζ):=by
 refine F.ok zh_ (fun vs H Q E h=>?_) (fun cdv A outer s H vs Q E hr h=>?_)
 ·obtain⟨a,ns,rfl,_⟩:=h
  rfl
 ·obtain⟨a,ns,rfl,hS,hn,q⟩:=h
  refine⟨_,(ak (aD (i:=1) zh_.nd rfl (Or.inl rfl) (ax bz aj (ax bc (ar za_ (hr.mono (by decide)) rfl (ae (pv 0) (ae aj ag))) aj)))
  (ak (aD (i:=2) zh_.nd rfl (Or.inl rfl) (ax bz aj (ax bc (ar za_ (hr.mono (by decide)) rfl (ae (pv 0) (ae aj ag))) aj)))
  (jR (bh (aK bW (ax bc (ax dv (ar za_ (hr.mono (by decide)) rfl (ae (pv 0) (ae aj ag))) aj) aj) aj (aH _)) (ak (aD (i:=1) zh_.nd rfl (Or.inl rfl) aj)
   (am (aD (i:=2) zh_.nd rfl (Or.inl rfl) (aC (jt rfl) (by rfl) T.min PyProof.Rows.boot_min (ae (pv 2) (ae aj ag)))))) (am (bh (aK bW (ax bc (ax dv (ar za_ (hr.mono (by decide)) rfl (ae (pv 0) (ae aj ag))) aj) aj) aj (aH _)) (ak (aD (i:=1) zh_.nd rfl (Or.inl rfl) (aC (jt rfl) (by rfl) T.min PyProof.Rows.boot_min (ae (pv 1) (ae aj ag))))
    (am (aD (i:=2) zh_.nd rfl (Or.inl rfl) aj))) aJ)))
  (am (ay (aV (ae (pv 1) (ae (pv 2) (ae (ax bz aj (ax bc (ar za_ (hr.mono (by decide)) rfl (ae (pv 0) (ae aj ag))) aj)) ag))))))))),?_⟩
  refine au fun U1 u1=>?_
  walk_at "rd"
  refine⟨a,ns,_,rfl,hS,hn,by decide,by decide,fun v0=>⟨v0,rfl,by decide,?_⟩⟩
  rw[u1];clear u1
  refine au fun U1 u1=>?_
  walk_at "rd"
  refine⟨a,ns,_,rfl,hS,hn,by decide,by decide,fun v1=>⟨v1,rfl,by decide,?_⟩⟩
  rw[u1];clear u1
  refine mo (fun σ H'=>H'=H∧∃n D:Nat,1≤n∧n≤8∧1≤D∧D≤31∧σ=[some (.ref a),some (.int (n:Int)),some (.int (D:Int))]) ?_ ?_
  ·walk_at "rd"
   refine⟨a,ns,_,rfl,hS,hn,by decide,by decide,fun v2=>?_⟩
   refine⟨v2,rfl,⟨by decide,by decide⟩,by decide,?_⟩
   split
   ·refine⟨rfl,8,by decide,by decide,(if 3<1+v1 % 6 then 3 else 1+v1 % 6).toNat,?_,?_,rfl,?_⟩ <;> (split <;> lia)
   ·refine⟨a,ns,_,rfl,hS,hn,by decide,by decide,fun v4=>⟨v4,rfl,⟨by decide,by decide⟩,by decide,?_⟩⟩
    split
    ·refine⟨rfl,(if 2<1+v0 % 4 then 2 else 1+v0 % 4).toNat,?_,?_,31,by decide,by decide,?_,rfl⟩ <;> (split <;> lia)
    ·exact⟨rfl,(1+v0 % 4).toNat,by lia,by lia,(1+v1 % 6).toNat,by lia,by lia,by lia,by lia⟩
  rintro σ H' ⟨rfl,n,D,n1,n8,D1,D31,rfl⟩
  walk_at "rd"
  refine⟨a,ns,_,rfl,hS,hn,by decide,by decide,fun v3=>⟨v3,rfl,by decide,by decide,fun t ht=>?_⟩⟩
  exact q t n D (1+v3 % 2).toNat _ (ah ht _) (by rw[af,yR (by lia)]) n1 n8 D1 D31 (by lia) (by lia)
inductive xR(K:PySem.W.Frag)(ζ:Cs)(vs:List V)(H:Hp)(Q:VK)(E:XK):Prop
 | mk (a:Addr) (ns:List Int) (n d:Nat) (_:vs=[.ref a,.int (n:Int),.int (d:Int)]) (_:SqL K H a (ns.map V.int)) (_:ns.length≤63) (_:n≤8) (_:d<31) (_:∀(r:Addr) (bs:List Int) (H':Hp),aA H H'→H r=none→H' r=some (.lst (bs.map V.int))→bs.length=n→(∀b∈bs,0≤b∧b<2147483648∧b.toNat.testBit d=true)→Q (.ref r) H'):xR K ζ vs H Q E
theorem BS:aw ["_law_script","_law_hands","_law_day"] ["_law_script","_law_hands","_law_day"] (ao wP):=⟨rfl,rfl,rfl,k!,rfl,k!,k!⟩
theorem Cf{ζ:Cs}{f:Addr}{fd:FuncData}(F:Fun K "_law_sets" "_law_sets" wP f fd)(T:Txt K mg ζ)(za_:Cal P w K mg base "_law_cell" ["_law_script","_law_k"] 1 (zf_ K ζ)):aN P w K mg base CX0 2 f fd ["_law_script","_law_hands","_law_day"] (xR K ζ):=by
 refine F.ok BS (fun vs H Q E h=>?_) (fun cdv A outer s H vs Q E hr h=>?_)
 ·obtain⟨a,ns,n,d,rfl,_⟩:=h
  rfl
 ·obtain⟨a,ns,n,d,rfl,hS,hn,n8,d31,q⟩:=h
  refine⟨_,(am (ay (bp (own:=["_law_hand"]) (fnames:=["_law_script","_law_day"]) (fr:=[0,2]) (N':=["_law_hand","_law_script","_law_day"]) ⟨rfl,rfl,rfl,rfl,rfl,rfl,rfl⟩ rfl (bE rfl T.range (ae (pv 1) ag)) (fun s0 H0 fp0 C0=>⟨(aq (i:=0) (by show(["_law_hand","_law_script","_law_day"]:List Str).Nodup;decide +kernel) rfl (Or.inl rfl)),bo,(ax Az (ax bc (ar za_ (hr.mono (by decide)) rfl (ae (pv 1) (ae (ax bz aj (pv 0)) ag))) (ax eX aj aj)) (ax mn aj (pv 2)))⟩)))),?_⟩
  walk_at "rd"
  refine⟨by lia,by lia,fun D hD=>bw (fun i σ H'=>∃bs:List Int,H'=upd H D (.lst (bs.map V.int))∧bs.length=i∧(∀b∈bs,0≤b∧b<2147483648∧b.toNat.testBit d=true)∧∃v0,σ=[v0,some (.ref a),some (.int (d:Int))]) ⟨[],rfl,rfl,(fun b z=>by cases z),none,rfl⟩ ?_ ?_⟩
  ·rintro i σ H' hi ⟨bs,rfl,hbl,hb,v0,rfl⟩
   rw[show(0+(i:Int))=i by lia]
   have gp:=ah hD (.lst (bs.map V.int))
   walk_at "rd"
   refine⟨a,ns,_,rfl,gp.seq hS,hn,by lia,by lia,fun v=>⟨⟨by decide,by decide,by decide⟩,v,rfl,by decide,?_,_,af,aE (by rw[ya];lia),?_⟩⟩
   ·exact⟨by first | decide | lia,by first | decide | lia,by first | decide | omega⟩
   have e31:(2:Int) ^ Int.toNat 31=2147483648:=by decide
   rw[e31]
   have m0:=yv v (b:=(2147483648:Int)) (by decide)
   have m1:=yD v (b:=(2147483648:Int)) (by decide)
   refine⟨bs++[_],by rw[cf,yg];rfl,by rw[yd,hbl];rfl,fun b hb'=>?_⟩
   rcases List.mem_append.mp hb' with z | z
   ·exact hb b z
   ·rw[List.mem_singleton.mp z]
    exact wn m0 m1 d31
  rintro σ H' ⟨bs,rfl,hbl,hb,v0,rfl⟩
  exact q D bs _ (ah hD _) hD af (by lia) hb
inductive uV(K:PySem.W.Frag)(ζ:Cs)(vs:List V)(H:Hp)(Q:VK)(E:XK):Prop
 | mk (a sb:Addr) (ns bs:List Int) (n d P:Nat) (p:Int) (_:vs=[.ref a,.int (n:Int),.int (d:Int),.int p,.ref sb]) (_:SqL K H a (ns.map V.int)) (_:ns.length≤63) (_:1≤n) (_:n≤8) (_:1≤p) (_:p≤(P:Int)) (_:H sb=some (.lst (bs.map V.int))) (_:bs.length=n) (_:∀(r:Addr) (us:List V) (ex:List Sp4) (H':Hp),aA H H'→H r=none→H' r=some (.lst us)→cy (dE ζ.c ζ.d ζ.e) P H' us (ClD.rls ⟨n,0,d,p,bs,ex,[],[],[]⟩)→ex.length≤3→(∀s∈ex,s.k=2∧s.c=0∧0≤s.a∧s.a<(n:Int)∧0≤s.b∧s.b<2147483648)→Q (.ref r) H'):uV K ζ vs H Q E
theorem zx_:aw ["_law_script","_law_hands","_law_day","_law_post","_law_sets_here","_law_rules_here","_law_hand","_law_k","_law_cell_here"] ["_law_script","_law_hands","_law_day","_law_post","_law_sets_here"] (ao xn):=⟨rfl,rfl,rfl,k!,rfl,k!,k!⟩
theorem Dy{ζ:Cs}{f:Addr}{fd:FuncData}(F:Fun K "_law_rules" "_law_rules" xn f fd)(T:Txt K mg ζ)(I_Want:kU P w K mg base "Want" ζ.c ["self","day","post","many"] 1 (zS_ K ζ))(za_:Cal P w K mg base "_law_cell" ["_law_script","_law_k"] 1 (zf_ K ζ))(I_Away:kU P w K mg base "Away" ζ.e ["self","hand","days"] 1 (zT_ K ζ))(zdT_:kU P w K mg base "Least" ζ.d ["self","hand","days","many"] 1 (zG_ K ζ)):aN P w K mg base CX0 3 f fd ["_law_script","_law_hands","_law_day","_law_post","_law_sets_here"] (uV K ζ):=by
 refine F.ok zx_ (fun vs H Q E h=>?_) (fun cdv A outer s H vs Q E hr h=>?_)
 ·obtain⟨a,sb,ns,bs,n,d,P,p,rfl,_⟩:=h
  rfl
 ·obtain⟨a,sb,ns,bs,n,d,P,p,rfl,hS,hn,n1,n8,p1,p2,hb,bl,q⟩:=h
  refine⟨_,(ak (aD (i:=5) zx_.nd rfl (Or.inl rfl) (aY (ae (c7 I_Want (hr.mono (by decide)) rfl (ae (pv 2) (ae (pv 3) (ae aj ag)))) ag)))
  (ak (bY PassesOwn.never rfl (bE rfl T.range (ae (pv 1) ag)) (aq (i:=6) zx_.nd rfl (Or.inl rfl))
   (am (bO (dD PySem.F.plainAttrs_list PySem.F.slot_list_append PySem.F.type_list_append b5 (pv 5) (ae (c7 I_Away (hr.mono (by decide)) rfl (ae (pv 6) (ae (aM aW (pv 4) (pv 6) (fun _ _=>rfl)) ag))) ag)))))
  (ak (bY PassesOwn.never rfl (bE rfl T.range (ae (ax bc (ar za_ (hr.mono (by decide)) rfl (ae (pv 0) (ae aj ag))) aj) ag)) (aq (i:=7) zx_.nd rfl (Or.inl rfl))
   (ak (aD (i:=8) zx_.nd rfl (Or.inl rfl) (ar za_ (hr.mono (by decide)) rfl (ae (pv 0) (ae (ax bz aj (pv 7)) ag))))
    (am (bO (dD PySem.F.plainAttrs_list PySem.F.slot_list_append PySem.F.type_list_append b5 (pv 5) (ae (c7 zdT_ (hr.mono (by decide)) rfl (ae (ax bc (pv 8) (pv 1)) (ae (ax bc (ax dv (pv 8) aj) (ax eX aj aj)) (ae aj ag)))) ag))))))
  (am (ay (pv 5)))))),?_⟩
  refine au fun U1 u1=>?_
  walk_at "rd"
  intro x dx hx hdx nx
  have g2:=ko (C:=ζ.c) (fs:=wf3 (d:Int) p 1) hx hdx nx
  have e2:=af (H:=upd (upd H dx (.own x)) x (.ins ζ.c dx [])) (a:=x) (o:=.ins ζ.c dx (wf3 (d:Int) p 1))
  refine⟨x,dx,_,_,_,rfl,af,rfl,by decide,fun r hr2=>?_⟩
  generalize upd (upd (upd H dx (.own x)) x (.ins ζ.c dx [])) x (.ins ζ.c dx (wf3 (d:Int) p 1))=H2 at g2 e2 hr2 ⊢
  have hr0:=g2.free hr2
  have rg:RlG (dE ζ.c ζ.d ζ.e) P H r [⟨0,d,p-1,1⟩] (upd H2 r (.lst [.ref x])):=by
   have gr:=ah hr2 (.lst [.ref x])
   refine⟨[.ref x],g2.trans gr,af,.cons ⟨x,dx,rfl,?_⟩ .nil⟩
   have e3:=gr _ _ e2
   show _=some (HO.ins ζ.c dx (wf3 (d:Int) (1+(p-1) % (P:Int)) 1))
   rw[Int.emod_eq_of_lt (by lia) (by lia),show 1+(p-1)=p by lia]
   exact e3
  generalize upd H2 r (.lst [.ref x])=H3 at rg ⊢
  rw[u1];clear u1
  refine au fun U1 u1=>cq fun B1 b1=>?_
  walk_at "rd"
  refine⟨by lia,by lia,bw (fun i σ H'=>RlG (dE ζ.c ζ.d ζ.e) P H r (⟨0,d,p-1,1⟩::(List.range i).map fun j:Nat=>(⟨3,(j:Int),bs.getD j 0,0⟩:Sp4)) H'∧∃v6,σ=[some (.ref a),some (.int (n:Int)),some (.int (d:Int)),some (.int p),some (.ref sb),some (.ref r),v6,none,none]) ⟨rg,none,rfl⟩ ?_ ?_⟩
  ·rintro i σ H' hi ⟨rg,v6,rfl⟩
   rw[show(0+(i:Int))=i by lia]
   rw[b1]
   walk_at "rd"
   obtain⟨us,g,e,hR⟩:=rg.ex
   have hib:i<bs.length:=by lia
   have eb:=yb hib
   refine⟨.inl ⟨rfl,_,SqL.of e⟩,_,SqL.of (g _ _ hb),V.int bs[i],aR (by rw[yc,eb];rfl),?_⟩
   intro x dx hx hdx nx
   have g2:=ko (C:=ζ.e) (fs:=af2 (i:Int) bs[i]) hx hdx nx
   have e2:=af (H:=upd (upd H' dx (.own x)) x (.ins ζ.e dx [])) (a:=x) (o:=.ins ζ.e dx (af2 (i:Int) bs[i]))
   refine⟨x,dx,_,_,rfl,af,rfl,?_⟩
   rw[yN,yg,← yJa]
   refine rg.step hr0 (by rw[yp,ya,yo];lia) g2 ⟨x,dx,rfl,?_⟩
   rw[e2]
   show some (HO.ins ζ.e dx (af2 (i:Int) bs[i]))=some (HO.ins ζ.e dx (af2 (i:Int) (bs.getD i 0)))
   rw[yz,eb]
   rfl
  rintro σ H4 ⟨rg,v6,rfl⟩
  rw[yh] at rg
  rw[u1];clear u1
  refine au fun U1 u1=>cq fun B1 b1=>?_
  walk_at "rd"
  refine⟨a,ns,_,rfl,rg.same.seq hS,hn,by decide,by decide,fun v=>⟨v,rfl,by decide,by lia,by lia,bw (fun i σ H'=>∃ex:List Sp4,RlG (dE ζ.c ζ.d ζ.e) P H r ((⟨0,d,p-1,1⟩::(List.range n).map fun j:Nat=>(⟨3,(j:Int),bs.getD j 0,0⟩:Sp4))++ex) H'∧ex.length=i∧(∀s∈ex,s.k=2∧s.c=0∧0≤s.a∧s.a<(n:Int)∧0≤s.b∧s.b<2147483648)∧∃v7 v8,σ=[some (.ref a),some (.int (n:Int)),some (.int (d:Int)),some (.int p),some (.ref sb),some (.ref r),v6,v7,v8]) ⟨[],by rw[yI];exact rg,rfl,(fun s z=>by cases z),none,none,rfl⟩ ?_ ?_⟩⟩
  ·rintro i σ H' hi ⟨ex,rg,el,he,v7,v8,rfl⟩
   rw[show(0+(i:Int))=i by lia]
   rw[b1]
   refine au fun U1 u1=>?_
   walk_at "rd"
   refine⟨a,ns,_,rfl,rg.same.seq hS,hn,by lia,by lia,fun w=>?_⟩
   rw[u1];clear u1
   walk_at "rd"
   obtain⟨us,g,e,hR⟩:=rg.ex
   refine⟨.inl ⟨rfl,_,SqL.of e⟩,by lia,⟨by decide,by decide⟩,⟨by decide,by decide,by decide⟩,by decide,?_⟩
   intro x dx hx hdx nx
   have e31:(2:Int) ^ Int.toNat 31=2147483648:=by decide
   rw[e31]
   have m0:=yv (w / 8) (b:=(2147483648:Int)) (by decide)
   have m1:=yD (w / 8) (b:=(2147483648:Int)) (by decide)
   have k0:=yv w (b:=(n:Int)) (by lia)
   have k1:=yD w (b:=(n:Int)) (by lia)
   generalize w / 8 % 2147483648=bb at m0 m1 ⊢
   generalize w % (n:Int)=aa at k0 k1 ⊢
   have g2:=ko (C:=ζ.d) (fs:=mf3 aa bb 0) hx hdx nx
   have e2:=af (H:=upd (upd H' dx (.own x)) x (.ins ζ.d dx [])) (a:=x) (o:=.ins ζ.d dx (mf3 aa bb 0))
   refine⟨x,dx,_,_,_,rfl,af,rfl,?_⟩
   obtain⟨xs,x1,x2,x3⟩:=rg.step (s:=⟨2,aa,bb,0⟩) hr0 (by rw[yd,yp,ya,yo];lia) g2 ⟨x,dx,rfl,e2⟩
   refine⟨xs,x1,x2,ex++[⟨2,aa,bb,0⟩],by rw[yHa] at x3;exact x3,by rw[yd,el];rfl,fun s hs=>?_⟩
   rcases List.mem_append.mp hs with z | z
   ·exact he s z
   ·rw[List.mem_singleton.mp z]
    exact⟨rfl,rfl,k0,k1,m0,m1⟩
  rintro σ H5 ⟨ex,rg,el,he,v7,v8,rfl⟩
  rw[u1];clear u1
  walk_at "rd"
  obtain⟨us,g,e,hR⟩:=rg.ex
  exact q r us ex H5 g hr0 e hR (by lia) he
inductive xg(K:PySem.W.Frag)(ζ:Cs)(vs:List V)(H:Hp)(Q:VK)(E:XK):Prop
 | mk (a:Addr) (ns:List Int) (m:Nat) (_:vs=[.ref a,.int (m:Int)]) (_:SqL K H a (ns.map V.int)) (_:ns.length≤63) (_:m≤60) (_:∀(r:Addr) (os:List Nat) (H':Hp),aA H H'→H r=none→H' r=some (.lst ((os.map fun x:Nat=>(x:Int)).map V.int))→os.Perm (List.range m)→Q (.ref r) H'):xg K ζ vs H Q E
theorem vE:aw ["_law_script","_law_many","_law_order_here","_law_k"] ["_law_script","_law_many"] (ao vw):=⟨rfl,rfl,rfl,k!,rfl,k!,k!⟩
theorem By{ζ:Cs}{f:Addr}{fd:FuncData}(F:Fun K "_law_order" "_law_order" vw f fd)(T:Txt K mg ζ)(za_:Cal P w K mg base "_law_cell" ["_law_script","_law_k"] 1 (zf_ K ζ)):aN P w K mg base CX0 2 f fd ["_law_script","_law_many"] (xg K ζ):=by
 refine F.ok vE (fun vs H Q E h=>?_) (fun cdv A outer s H vs Q E hr h=>?_)
 ·obtain⟨a,ns,m,rfl,_⟩:=h
  rfl
 ·obtain⟨a,ns,m,rfl,hS,hn,hm,q⟩:=h
  refine⟨_,(ak (aD (i:=2) vE.nd rfl (Or.inl rfl) (aY ag))
  (ak (bY PassesOwn.never rfl (bE rfl T.range (ae (pv 1) ag)) (aq (i:=3) vE.nd rfl (Or.inl rfl))
   (am (bO (dD PySem.F.plainAttrs_list PySem.F.slot_list_insert PySem.F.type_list_insert oV (pv 2) (ae (ax bc (ar za_ (hr.mono (by decide)) rfl (ae (pv 0) (ae (ax bz aj (pv 3)) ag))) (ax bz (pv 3) aj)) (ae (pv 3) ag))))))
  (am (ay (pv 2))))),?_⟩
  refine au fun U1 u1=>?_
  walk_at "rd"
  refine⟨yH _,fun r hr0=>?_⟩
  have g0:=ah hr0 (.lst [])
  have e0:upd H r (.lst []) r=some (.lst []):=af
  generalize upd H r (.lst [])=H1 at g0 e0 ⊢
  rw[u1];clear u1
  refine au fun U1 u1=>cq fun B1 b1=>?_
  walk_at "rd"
  refine⟨by lia,by lia,bw (fun i σ H'=>∃(os:List Nat) (v3:Option V),aA H H'∧H' r=some (.lst ((os.map fun x:Nat=>(x:Int)).map V.int))∧os.Perm (List.range i)∧σ=[some (.ref a),some (.int (m:Int)),some (.ref r),v3]) ⟨[],none,g0,e0,.nil,rfl⟩ ?_ ?_⟩
  ·rintro i σ H' hi ⟨os,v3,g,e,pm,rfl⟩
   rw[show(0+(i:Int))=i by lia]
   have hi:i<m:=by lia
   have hl:os.length=i:=by rw[pm.length_eq,yo]
   rw[b1]
   walk_at "rd"
   refine⟨.inl ⟨rfl,_,SqL.of e⟩,a,ns,_,rfl,g.seq hS,hn,by lia,by lia,fun v=>⟨v,rfl,by lia,_,e,?_⟩⟩
   obtain⟨k,ek,hk⟩:∃k:Nat,v % ((i:Int)+1)=k∧k≤i:=⟨(v % ((i:Int)+1)).toNat,by have:=yv v (b:=(i:Int)+1) (by lia);lia,by have:=yD v (b:=(i:Int)+1) (by lia);have:=yv v (b:=(i:Int)+1) (by lia);lia⟩
   rw[ek,yh]
   refine⟨by lia,by rw[ya,ya];lia,aE (by rw[ya,ya];lia),aI hr0 g _,os.take k++i::os.drop k,?_,?_⟩
   ·rw[af,yg,yg,yXa,yXa,ym,ym,yMa,yMa]
   ·rw[yN]
    exact(ins_permN os i k).trans ((List.Perm.cons i pm).trans (ylb i (List.range i)).symm)
  rintro σ H' ⟨os,v3,g,e,pm,rfl⟩
  rw[yh] at pm
  rw[u1];clear u1
  walk_at "rd"
  exact q r os H' g hr0 e pm
inductive xJ(K:PySem.W.Frag)(ζ:Cs)(vs:List V)(H:Hp)(Q:VK)(E:XK):Prop
 | mk (b:Int) (d:Nat) (_:vs=[.int b,.int (d:Int)]) (_:0≤b) (_:b<2147483648) (_:d≤31) (_:∀H',aA H H'→Q (.int ((dsN b.toNat d).length:Int)) H'):xJ K ζ vs H Q E
theorem BR:aw ["_law_days","_law_day"] ["_law_days","_law_day"] (ao xp):=⟨rfl,rfl,rfl,k!,rfl,k!,k!⟩
theorem BA{ζ:Cs}{f:Addr}{fd:FuncData}(F:Fun K "_law_below" "_law_below" xp f fd)(T:Txt K mg ζ) :aN P w K mg base CX0 1 f fd ["_law_days","_law_day"] (xJ K ζ):=by
 refine F.ok BR (fun vs H Q E h=>?_) (fun cdv A outer s H vs Q E hr h=>?_)
 ·obtain⟨b,d,rfl,_⟩:=h
  rfl
 ·obtain⟨b,d,rfl,b0,b1,d31,q⟩:=h
  refine⟨_,(am (ay (aC (aF (K:=K) rfl) (by rfl) T.len PySem.boot_len (ae (bp (own:=["_law_k"]) (fnames:=["_law_days"]) (fr:=[0]) (N':=["_law_k","_law_days"]) ⟨rfl,rfl,rfl,rfl,rfl,rfl,rfl⟩ rfl (bE rfl T.range (ae (pv 1) ag)) (fun s0 H0 fp0 C0=>⟨(aq (i:=0) (by show(["_law_k","_law_days"]:List Str).Nodup;decide +kernel) rfl (Or.inl rfl)),(dA (aK bW (ax mI (ax wF (pv 1) (pv 0)) aj) aj (aH _))),(pv 0)⟩)) ag)))),?_⟩
  walk_at "rd"
  refine⟨by lia,by lia,fun D hD=>bw (fun i σ H'=>aA H H'∧H' D=some (.lst ((dsN b.toNat i).map V.int))∧∃v0,σ=[v0,some (.int b)]) ⟨ah hD _,af,none,rfl⟩ ?_ ?_⟩
  ·rintro i σ H' hi ⟨g,e,v0,rfl⟩
   rw[show(0+(i:Int))=i by lia]
   have hl:=ke b.toNat i
   walk_at "rd"
   refine⟨by lia,?_⟩
   rw[yh]
   by_cases z:Builtin.bitAnd (b / 2 ^ i) 1=1
   ·rw[if_pos z]
    refine⟨_,e,aE (by rw[ya];lia),aI hD g _,?_⟩
    rw[af,fK,if_pos ((lz _ _).mp (by rw[yR b0];exact z)),yg]
    rfl
   ·rw[if_neg z]
    refine⟨g,?_⟩
    rw[e,fK,if_neg (fun y=>z (by have:=(lz _ _).mpr y;rw[yR b0] at this;exact this)),yI]
  rintro σ H' ⟨g,e,v0,rfl⟩
  rw[yh] at e
  refine⟨_,.inl (SqL.of e),?_⟩
  rw[ya]
  exact q H' g
inductive wK(K:PySem.W.Frag)(ζ:Cs)(vs:List V)(H:Hp)(Q:VK)(E:XK):Prop
 | mk (a nl ol sl sp:Addr) (ns:List Int) (c:ClD) (us:List V) (at':Nat) (_:vs=[.ref a,.ref nl,.ref ol,.ref sl,.int (c.day:Int),.ref sp,.int ((c.ps.length:Int)+1)]) (_:SqL K H a (ns.map V.int)) (_:ns.length≤63) (_:c.Ok) (_:H nl=some (.lst (c.ns.map V.int))) (_:H ol=some (.lst ((c.os.map fun x:Nat=>(x:Int)).map V.int))) (_:H sl=some (.lst (c.bs.map V.int))) (_:H sp=some (.lst us)) (_:Paired (fun v (h:Nat)=>∃t,v=V.ref t∧H t=some (.tup [.int (h:Int),.int (at':Int)])) us (List.range c.n)) (_:at'<c.D) (_:∀(r:Addr) (uv:List V) (sts:List Stp) (ws:List Tri) (t:Int) (H':Hp),aA H H'→H r=none→H' r=some (.lst uv)→cn H' uv sts→1≤t→t≤1000000000→ws.Perm (c.us0 t)→Ppr c.X (c.ps.length+1) ws sts→Q (.ref r) H'):wK K ζ vs H Q E
theorem zb_:aw ["_law_script","_law_numbers","_law_order_here","_law_sets_here","_law_day","_law_spots","_law_choices","_law_times","_law_uses","_law_k","_law_number","_law_line","_law_at","_law_step","_law_hand","_law_other"] ["_law_script","_law_numbers","_law_order_here","_law_sets_here","_law_day","_law_spots","_law_choices"] (ao wY):=⟨rfl,rfl,rfl,k!,rfl,k!,k!⟩
theorem Db{ζ:Cs}{f:Addr}{fd:FuncData}(F:Fun K "_law_paper" "_law_paper" wY f fd)(T:Txt K mg ζ)(za_:Cal P w K mg base "_law_cell" ["_law_script","_law_k"] 1 (zf_ K ζ))(zbG_:Cal P w K mg base "_law_below" ["_law_days","_law_day"] 1 (xJ K ζ)):aN P w K mg base CX0 2 f fd ["_law_script","_law_numbers","_law_order_here","_law_sets_here","_law_day","_law_spots","_law_choices"] (wK K ζ):=by
 refine F.ok zb_ (fun vs H Q E h=>?_) (fun cdv A outer s H vs Q E hr h=>?_)
 ·obtain⟨a,nl,ol,sl,sp,ns,c,us,at',rfl,_⟩:=h
  rfl
 ·obtain⟨a,nl,ol,sl,sp,ns,c,us,at',rfl,hS,hn,o,hnl,hol,hsl,hsp,hP,hat,q⟩:=h
  refine⟨_,(ak (aD (i:=7) zb_.nd rfl (Or.inl rfl) (ax bz aj (ax bc (ar za_ (hr.mono (by decide)) rfl (ae (pv 0) (ae aj ag))) (ax eX aj aj))))
  (ak (aD (i:=8) zb_.nd rfl (Or.inl rfl) (aY ag))
  (ak (bY PassesOwn.never rfl (cD rfl T.enumerate (pv 1)) (cx (n:=2) rfl (aB (aq (i:=9) zb_.nd rfl (Or.inl rfl)) (aB (aq (i:=10) zb_.nd rfl (Or.inl rfl)) bx)))
   (ak (aD (i:=11) zb_.nd rfl (Or.inl rfl) aj)
    (ak (bh (aK gx (aM aW (pv 2) (pv 10) (fun _ _=>rfl)) aj (aH _)) (am (aD (i:=11) zb_.nd rfl (Or.inl rfl) (ar zbG_ (hr.mono (by decide)) rfl (ae (aM aW (pv 3) (ax cM (aM aW (pv 2) (pv 10) (fun _ _=>rfl)) aj) (fun _ _=>rfl)) (ae (pv 4) ag))))) aJ)
    (am (bO (dD PySem.F.plainAttrs_list PySem.F.slot_list_append PySem.F.type_list_append b5 (pv 8) (ae (aV (ae (pv 9) (ae (pv 11) (ae (pv 7) ag)))) ag)))))))
  (ak (aD (i:=12) zb_.nd rfl (Or.inl rfl) (ax bc (ar za_ (hr.mono (by decide)) rfl (ae (pv 0) (ae aj ag))) (aC (aF (K:=K) rfl) (by rfl) T.len PySem.boot_len (ae (pv 8) ag))))
  (ak (aD (i:=13) zb_.nd rfl (Or.inl rfl) (aV (ae bT (ae (aS (bC (K:=K) rfl) (by rfl) T.tuple PyProof.Rows.boot_tuple (ae (ax bS (aQ bu (pv 8) (bd (pv 12)) bf) (aQ bu (pv 8) bf (bd (pv 12)))) ag)) ag))))
  (ak (bh (aK gx (ax bc (ar za_ (hr.mono (by decide)) rfl (ae (pv 0) (ae aj ag))) aj) aj (aH _)) (am (ay (aY (ae (pv 13) ag)))) aJ)
  (ak (dH (aM aW (pv 5) (ax bc (ax dv (ar za_ (hr.mono (by decide)) rfl (ae (pv 0) (ae aj ag))) aj) (aC (aF (K:=K) rfl) (by rfl) T.len PySem.boot_len (ae (pv 5) ag))) (fun _ _=>rfl)) (cx (n:=2) rfl (aB (aq (i:=14) zb_.nd rfl (Or.inl rfl)) (aB (aq (i:=15) zb_.nd rfl (Or.inl rfl)) bx))))
  (am (ay (ax bS (aY (ae (aV (ae bT (ae (pv 14) (ae (pv 15) ag)))) ag)) (ax mG (aY (ae (pv 13) ag)) (pv 6)))))))))))),?_⟩
  refine au fun U1 u1=>?_
  walk_at "rd"
  refine⟨a,ns,_,rfl,hS,hn,by decide,by decide,fun v=>⟨⟨by decide,by decide,by decide⟩,v,rfl,by decide,?_⟩⟩
  have e10:(10:Int) ^ Int.toNat 9=1000000000:=by decide
  rw[e10]
  have m0:=yv v (b:=(1000000000:Int)) (by decide)
  have m1:=yD v (b:=(1000000000:Int)) (by decide)
  obtain⟨tm,etm,t1,t2⟩:∃tm:Int,1+v % 1000000000=tm∧1≤tm∧tm≤1000000000:=⟨_,rfl,by lia,by lia⟩
  rw[etm,u1];clear u1 etm m0 m1
  refine au fun U1 u1=>?_
  walk_at "rd"
  refine⟨yH _,fun pu hpu=>?_⟩
  have tI:=dq.start hpu
  generalize upd H pu (.lst [])=H1 at tI ⊢
  rw[u1];clear u1
  refine au fun U1 u1=>cq fun B1 b1=>?_
  walk_at "rd"
  have nl1:(c.ns.map V.int).length=c.n+1:=by unfold ClD.ns;rw[ya,ya,o.nsL]
  refine⟨⟨_,SqL.of (tI.same _ _ hnl)⟩,bZ (xs:=c.ns.map V.int) (fun i σ H'=>dq H pu ((List.range i).map (c.u0 tm)) H'∧∃v9 v10 v11,σ=[some (.ref a),some (.ref nl),some (.ref ol),some (.ref sl),some (.int (c.day:Int)),some (.ref sp),some (.int ((c.ps.length:Int)+1)),some (.int tm),some (.ref pu),v9,v10,v11,none,none,none,none]) ⟨tI,none,none,none,rfl⟩ (fun i σ H' _ hh=>SqL.of (hh.1.same _ _ hnl)) ?_ ?_⟩
  ·rintro i v σ H' tt hx ⟨tI,v9,v10,v11,rfl⟩ htt
   have hi:i<c.n+1:=by rw[← nl1];exact(List.getElem?_eq_some_iff.mp hx).1
   obtain⟨k,k1,k2,k3,k4⟩:=o.nsK (show i≤c.n by lia)
   rw[yc,k2] at hx
   cases hx
   rw[ygb]
   have gt:=ah htt (.tup [.int (i:Int),.int (k:Int)])
   have et:=af (H:=H') (a:=tt) (o:=.tup [.int (i:Int),.int (k:Int)])
   generalize upd H' tt (.tup [.int (i:Int),.int (k:Int)])=H2 at gt et ⊢
   have gg:=tI.same.trans gt
   obtain⟨g1,g2⟩:=o.csG (show i≤c.n by lia)
   have eo:atI ((c.os.map fun x:Nat=>(x:Int)).map V.int) (k:Int)=some (.int ((c.cs.getD i 0:Nat):Int)):=aR (by rw[yc,yc,k4];rfl)
   have fin:∀(H3:Hp),aA H2 H3→∀tp,H3 tp=none→∃xs,upd H3 tp (.tup [.int (i:Int),.int (c.ln (c.cs.getD i 0)),.int tm]) pu=some (.lst xs)∧xs.length<sizeLine∧dq H pu ((List.range (i+1)).map (c.u0 tm)) (upd (upd H3 tp (.tup [.int (i:Int),.int (c.ln (c.cs.getD i 0)),.int tm])) pu (.lst (xs++[.ref tp]))):=fun H3 g3 tp htp=>by
    rw[yN,yg]
    exact((tI.mono gt).mono g3).step hpu (by rw[ya,yo];have:=o.n8;lia) htp
   generalize hz:c.cs.getD i 0=z at g2 eo fin
   walk_at "rd"
   refine⟨_,SqT.of et,rfl,_,_,rfl,_,_,rfl,rfl,?_⟩
   rw[b1]
   walk_at "rd"
   refine⟨_,SqL.of (gg _ _ hol),_,eo,?_⟩
   refine⟨_,rfl,?_⟩
   obtain⟨us0,_,e0,_⟩:=(tI.mono gt).ex
   cases z with
   | zero =>
    rw[if_neg (by lia)]
    exact⟨.inl ⟨rfl,_,SqL.of e0⟩,by decide,fun tp htp=>fin H2 (aA.refl _) tp htp⟩
   | succ j =>
    rw[if_pos (by lia)]
    have hj:j<c.bs.length:=by rw[o.bl];lia
    have eb:=yb hj
    have eg:c.bs.getD j 0=c.bs[j]:=by rw[yz,eb];rfl
    obtain⟨b0,b1',_⟩:=o.bsg (j:=j) (by lia)
    refine⟨_,SqL.of (gg _ _ hol),_,eo,_,rfl,_,SqL.of (gg _ _ hsl),V.int (c.bs.getD j 0),by rw[show((j+1:Nat):Int)-1=(j:Int) by lia];exact aR (by rw[yc,eb,eg];rfl),?_⟩
    refine⟨_,c.day,rfl,b0,b1',by have:=o.day;have:=o.D31;lia,fun H3 g3=>⟨.inl ⟨rfl,_,SqL.of (g3 _ _ e0)⟩,by decide,fun tp htp=>fin H3 g3 tp htp⟩⟩
  rintro σ H3 ⟨tI,v9,v10,v11,rfl⟩
  rw[nl1] at tI
  change dq H pu (c.us0 tm) H3 at tI
  obtain⟨us3,g3,e3,hT3⟩:=tI.ex
  have ul:us3.length=c.n+1:=by rw[Paired.length hT3];unfold ClD.us0;rw[ya,yo]
  rw[u1];clear u1
  refine au fun U1 u1=>?_
  walk_at "rd"
  refine⟨a,ns,_,rfl,g3.seq hS,hn,by decide,by decide,fun v=>⟨_,.inl (SqL.of e3),v,rfl,by lia,?_⟩⟩
  obtain⟨k,ek,hk⟩:∃k:Nat,v % (us3.length:Int)=k∧k<us3.length:=⟨(v % (us3.length:Int)).toNat,by have:=yv v (b:=(us3.length:Int)) (by lia);lia,by have:=yD v (b:=(us3.length:Int)) (by lia);have:=yv v (b:=(us3.length:Int)) (by lia);lia⟩
  rw[ek,u1];clear u1 ek
  refine au fun U1 u1=>?_
  walk_at "rd"
  refine⟨_,SqL.of e3,fun q1 hq1=>?_⟩
  rw[cC]
  have h1:=ah hq1 (.lst (us3.drop k))
  have f1:=af (H:=H3) (a:=q1) (o:=.lst (us3.drop k))
  generalize upd H3 q1 (.lst (us3.drop k))=G1 at h1 f1 ⊢
  refine⟨_,SqL.of (h1 _ _ e3),fun q2 hq2=>?_⟩
  rw[bV]
  have h2:=ah hq2 (.lst (us3.take k))
  have f2:=af (H:=G1) (a:=q2) (o:=.lst (us3.take k))
  generalize upd G1 q2 (.lst (us3.take k))=G2 at h2 f2 ⊢
  refine⟨_,h2 _ _ f1,_,f2,aL (by rw[yw,yf];have:=o.n8;lia),fun q3 hq3=>?_⟩
  have h3:=ah hq3 (.lst (us3.drop k++us3.take k))
  have f3:=af (H:=G2) (a:=q3) (o:=.lst (us3.drop k++us3.take k))
  generalize upd G2 q3 (.lst (us3.drop k++us3.take k))=G3 at h3 f3 ⊢
  refine⟨_,SqL.of f3,fun q4 hq4=>⟨by decide,fun q5 hq5=>?_⟩⟩
  have h4:=ah hq4 (.tup (us3.drop k++us3.take k))
  have f4:=af (H:=G3) (a:=q4) (o:=.tup (us3.drop k++us3.take k))
  generalize upd G3 q4 (.tup (us3.drop k++us3.take k))=G4 at h4 f4 hq5 ⊢
  have h5:=ah hq5 (.tup [.str "sum",.ref q4])
  have f5:=af (H:=G4) (a:=q5) (o:=.tup [.str "sum",.ref q4])
  generalize upd G4 q5 (.tup [.str "sum",.ref q4])=G5 at h5 f5 ⊢
  have gT:=h1.trans (h2.trans (h3.trans (h4.trans h5)))
  have gG:=g3.trans gT
  have pm:((c.us0 tm).drop k++(c.us0 tm).take k).Perm (c.us0 tm):=qM _ _
  have hW:cU G5 (us3.drop k++us3.take k) ((c.us0 tm).drop k++(c.us0 tm).take k):=cU.tmono (az gT) (Paired.app2 (fO k hT3) (de k hT3))
  have hst:eI G5 (.ref q5) (.sum ((c.us0 tm).drop k++(c.us0 tm).take k)):=⟨q5,q4,_,rfl,f5,h5 _ _ f4,hW⟩
  generalize (c.us0 tm).drop k++(c.us0 tm).take k=ws at pm hst
  rw[u1];clear u1
  walk_at "rd"
  refine⟨a,ns,_,rfl,gG.seq hS,hn,by decide,by decide,fun v=>?_⟩
  refine⟨v,rfl,by decide,?_⟩
  have free:∀{p:Addr},G5 p=none→H p=none:=fun h=>gG.free h
  by_cases z3:0<v % 3
  ·rw[if_pos z3]
   refine⟨by decide,fun p hp=>?_⟩
   have gp:=ah hp (.lst [.ref q5])
   exact q p _ _ ws tm _ (gG.trans gp) (free hp) af (.cons (eI.tmono (az gp) hst) .nil) t1 t2 pm .one
  rw[if_neg z3]
  have pl:=Paired.length hP
  rw[yo] at pl
  have n1:=o.n1
  refine⟨a,ns,_,rfl,gG.seq hS,hn,by decide,by decide,fun v=>⟨v,rfl,⟨by decide,by decide⟩,_,.inl (SqL.of (gG _ _ hsp)),by lia,us,SqL.of (gG _ _ hsp),?_⟩⟩
  obtain⟨j,ej,hj⟩:∃j:Nat,v / 3 % (us.length:Int)=j∧j<us.length:=⟨(v / 3 % (us.length:Int)).toNat,by have:=yv (v / 3) (b:=(us.length:Int)) (by lia);lia,by have:=yD (v / 3) (b:=(us.length:Int)) (by lia);have:=yv (v / 3) (b:=(us.length:Int)) (by lia);lia⟩
  rw[ej]
  have eu:=yb hj
  obtain⟨h,eh,tt,et,qt⟩:=Paired.get' hP eu
  rw[yaa (by lia)] at eh
  cases eh
  refine⟨_,aR eu,tt,et,_,SqT.of (gG _ _ qt),rfl,_,_,rfl,_,_,rfl,rfl,by decide,fun p1 hp1=>?_⟩
  have h6:=ah hp1 (.tup [.str "part",.int (j:Int),.int (at':Int)])
  have f6:=af (H:=G5) (a:=p1) (o:=.tup [.str "part",.int (j:Int),.int (at':Int)])
  generalize upd G5 p1 (.tup [.str "part",.int (j:Int),.int (at':Int)])=G6 at h6 f6 ⊢
  refine⟨by decide,fun p2 hp2=>?_⟩
  have h7:=ah hp2 (.lst [.ref p1])
  have f7:=af (H:=G6) (a:=p2) (o:=.lst [.ref p1])
  generalize upd G6 p2 (.lst [.ref p1])=G7 at h7 f7 ⊢
  refine⟨by decide,fun p3 hp3=>?_⟩
  have h8:=ah hp3 (.lst [.ref q5])
  have f8:=af (H:=G7) (a:=p3) (o:=.lst [.ref q5])
  generalize upd G7 p3 (.lst [.ref q5])=G8 at h8 f8 ⊢
  have P2:=o.P2
  have eP:((c.ps.length:Int)+1).toNat=c.ps.length+1:=by lia
  refine⟨_,f8,by lia,by lia,aL (by rw[eP];show 1*_≤_;lia),fun p4 hp4=>?_⟩
  rw[eP,wo] at *
  have h9:=ah hp4 (.lst (List.replicate (c.ps.length+1) (.ref q5)))
  have f9:=af (H:=G8) (a:=p4) (o:=.lst (List.replicate (c.ps.length+1) (.ref q5)))
  generalize upd G8 p4 (.lst (List.replicate (c.ps.length+1) (.ref q5)))=G9 at h9 f9 ⊢
  refine⟨_,h9 _ _ (h8 _ _ f7),_,f9,aL (by rw[yG];show 1+_≤_;lia),fun p5 hp5=>?_⟩
  have h10:=ah hp5 (.lst ([.ref p1]++List.replicate (c.ps.length+1) (.ref q5)))
  have g6:=h7.trans (h8.trans (h9.trans h10))
  have g5:=h6.trans g6
  have hpt:eI (upd G9 p5 (.lst ([.ref p1]++List.replicate (c.ps.length+1) (.ref q5)))) (.ref p1) (.part (j:Int) (at':Int)):=⟨p1,rfl,g6 _ _ f6⟩
  exact q p5 _ (.part (j:Int) (at':Int)::List.replicate (c.ps.length+1) (.sum ws)) ws tm _ (gG.trans g5) (free ((h6.trans (h7.trans (h8.trans h9))).free hp5)) af (.cons hpt (xu (eI.tmono (az g5) hst) _)) t1 t2 pm (o.par (by lia) hat ws)
inductive zv(K:PySem.W.Frag)(ζ:Cs)(vs:List V)(H:Hp)(Q:VK)(E:XK):Prop
 | mk (n D:Nat) (h:Int) (d:Nat) (p:Int) (_:vs=[.int (n:Int),.int (D:Int),.int h,.int (d:Int),.int p]) (_:n≤8) (_:D≤31) (_:1≤D) (_:h<(n:Int)) (_:d<D) (_:∀(r:Addr) (us:List V) (H':Hp),aA H H'→H r=none→H' r=some (.lst us)→Rows H' us (tabO n D h d p)→us.Nodup→(∀c,V.ref c∈us→c≠r∧H c=none)→Q (.ref r) H'):zv K ζ vs H Q E
theorem AL:aw ["_law_hands","_law_days","_law_hand","_law_day","_law_post","_law_rota"] ["_law_hands","_law_days","_law_hand","_law_day","_law_post"] (ao vi):=⟨rfl,rfl,rfl,k!,rfl,k!,k!⟩
theorem Cc{ζ:Cs}{f:Addr}{fd:FuncData}(F:Fun K "_law_table" "_law_table" vi f fd)(T:Txt K mg ζ) :aN P w K mg base CX0 1 f fd ["_law_hands","_law_days","_law_hand","_law_day","_law_post"] (zv K ζ):=by
 refine F.ok AL (fun vs H Q E h=>?_) (fun cdv A outer s H vs Q E hr h=>?_)
 ·obtain⟨n,D,h',d,p,rfl,_⟩:=h
  rfl
 ·obtain⟨n,D,h',d,p,rfl,n8,D31,D1,hn,hd,q⟩:=h
  refine⟨_,(ak (da (i:=5) AL.nd rfl rfl (own:=["_law_k"]) (fnames:=["_law_days"]) (fr:=[1]) (N':=["_law_k","_law_days"]) ⟨rfl,rfl,rfl,rfl,rfl,rfl,rfl⟩ rfl (bE rfl T.range (ae (pv 0) ag)) (fun s0 H0 fp0 C0=>⟨(aq (i:=0) (by show(["_law_k","_law_days"]:List Str).Nodup;decide +kernel) rfl (Or.inl rfl)),bo,(ax mG (aY (ae aj ag)) (pv 1))⟩))
  (ak (bh (aK kX (pv 2) aj (aH _)) (am (dH (pv 4) (ki (aM aW (pv 5) (pv 2) (fun _ _=>rfl)) (pv 3) fQ))) aJ)
  (am (ay (pv 5))))),?_⟩
  refine au fun U1 u1=>?_
  walk_at "rd"
  refine⟨by lia,by lia,fun L hL=>bw (fun i σ H'=>cr H L (List.replicate n (List.replicate D (0:Int))) i H'∧∃v0,σ=[v0,some (.int (D:Int))]) ⟨cr.start hL,none,rfl⟩ ?_ ?_⟩
  ·rintro i σ H' hi ⟨hc,v0,rfl⟩
   refine⟨by decide,fun z hz=>?_⟩
   have gz:=ah hz (.lst [V.int 0])
   have ez:=af (H:=H') (a:=z) (o:=.lst [V.int 0])
   generalize upd H' z (.lst [V.int 0])=H2 at gz ez ⊢
   walk_at "rd"
   refine⟨_,ez,by lia,by lia,wR (by lia),fun y hy=>?_⟩
   rw[yh,Bb]
   exact(hc.mono gz).step hL (by rw[yV,if_pos (by lia)]) hy (by lia)
  rintro σ H1 ⟨hc,v0,rfl⟩
  rw[yh] at hc
  obtain⟨us,g1,e1,hR,nd,fr⟩:=hc.done (by rw[yG])
  rw[u1];clear u1
  walk_at "rd"
  by_cases z:0≤h'
  ·rw[if_pos z]
   have hh:h'.toNat<n:=by lia
   have eh:h'=((h'.toNat:Nat):Int):=by lia
   obtain⟨t,et,qt⟩:=hR.get (i:=h'.toNat) (row:=List.replicate D 0) (by rw[yV,if_pos hh])
   refine⟨_,SqL.of e1,_,by rw[eh];exact aR et,t,rfl,_,qt,d,?_,?_⟩
   ·exact jU (by rw[ya,yG];exact hd)
   ·have ft:=fr t (yk et)
    rw[← List.map_set]
    refine q L us _ (aI ft.2 g1 _) hL (by rw[av (fun y=>ft.1 y.symm)];exact e1) ?_ nd fr
    have:=Rows.put (row:=(List.replicate D (0:Int)).set d p) hR nd et
    rw[pR hh hd,← eh] at this
    exact this
  ·rw[if_neg z]
   refine q L us H1 g1 hL e1 ?_ nd fr
   rw[iO (by lia)]
   exact hR
inductive zW_(K:PySem.W.Frag)(ζ:Cs)(vs:List V)(H:Hp)(Q:VK)(E:XK):Prop
 | mk (r:Addr) (us:List V) (v:Int) (c:ClD) (B:Hp) (_:vs=[.ref r,.int v,.int (c.ps.length:Int)]) (_:c.Ok) (_:H r=some (.lst us)) (_:Rows H us (c.tb 0)) (_:us.Nodup) (_:aA B H) (_:B r=none) (_:(∀t,V.ref t∈us→t≠r∧B t=none)) (_:∀(us':List V) (rows:List (List Int)) (H':Hp),aA B H'→H' r=some (.lst us')→Rows H' us' rows→rows.length≤40→(∀row∈rows,row.length≤40)→bI c.D c.hs c.ps rows=false→Q (.ref r) H'):zW_ K ζ vs H Q E
theorem At:aw ["_law_rota","_law_cell_here","_law_posts","_law_at"] ["_law_rota","_law_cell_here","_law_posts"] (ao za):=⟨rfl,rfl,rfl,k!,rfl,k!,k!⟩
theorem BX{ζ:Cs}{f:Addr}{fd:FuncData}(F:Fun K "_law_no_table" "_law_no_table" za f fd)(T:Txt K mg ζ) :aN P w K mg base CX0 1 f fd ["_law_rota","_law_cell_here","_law_posts"] (zW_ K ζ):=by
 refine F.ok At (fun vs H Q E h=>?_) (fun cdv A outer s H vs Q E hr h=>?_)
 ·obtain⟨r,us,v,c,B,rfl,_⟩:=h
  rfl
 ·obtain⟨r,us,v,c,B,rfl,o,hr1,hR,nd,gB,Br,fr,q⟩:=h
  refine⟨_,(ak (aD (i:=3) At.nd rfl (Or.inl rfl) (ax bc (ax dv (pv 1) aj) (aC (aF (K:=K) rfl) (by rfl) T.len PySem.boot_len (ae (pv 0) ag))))
  (ak (bh (aK bW (ax bc (pv 1) aj) aj (aH _)) (am (dH (ax bz (pv 2) aj) (ki (aM aW (pv 0) (pv 3) (fun _ _=>rfl)) aj fQ))) aJ)
  (ak (bh (aK bW (ax bc (pv 1) aj) aj (aH _)) (am (bO (dD PySem.F.plainAttrs_list PySem.F.slot_list_append PySem.F.type_list_append b5 (aM aW (pv 0) (pv 3) (fun _ _=>rfl)) (ae aj ag)))) aJ)
  (ak (bh (aK bW (ax bc (pv 1) aj) aj (aH _)) (am (bO (dD PySem.F.plainAttrs_list PySem.F.slot_list_pop PySem.F.type_list_pop pZ (pv 0) (ae (pv 3) ag)))) aJ)
  (ak (bh (aK bW (ax bc (pv 1) aj) aj (aH _)) (am (dH (dS cY aj) (ki (aM aW (pv 0) (pv 3) (fun _ _=>rfl)) (dS cY aj) fQ))) aJ)
  (am (ay (pv 0)))))))),?_⟩
  have ul:us.length=c.n:=by rw[hR.len];exact df _ _ _ _ _
  have n1:=o.n1
  have n8:=o.n8
  have D1:=o.D1
  have D31:=o.D31
  refine au fun U1 u1=>?_
  walk_at "rd"
  refine⟨⟨by decide,by decide⟩,_,.inl (SqL.of hr1),by lia,?_⟩
  obtain⟨k,ek,hk⟩:∃k:Nat,v / 4 % (us.length:Int)=k∧k<us.length:=⟨(v / 4 % (us.length:Int)).toNat,by have:=yv (v / 4) (b:=(us.length:Int)) (by lia);lia,by have:=yD (v / 4) (b:=(us.length:Int)) (by lia);have:=yv (v / 4) (b:=(us.length:Int)) (by lia);lia⟩
  rw[ek,u1];clear u1 ek
  have hkn:k<c.n:=by lia
  obtain⟨x,xs,hxs,xl⟩:∃(x:Int) (xs:List Int),(c.tb 0)[k]? = some (x::xs)∧xs.length+1=c.D:=by
   unfold ClD.tb
   rw[dg hkn]
   generalize hrow:((List.range c.D).map fun j:Nat=>if (k:Int)=((0:Nat):Int)-1∧j=c.day then c.post else 0)=row
   have hl:row.length=c.D:=by rw[← hrow,ya,yo]
   cases row with
   | nil=>rw[yea] at hl;lia
   | cons x xs=>exact⟨x,xs,rfl,by rw[yp] at hl;exact hl⟩
  obtain⟨t,et,qt⟩:=hR.get hxs
  have ft:=fr t (yk et)
  have tl:=o.tbO 0
  have hU:∀(row:List Int),row.length≤40→(bI c.D c.hs c.ps ((c.tb 0).set k row)=false)→Q (.ref r) (upd H t (.lst (row.map V.int))):=fun row h40 hno=>by
   refine q us ((c.tb 0).set k row) _ (aI ft.2 gB _) (by rw[av (fun z=>ft.1 z.symm)];exact hr1) (Rows.put hR nd et) (by rw[yFa];exact tl.1) (fun rw' hrw=>?_) hno
   rcases yrb hrw with z | z
   ·exact tl.2 _ z
   ·rw[z];exact h40
  have hst:∀row:List Int,((c.tb 0).set k row)[k]? = some row:=fun row=>by rw[yVa (List.getElem?_eq_some_iff.mp hxs).1]
  have m4:v % 4=0∨v % 4=1∨v % 4=2∨v % 4=3:=by lia
  rcases m4 with m | m | m | m
  ·walk_at "rd"
   refine⟨by decide,?_⟩
   rw[m,if_pos rfl]
   refine⟨_,SqL.of hr1,_,aR et,t,rfl,_,qt,0,jU (e:=0) (by rw[ya,yp];lia),?_⟩
   refine⟨by decide,?_⟩
   rw[if_neg (by decide)]
   refine⟨by decide,?_⟩
   rw[if_neg (by decide)]
   refine⟨by decide,?_⟩
   rw[if_neg (by decide)]
   have:=hU (((c.ps.length:Int)+1)::xs) (by rw[yp];lia) (o.no_tab (hst _) yq (.inr (by lia)))
   exact this
  ·walk_at "rd"
   refine⟨by decide,?_⟩
   rw[m,if_neg (by decide)]
   refine⟨by decide,?_⟩
   rw[if_pos rfl]
   refine⟨_,SqL.of hr1,_,aR et,.inl ⟨rfl,_,SqL.of qt⟩,t,rfl,_,qt,aE (by rw[ya,yp];lia),?_⟩
   refine⟨by decide,?_⟩
   rw[if_neg (by decide)]
   refine⟨by decide,?_⟩
   rw[if_neg (by decide)]
   have:=hU ((x::xs)++[0]) (by rw[yd,yp,yx];lia) (by
    cases z:bI c.D c.hs c.ps ((c.tb 0).set k ((x::xs)++[0])) with
    | false=>rfl
    | true =>
     have:=(jL z).2 _ (yk (hst _))
     rw[yd,yp,yx] at this
     lia)
   rw[yg] at this
   exact this
  ·walk_at "rd"
   refine⟨by decide,?_⟩
   rw[m,if_neg (by decide)]
   refine⟨by decide,?_⟩
   rw[if_neg (by decide)]
   refine⟨by decide,?_⟩
   rw[if_pos rfl]
   refine⟨.inl ⟨rfl,_,SqL.of hr1⟩,r,us,k,k,_,rfl,rfl,hr1,by lia,by lia,(j9 (jU hk)).1,et,?_⟩
   refine⟨by decide,?_⟩
   rw[if_neg (by decide)]
   have hn:V.ref r∉us:=fun z=>(fr r z).1 rfl
   rw[List.eraseIdx_eq_take_drop_succ]
   refine q (us.take k++us.drop (k+1)) ((c.tb 0).take k++(c.tb 0).drop (k+1)) _ (aI Br gB _) af (Rows.off (Paired.app2 (de k hR) (fO (k+1) hR)) fun z=>hn ?_) ?_ (fun row hrow=>tl.2 row ?_) ?_
   ·rcases List.mem_append.mp z with z | z
    ·exact yY z
    ·exact yAa z
   ·have:=tl.1
    rw[yd,yf,yw]
    omega
   ·rcases List.mem_append.mp hrow with z | z
    ·exact yY z
    ·exact yAa z
   ·cases z:bI c.D c.hs c.ps ((c.tb 0).take k++(c.tb 0).drop (k+1)) with
    | false=>rfl
    | true =>
     have h1:=(jL z).1
     have h2:(c.tb 0).length=c.n:=df _ _ _ _ _
     rw[yd,yf,yw,h2,o.hl] at h1
     lia
  ·walk_at "rd"
   refine⟨by decide,?_⟩
   rw[m,if_neg (by decide)]
   refine⟨by decide,?_⟩
   rw[if_neg (by decide)]
   refine⟨by decide,?_⟩
   rw[if_neg (by decide)]
   refine⟨by decide,?_⟩
   rw[if_pos rfl]
   refine⟨_,SqL.of hr1,_,aR et,t,rfl,_,qt,_,pX (by rw[ya,yp];lia),?_⟩
   have:=hU ((x::xs).set ((x::xs).length-1) (-1)) (by rw[yFa,yp];lia) (o.no_tab (hst _) (List.mem_set (by rw[yp];lia) _) (.inl (by decide)))
   rw[List.map_set] at this
   rw[ya]
   exact this
inductive zC_(K_:PySem.W.Frag)(ζ:Cs)(vs:List V)(H:Hp)(Q:VK)(E:XK):Prop
 | mk (r:Addr) (us:List V) (rows:List (List Int)) (_:vs=[.ref r]) (_:H r=some (.lst us)) (_:Rows H us rows) (_:rows.length≤900) (_:∀r' us' H',aA H H'→H r'=none→H' r'=some (.lst us')→Rows H' us' rows→us'.Nodup→(∀t,V.ref t∈us'→t≠r'∧H t=none)→Q (.ref r') H'):zC_ K_ ζ vs H Q E
theorem Bq:aw ["_law_rota"] ["_law_rota"] (ao wM):=⟨rfl,rfl,rfl,k!,rfl,k!,k!⟩
theorem CZ{ζ:Cs}{f:Addr}{fd:FuncData}(F:Fun K "_law_copy_of" "_law_copy_of" wM f fd)(T:Txt K mg ζ) :aN P w K mg base CX0 1 f fd ["_law_rota"] (zC_ K ζ):=by
 refine F.ok Bq (fun vs H Q E h=>?_) (fun cdv A outer s H vs Q E hr h=>?_)
 ·obtain⟨r,us,rows,rfl,_⟩:=h
  rfl
 ·obtain⟨r,us,rows,rfl,hr1,hR,hl,q⟩:=h
  refine⟨_,(am (ay (bp (own:=["_law_row"]) (fnames:=[]) (fr:=[]) (N':=["_law_row"]) ⟨rfl,rfl,rfl,rfl,rfl,rfl,rfl⟩ rfl (bG (pv 0)) (fun s0 H0 fp0 C0=>⟨(aq (i:=0) (by show(["_law_row"]:List Str).Nodup;decide +kernel) rfl (Or.inl rfl)),bo,(aS (cW (K:=K) rfl) (by rfl) T.list PyProof.Rows.boot_list (ae (pv 0) ag))⟩)))),?_⟩
  have hul:=hR.len
  walk_at "rd"
  refine⟨⟨_,SqL.of hr1⟩,fun D hD=>bg (xs:=us) (fun i σ H'=>cr H D rows i H'∧∃v1,σ=[v1]) ⟨cr.start hD,none,rfl⟩ (fun i σ H' _ hh=>SqL.of (hh.1.same _ _ hr1)) ?_ ?_⟩
  ·rintro i v σ H' hx ⟨hc,v1,rfl⟩
   obtain⟨row,hrow,t',rfl,ht'⟩:=hR.at' hx
   have hi:i<us.length:=(List.getElem?_eq_some_iff.mp hx).1
   walk_at "rd"
   exact⟨_,.inl (SqL.of (hc.same _ _ ht')),fun l hl=>hc.step hD hrow hl (by lia)⟩
  ·rintro σ H5 ⟨hc,v1,rfl⟩
   obtain⟨us',g5,e5,hR5,nd5,fr5⟩:=hc.done hul
   exact q D us' H5 g5 hD e5 hR5 nd5 fr5
inductive xf(K:PySem.W.Frag)(ζ:Cs)(vs:List V)(H:Hp)(Q:VK)(E:XK):Prop
 | mk (t:Addr) (ns:List Int) (sts:List Stp) (tabs:List (List (List Int))) (_:vs=[.ref t]) (_:cX H t ns sts tabs) (_:jo ns sts tabs) (_:∀(t':Addr) (H':Hp),aA H H'→cX H' t' ns sts tabs→Q (.ref t') H'):xf K ζ vs H Q E
theorem Dg:aw ["_law_told"] ["_law_told"] (ao vk):=⟨rfl,rfl,rfl,k!,rfl,k!,k!⟩
theorem CA{ζ:Cs}{f:Addr}{fd:FuncData}(F:Fun K "_law_copy" "_law_copy" vk f fd)(T:Txt K mg ζ)(zl_:Cal P w K mg base "_law_copy_of" ["_law_rota"] 1 (zC_ K ζ)):aN P w K mg base CX0 2 f fd ["_law_told"] (xf K ζ):=by
 refine F.ok Dg (fun vs H Q E h=>?_) (fun cdv A outer s H vs Q E hr h=>?_)
 ·obtain⟨t,ns,sts,tabs,rfl,_⟩:=h
  rfl
 ·obtain⟨t,ns,sts,tabs,rfl,hT,hB,q⟩:=h
  refine⟨_,(am (ay (aV (ae (aM bi (pv 0) aj (fun _ _=>rfl)) (ae (aS (cW (K:=K) rfl) (by rfl) T.list PyProof.Rows.boot_list (ae (aM bi (pv 0) aj (fun _ _=>rfl)) ag)) (ae (aS (cW (K:=K) rfl) (by rfl) T.list PyProof.Rows.boot_list (ae (aM bi (pv 0) aj (fun _ _=>rfl)) ag)) (ae (bp (own:=["_law_rota"]) (fnames:=[]) (fr:=[]) (N':=["_law_rota"]) ⟨rfl,rfl,rfl,rfl,rfl,rfl,rfl⟩ rfl (bG (aM bi (pv 0) aj (fun _ _=>rfl))) (fun s0 H0 fp0 C0=>⟨(aq (i:=0) (by show(["_law_rota"]:List Str).Nodup;decide +kernel) rfl (Or.inl rfl)),bo,(ar zl_ (hr.mono (by decide)) rfl (ae (pv 0) ag))⟩)) ag))))))),?_⟩
  walk_at "rd"
  obtain⟨n,pl,rl,uv,ut,e1,e2,e3,e4,e5,e6⟩:=hT.ex
  have utl:=Paired.length e6
  refine⟨_,SqT.of e1,_,rfl,_,SqT.of e1,_,rfl,n,rfl,_,.inl (SqL.of e2),fun q1 hq1=>?_⟩
  have h1:=ah hq1 (.lst (ns.map V.int))
  have f1:=af (H:=H) (a:=q1) (o:=.lst (ns.map V.int))
  generalize upd H q1 (.lst (ns.map V.int))=G1 at h1 f1 ⊢
  refine⟨_,SqT.of (h1 _ _ e1),_,rfl,pl,rfl,_,.inl (SqL.of (h1 _ _ e3)),fun q2 hq2=>?_⟩
  have h2:=ah hq2 (.lst uv)
  have f2:=af (H:=G1) (a:=q2) (o:=.lst uv)
  generalize upd G1 q2 (.lst uv)=G2 at h2 f2 ⊢
  have g2:=h1.trans h2
  refine⟨_,SqT.of (g2 _ _ e1),_,rfl,rl,rfl,⟨_,SqL.of (g2 _ _ e5)⟩,fun L hL=>bg (xs:=ut) (fun i σ H'=>aA G2 H'∧RoG [L] L (tabs.take i) H'∧∃v0,σ=[v0]) ⟨ah hL _,⟨[],af,by rw[ypa];exact .nil⟩,none,rfl⟩ (fun i σ H' _ hh=>SqL.of (hh.1 _ _ (g2 _ _ e5))) ?_ ?_⟩
  ·rintro i v σ H' hv ⟨g,rI,v0,rfl⟩
   obtain⟨rows,hrow,r,us,rfl,er,hR⟩:=Paired.get' e6 hv
   have hm:=yk hrow
   have hi:=(List.getElem?_eq_some_iff.mp hrow).1
   have gg:=g2.trans g
   have tl:=hB.tl
   walk_at "rd"
   refine⟨r,us,rows,rfl,gg _ _ er,hR.mono gg,by have:=(hB.tt rows hm).1;lia,fun r2 us2 H2 g3 hr2 er2 hR2 nd2 fr2=>?_⟩
   obtain⟨us0,eL,_⟩:=rI.ex
   rw[ba hrow]
   obtain⟨xs,x1,x2,x3⟩:=(rI.mono g3).step (List.mem_singleton.mpr rfl) (by rw[yf];lia) (eO.of hr2 er2 hR2 fr2 fun A hA=>⟨.lst us0,by rw[List.mem_singleton.mp hA];exact eL⟩)
   exact⟨xs,x1,x2,aI hL (g.trans g3) _,x3⟩
  rintro σ H3 ⟨g,rI,v0,rfl⟩
  rw[utl,yA] at rI
  obtain⟨us3,eL,hRs⟩:=rI.rots
  have gg:=g2.trans g
  refine⟨by decide,fun p hp=>?_⟩
  have gp:=ah hp (.tup [.str "clash",.ref q1,.ref q2,.ref L])
  have ga:=g.trans gp
  have gA:=g2.trans ga
  exact q p _ gA ⟨q1,q2,L,uv,us3,af,(h2.trans ga) _ _ f1,ga _ _ f2,cn.tmono (az gA) e4,gp _ _ eL,cm.mono gp hRs⟩
inductive xm(K:PySem.W.Frag)(ζ:Cs)(vs:List V)(H:Hp)(Q:VK)(E:XK):Prop
 | mk (x t:Addr) (ns:List Int) (sts:List Stp) (tabs:List (List (List Int))) (b:Bool) (c:ClD) (is:List Nat) (_:vs=[.ref x,.ref t,.bl b]) (_:cX H t ns sts tabs) (_:jo ns sts tabs) (_:c.Ok) (_:Ok c.D c.hs c.ps) (_:cJ (dE ζ.c ζ.d ζ.e) ζ.b ζ.a H x c.D c.hs c.ps (is.map c.rl)) (_:(∀i∈is,i<c.N)) (_:is.length≤12) (_:cz c.D c.hs c.ps (is.map c.rl) ns sts tabs=b) (_:∀H',aA H H'→Q (.bl true) H'):xm K ζ vs H Q E
theorem wc:aw ["_law_terms","_law_told","_law_due","_law_handed","_law_found"] ["_law_terms","_law_told","_law_due"] (ao ww):=⟨rfl,rfl,rfl,k!,rfl,k!,k!⟩
theorem Bw{ζ:Cs}{f:Addr}{fd:FuncData}(F:Fun K "_law_says" "_law_says" ww f fd)(T:Txt K mg ζ)(zcj_:Cal P w K mg base "_law_copy" ["_law_told"] 2 (xf K ζ))(zg_:Cal P w K mg base "is_clash" ["terms","told"] 10 (zM_ K ζ)):aN P w K mg base CX0 11 f fd ["_law_terms","_law_told","_law_due"] (xm K ζ):=by
 refine F.ok wc (fun vs H Q E h=>?_) (fun cdv A outer s H vs Q E hr h=>?_)
 ·obtain⟨x,t,ns,sts,tabs,b,c,is,rfl,_⟩:=h
  rfl
 ·obtain⟨x,t,ns,sts,tabs,b,c,is,rfl,hT,hB,o,okw,TR,hi,il,hb,q⟩:=h
  refine⟨_,(ak (aD (i:=3) wc.nd rfl (Or.inl rfl) (ar zcj_ (hr.mono (by decide)) rfl (ae (pv 1) ag)))
  (ak (aD (i:=4) wc.nd rfl (Or.inl rfl) (ar zg_ (hr.mono (by decide)) rfl (ae (pv 0) (ae (pv 3) ag))))
  (am (ay (bM (aC lv (by rfl) T.isinstance PyProof.Rows.boot_isinstance (ae (pv 4) (ae (nV (v:=.ty "bool") rfl T.bool PyProof.Rows.boot_bool rfl) ag))) (bM (bJ bW (pv 4) (pv 2) (aH _)) (cp (bJ (sZ (K:=K) rfl 4 hr) (pv 3) (pv 1) (aH _))))))))),?_⟩
  walk_at "rd"
  refine⟨t,ns,sts,tabs,rfl,hT,hB,fun t' H1 g1 hT1=>?_⟩
  obtain⟨n,pl,rl,uv,ut,e1,e2,e3,e4,e5,e6⟩:=hT1.ex
  obtain⟨a1,a2,a3,a4⟩:=o.all hi
  have nl:=hB.nl
  have sl:=hB.sl
  have tl:=hB.tl
  refine⟨x,t',_,_,_,_,rfl,TR.mono g1,okw,by have:=o.P2;lia,by rw[o.hl];exact o.n8,a1,a2,by rw[ya];lia,a3,a4,.inr (.inr ⟨n,pl,rl,ns,uv,ut,sts,tabs,e1,e2,by lia,e3,e4,(fun st hs=>(hB.su st hs).us),by lia,e5,e6,by lia,(fun T hTt=>⟨by have:=(hB.tt T hTt).1;lia,fun row hr'=>by have:=(hB.tt T hTt).2 row hr'; lia⟩),fun H2 g2=>?_⟩)⟩
  rw[hb]
  refine⟨_,rfl,?_⟩
  rw[if_pos k!]
  refine⟨by cases b <;> rfl,?_⟩
  rw[if_pos rfl]
  have d1:=cX.den (K:=K) (hT1.mono g2) hB.su
  have d2:=cX.den (K:=K) (hT.mono (g1.trans g2)) hB.su
  refine⟨t',t,_,_,rfl,rfl,d1,d2,pO _ _ _ d1,?_⟩
  rw[dP]
  exact q H2 (g1.trans g2)
inductive zI_(K:PySem.W.Frag)(ζ:Cs)(vs:List V)(H:Hp)(Q:VK)(E:XK):Prop
 | mk (x r:Addr) (us:List V) (rows:List (List Int)) (b:Bool) (c:ClD) (is:List Nat) (_:vs=[.ref x,.ref r,.bl b]) (_:H r=some (.lst us)) (_:Rows H us rows) (_:rows.length≤40) (_:(∀row∈rows,row.length≤40)) (_:c.Ok) (_:Ok c.D c.hs c.ps) (_:cJ (dE ζ.c ζ.d ζ.e) ζ.b ζ.a H x c.D c.hs c.ps (is.map c.rl)) (_:(∀i∈is,i<c.N)) (_:is.length≤12) (_:(bI c.D c.hs c.ps rows&&decide (bA rows ((is.map c.rl).map (aT c.D c.n c.ps))=[]))=b) (_:∀H',aA H H'→Q (.bl true) H'):zI_ K ζ vs H Q E
theorem zP:aw ["_law_terms","_law_rota","_law_due","_law_found"] ["_law_terms","_law_rota","_law_due"] (ao zR_):=⟨rfl,rfl,rfl,k!,rfl,k!,k!⟩
theorem Cq{ζ:Cs}{f:Addr}{fd:FuncData}(F:Fun K "_law_rota_says" "_law_rota_says" zR_ f fd)(T:Txt K mg ζ)(zg_:Cal P w K mg base "is_clash" ["terms","told"] 10 (zM_ K ζ))(zl_:Cal P w K mg base "_law_copy_of" ["_law_rota"] 1 (zC_ K ζ)):aN P w K mg base CX0 11 f fd ["_law_terms","_law_rota","_law_due"] (zI_ K ζ):=by
 refine F.ok zP (fun vs H Q E h=>?_) (fun cdv A outer s H vs Q E hr h=>?_)
 ·obtain⟨x,r,us,rows,b,c,is,rfl,_⟩:=h
  rfl
 ·obtain⟨x,r,us,rows,b,c,is,rfl,hr1,hR,rl,rr,o,okw,TR,hi,il,hb,q⟩:=h
  refine⟨_,(ak (aD (i:=3) zP.nd rfl (Or.inl rfl) (ar zg_ (hr.mono (by decide)) rfl (ae (pv 0) (ae (aV (ae bT (ae (ar zl_ (hr.mono (by decide)) rfl (ae (pv 1) ag)) ag))) ag))))
  (am (ay (bM (aC lv (by rfl) T.isinstance PyProof.Rows.boot_isinstance (ae (pv 3) (ae (nV (v:=.ty "bool") rfl T.bool PyProof.Rows.boot_bool rfl) ag))) (cp (bJ bW (pv 3) (pv 2) (aH _))))))),?_⟩
  walk_at "rd"
  refine⟨r,us,rows,rfl,hr1,hR,by lia,fun r' us' H1 g1 hr' er' hR' nd' fr'=>⟨by decide,fun p hp=>?_⟩⟩
  have gp:=ah hp (.tup [.str "rota",.ref r'])
  have ep:=af (H:=H1) (a:=p) (o:=.tup [.str "rota",.ref r'])
  generalize upd H1 p (.tup [.str "rota",.ref r'])=H2 at gp ep ⊢
  have g2:=g1.trans gp
  obtain⟨a1,a2,a3,a4⟩:=o.all hi
  refine⟨x,p,_,_,_,_,rfl,TR.mono g2,okw,by have:=o.P2;lia,by rw[o.hl];exact o.n8,a1,a2,by rw[ya];lia,a3,a4,.inr (.inl ⟨r',us',rows,ep,gp _ _ er',hR'.mono gp,(fun row h=>by have:=rr row h;lia),by lia,fun H3 g3=>?_⟩)⟩
  rw[o.hl,yh,hb]
  refine⟨_,rfl,?_⟩
  rw[if_pos k!]
  refine⟨by cases b <;> rfl,?_⟩
  rw[decide_eq_true rfl]
  exact q H3 (g2.trans g3)
inductive vq(K:PySem.W.Frag)(ζ:Cs)(vs:List V)(H:Hp)(Q:VK)(E:XK):Prop
 | mk (l:Addr) (xs:List V) (k:Nat) (x y:V) (_:vs=[.ref l,.int (k:Int)]) (_:H l=some (.lst xs)) (_:xs[k]? = some x) (_:xs[k+1]? = some y) (_:xs.length≤900) (_:∀(r:Addr) (H':Hp),aA H H'→H r=none→H' r=some (.lst (xs.take k++[y,x]++xs.drop (k+2)))→Q (.ref r) H'):vq K ζ vs H Q E
theorem B6:aw ["_law_some","_law_at"] ["_law_some","_law_at"] (ao xT):=⟨rfl,rfl,rfl,k!,rfl,k!,k!⟩
theorem Be{ζ:Cs}{f:Addr}{fd:FuncData}(F:Fun K "_law_swapped" "_law_swapped" xT f fd)(T:Txt K mg ζ) :aN P w K mg base CX0 1 f fd ["_law_some","_law_at"] (vq K ζ):=by
 refine F.ok B6 (fun vs H Q E h=>?_) (fun cdv A outer s H vs Q E hr h=>?_)
 ·obtain⟨l,xs,k,x,y,rfl,_⟩:=h
  rfl
 ·obtain⟨l,xs,k,x,y,rfl,hl,hx,hy,xl,q⟩:=h
  refine⟨_,(am (ay (ax bS (ax bS (aQ bu (pv 0) bf (bd (pv 1))) (aY (ae (aM aW (pv 0) (ax bz (pv 1) aj) (fun _ _=>rfl)) (ae (aM aW (pv 0) (pv 1) (fun _ _=>rfl)) ag)))) (aQ bu (pv 0) (bd (ax bz (pv 1) aj)) bf)))),?_⟩
  walk_at "rd"
  refine⟨_,SqL.of hl,fun q1 hq1=>?_⟩
  rw[bV]
  have h1:=ah hq1 (.lst (xs.take k))
  have f1:=af (H:=H) (a:=q1) (o:=.lst (xs.take k))
  generalize upd H q1 (.lst (xs.take k))=G1 at h1 f1 ⊢
  refine⟨_,SqL.of (h1 _ _ hl),y,by rw[show((k:Int)+1)=((k+1:Nat):Int) by lia];exact aR hy,_,SqL.of (h1 _ _ hl),x,aR hx,by decide,fun q2 hq2=>?_⟩
  have h2:=ah hq2 (.lst [y,x])
  have f2:=af (H:=G1) (a:=q2) (o:=.lst [y,x])
  generalize upd G1 q2 (.lst [y,x])=G2 at h2 f2 ⊢
  refine⟨_,h2 _ _ f1,_,f2,aL (by rw[yf];show _+2≤_;lia),fun q3 hq3=>?_⟩
  have h3:=ah hq3 (.lst (xs.take k++[y,x]))
  have f3:=af (H:=G2) (a:=q3) (o:=.lst (xs.take k++[y,x]))
  generalize upd G2 q3 (.lst (xs.take k++[y,x]))=G3 at h3 f3 ⊢
  refine⟨_,SqL.of ((h1.trans (h2.trans h3)) _ _ hl),fun q4 hq4=>?_⟩
  rw[show((k:Int)+2)=((k+2:Nat):Int) by lia,cC]
  have h4:=ah hq4 (.lst (xs.drop (k+2)))
  have f4:=af (H:=G3) (a:=q4) (o:=.lst (xs.drop (k+2)))
  generalize upd G3 q4 (.lst (xs.drop (k+2)))=G4 at h4 f4 ⊢
  refine⟨_,h4 _ _ f3,_,f4,aL (by rw[yd,yf,yw];show _+2+_≤_;omega),fun q5 hq5=>?_⟩
  have gT:=h1.trans (h2.trans (h3.trans h4))
  exact q q5 _ (gT.trans (ah hq5 _)) (gT.free hq5) af
inductive xy(K:PySem.W.Frag)(ζ:Cs)(vs:List V)(H:Hp)(Q:VK)(E:XK):Prop
 | mk (t:Addr) (ns:List Int) (ini:List Stp) (ws:List Tri) (tabs:List (List (List Int))) (k:Nat) (_:vs=[.ref t,.int (k:Int)]) (_:cX H t ns (ini++[.sum ws]) tabs) (_:jo ns (ini++[.sum ws]) tabs) (_:2≤ns.length) (_:tabs.length=ns.length) (_:(∀u∈ws,0≤u.1∧u.1<(ns.length:Int))) (_:∀(t':Addr) (j:Nat) (x y:Int) (sts':List Stp) (tabs':List (List (List Int))) (H':Hp),aA H H'→ns[j]? = some x→ns[j+1]? = some y→cX H' t' (ns.take j++[y,x]++ns.drop (j+2)) sts' tabs'→jo (ns.take j++[y,x]++ns.drop (j+2)) sts' tabs'→Q (.ref t') H'):xy K ζ vs H Q E
theorem zc_:aw ["_law_told","_law_at","_law_numbers","_law_paper_here","_law_rotas","_law_places","_law_uses","_law_steps"] ["_law_told","_law_at"] (ao vP):=⟨rfl,rfl,rfl,k!,rfl,k!,k!⟩
theorem BN{ζ:Cs}{f:Addr}{fd:FuncData}(F:Fun K "_law_turned" "_law_turned" vP f fd)(T:Txt K mg ζ)(zp_:Cal P w K mg base "_law_swapped" ["_law_some","_law_at"] 1 (vq K ζ)):aN P w K mg base CX0 2 f fd ["_law_told","_law_at"] (xy K ζ):=by
 refine F.ok zc_ (fun vs H Q E h=>?_) (fun cdv A outer s H vs Q E hr h=>?_)
 ·obtain⟨t,ns,ini,ws,tabs,k,rfl,_⟩:=h
  rfl
 ·obtain⟨t,ns,ini,ws,tabs,k,rfl,hT,hB,n2,tl,hw,q⟩:=h
  refine⟨_,(ak (dH (aQ jW (pv 0) (bd aj) bf) (cx (n:=3) rfl (aB (aq (i:=2) zc_.nd rfl (Or.inl rfl)) (aB (aq (i:=3) zc_.nd rfl (Or.inl rfl)) (aB (aq (i:=4) zc_.nd rfl (Or.inl rfl)) bx)))))
  (ak (aD (i:=1) zc_.nd rfl (Or.inl rfl) (ax bc (pv 1) (ax cM (aC (aF (K:=K) rfl) (by rfl) T.len PySem.boot_len (ae (pv 2) ag)) aj)))
  (ak (aD (i:=5) zc_.nd rfl (Or.inr rfl) (ar zp_ (hr.mono (by decide)) rfl (ae (aS (iV rfl) (by rfl) T.list PyProof.Rows.boot_list (ae (aS iF (by rfl) T.range PyProof.Rows.boot_range (ae (aC (aF (K:=K) rfl) (by rfl) T.len PySem.boot_len (ae (pv 2) ag)) ag)) ag)) (ae (pv 1) ag))))
  (ak (aD (i:=6) zc_.nd rfl (Or.inl rfl) (aS (bC (K:=K) rfl) (by rfl) T.tuple PyProof.Rows.boot_tuple (ae (bp (own:=["_law_k","_law_line","_law_times"]) (fnames:=["_law_places"]) (fr:=[5]) (N':=["_law_k","_law_line","_law_times","_law_places"]) ⟨rfl,rfl,rfl,rfl,rfl,rfl,rfl⟩ rfl (iy (aM bi (aM aW (pv 3) (dS cY aj) (fun _ _=>rfl)) aj (fun _ _=>rfl))) (fun s0 H0 fp0 C0=>⟨(c9 (K:=K) (n:=3) rfl rfl (aB (aq (i:=0) (by show(["_law_k","_law_line","_law_times","_law_places"]:List Str).Nodup;decide +kernel) rfl (Or.inl rfl)) (aB (aq (i:=1) (by show(["_law_k","_law_line","_law_times","_law_places"]:List Str).Nodup;decide +kernel) rfl (Or.inl rfl)) (aB (aq (i:=2) (by show(["_law_k","_law_line","_law_times","_law_places"]:List Str).Nodup;decide +kernel) rfl (Or.inl rfl)) bx)))),bo,(aV (ae (aM (fz (K:=K) rfl) (pv 3) (pv 0) (fun _ _=>rfl)) (ae (pv 1) (ae (pv 2) ag))))⟩)) ag)))
  (ak (aD (i:=7) zc_.nd rfl (Or.inl rfl) (aQ bu (pv 3) bf (bd (dS cY aj))))
  (jR (bh (aK (pc 3 hr) (pv 7) (aY ag) (aH _)) (am (aD (i:=7) zc_.nd rfl (Or.inl rfl) (ax bS (aQ bu (pv 7) bf (bd aj)) (ax mG (aY (ae (aV (ae bT (ae (pv 6) ag))) ag)) (ax cM (aC (aF (K:=K) rfl) (by rfl) T.len PySem.boot_len (ae (pv 7) ag)) aj))))) aJ)
  (ak (aD (i:=7) zc_.nd rfl (Or.inl rfl) (ax bS (pv 7) (aY (ae (aV (ae bT (ae (pv 6) ag))) ag))))
  (am (ay (aV (ae bT (ae (ar zp_ (hr.mono (by decide)) rfl (ae (pv 2) (ae (pv 1) ag))) (ae (pv 7) (ae (ar zp_ (hr.mono (by decide)) rfl (ae (pv 4) (ae (pv 1) ag))) ag)))))))))))))),?_⟩
  obtain⟨n,pl,rl,uv,ut,e1,e2,e3,e4,e5,e6⟩:=hT.ex
  obtain⟨uvi,v,rfl,hVi,hv⟩:=qN e4
  obtain⟨tt,tu,us,rfl,et,eu,hU⟩:=hv
  have ul:=Paired.length hU
  refine au fun U1 u1=>?_
  walk_at "rd"
  refine⟨_,SqT.of e1,(by show ¬(HT.sIx 4 0 (some 1)=0∧HT.sIx 4 4 none=4);decide),fun q1 hq1=>?_⟩
  have ec:eJ [V.str "clash",.ref n,.ref pl,.ref rl] (some 1) none=[.ref n,.ref pl,.ref rl]:=rfl
  rw[ec];clear ec
  have h1:=ah hq1 (.tup [.ref n,.ref pl,.ref rl])
  have f1:=af (H:=H) (a:=q1) (o:=.tup [.ref n,.ref pl,.ref rl])
  generalize upd H q1 (.tup [.ref n,.ref pl,.ref rl])=G1 at h1 f1 ⊢
  refine⟨_,SqT.of f1,rfl,_,_,rfl,_,_,rfl,_,_,rfl,rfl,?_⟩
  rw[u1];clear u1
  refine au fun U1 u1=>?_
  walk_at "rd"
  refine⟨_,.inl (SqL.of (h1 _ _ e2)),by rw[ya];lia,?_⟩
  rw[ya]
  obtain⟨j,ej,hj⟩:∃j:Nat,(k:Int) % ((ns.length:Int)-1)=j∧j+1<ns.length:=⟨((k:Int) % ((ns.length:Int)-1)).toNat,by have:=yv (k:Int) (b:=(ns.length:Int)-1) (by lia);lia,by have:=yD (k:Int) (b:=(ns.length:Int)-1) (by lia);have:=yv (k:Int) (b:=(ns.length:Int)-1) (by lia);omega⟩
  rw[ej,u1];clear u1 ej
  refine au fun U1 u1=>?_
  walk_at "rd"
  refine⟨_,.inl (SqL.of (h1 _ _ e2)),?_⟩
  rw[ya]
  intro p1 hp1
  have h2:=ah hp1 (.rng 0 (ns.length:Int))
  have f2:=af (H:=G1) (a:=p1) (o:=.rng 0 (ns.length:Int))
  generalize upd G1 p1 (.rng 0 (ns.length:Int))=G2 at h2 f2 ⊢
  refine⟨_,f2,by lia,by have:=hB.nl;lia,fun l hl=>?_⟩
  rw[yh]
  obtain⟨ks,ek,kl⟩:∃ks:List Int,(List.range ns.length).map (fun i:Nat=>(i:Int))=ks∧ks.length=ns.length:=⟨_,rfl,by rw[ya,yo]⟩
  rw[ek]
  have h3:=ah hl (.lst (ks.map V.int))
  have f3:=af (H:=G2) (a:=l) (o:=.lst (ks.map V.int))
  generalize upd G2 l (.lst (ks.map V.int))=G3 at h3 f3 ⊢
  have j1:=yb (show j<ks.length by lia)
  have j2:=yb (show j+1<ks.length by lia)
  refine⟨l,_,j,V.int ks[j],V.int ks[j+1],rfl,f3,by rw[yc,j1];rfl,by rw[yc,j2];rfl,by rw[ya];have:=hB.nl;lia,fun r H4 h4 hr4 er4=>?_⟩
  obtain⟨p2,ep2,p2l⟩:∃p2:List Int,(ks.map V.int).take j++[V.int ks[j+1],V.int ks[j]]++(ks.map V.int).drop (j+2)=p2.map V.int∧p2.length=ns.length:=⟨ks.take j++[ks[j+1],ks[j]]++ks.drop (j+2),by rw[yg,yg,yXa,yMa];rfl,by simp only[yd,yf,yw,yp,yea];lia⟩
  rw[ep2] at er4
  have h14:=h1.trans (h2.trans (h3.trans h4))
  clear ep2 j1 j2 f3 f2 ek kl h3 h2 hp1 hl
  rw[u1];clear u1
  refine au fun U1 u1=>?_
  walk_at "rd"
  refine⟨_,SqL.of (h14 _ _ e3),_,ly _ _,tt,rfl,_,SqT.of (h14 _ _ et),_,rfl,?_⟩
  refine⟨tu,rfl,⟨_,SqT.of (h14 _ _ eu)⟩,fun L hL=>dX (xs:=us) (fun i σ H'=>dq H4 L ((ws.take i).map fun u=>(p2.getD u.1.toNat 0,u.2.1,u.2.2)) H'∧∃v0 v1 v2,σ=[v0,v1,v2,some (.ref r)]) ⟨dq.start hL,none,none,none,rfl⟩ (fun i σ H' _ hh=>SqT.of (hh.1.same _ _ (h14 _ _ eu))) ?_ ?_⟩
  ·rintro i v σ H' hv ⟨tI,v0,v1,v2,rfl⟩
   obtain⟨u,hu,tx,rfl,ex⟩:=Paired.get' hU hv
   obtain⟨b0,b1⟩:=hw u (yk hu)
   have hi:=(List.getElem?_eq_some_iff.mp hu).1
   walk_at "rd"
   refine⟨_,SqT.of (tI.same _ _ (h14 _ _ ex)),rfl,_,_,rfl,_,_,rfl,_,_,rfl,rfl,?_⟩
   have w9:ws.length≤9:=by
    have h:jT ws:=hB.su _ (yB _ (List.mem_singleton.mpr rfl))
    exact h.1
   have ea:atI (p2.map V.int) u.1=some (V.int (p2.getD u.1.toNat 0)):=by
    obtain⟨m,em⟩:∃m:Nat,u.1=(m:Int):=⟨u.1.toNat,by lia⟩
    rw[em,yh]
    refine aR ?_
    have hm:m<p2.length:=by lia
    rw[yc,yb hm,yz,yb hm]
    rfl
   refine⟨_,_,rfl,SqL.of (tI.same _ _ er4),_,ea,by decide,fun tp htp=>?_⟩
   rw[ba hu,yg]
   exact tI.step hL (by rw[ya,yf];lia) htp
  rintro σ H5 ⟨tI,v0,v1,v2,rfl⟩
  rw[ul,yA] at tI
  obtain⟨ws',ew,wu⟩:∃ws':List Tri,(ws.map fun u=>(p2.getD u.1.toNat 0,u.2.1,u.2.2))=ws'∧jT ws':=by
   obtain⟨w1,w2⟩:jT ws:=hB.su _ (yB _ (List.mem_singleton.mpr rfl))
   refine⟨_,rfl,by rw[ya];exact w1,fun u hu=>?_⟩
   obtain⟨u',hu',rfl⟩:=List.mem_map.mp hu
   exact w2 u' hu'
  rw[ew] at tI
  obtain⟨us5,g5,e5,hT5⟩:=tI.ex
  refine⟨_,SqL.of e5,fun q6 hq6=>?_⟩
  have h6:=ah hq6 (.tup us5)
  have f6:=af (H:=H5) (a:=q6) (o:=.tup us5)
  have hT6:cU (upd H5 q6 (.tup us5)) us5 ws':=cU.tmono (az h6) hT5
  generalize upd H5 q6 (.tup us5)=G6 at h6 f6 hT6 ⊢
  have h16:=h14.trans (g5.trans h6)
  clear h6 g5 hT5 e5 hq6 tI ew h14 er4 p2l
  rw[u1];clear u1
  refine au fun U1 u1=>?_
  walk_at "rd"
  refine⟨_,SqL.of (h16 _ _ e3),fun q7 hq7=>?_⟩
  rw[iq]
  have h7:=ah hq7 (.lst uvi)
  have f7:=af (H:=G6) (a:=q7) (o:=.lst uvi)
  generalize upd G6 q7 (.lst uvi)=G7 at h7 f7 ⊢
  have h17:=h16.trans h7
  have hTt:=cU.tmono (az h7) hT6
  have f6:=h7 _ _ f6
  clear h7 hT6 h16
  have sl:=hB.sl
  rw[yd,yx] at sl
  have hV7:=cn.tmono (az h17) hVi
  have hio:∀st∈ini,jb st:=fun st h=>hB.su st (yha _ h)
  rw[u1];clear u1
  refine mo (fun σ H'=>∃(q8:Addr) (uv8:List V) (in8:List Stp),aA G7 H'∧H' q8=some (.lst uv8)∧cn H' uv8 in8∧(∀st∈in8,jb st)∧in8.length≤19∧σ=[some (.ref t),some (.int (j:Int)),some (.ref n),some (.ref pl),some (.ref rl),some (.ref r),some (.ref q6),some (.ref q8)]) ?_ ?_
  ·refine ifs_ofK fun A1 a1=>?_
   walk_at "rd"
   refine⟨yH _,fun p1 hp1=>?_⟩
   have k1:=ah hp1 (.lst [])
   have f1:=af (H:=G7) (a:=p1) (o:=.lst [])
   generalize upd G7 p1 (.lst [])=J1 at k1 f1 ⊢
   refine ue (ds:=ini.map stD) ⟨_,SqL.of (k1 _ _ f7),lx (cn.tmono (az k1) hV7) hio⟩ f1 ⟨_,rfl,?_⟩
   by_cases zi:ini.map stD=[]
   ·rw[decide_eq_true zi,if_neg (by decide)]
    exact⟨k1,q7,uvi,k1 _ _ f7,ini,cn.tmono (az k1) hV7,hio,by lia,rfl⟩
   rw[decide_eq_false zi,if_pos (by decide),a1];clear a1
   walk_at "rd"
   have il:=Paired.length hVi
   have i1:1≤ini.length:=by
    cases ini with
    | nil=>exact absurd rfl zi
    | cons x xs=>rw[yp];lia
   refine⟨_,SqL.of (k1 _ _ f7),fun p2 hp2=>?_⟩
   have ec:eJ uvi none (some 1)=uvi.take 1:=bV uvi 1
   rw[ec];clear ec
   have k2:=ah hp2 (.lst (uvi.take 1))
   have f2:=af (H:=J1) (a:=p2) (o:=.lst (uvi.take 1))
   generalize upd J1 p2 (.lst (uvi.take 1))=J2 at k2 f2 ⊢
   refine⟨by decide,fun p3 hp3=>?_⟩
   have k3:=ah hp3 (.tup [.str "sum",.ref q6])
   have f3:=af (H:=J2) (a:=p3) (o:=.tup [.str "sum",.ref q6])
   generalize upd J2 p3 (.tup [.str "sum",.ref q6])=J3 at k3 f3 ⊢
   refine⟨by decide,fun p4 hp4=>?_⟩
   have k4:=ah hp4 (.lst [.ref p3])
   have f4:=af (H:=J3) (a:=p4) (o:=.lst [.ref p3])
   generalize upd J3 p4 (.lst [.ref p3])=J4 at k4 f4 ⊢
   have em:((uvi.length:Int)-1).toNat=ini.length-1:=by lia
   refine⟨_,.inl (SqL.of ((k1.trans (k2.trans (k3.trans k4))) _ _ f7)),_,f4,by lia,by lia,aL (by rw[em];show 1*_≤_;omega),fun p5 hp5=>?_⟩
   rw[em,wo];clear em
   have k5:=ah hp5 (.lst (List.replicate (ini.length-1) (.ref p3)))
   have f5:=af (H:=J4) (a:=p5) (o:=.lst (List.replicate (ini.length-1) (.ref p3)))
   generalize upd J4 p5 (.lst (List.replicate (ini.length-1) (.ref p3)))=J5 at k5 f5 ⊢
   refine⟨_,(k3.trans (k4.trans k5)) _ _ f2,_,f5,aL (by rw[yf,yG];lia),fun p6 hp6=>?_⟩
   have k6:=ah hp6 (.lst (uvi.take 1++List.replicate (ini.length-1) (.ref p3)))
   have gB:=k4.trans (k5.trans k6)
   have gK:=k1.trans (k2.trans (k3.trans gB))
   refine⟨gK,p6,_,af,ini.take 1++List.replicate (ini.length-1) (.sum ws'),Paired.app2 (de 1 (cn.tmono (az gK) hV7)) (xu ⟨p3,q6,us5,rfl,gB _ _ f3,gK _ _ f6,cU.tmono (az gK) hTt⟩ _),(fun st h=>?_),by rw[yd,yf,yG];lia,rfl⟩
   rcases List.mem_append.mp h with h | h
   ·exact hio st (yY h)
   ·rw[yxb h];exact wu
  rintro σ G8 ⟨q8,uv8,in8,g8,f8,hV8,ho8,l8,rfl⟩
  refine au fun U1 u1=>?_
  walk_at "rd"
  refine⟨by decide,fun p1 hp1=>?_⟩
  have k1:=ah hp1 (.tup [.str "sum",.ref q6])
  have f1:=af (H:=G8) (a:=p1) (o:=.tup [.str "sum",.ref q6])
  generalize upd G8 p1 (.tup [.str "sum",.ref q6])=J1 at k1 f1 ⊢
  refine⟨by decide,fun p2 hp2=>?_⟩
  have k2:=ah hp2 (.lst [.ref p1])
  have f2:=af (H:=J1) (a:=p2) (o:=.lst [.ref p1])
  generalize upd J1 p2 (.lst [.ref p1])=J2 at k2 f2 ⊢
  have ul8:=Paired.length hV8
  refine⟨_,(k1.trans k2) _ _ f8,_,f2,aL (by show _+1≤_;lia),fun p3 hp3=>?_⟩
  have k3:=ah hp3 (.lst (uv8++[.ref p1]))
  have f3:=af (H:=J2) (a:=p3) (o:=.lst (uv8++[.ref p1]))
  generalize upd J2 p3 (.lst (uv8++[.ref p1]))=J3 at k3 f3 ⊢
  have g83:=k1.trans (k2.trans k3)
  have g73:=g8.trans g83
  have h13:=h17.trans g73
  have hV3:cn J3 (uv8++[.ref p1]) (in8++[.sum ws']):=aP (cn.tmono (az g83) hV8) ⟨p1,q6,us5,rfl,(k2.trans k3) _ _ f1,g73 _ _ f6,cU.tmono (az g73) hTt⟩
  clear g83 g73 k1 k2 k3 f1 f2 hp1 hp2 hp3 hTt hV8 h17 g8 f8
  rw[u1];clear u1
  walk_at "rd"
  have j1:=yb (show j<ns.length by lia)
  have j2:=yb (show j+1<ns.length by omega)
  have utl:=Paired.length e6
  have nl:=hB.nl
  have ta:=yb (show j<ut.length by lia)
  have tb:=yb (show j+1<ut.length by lia)
  obtain⟨Ta,hTa,Ra⟩:=Paired.get' e6 ta
  obtain⟨Tb,hTb,Rb⟩:=Paired.get' e6 tb
  refine⟨n,_,j,_,_,rfl,h13 _ _ e2,by rw[yc,j1];rfl,by rw[yc,j2];rfl,by rw[ya];lia,fun r1 H6 m1 hr1 er1=>?_⟩
  refine⟨rl,ut,j,_,_,rfl,(h13.trans m1) _ _ e5,ta,tb,by lia,fun r2 H7 m2 hr2 er2=>⟨by decide,fun p7 hp7=>?_⟩⟩
  have m3:=ah hp7 (.tup [.str "clash",.ref r1,.ref p3,.ref r2])
  have mm:=m1.trans (m2.trans m3)
  have gT:=h13.trans mm
  refine q p7 j ns[j] ns[j+1] (in8++[.sum ws']) (tabs.take j++[Tb,Ta]++tabs.drop (j+2)) _ gT j1 j2 ⟨r1,p3,r2,_,_,af,?_,mm _ _ f3,cn.tmono (az mm) hV3,m3 _ _ er2,cm.mono gT (Paired.app2 (Paired.app2 (de j e6) (.cons Rb (.cons Ra .nil))) (fO (j+2) e6))⟩ ⟨?_,?_,?_,?_,?_⟩
  ·rw[(m2.trans m3) _ _ er1,yg,yg,yXa,yMa];rfl
  ·simp only[yd,yf,yw,yp,yea];lia
  ·rw[yd,yx];lia
  ·intro st h
   rcases List.mem_append.mp h with h | h
   ·exact ho8 st h
   ·rw[List.mem_singleton.mp h];exact wu
  ·simp only[yd,yf,yw,yp,yea];lia
  ·intro T h
   refine hB.tt T ?_
   rcases List.mem_append.mp h with h | h
   ·rcases List.mem_append.mp h with h | h
    ·exact yY h
    ·rcases List.mem_cons.mp h with h | h
     ·rw[h];exact yk hTb
     ·rw[List.mem_singleton.mp h];exact yk hTa
   ·exact yAa h
inductive zD_(K:PySem.W.Frag)(ζ:Cs)(vs:List V)(H:Hp)(Q:VK)(E:XK):Prop
 | mk (l:Addr) (xs:List Int) (w:Int) (N k:Nat) (_:vs=[.int w,.ref l,.int (N:Int),.int (k:Int)]) (_:H l=some (.lst (xs.map V.int))) (_:k<xs.length) (_:xs.length≤9) (_:N≤12) (_:∀(r:Addr) (ys:List Int) (H':Hp),aA H H'→H r=none→H' r=some (.lst (ys.map V.int))→iX N xs k ys→Q (.ref r) H'):zD_ K ζ vs H Q E
theorem zX:aw ["_law_way","_law_numbers","_law_many","_law_at","_law_others"] ["_law_way","_law_numbers","_law_many","_law_at"] (ao zF_):=⟨rfl,rfl,rfl,k!,rfl,k!,k!⟩
theorem BC{ζ:Cs}{f:Addr}{fd:FuncData}(F:Fun K "_law_spoilt_set" "_law_spoilt_set" zF_ f fd)(T:Txt K mg ζ) :aN P w K mg base CX0 1 f fd ["_law_way","_law_numbers","_law_many","_law_at"] (zD_ K ζ):=by
 refine F.ok zX (fun vs H Q E h=>?_) (fun cdv A outer s H vs Q E hr h=>?_)
 ·obtain⟨l,xs,w,N,k,rfl,_⟩:=h
  rfl
 ·obtain⟨l,xs,w,N,k,rfl,hl,hk,xl,N12,q⟩:=h
  refine⟨_,(ak (da (i:=4) zX.nd rfl rfl (own:=["_law_k"]) (fnames:=["_law_numbers"]) (fr:=[1]) (N':=["_law_k","_law_numbers"]) ⟨rfl,rfl,rfl,rfl,rfl,rfl,rfl⟩ rfl (bE rfl T.range (ae (pv 2) ag)) (fun s0 H0 fp0 C0=>⟨(aq (i:=0) (by show(["_law_k","_law_numbers"]:List Str).Nodup;decide +kernel) rfl (Or.inl rfl)),(dA (aK (je (K:=K) rfl) (pv 0) (pv 1) (by with_unfolding_all rfl))),(pv 0)⟩))
  (ak (bh (PW.pt (qP (aK bW (pv 0) aj (aH _)) (mU (aK (pc 1 hr) (pv 4) (aY ag) (aH _))))) (am (ay (aC l6 (by rfl) T.sorted PyProof.Rows.boot_sorted (ae (ax bS (pv 1) (aY (ae (aM aW (pv 4) (ax bc (pv 3) (aC (aF (K:=K) rfl) (by rfl) T.len PySem.boot_len (ae (pv 4) ag))) (fun _ _=>rfl)) ag))) ag)))) aJ)
  (ak (bh (aK bW (pv 0) aj (aH _)) (am (ay (ax bS (aQ bu (pv 1) bf (bd (dS cY aj))) (aY (ae (pv 2) ag))))) aJ)
  (ak (bh (aK bW (pv 0) aj (aH _)) (am (ay (ax bS (aY (ae (ax cM (aM aW (pv 1) aj (fun _ _=>rfl)) (pv 2)) ag)) (aQ bu (pv 1) (bd aj) bf)))) aJ)
  (am (ay (ax bS (aQ bu (pv 1) bf (bd (pv 3))) (aQ bu (pv 1) (bd (ax bz (pv 3) aj)) bf)))))))),?_⟩
  refine au fun U1 u1=>?_
  walk_at "rd"
  refine⟨by lia,by lia,fun L hL=>bw (fun i σ H'=>∃os:List Int,H'=upd H L (.lst (os.map V.int))∧os.length≤i∧(∀x∈os,x∉xs)∧∃v0,σ=[v0,some (.ref l)]) ⟨[],rfl,yi _,(fun x z=>by cases z),none,rfl⟩ ?_ ?_⟩
  ·rintro i σ H' hi ⟨os,rfl,ol,ho,v0,rfl⟩
   have gL:=ah hL (.lst (os.map V.int))
   rw[show(0+(i:Int))=i by lia]
   walk_at "rd"
   refine⟨_,.inl (SqL.of (gL _ _ hl)),rfl,jk _,?_⟩
   rw[mW]
   by_cases z:(i:Int)∈xs
   ·rw[decide_eq_true z,if_neg (by decide)]
    exact⟨os,rfl,by lia,ho⟩
   ·rw[decide_eq_false z,if_pos rfl]
    refine⟨_,af,aE (by rw[ya];lia),os++[(i:Int)],by rw[cf,yg];rfl,by rw[yd];show _+1≤_;lia,fun x hx=>?_⟩
    rcases List.mem_append.mp hx with y | y
    ·exact ho x y
    ·rw[List.mem_singleton.mp y];exact z
  rintro σ H' ⟨os,rfl,ol,ho,v0,rfl⟩
  have g1:=ah hL (.lst (os.map V.int))
  have e1:=af (H:=H) (a:=L) (o:=.lst (os.map V.int))
  generalize upd H L (.lst (os.map V.int))=H1 at g1 e1 ⊢
  rw[u1];clear u1
  refine au fun U1 u1=>?_
  have rest:∀H2,aA H1 H2→U1 { nx:=fun x H'=>Q V.non H',rt:=Q } [some (.int w),some (.ref l),some (.int (N:Int)),some (.int (k:Int)),some (.ref L)] H2:=fun H2 g2=>by
   have gg:=g1.trans g2
   have el:=gg _ _ hl
   rw[u1];clear u1
   refine au fun U1 u1=>?_
   walk_at "rd"
   by_cases z3:w=3
   ·rw[if_pos z3]
    refine⟨_,SqL.of el,fun q1 hq1=>?_⟩
    rcases gR xs with rfl | ⟨ini,z,rfl⟩
    ·rw[yea] at hk;lia
    rw[yg,show List.map V.int [z]=[V.int z] from rfl,iq]
    have h1:=ah hq1 (.lst (ini.map V.int))
    have f1:=af (H:=H2) (a:=q1) (o:=.lst (ini.map V.int))
    generalize upd H2 q1 (.lst (ini.map V.int))=G1 at h1 f1 ⊢
    refine⟨by decide,fun q2 hq2=>?_⟩
    have h2:=ah hq2 (.lst [V.int (N:Int)])
    have f2:=af (H:=G1) (a:=q2) (o:=.lst [V.int (N:Int)])
    generalize upd G1 q2 (.lst [V.int (N:Int)])=G2 at h2 f2 ⊢
    rw[yd,yx] at xl
    refine⟨_,h2 _ _ f1,_,f2,aL (by rw[ya];show _+1≤_;lia),fun q3 hq3=>?_⟩
    have gT:=gg.trans (h1.trans h2)
    refine q q3 (ini++[(N:Int)]) _ (gT.trans (ah hq3 _)) (gT.free hq3) (by rw[af,yg];rfl) ?_
    have:=iX.last (N:=N) (xs:=ini++[z]) (k:=k)
    rw[yza] at this
    exact this
   rw[if_neg z3,u1];clear u1
   refine au fun U1 u1=>?_
   walk_at "rd"
   by_cases z4:w=4
   ·rw[if_pos z4]
    have h0:0<xs.length:=by lia
    have ex:=yb h0
    refine⟨_,SqL.of el,V.int xs[0],aR (j:=0) (by rw[yc,ex];rfl),_,rfl,by decide,fun q1 hq1=>?_⟩
    have h1:=ah hq1 (.lst [V.int (xs[0]-(N:Int))])
    have f1:=af (H:=H2) (a:=q1) (o:=.lst [V.int (xs[0]-(N:Int))])
    generalize upd H2 q1 (.lst [V.int (xs[0]-(N:Int))])=G1 at h1 f1 ⊢
    refine⟨_,SqL.of (h1 _ _ el),fun q2 hq2=>?_⟩
    rw[show(1:Int)=((1:Nat):Int) from rfl,cC]
    have h2:=ah hq2 (.lst ((xs.map V.int).drop 1))
    have f2:=af (H:=G1) (a:=q2) (o:=.lst ((xs.map V.int).drop 1))
    generalize upd G1 q2 (.lst ((xs.map V.int).drop 1))=G2 at h2 f2 ⊢
    refine⟨_,h2 _ _ f1,_,f2,aL (by rw[yw,ya];show 1+_≤_;lia),fun q3 hq3=>?_⟩
    have gT:=gg.trans (h1.trans h2)
    exact q q3 ((xs[0]-(N:Int))::xs.drop 1) _ (gT.trans (ah hq3 _)) (gT.free hq3) (by rw[af,ym,yMa];rfl) (iX.first _ ex)
   rw[if_neg z4,u1];clear u1
   walk_at "rd"
   refine⟨_,SqL.of el,fun q1 hq1=>?_⟩
   rw[bV]
   have h1:=ah hq1 (.lst ((xs.map V.int).take k))
   have f1:=af (H:=H2) (a:=q1) (o:=.lst ((xs.map V.int).take k))
   generalize upd H2 q1 (.lst ((xs.map V.int).take k))=G1 at h1 f1 ⊢
   refine⟨_,SqL.of (h1 _ _ el),fun q2 hq2=>?_⟩
   rw[show((k:Int)+1)=((k+1:Nat):Int) by lia,cC]
   have h2:=ah hq2 (.lst ((xs.map V.int).drop (k+1)))
   have f2:=af (H:=G1) (a:=q2) (o:=.lst ((xs.map V.int).drop (k+1)))
   generalize upd G1 q2 (.lst ((xs.map V.int).drop (k+1)))=G2 at h2 f2 ⊢
   refine⟨_,h2 _ _ f1,_,f2,aL (by rw[yf,yw,ya];omega),fun q3 hq3=>?_⟩
   have gT:=gg.trans (h1.trans h2)
   exact q q3 (xs.take k++xs.drop (k+1)) _ (gT.trans (ah hq3 _)) (gT.free hq3) (by rw[af,yg,yXa,yMa]) .drop
  walk_at "rd"
  by_cases z1:w=1
  ·rw[if_pos z1]
   refine⟨by decide,fun p hp=>?_⟩
   have gp:=ah hp (.lst [])
   refine ue (fH (SqL.of (gp _ _ e1))) af ⟨_,rfl,?_⟩
   by_cases zo:os=[]
   ·rw[zo,if_neg (by decide)]
    exact rest _ gp
   rw[if_pos (by rw[decide_eq_false (fun z=>zo (List.map_eq_nil_iff.mp z))];rfl)]
   have ep:=gp _ _ e1
   have gg:=g1.trans gp
   generalize upd H1 p (.lst [])=H2 at gp ep gg ⊢
   have op:0<os.length:=by cases os with | nil=>exact absurd rfl zo | cons _ _=>exact yfb _
   refine⟨_,.inl (SqL.of ep),by rw[ya];lia,_,SqL.of ep,?_⟩
   rw[ya]
   obtain⟨j,ej,hj⟩:∃j:Nat,(k:Int) % (os.length:Int)=j∧j<os.length:=⟨((k:Int) % (os.length:Int)).toNat,by have:=yv (k:Int) (b:=(os.length:Int)) (by lia);lia,by have:=yD (k:Int) (b:=(os.length:Int)) (by lia);have:=yv (k:Int) (b:=(os.length:Int)) (by lia);lia⟩
   rw[ej]
   have eo:=yb hj
   refine⟨V.int os[j],aR (by rw[yc,eo];rfl),by decide,fun q1 hq1=>?_⟩
   have h1:=ah hq1 (.lst [V.int os[j]])
   have f1:=af (H:=H2) (a:=q1) (o:=.lst [V.int os[j]])
   generalize upd H2 q1 (.lst [V.int os[j]])=G1 at h1 f1 ⊢
   refine⟨_,h1 _ _ (gg _ _ hl),_,f1,aL (by rw[ya];show _+1≤_;lia),fun q2 hq2=>?_⟩
   have h2:=ah hq2 (.lst (xs.map V.int++[V.int os[j]]))
   have f2:=af (H:=G1) (a:=q2) (o:=.lst (xs.map V.int++[V.int os[j]]))
   generalize upd G1 q2 (.lst (xs.map V.int++[V.int os[j]]))=G2 at h2 f2 ⊢
   refine⟨xs++[os[j]],by rw[yg];exact SqL.of f2,by rw[yd];show _+1≤_;lia,fun q3 ys hq3 pm pw=>?_⟩
   have gT:=gg.trans (h1.trans h2)
   exact q q3 ys _ (gT.trans (ah hq3 _)) (gT.free hq3) af (.more _ ys (ho _ (yO hj)) pm pw)
  rw[if_neg z1]
  exact rest H1 (aA.refl _)
inductive zq_(K:PySem.W.Frag)(ζ:Cs)(vs:List V)(H:Hp)(Q:VK)(E:XK):Prop
 | mk (l:Addr) (ut:List V) (tabs:List (List (List Int))) (wv:V) (wt:List (List Int)) (w:Int) (k:Nat) (_:vs=[.int w,.ref l,.int (k:Int),wv]) (_:H l=some (.lst ut)) (_:cm H ut tabs) (_:vd H wv wt) (_:k<tabs.length) (_:tabs.length≤9) (_:(∀t∈tabs,t.length≤40∧∃row x xs,t[0]? = some row∧row=x::xs)) (_:∀(r:Addr) (ut':List V) (tabs':List (List (List Int))) (H':Hp),aA H H'→H r=none→H' r=some (.lst ut')→cm H' ut' tabs'→kW tabs k wt tabs'→Q (.ref r) H'):zq_ K ζ vs H Q E
theorem zL:aw ["_law_way","_law_rotas","_law_at","_law_wrong","_law_odd"] ["_law_way","_law_rotas","_law_at","_law_wrong"] (ao zt_):=⟨rfl,rfl,rfl,k!,rfl,k!,k!⟩
theorem Dn{ζ:Cs}{f:Addr}{fd:FuncData}(F:Fun K "_law_spoilt_tables" "_law_spoilt_tables" zt_ f fd)(T:Txt K mg ζ) :aN P w K mg base CX0 1 f fd ["_law_way","_law_rotas","_law_at","_law_wrong"] (zq_ K ζ):=by
 refine F.ok zL (fun vs H Q E h=>?_) (fun cdv A outer s H vs Q E hr h=>?_)
 ·obtain⟨l,ut,tabs,wv,wt,w,k,rfl,_⟩:=h
  rfl
 ·obtain⟨l,ut,tabs,wv,wt,w,k,rfl,hl,hR,hw,hk,tl,tt,q⟩:=h
  refine⟨_,(ak (bh (aK bW (pv 0) aj (aH _)) (am (ay (ax bS (aQ bu (pv 1) bf (bd (pv 2))) (aQ bu (pv 1) (bd (ax bz (pv 2) aj)) bf)))) aJ)
  (ak (bh (aK bW (pv 0) aj (aH _)) (am (ay (ax bS (ax bS (aQ bu (pv 1) bf (bd (pv 2))) (aY (ae (pv 3) ag))) (aQ bu (pv 1) (bd (pv 2)) bf)))) aJ)
  (ak (bh (aK bW (pv 0) aj (aH _)) (am (ay (ax bS (ax bS (aQ bu (pv 1) bf (bd (pv 2))) (aY (ae (pv 3) ag))) (aQ bu (pv 1) (bd (ax bz (pv 2) aj)) bf)))) aJ)
  (ak (da (i:=4) zL.nd rfl rfl (own:=["_law_row"]) (fnames:=[]) (fr:=[]) (N':=["_law_row"]) ⟨rfl,rfl,rfl,rfl,rfl,rfl,rfl⟩ rfl (bG (aM aW (pv 1) (pv 2) (fun _ _=>rfl))) (fun s0 H0 fp0 C0=>⟨(aq (i:=0) (by show(["_law_row"]:List Str).Nodup;decide +kernel) rfl (Or.inl rfl)),bo,(aS (cW (K:=K) rfl) (by rfl) T.list PyProof.Rows.boot_list (ae (pv 0) ag))⟩))
  (ak (dH aj (ki (aM aW (pv 4) aj (fun _ _=>rfl)) aj fQ))
  (am (ay (ax bS (ax bS (aQ bu (pv 1) bf (bd (pv 2))) (aY (ae (pv 4) ag))) (aQ bu (pv 1) (bd (ax bz (pv 2) aj)) bf))))))))),?_⟩
  have utl:=Paired.length hR
  refine au fun U1 u1=>?_
  walk_at "rd"
  by_cases z0:w=0
  ·rw[if_pos z0]
   refine⟨_,SqL.of hl,fun q1 hq1=>?_⟩
   rw[bV]
   have h1:=ah hq1 (.lst (ut.take k))
   have f1:=af (H:=H) (a:=q1) (o:=.lst (ut.take k))
   generalize upd H q1 (.lst (ut.take k))=G1 at h1 f1 ⊢
   refine⟨_,SqL.of (h1 _ _ hl),fun q2 hq2=>?_⟩
   rw[show((k:Int)+1)=((k+1:Nat):Int) by lia,cC]
   have h2:=ah hq2 (.lst (ut.drop (k+1)))
   have f2:=af (H:=G1) (a:=q2) (o:=.lst (ut.drop (k+1)))
   generalize upd G1 q2 (.lst (ut.drop (k+1)))=G2 at h2 f2 ⊢
   refine⟨_,h2 _ _ f1,_,f2,aL (by rw[yf,yw];omega),fun q3 hq3=>?_⟩
   have gT:=h1.trans h2
   have g5:=gT.trans (ah hq3 (.lst (ut.take k++ut.drop (k+1))))
   exact q q3 _ _ _ g5 (gT.free hq3) af (Paired.app2 (de k (cm.mono g5 hR)) (fO (k+1) (cm.mono g5 hR))) .few
  have hwr:∀{H':Hp},aA H H'→vd H' wv wt:=fun g=>by
   obtain⟨r,us,e,q1,q2⟩:=hw
   exact⟨r,us,e,g _ _ q1,q2.mono g⟩
  rw[if_neg z0,u1];clear u1
  refine au fun U1 u1=>?_
  walk_at "rd"
  by_cases z1:w=1
  ·rw[if_pos z1]
   refine⟨_,SqL.of hl,fun q1 hq1=>?_⟩
   rw[bV]
   have h1:=ah hq1 (.lst (ut.take k))
   have f1:=af (H:=H) (a:=q1) (o:=.lst (ut.take k))
   generalize upd H q1 (.lst (ut.take k))=G1 at h1 f1 ⊢
   refine⟨by decide,fun q2 hq2=>?_⟩
   have h2:=ah hq2 (.lst [wv])
   have f2:=af (H:=G1) (a:=q2) (o:=.lst [wv])
   generalize upd G1 q2 (.lst [wv])=G2 at h2 f2 ⊢
   refine⟨_,h2 _ _ f1,_,f2,aL (by rw[yf];show _+1≤_;lia),fun q3 hq3=>?_⟩
   have h3:=ah hq3 (.lst (ut.take k++[wv]))
   have f3:=af (H:=G2) (a:=q3) (o:=.lst (ut.take k++[wv]))
   generalize upd G2 q3 (.lst (ut.take k++[wv]))=G3 at h3 f3 ⊢
   refine⟨_,SqL.of ((h1.trans (h2.trans h3)) _ _ hl),fun q4 hq4=>?_⟩
   rw[cC]
   have h4:=ah hq4 (.lst (ut.drop (k)))
   have f4:=af (H:=G3) (a:=q4) (o:=.lst (ut.drop (k)))
   generalize upd G3 q4 (.lst (ut.drop (k)))=G4 at h4 f4 ⊢
   refine⟨_,h4 _ _ f3,_,f4,aL (by rw[yd,yf,yw];show _+1+_≤_;lia),fun q5 hq5=>?_⟩
   have gT:=h1.trans (h2.trans (h3.trans h4))
   have g5:=gT.trans (ah hq5 (.lst (ut.take k++[wv]++ut.drop (k))))
   exact q q5 _ _ _ g5 (gT.free hq5) af (Paired.app2 (aP (de k (cm.mono g5 hR)) (hwr g5)) (fO k (cm.mono g5 hR))) .many
  rw[if_neg z1,u1];clear u1
  refine au fun U1 u1=>?_
  walk_at "rd"
  by_cases z2:w=2
  ·rw[if_pos z2]
   refine⟨_,SqL.of hl,fun q1 hq1=>?_⟩
   rw[bV]
   have h1:=ah hq1 (.lst (ut.take k))
   have f1:=af (H:=H) (a:=q1) (o:=.lst (ut.take k))
   generalize upd H q1 (.lst (ut.take k))=G1 at h1 f1 ⊢
   refine⟨by decide,fun q2 hq2=>?_⟩
   have h2:=ah hq2 (.lst [wv])
   have f2:=af (H:=G1) (a:=q2) (o:=.lst [wv])
   generalize upd G1 q2 (.lst [wv])=G2 at h2 f2 ⊢
   refine⟨_,h2 _ _ f1,_,f2,aL (by rw[yf];show _+1≤_;lia),fun q3 hq3=>?_⟩
   have h3:=ah hq3 (.lst (ut.take k++[wv]))
   have f3:=af (H:=G2) (a:=q3) (o:=.lst (ut.take k++[wv]))
   generalize upd G2 q3 (.lst (ut.take k++[wv]))=G3 at h3 f3 ⊢
   refine⟨_,SqL.of ((h1.trans (h2.trans h3)) _ _ hl),fun q4 hq4=>?_⟩
   rw[show((k:Int)+1)=((k+1:Nat):Int) by lia,cC]
   have h4:=ah hq4 (.lst (ut.drop (k+1)))
   have f4:=af (H:=G3) (a:=q4) (o:=.lst (ut.drop (k+1)))
   generalize upd G3 q4 (.lst (ut.drop (k+1)))=G4 at h4 f4 ⊢
   refine⟨_,h4 _ _ f3,_,f4,aL (by rw[yd,yf,yw];show _+1+_≤_;omega),fun q5 hq5=>?_⟩
   have gT:=h1.trans (h2.trans (h3.trans h4))
   have g5:=gT.trans (ah hq5 (.lst (ut.take k++[wv]++ut.drop (k+1))))
   exact q q5 _ _ _ g5 (gT.free hq5) af (Paired.app2 (aP (de k (cm.mono g5 hR)) (hwr g5)) (fO (k+1) (cm.mono g5 hR))) .wrong
  rw[if_neg z2,u1];clear u1
  have eT:=yb hk
  obtain⟨tv,etv,r,us,rfl,er,hRr⟩:=c6 hR eT
  obtain⟨t40,row,x,xs,erow,rfl⟩:=tt _ (yO hk)
  generalize tabs[k]=rows at eT hRr t40 erow
  have ul:=hRr.len
  refine au fun U1 u1=>?_
  walk_at "rd"
  refine⟨_,SqL.of hl,_,aR etv,r,rfl,⟨_,SqL.of er⟩,fun L hL=>bg (xs:=us) (fun i σ H'=>cr H L rows i H'∧∃v1,σ=[v1]) ⟨cr.start hL,none,rfl⟩ (fun i σ H' _ hh=>SqL.of (hh.1.same _ _ er)) ?_ ?_⟩
  ·rintro i v σ H' hx ⟨hc,v1,rfl⟩
   obtain⟨row,hrow,t',rfl,ht'⟩:=hRr.at' hx
   have hi:i<us.length:=(List.getElem?_eq_some_iff.mp hx).1
   walk_at "rd"
   exact⟨_,.inl (SqL.of (hc.same _ _ ht')),fun l hl=>hc.step hL hrow hl (by lia)⟩
  rintro σ H1 ⟨hc,v1,rfl⟩
  obtain⟨us1,g1,e1,hR1,nd1,fr1⟩:=hc.done ul
  rw[u1];clear u1
  refine au fun U1 u1=>?_
  walk_at "rd"
  obtain⟨t0,et0,qt0⟩:=hR1.get erow
  have ft:=fr1 t0 (yk et0)
  refine⟨_,SqL.of e1,_,aR (j:=0) et0,t0,rfl,_,qt0,0,jU (e:=0) (by rw[ya,yp];lia),?_⟩
  have hP:=Rows.put (row:=3::xs) hR1 nd1 et0
  have g2:=aI ft.2 g1 (.lst ((3::xs).map V.int))
  have e2:upd H1 t0 (.lst ((3::xs).map V.int)) L=some (.lst us1):=by rw[av (fun z=>ft.1 z.symm)];exact e1
  rw[show(List.map V.int (x::xs)).set 0 (V.int 3)=(3::xs).map V.int from rfl]
  generalize upd H1 t0 (.lst ((3::xs).map V.int))=H2 at hP g2 e2 ⊢
  rw[u1];clear u1
  walk_at "rd"
  refine⟨_,SqL.of (g2 _ _ hl),fun q1 hq1=>?_⟩
  rw[bV]
  have h1:=ah hq1 (.lst (ut.take k))
  have f1:=af (H:=H2) (a:=q1) (o:=.lst (ut.take k))
  generalize upd H2 q1 (.lst (ut.take k))=G1 at h1 f1 ⊢
  refine⟨by decide,fun q2 hq2=>?_⟩
  have h2:=ah hq2 (.lst [.ref L])
  have f2:=af (H:=G1) (a:=q2) (o:=.lst [.ref L])
  generalize upd G1 q2 (.lst [.ref L])=G2 at h2 f2 ⊢
  refine⟨_,h2 _ _ f1,_,f2,aL (by rw[yf];show _+1≤_;lia),fun q3 hq3=>?_⟩
  have h3:=ah hq3 (.lst (ut.take k++[.ref L]))
  have f3:=af (H:=G2) (a:=q3) (o:=.lst (ut.take k++[.ref L]))
  generalize upd G2 q3 (.lst (ut.take k++[.ref L]))=G3 at h3 f3 ⊢
  refine⟨_,SqL.of ((h1.trans (h2.trans h3)) _ _ (g2 _ _ hl)),fun q4 hq4=>?_⟩
  rw[show((k:Int)+1)=((k+1:Nat):Int) by lia,cC]
  have h4:=ah hq4 (.lst (ut.drop (k+1)))
  have f4:=af (H:=G3) (a:=q4) (o:=.lst (ut.drop (k+1)))
  generalize upd G3 q4 (.lst (ut.drop (k+1)))=G4 at h4 f4 ⊢
  refine⟨_,h4 _ _ f3,_,f4,aL (by rw[yd,yf,yw];show _+1+_≤_;omega),fun q5 hq5=>?_⟩
  have gT:=h1.trans (h2.trans (h3.trans h4))
  have g5:=gT.trans (ah hq5 (.lst (ut.take k++[.ref L]++ut.drop (k+1))))
  have g6:=g2.trans g5
  refine q q5 _ _ _ g6 (g2.free (gT.free hq5)) af (Paired.app2 (aP (de k (cm.mono g6 hR)) ⟨L,us1,rfl,g5 _ _ e2,hP.mono g5⟩) (fO (k+1) (cm.mono g6 hR))) (.odd _ x xs eT erow)
inductive zu_(K:PySem.W.Frag)(ζ:Cs)(vs:List V)(H:Hp)(Q:VK)(E:XK):Prop
 | mk (a l:Addr) (ns:List Int) (w:Int) (uv:List V) (ini:List Stp) (ws:List Tri) (_:vs=[.int w,.ref l,.ref a]) (_:SqL K H a (ns.map V.int)) (_:ns.length≤63) (_:H l=some (.lst uv)) (_:cn H uv (ini++[.sum ws])) (_:2≤ws.length) (_:ws.length≤9) (_:ini.length≤20) (_:∀(r:Addr) (uv':List V) (sts':List Stp) (H':Hp),aA H H'→H r=none→H' r=some (.lst uv')→cn H' uv' sts'→oC ini ws sts'→Q (.ref r) H'):zu_ K ζ vs H Q E
theorem zv_:aw ["_law_way","_law_paper_here","_law_script","_law_uses","_law_at"] ["_law_way","_law_paper_here","_law_script"] (ao zA_):=⟨rfl,rfl,rfl,k!,rfl,k!,k!⟩
theorem Ci{ζ:Cs}{f:Addr}{fd:FuncData}(F:Fun K "_law_spoilt_paper" "_law_spoilt_paper" zA_ f fd)(T:Txt K mg ζ)(za_:Cal P w K mg base "_law_cell" ["_law_script","_law_k"] 1 (zf_ K ζ)):aN P w K mg base CX0 2 f fd ["_law_way","_law_paper_here","_law_script"] (zu_ K ζ):=by
 refine F.ok zv_ (fun vs H Q E h=>?_) (fun cdv A outer s H vs Q E hr h=>?_)
 ·obtain⟨a,l,ns,w,uv,ini,ws,rfl,_⟩:=h
  rfl
 ·obtain⟨a,l,ns,w,uv,ini,ws,rfl,hS,hn,hl,hV,w2,w9,i20,q⟩:=h
  refine⟨_,(ak (aD (i:=3) zv_.nd rfl (Or.inl rfl) (aM bi (aM aW (pv 1) (dS cY aj) (fun _ _=>rfl)) aj (fun _ _=>rfl)))
  (ak (aD (i:=4) zv_.nd rfl (Or.inl rfl) (ax bc (ar za_ (hr.mono (by decide)) rfl (ae (pv 2) (ae aj ag))) (aC (aF (K:=K) rfl) (by rfl) T.len PySem.boot_len (ae (pv 3) ag))))
  (ak (bh (aK bW (pv 0) aj (aH _)) (am (ay (aQ bu (pv 1) bf (bd (dS cY aj))))) aJ)
  (am (ay (aY (ae (aV (ae bT (ae (ax rJ (aQ jW (pv 3) bf (bd (pv 4))) (aQ jW (pv 3) (bd (ax bz (pv 4) aj)) bf)) ag))) ag))))))),?_⟩
  obtain⟨uvi,v,rfl,hVi,hv⟩:=qN hV
  obtain⟨t,ut,us,rfl,et,eu,hT⟩:=hv
  have ul:=Paired.length hT
  refine au fun U1 u1=>?_
  walk_at "rd"
  refine⟨_,SqL.of hl,_,ly _ _,t,rfl,_,SqT.of et,_,rfl,?_⟩
  rw[u1];clear u1
  refine au fun U1 u1=>?_
  walk_at "rd"
  refine⟨a,ns,_,rfl,hS,hn,by decide,by decide,fun v=>?_⟩
  refine⟨_,.inr (SqT.of eu),v,rfl,by lia,?_⟩
  obtain⟨k,ek,hk⟩:∃k:Nat,v % (us.length:Int)=k∧k<us.length:=⟨(v % (us.length:Int)).toNat,by have:=yv v (b:=(us.length:Int)) (by lia);lia,by have:=yD v (b:=(us.length:Int)) (by lia);have:=yv v (b:=(us.length:Int)) (by lia);omega⟩
  rw[ek,u1];clear u1 ek
  walk_at "rd"
  by_cases z0:w=0
  ·rw[if_pos z0]
   refine⟨_,SqL.of hl,fun q1 hq1=>?_⟩
   rw[iq]
   exact q q1 uvi ini _ (ah hq1 _) hq1 af (cn.tmono (az (ah hq1 _)) hVi) .cut
  rw[if_neg z0]
  have c1:¬(HT.sIx us.length 0 none=0∧HT.sIx us.length us.length (some (k:Int))=us.length):=fun z=>by rw[HT.sIx_nat] at z;lia
  refine⟨_,SqT.of eu,c1,fun p1 hp1=>?_⟩
  clear c1
  rw[bV]
  have h1:=ah hp1 (.tup (us.take k))
  have f1:=af (H:=H) (a:=p1) (o:=.tup (us.take k))
  generalize upd H p1 (.tup (us.take k))=G1 at h1 f1 ⊢
  have c2:¬(HT.sIx us.length 0 (some ((k:Int)+1))=0∧HT.sIx us.length us.length none=us.length):=fun z=>by rw[show((k:Int)+1)=((k+1:Nat):Int) by lia,HT.sIx_nat] at z;lia
  refine⟨_,SqT.of (h1 _ _ eu),c2,fun p2 hp2=>?_⟩
  clear c2
  rw[show((k:Int)+1)=((k+1:Nat):Int) by lia,cC]
  have h2:=ah hp2 (.tup (us.drop (k+1)))
  have f2:=af (H:=G1) (a:=p2) (o:=.tup (us.drop (k+1)))
  generalize upd G1 p2 (.tup (us.drop (k+1)))=G2 at h2 f2 ⊢
  refine⟨_,h2 _ _ f1,_,f2,aL (by rw[yf,yw];omega),fun t2 H3 h3 e3=>⟨by decide,fun p3 hp3=>?_⟩⟩
  have h4:=ah hp3 (.tup [.str "sum",.ref t2])
  have f4:=af (H:=H3) (a:=p3) (o:=.tup [.str "sum",.ref t2])
  generalize upd H3 p3 (.tup [.str "sum",.ref t2])=G4 at h4 f4 ⊢
  refine⟨by decide,fun p4 hp4=>?_⟩
  have h5:=ah hp4 (.lst [.ref p3])
  have gT:=h1.trans (h2.trans (h3.trans (h4.trans h5)))
  exact q p4 _ [.sum (ws.take k++ws.drop (k+1))] _ gT ((h1.trans (h2.trans (h3.trans h4))).free hp4) af (.cons ⟨p3,t2,_,rfl,h5 _ _ f4,h5 _ _ (h4 _ _ e3),cU.tmono (az gT) (Paired.app2 (de k hT) (fO (k+1) hT))⟩ .nil) (.few k (by lia))
inductive xE(K:PySem.W.Frag)(ζ:Cs)(vs:List V)(H:Hp)(Q:VK)(E:XK):Prop
 | mk (a t wl:Addr) (ns:List Int) (c:ClD) (sts:List Stp) (ws:List Tri) (tm:Int) (uw:List V) (_:vs=[.ref a,.ref t,.int (c.N:Int),.ref wl]) (_:SqL K H a (ns.map V.int)) (_:ns.length≤63) (_:c.Ok) (_:1≤tm) (_:tm≤1000000000) (_:ws.Perm (c.us0 tm)) (_:Ppr c.X (c.ps.length+1) ws sts) (_:cX H t c.ns sts c.tbs) (_:H wl=some (.lst uw)) (_:cm H uw c.wrs) (_:∀(t':Addr) (ns':List Int) (sts':List Stp) (tabs':List (List (List Int))) (H':Hp),aA H H'→cX H' t' ns' sts' tabs'→jo ns' sts' tabs'→cz c.D c.hs c.ps c.ss ns' sts' tabs'=false→Q (.ref t') H'):xE K ζ vs H Q E
theorem ze_:aw ["_law_script","_law_told","_law_many","_law_wrong","_law_numbers","_law_paper_here","_law_rotas","_law_way","_law_at","_law_turned_here","_law_tables"] ["_law_script","_law_told","_law_many","_law_wrong"] (ao uW):=⟨rfl,rfl,rfl,k!,rfl,k!,k!⟩
theorem CG{ζ:Cs}{f:Addr}{fd:FuncData}(F:Fun K "_law_spoilt" "_law_spoilt" uW f fd)(T:Txt K mg ζ)(za_:Cal P w K mg base "_law_cell" ["_law_script","_law_k"] 1 (zf_ K ζ))(zaV_:Cal P w K mg base "_law_turned" ["_law_told","_law_at"] 2 (xy K ζ))(zJ_:Cal P w K mg base "_law_spoilt_set" ["_law_way","_law_numbers","_law_many","_law_at"] 1 (zD_ K ζ))(zw_:Cal P w K mg base "_law_spoilt_tables" ["_law_way","_law_rotas","_law_at","_law_wrong"] 1 (zq_ K ζ))(zB_:Cal P w K mg base "_law_spoilt_paper" ["_law_way","_law_paper_here","_law_script"] 2 (zu_ K ζ)):aN P w K mg base CX0 3 f fd ["_law_script","_law_told","_law_many","_law_wrong"] (xE K ζ):=by
 refine F.ok ze_ (fun vs H Q E h=>?_) (fun cdv A outer s H vs Q E hr h=>?_)
 ·obtain⟨a,t,wl,ns,c,sts,ws,tm,uw,rfl,_⟩:=h
  rfl
 ·obtain⟨a,t,wl,ns,c,sts,ws,tm,uw,rfl,hS,hn,o,t1,t2,pm,pp,hT,hw,hW,q⟩:=h
  refine⟨_,(ak (dH (aQ jW (pv 1) (bd aj) bf) (cx (n:=3) rfl (aB (aq (i:=4) ze_.nd rfl (Or.inl rfl)) (aB (aq (i:=5) ze_.nd rfl (Or.inl rfl)) (aB (aq (i:=6) ze_.nd rfl (Or.inl rfl)) bx)))))
  (ak (aD (i:=7) ze_.nd rfl (Or.inl rfl) (ax bc (ar za_ (hr.mono (by decide)) rfl (ae (pv 0) (ae aj ag))) aj))
  (ak (aD (i:=8) ze_.nd rfl (Or.inl rfl) (ax bc (ar za_ (hr.mono (by decide)) rfl (ae (pv 0) (ae aj ag))) (aC (aF (K:=K) rfl) (by rfl) T.len PySem.boot_len (ae (pv 4) ag))))
  (ak (bh (aK bW (pv 7) aj (aH _)) (am (ay (ar zaV_ (hr.mono (by decide)) rfl (ae (pv 1) (ae (pv 8) ag))))) aJ)
  (ak (bh (aK cR (pv 7) aj (aH _)) (ak (aD (i:=9) ze_.nd rfl (Or.inl rfl) (ar zJ_ (hr.mono (by decide)) rfl (ae (pv 7) (ae (pv 4) (ae (pv 2) (ae (pv 8) ag))))))
   (ak (aD (i:=10) ze_.nd rfl (Or.inl rfl) (ax bS (aQ bu (pv 6) bf (bd (aC (aF (K:=K) rfl) (by rfl) T.len PySem.boot_len (ae (pv 9) ag)))) (aQ bu (pv 6) bf (bd (aC (oN rfl) (by rfl) T.max PyProof.Rows.boot_max (ae aj (ae (ax cM (aC (aF (K:=K) rfl) (by rfl) T.len PySem.boot_len (ae (pv 9) ag)) (aC (aF (K:=K) rfl) (by rfl) T.len PySem.boot_len (ae (pv 6) ag))) ag)))))))
   (am (ay (aV (ae bT (ae (pv 9) (ae (pv 5) (ae (pv 10) ag))))))))) aJ)
  (ak (bh (aK cR (pv 7) aj (aH _)) (ak (aD (i:=10) ze_.nd rfl (Or.inl rfl) (ar zw_ (hr.mono (by decide)) rfl (ae (ax cM (pv 7) aj) (ae (pv 6) (ae (pv 8) (ae (aM aW (pv 3) (pv 8) (fun _ _=>rfl)) ag))))))
   (am (ay (aV (ae bT (ae (pv 4) (ae (pv 5) (ae (pv 10) ag)))))))) aJ)
  (am (ay (aV (ae bT (ae (pv 4) (ae (ar zB_ (hr.mono (by decide)) rfl (ae (ax cM (pv 7) aj) (ae (pv 5) (ae (pv 0) ag)))) (ae (pv 6) ag))))))))))))),?_⟩
  obtain⟨n,pl,rl,uv,ut,e1,e2,e3,e4,e5,e6⟩:=hT.ex
  refine au fun U1 u1=>?_
  walk_at "rd"
  refine⟨_,SqT.of e1,(by show ¬(HT.sIx 4 0 (some 1)=0∧HT.sIx 4 4 none=4);decide),fun q1 hq1=>?_⟩
  have ec:eJ [V.str "clash",.ref n,.ref pl,.ref rl] (some 1) none=[.ref n,.ref pl,.ref rl]:=rfl
  rw[ec];clear ec
  have h1:=ah hq1 (.tup [.ref n,.ref pl,.ref rl])
  have f1:=af (H:=H) (a:=q1) (o:=.tup [.ref n,.ref pl,.ref rl])
  generalize upd H q1 (.tup [.ref n,.ref pl,.ref rl])=G1 at h1 f1 ⊢
  refine⟨_,SqT.of f1,rfl,_,_,rfl,_,_,rfl,_,_,rfl,rfl,?_⟩
  rw[u1];clear u1
  refine au fun U1 u1=>?_
  walk_at "rd"
  refine⟨a,ns,_,rfl,h1.seq hS,hn,by decide,by decide,fun v=>⟨v,rfl,by decide,?_⟩⟩
  obtain⟨w,ew,w0,w1⟩:∃w:Int,v % 11=w∧0≤w∧w<11:=⟨_,rfl,by lia,by lia⟩
  rw[ew,u1];clear u1 ew
  refine au fun U1 u1=>?_
  walk_at "rd"
  refine⟨a,ns,_,rfl,h1.seq hS,hn,by decide,by decide,fun v=>⟨_,.inl (SqL.of (h1 _ _ e2)),v,rfl,by rw[ya,o.nsl];lia,?_⟩⟩
  rw[ya,o.nsl]
  obtain⟨k,ek,hk⟩:∃k:Nat,v % ((c.n+1:Nat):Int)=k∧k≤c.n:=⟨(v % ((c.n+1:Nat):Int)).toNat,by have:=yv v (b:=((c.n+1:Nat):Int)) (by omega);lia,by have:=yD v (b:=((c.n+1:Nat):Int)) (by lia);have:=yv v (b:=((c.n+1:Nat):Int)) (by omega);lia⟩
  rw[ek,u1];clear u1 ek
  refine au fun U1 u1=>?_
  walk_at "rd"
  by_cases z2:w=2
  ·rw[if_pos z2]
   obtain⟨ini,rfl,_,_⟩:=pp.last (by lia)
   refine⟨t,c.ns,ini,ws,c.tbs,k,rfl,hT.mono h1,o.tolB t1 t2 pm pp,by rw[o.nsl];have:=o.n1;lia,by rw[o.tbL,o.nsl],(fun u hu=>?_),fun t' j x y sts' tabs' H' g' hx hy hT' hB'=>q t' _ sts' tabs' H' (h1.trans g') hT' hB' (o.bad_swap hx hy _ _)⟩
   obtain⟨i,hi,rfl⟩:=List.mem_map.mp (pm.mem_iff.mp hu)
   have hi:=yu.mp hi
   exact⟨by show(0:Int)≤(i:Int);lia,by rw[o.nsl];show(i:Int)<_;lia⟩
  rw[if_neg z2,u1];clear u1
  refine au fun U1 u1=>ifs_ofK fun A1 a1=>?_
  walk_at "rd"
  by_cases z5:w<5
  ·rw[if_pos z5,a1];clear a1
   refine au fun U2 u2=>?_
   walk_at "rd"
   refine⟨n,c.ns,w,c.N,k,rfl,h1 _ _ e2,by rw[o.nsl];lia,by rw[o.nsl];have:=o.n8;lia,by unfold ClD.N;have:=o.n8;have:=o.el;lia,fun r ys H2 g2 hr2 er2 hB2=>?_⟩
   rw[u2];clear u2
   refine au fun U2 u2=>?_
   walk_at "rd"
   have utl:=Paired.length e6
   have tbL:=o.tbL
   have n8:=o.n8
   have tb:=o.tolB t1 t2 pm pp
   have yl:=hB2.len (by rw[o.nsl];lia)
   rw[o.nsl] at yl
   have h12:=h1.trans g2
   refine⟨_,.inl (SqL.of er2),_,SqL.of (h12 _ _ e5),fun p1 hp1=>?_⟩
   rw[ya,bV]
   have k1:=ah hp1 (.lst (ut.take ys.length))
   have f2:=af (H:=H2) (a:=p1) (o:=.lst (ut.take ys.length))
   generalize upd H2 p1 (.lst (ut.take ys.length))=G2 at k1 f2 ⊢
   refine⟨_,.inl (SqL.of (k1 _ _ er2)),_,.inl (SqL.of ((h12.trans k1) _ _ e5)),_,SqL.of ((h12.trans k1) _ _ e5),fun p2 hp2=>?_⟩
   have em:(if ((ys.map V.int).length:Int)-(ut.length:Int)>0 then ((ys.map V.int).length:Int)-(ut.length:Int) else 0)=((ys.length-c.tbs.length:Nat):Int):=by rw[ya];split <;> lia
   rw[em,bV]
   have k2:=ah hp2 (.lst (ut.take (ys.length-c.tbs.length)))
   have f3:=af (H:=G2) (a:=p2) (o:=.lst (ut.take (ys.length-c.tbs.length)))
   generalize upd G2 p2 (.lst (ut.take (ys.length-c.tbs.length)))=G3 at k2 f3 ⊢
   refine⟨_,k2 _ _ f2,_,f3,aL (by rw[yf,yf];omega),fun p3 hp3=>?_⟩
   have k3:=ah hp3 (.lst (ut.take ys.length++ut.take (ys.length-c.tbs.length)))
   have f4:=af (H:=G3) (a:=p3) (o:=.lst (ut.take ys.length++ut.take (ys.length-c.tbs.length)))
   generalize upd G3 p3 (.lst (ut.take ys.length++ut.take (ys.length-c.tbs.length)))=G4 at k3 f4 ⊢
   rw[u2];clear u2 em
   walk_at "rd"
   refine⟨by decide,fun p4 hp4=>?_⟩
   have k4:=ah hp4 (.tup [.str "clash",.ref r,.ref pl,.ref p3])
   have gK:=k1.trans (k2.trans (k3.trans k4))
   have gT:=h12.trans gK
   refine q p4 ys sts _ _ gT ⟨r,pl,p3,uv,_,af,gK _ _ er2,gT _ _ e3,cn.tmono (az gT) e4,k4 _ _ f4,cm.mono gT (Paired.app2 (de _ e6) (de _ e6))⟩ ⟨by lia,tb.sl,tb.su,by rw[yd,yf,yf];lia,fun T h=>?_⟩ (o.badSet pm (by lia) pp hk hB2)
   rcases List.mem_append.mp h with h | h
   ·exact o.tbT T (yY h)
   ·exact o.tbT T (yY h)
  rw[if_neg z5,u1];clear u1 a1
  refine au fun U1 u1=>ifs_ofK fun A1 a1=>?_
  walk_at "rd"
  have tb:=o.tolB t1 t2 pm pp
  by_cases z9:w<9
  ·rw[if_pos z9,a1];clear a1
   refine au fun U2 u2=>?_
   walk_at "rd"
   have kl:k<c.wrs.length:=by rw[o.wrL];lia
   have ekw:=yb kl
   obtain⟨wv,hwv,hwV⟩:=c6 hW ekw
   refine⟨_,SqL.of (h1 _ _ hw),wv,aR hwv,?_⟩
   have n8:=o.n8
   refine⟨rl,ut,c.tbs,wv,_,w-5,k,rfl,h1 _ _ e5,cm.mono h1 e6,(by obtain⟨r1,u1,e7,q7,w7⟩:=hwV;exact⟨r1,u1,e7,h1 _ _ q7,w7.mono h1⟩),by rw[o.tbL];lia,by rw[o.tbL];lia,o.tbF,fun r ut' tabs' H2 g2 hr2 er2 hR2 hB2=>?_⟩
   rw[u2];clear u2
   walk_at "rd"
   refine⟨by decide,fun p4 hp4=>?_⟩
   have k4:=ah hp4 (.tup [.str "clash",.ref n,.ref pl,.ref r])
   have gT:=h1.trans (g2.trans k4)
   obtain⟨b1,b2⟩:=hB2.ok (by rw[o.tbL];lia) o.tbT (o.wrT _ (yO kl))
   exact q p4 c.ns sts tabs' _ gT ⟨n,pl,r,uv,ut',af,gT _ _ e2,gT _ _ e3,cn.tmono (az gT) e4,k4 _ _ er2,cm.mono k4 hR2⟩ ⟨tb.nl,tb.sl,tb.su,b1,b2⟩ (o.badTab sts hk ekw hB2)
  rw[if_neg z9,u1];clear u1 a1
  walk_at "rd"
  obtain⟨ini,rfl,_,_⟩:=pp.last (by lia)
  have wl9:ws.length=c.n+1:=by rw[pm.length_eq];unfold ClD.us0;rw[ya,yo]
  have n8:=o.n8
  have n1:=o.n1
  have sl:=tb.sl
  rw[yd,yx] at sl
  refine⟨a,pl,ns,w-9,uv,ini,ws,rfl,h1.seq hS,hn,h1 _ _ e3,cn.tmono (az h1) e4,by lia,by lia,by lia,fun r uv' sts' H2 g2 hr2 er2 hS2 hB2=>⟨by decide,fun p4 hp4=>?_⟩⟩
  have k4:=ah hp4 (.tup [.str "clash",.ref n,.ref r,.ref rl])
  have gT:=h1.trans (g2.trans k4)
  obtain⟨b1,b2⟩:=hB2.ok tb.su tb.sl
  exact q p4 c.ns sts' c.tbs _ gT ⟨n,r,rl,uv',ut,af,gT _ _ e2,k4 _ _ er2,cn.tmono (az k4) hS2,gT _ _ e5,cm.mono gT e6⟩ ⟨tb.nl,b1,b2,tb.tl,tb.tt⟩ (o.badPap t1 pm (by lia) pp _ hB2)
noncomputable def jQ(K:PySem.W.Frag):Sp:=fun vs H Q _=>∃(a:Addr) (ns:List Int),vs=[.ref a]∧SqL K H a (ns.map V.int)∧ns.length≤63∧∀H',Q (.bl true) H'
theorem bB:aw ["_law_script","_law_hands","_law_days","_law_posts","_law_day","_law_post","_law_sets_here","_law_rules_here","_law_order_here","_law_skills","_law_ward","_law_numbers","_law_at","_law_spots","_law_paper_here","_law_rotas","_law_wrong","_law_number","_law_terms","_law_told","_law_hand","_law_rota","_law_rest","_law_odd"] ["_law_script"] (ao pY):=⟨rfl,rfl,rfl,k!,rfl,k!,k!⟩
theorem vW{ζ:Cs}{f:Addr}{fd:FuncData}(F:Fun K "law" "law" pY f fd)(T:Txt K mg ζ)(zbL_:Cal P w K mg base "_law_sizes" ["_law_script"] 2 (xW K ζ))(zck_:Cal P w K mg base "_law_sets" ["_law_script","_law_hands","_law_day"] 2 (xR K ζ))(zbM_:Cal P w K mg base "_law_rules" ["_law_script","_law_hands","_law_day","_law_post","_law_sets_here"] 3 (uV K ζ))(zbN_:Cal P w K mg base "_law_order" ["_law_script","_law_many"] 2 (xg K ζ))(I_Ward:kU P w K mg base "Ward" ζ.a ["self","days","hands","posts"] 4 (zU_ K ζ))(zbO_:Cal P w K mg base "_law_paper" ["_law_script","_law_numbers","_law_order_here","_law_sets_here","_law_day","_law_spots","_law_choices"] 2 (wK K ζ))(zaq_:kU P w K mg base "Terms" ζ.b ["self","ward","rules"] 5 (zo_ K ζ))(zr_:Cal P w K mg base "_law_table" ["_law_hands","_law_days","_law_hand","_law_day","_law_post"] 1 (zv K ζ))(zaj_:Cal P w K mg base "_law_no_table" ["_law_rota","_law_cell_here","_law_posts"] 1 (zW_ K ζ))(za_:Cal P w K mg base "_law_cell" ["_law_script","_law_k"] 1 (zf_ K ζ))(zav_:Cal P w K mg base "_law_says" ["_law_terms","_law_told","_law_due"] 11 (xm K ζ))(zm_:Cal P w K mg base "_law_rota_says" ["_law_terms","_law_rota","_law_due"] 11 (zI_ K ζ))(zaW_:Cal P w K mg base "_law_spoilt" ["_law_script","_law_told","_law_many","_law_wrong"] 3 (xE K ζ))(zg_:Cal P w K mg base "is_clash" ["terms","told"] 10 (zM_ K ζ)):aN P w K mg base CX0 12 f fd ["_law_script"] (jQ K):=by
 refine F.ok bB (fun vs H Q E h=>?_) (fun cdv A outer s H vs Q E hr h=>?_)
 ·obtain⟨a,ns,rfl,_⟩:=h
  rfl
 ·obtain⟨a,ns,rfl,hS,hn,q⟩:=h
  refine⟨_,(ak (dH (ar zbL_ (hr.mono (by decide)) rfl (ae (pv 0) ag)) (cx (n:=3) rfl (aB (aq (i:=1) bB.nd rfl (Or.inr rfl)) (aB (aq (i:=2) bB.nd rfl (Or.inl rfl)) (aB (aq (i:=3) bB.nd rfl (Or.inl rfl)) bx)))))
  (ak (aD (i:=4) bB.nd rfl (Or.inl rfl) (ax bc (ar za_ (hr.mono (by decide)) rfl (ae (pv 0) (ae aj ag))) (pv 2)))
  (ak (aD (i:=5) bB.nd rfl (Or.inl rfl) (ax bz aj (ax bc (ax dv (ar za_ (hr.mono (by decide)) rfl (ae (pv 0) (ae aj ag))) aj) (pv 3))))
  (ak (aD (i:=6) bB.nd rfl (Or.inl rfl) (ar zck_ (hr.mono (by decide)) rfl (ae (pv 0) (ae (pv 1) (ae (pv 4) ag)))))
  (ak (aD (i:=7) bB.nd rfl (Or.inr rfl) (ar zbM_ (hr.mono (by decide)) rfl (ae (pv 0) (ae (pv 1) (ae (pv 4) (ae (pv 5) (ae (pv 6) ag)))))))
  (ak (aD (i:=8) bB.nd rfl (Or.inr rfl) (ar zbN_ (hr.mono (by decide)) rfl (ae (pv 0) (ae (aC (aF (K:=K) rfl) (by rfl) T.len PySem.boot_len (ae (pv 7) ag)) ag))))
  (ak (da (i:=9) bB.nd rfl rfl (own:=["_law_k"]) (fnames:=["_law_script"]) (fr:=[0]) (N':=["_law_k","_law_script"]) ⟨rfl,rfl,rfl,rfl,rfl,rfl,rfl⟩ rfl (bE rfl T.range (ae (pv 1) ag)) (fun s0 H0 fp0 C0=>⟨(aq (i:=0) (by show(["_law_k","_law_script"]:List Str).Nodup;decide +kernel) rfl (Or.inl rfl)),bo,(ax bc (ar za_ (hr.mono (by decide)) rfl (ae (pv 1) (ae (ax bz aj (pv 0)) ag))) (ax eX aj aj))⟩))
  (ak (aD (i:=10) bB.nd rfl (Or.inl rfl) (c7 I_Ward (hr.mono (by decide)) rfl (ae (pv 2) (ae (pv 9) (ae (aQ bu (aY (ae (aV (ae aj (ae aj (ae aj ag)))) (ae (aV (ae aj (ae aj (ae aj ag)))) ag))) bf (bd (pv 3))) ag)))))
  (ak (da (i:=11) bB.nd rfl rfl (own:=["_law_k"]) (fnames:=["_law_hands","_law_order_here"]) (fr:=[1,8]) (N':=["_law_k","_law_hands","_law_order_here"]) ⟨rfl,rfl,rfl,rfl,rfl,rfl,rfl⟩ rfl (bE rfl T.range (ae (aC (aF (K:=K) rfl) (by rfl) T.len PySem.boot_len (ae (pv 8) ag)) ag)) (fun s0 H0 fp0 C0=>⟨(aq (i:=0) (by show(["_law_k","_law_hands","_law_order_here"]:List Str).Nodup;decide +kernel) rfl (Or.inl rfl)),(dA (aK cu (aM (fz (K:=K) rfl) (pv 2) (pv 0) (fun _ _=>rfl)) (pv 1) (aH _))),(pv 0)⟩))
  (ak (aD (i:=12) bB.nd rfl (Or.inr rfl) (aM aW (aY (ae (pv 4) (ae (ax bc (ax dv (ar za_ (hr.mono (by decide)) rfl (ae (pv 0) (ae aj ag))) aj) (pv 2)) ag))) (ax bc (ar za_ (hr.mono (by decide)) rfl (ae (pv 0) (ae aj ag))) aj) (fun _ _=>rfl)))
  (ak (da (i:=13) bB.nd rfl rfl (own:=["_law_hand"]) (fnames:=["_law_at"]) (fr:=[12]) (N':=["_law_hand","_law_at"]) ⟨rfl,rfl,rfl,rfl,rfl,rfl,rfl⟩ rfl (bE rfl T.range (ae (pv 1) ag)) (fun s0 H0 fp0 C0=>⟨(aq (i:=0) (by show(["_law_hand","_law_at"]:List Str).Nodup;decide +kernel) rfl (Or.inl rfl)),bo,(aV (ae (pv 0) (ae (pv 1) ag)))⟩))
  (ak (aD (i:=14) bB.nd rfl (Or.inl rfl) (ar zbO_ (hr.mono (by decide)) rfl (ae (pv 0) (ae (pv 11) (ae (pv 8) (ae (pv 6) (ae (pv 4) (ae (pv 13) (ae (ax bz (pv 3) aj) ag)))))))))
  (ak (aD (i:=15) bB.nd rfl (Or.inl rfl) (aY ag))
  (ak (aD (i:=16) bB.nd rfl (Or.inl rfl) (aY ag))
  (ak (bY PassesOwn.never rfl (bG (pv 11)) (aq (i:=17) bB.nd rfl (Or.inl rfl))
   (ak (bO (dD PySem.F.plainAttrs_list PySem.F.slot_list_append PySem.F.type_list_append b5 (pv 15) (ae (ar zr_ (hr.mono (by decide)) rfl (ae (pv 1) (ae (pv 2) (ae (ax cM (aM aW (pv 8) (pv 17) (fun _ _=>rfl)) aj) (ae (pv 4) (ae (pv 5) ag)))))) ag)))
    (am (bO (dD PySem.F.plainAttrs_list PySem.F.slot_list_append PySem.F.type_list_append b5 (pv 16) (ae (ar zr_ (hr.mono (by decide)) rfl (ae (pv 1) (ae (pv 2) (ae (ax cM aj (aS oq (by rfl) T.int PyProof.Rows.boot_int (ae (bJ gx (aM aW (pv 8) (pv 17) (fun _ _=>rfl)) aj (aH _)) ag))) (ae (pv 4) (ae (pv 5) ag)))))) ag))))))
  (ak (aD (i:=18) bB.nd rfl (Or.inl rfl) (c7 zaq_ (hr.mono (by decide)) rfl (ae (pv 10) (ae (bp (own:=["_law_k"]) (fnames:=["_law_rules_here"]) (fr:=[7]) (N':=["_law_k","_law_rules_here"]) ⟨rfl,rfl,rfl,rfl,rfl,rfl,rfl⟩ rfl (bG (pv 8)) (fun s0 H0 fp0 C0=>⟨(aq (i:=0) (by show(["_law_k","_law_rules_here"]:List Str).Nodup;decide +kernel) rfl (Or.inl rfl)),bo,(aM (fz (K:=K) rfl) (pv 1) (pv 0) (fun _ _=>rfl))⟩)) ag))))
  (ak (aD (i:=19) bB.nd rfl (Or.inl rfl) (aV (ae bT (ae (pv 11) (ae (pv 14) (ae (pv 15) ag))))))
  (ak (bh (cG (b8 (ar zav_ (hr.mono (by decide)) rfl (ae (pv 18) (ae (pv 19) (ae cF ag)))))) (am (ay cF)) aJ)
  (ak (bh (cG (b8 (ar zav_ (hr.mono (by decide)) rfl (ae (pv 18) (ae (ar zaW_ (hr.mono (by decide)) rfl (ae (pv 0) (ae (pv 19) (ae (aC (aF (K:=K) rfl) (by rfl) T.len PySem.boot_len (ae (pv 7) ag)) (ae (pv 16) ag))))) (ae cF ag)))))) (am (ay cF)) aJ)
  (ak (aD (i:=20) bB.nd rfl (Or.inl rfl) (ax cM (ax bc (ar za_ (hr.mono (by decide)) rfl (ae (pv 0) (ae aj ag))) (ax bz (pv 1) aj)) aj))
  (ak (aD (i:=21) bB.nd rfl (Or.inl rfl) (ar zr_ (hr.mono (by decide)) rfl (ae (pv 1) (ae (pv 2) (ae (pv 20) (ae (pv 4) (ae (pv 5) ag)))))))
  (ak (aD (i:=22) bB.nd rfl (Or.inl rfl) (c7 zaq_ (hr.mono (by decide)) rfl (ae (pv 10) (ae (bp (own:=["_law_k"]) (fnames:=["_law_rules_here"]) (fr:=[7]) (N':=["_law_k","_law_rules_here"]) ⟨rfl,rfl,rfl,rfl,rfl,rfl,rfl⟩ rfl (bG (pv 8)) (fun s0 H0 fp0 C0=>⟨(aq (i:=0) (by show(["_law_k","_law_rules_here"]:List Str).Nodup;decide +kernel) rfl (Or.inl rfl)),(dA (aK gx (pv 0) aj (aH _))),(aM (fz (K:=K) rfl) (pv 1) (pv 0) (fun _ _=>rfl))⟩)) ag))))
  (ak (bh (PW.pt (gn (cG (b8 (ar zm_ (hr.mono (by decide)) rfl (ae (pv 18) (ae (pv 21) (ae cF ag)))))) (dW (cG (b8 (ar zm_ (hr.mono (by decide)) rfl (ae (pv 22) (ae (pv 21) (ae (bJ cR (pv 20) aj (aH _)) ag))))))))) (am (ay cF)) aJ)
  (ak (aD (i:=23) bB.nd rfl (Or.inl rfl) (ar zaj_ (hr.mono (by decide)) rfl (ae (ar zr_ (hr.mono (by decide)) rfl (ae (pv 1) (ae (pv 2) (ae (dS cY aj) (ae aj (ae aj ag)))))) (ae (ar za_ (hr.mono (by decide)) rfl (ae (pv 0) (ae aj ag))) (ae (pv 3) ag)))))
  (ak (bh (cG (b8 (ar zm_ (hr.mono (by decide)) rfl (ae (pv 22) (ae (pv 23) (ae cF ag)))))) (am (ay cF)) aJ)
  (am (ay (bM (bJ rb (ar zg_ (hr.mono (by decide)) rfl (ae (pv 18) (ae (aV (ae bT ag)) ag))) cF (aH _)) (cp (bJ rb (ar zg_ (hr.mono (by decide)) rfl (ae (pv 22) (ae (aV (ae bT ag)) ag))) cF (aH _))))))))))))))))))))))))))))))),?_⟩
  refine au fun U1 u1=>?_
  walk_at "rd"
  refine⟨a,ns,rfl,hS,hn,fun t n D P H1 g1 e1 n1 n8 D1 D31 P1 P2=>?_⟩
  refine⟨_,rfl,_,SqT.of e1,rfl,_,_,rfl,_,_,rfl,_,_,rfl,rfl,?_⟩
  rw[u1];clear u1
  refine au fun U1 u1=>?_
  walk_at "rd"
  refine⟨a,ns,_,rfl,g1.seq hS,hn,by decide,by decide,fun v=>?_⟩
  refine⟨v,rfl,by lia,?_⟩
  obtain⟨day,eday,hday⟩:∃day:Nat,v % (D:Int)=day∧day<D:=⟨(v % (D:Int)).toNat,by have:=yv v (b:=(D:Int)) (by lia);lia,by have:=yD v (b:=(D:Int)) (by lia);have:=yv v (b:=(D:Int)) (by lia);lia⟩
  rw[eday,u1];clear u1 eday
  refine au fun U1 u1=>?_
  walk_at "rd"
  refine⟨a,ns,_,rfl,g1.seq hS,hn,by decide,by decide,fun v=>⟨v,rfl,⟨by decide,by decide⟩,by lia,?_⟩⟩
  obtain⟨p,ep,p1,p2⟩:∃p:Int,1+v / 2 % (P:Int)=p∧1≤p∧p≤(P:Int):=⟨_,rfl,by have:=yv (v / 2) (b:=(P:Int)) (by lia);lia,by have:=yD (v / 2) (b:=(P:Int)) (by lia);lia⟩
  rw[ep,u1];clear u1 ep
  refine au fun U1 u1=>?_
  walk_at "rd"
  refine⟨a,ns,n,day,rfl,g1.seq hS,hn,n8,by lia,fun sb bs H2 g2 hsb0 esb bl hb=>?_⟩
  rw[u1];clear u1
  refine au fun U1 u1=>?_
  walk_at "rd"
  refine⟨a,sb,ns,bs,n,day,P,p,rfl,(g1.trans g2).seq hS,hn,n1,n8,p1,p2,esb,bl,fun rr us ex H3 g3 hrr0 err hR el he=>?_⟩
  rw[u1];clear u1
  have ul:=Paired.length hR
  rw[ClD.rls_len] at ul
  change us.length=1+n+ex.length at ul
  refine au fun U1 u1=>?_
  walk_at "rd"
  have g13:=g1.trans (g2.trans g3)
  refine⟨_,.inl (SqL.of err),a,ns,us.length,rfl,g13.seq hS,hn,by lia,fun ro os H4 g4 hro0 ero pm=>?_⟩
  rw[u1];clear u1
  refine au fun U1 u1=>?_
  walk_at "rd"
  have g14:=g13.trans g4
  refine⟨by lia,by lia,fun L hL=>bw (fun i σ H'=>∃hs:List Int,H'=upd H4 L (.lst (hs.map V.int))∧hs.length=i∧(∀h∈hs,0≤h∧h<1073741824)∧∃v0,σ=[v0,some (.ref a)]) ⟨[],rfl,rfl,(fun b z=>by cases z),none,rfl⟩ ?_ ?_⟩
  ·rintro i σ H' hi ⟨hs,rfl,hl,hsk,v0,rfl⟩
   rw[show(0+(i:Int))=i by lia]
   have gp:=ah hL (.lst (hs.map V.int))
   walk_at "rd"
   refine⟨a,ns,_,rfl,(g14.trans gp).seq hS,hn,by lia,by lia,fun v=>⟨⟨by decide,by decide,by decide⟩,v,rfl,by decide,_,af,aE (by rw[ya];lia),?_⟩⟩
   have e30:(2:Int) ^ Int.toNat 30=1073741824:=by decide
   rw[e30]
   have m0:=yv v (b:=(1073741824:Int)) (by decide)
   have m1:=yD v (b:=(1073741824:Int)) (by decide)
   refine⟨hs++[_],by rw[cf,yg];rfl,by rw[yd,hl];rfl,fun b hb'=>?_⟩
   rcases List.mem_append.mp hb' with z | z
   ·exact hsk b z
   ·rw[List.mem_singleton.mp z]
    exact⟨m0,m1⟩
  rintro σ H5 ⟨hs,rfl,hl,hsk,v0,rfl⟩
  have g5:=ah hL (.lst (hs.map V.int))
  have eL:=af (H:=H4) (a:=L) (o:=.lst (hs.map V.int))
  generalize upd H4 L (.lst (hs.map V.int))=H5 at g5 eL ⊢
  rw[yh] at hl
  rw[u1];clear u1
  refine au fun U1 u1=>?_
  walk_at "rd"
  refine⟨by decide,fun w1 hw1=>?_⟩
  have s1:=ah hw1 (.tup [V.int 0,V.int 8,V.int 1])
  have c1:=af (H:=H5) (a:=w1) (o:=.tup [V.int 0,V.int 8,V.int 1])
  generalize upd H5 w1 (.tup [V.int 0,V.int 8,V.int 1])=H6 at s1 c1 ⊢
  refine⟨by decide,fun w2 hw2=>?_⟩
  have s2:=ah hw2 (.tup [V.int 0,V.int 5,V.int 0])
  have c2:=af (H:=H6) (a:=w2) (o:=.tup [V.int 0,V.int 5,V.int 0])
  generalize upd H6 w2 (.tup [V.int 0,V.int 5,V.int 0])=H7 at s2 c2 ⊢
  refine⟨by decide,fun w3 hw3=>?_⟩
  have s3:=ah hw3 (.lst [V.ref w1,V.ref w2])
  have c3:=af (H:=H7) (a:=w3) (o:=.lst [V.ref w1,V.ref w2])
  generalize upd H7 w3 (.lst [V.ref w1,V.ref w2])=H8 at s3 c3 ⊢
  refine⟨_,SqL.of c3,fun w4 hw4=>?_⟩
  rw[bV]
  have s4:=ah hw4 (.lst ([V.ref w1,V.ref w2].take P))
  have c4:=af (H:=H8) (a:=w4) (o:=.lst ([V.ref w1,V.ref w2].take P))
  have hP0:cQ (upd H8 w4 (.lst ([V.ref w1,V.ref w2].take P))) ([V.ref w1,V.ref w2].take P) (fh.take P):=de P (.cons ⟨w1,rfl,(s2.trans (s3.trans s4)) _ _ c1⟩ (.cons ⟨w2,rfl,(s3.trans s4) _ _ c2⟩ .nil))
  generalize upd H8 w4 (.lst ([V.ref w1,V.ref w2].take P))=H9 at s4 c4 hP0 ⊢
  have g59:=s1.trans (s2.trans (s3.trans s4))
  obtain⟨ps,eps,pl,pown,pok⟩:∃ps:List Pst,fh.take P=ps∧ps.length=P∧(∀h,ch h ps=0::bN ps)∧∀q∈ps,okP q:=⟨_,rfl,Ae P2,zQ P2,zG⟩
  rw[eps] at hP0
  intro y dy hy hdy ny
  have s0:aA H9 (upd (upd H9 dy (.own y)) y (.ins ζ.a dy [])):=fun b o hb=>by rw[av (aG hb hy),av (aG hb hdy)];exact hb
  have okw:Ok (D:Int) hs ps:=⟨by lia,by lia,hsk,by lia,pok,by lia⟩
  refine⟨y,dy,L,w4,D,hs,_,ps,rfl,af,SqL.of (s0 _ _ (g59 _ _ eL)),SqL.of (s0 _ _ c4),hP0.mono s0,okw,fun H10 fr hW=>⟨rfl,?_⟩⟩
  have g10:aA H9 H10:=fun b o hb=>fr b o (s0 b o hb) (aG hb hy)
  clear fr s0 hy hdy ny hP0 c4 s4 s3 c3 s2 c2 s1 c1 hw1 hw2 hw3 hw4 eps pok
  subst pl
  have pm2:os.Perm (List.range (1+n+ex.length)):=by rw[← ul];exact pm
  obtain⟨c,rfl,rfl,rfl,rfl,rfl,rfl,rfl,rfl,rfl⟩:∃c:ClD,c.n=n∧c.D=D∧c.day=day∧c.post=p∧c.bs=bs∧c.ex=ex∧c.os=os∧c.hs=hs∧c.ps=ps:=⟨⟨n,D,day,p,bs,ex,os,hs,ps⟩,rfl,rfl,rfl,rfl,rfl,rfl,rfl,rfl,rfl⟩
  have o:c.Ok:=⟨n1,n8,D1,D31,P1,P2,hday,p1,p2,bl,hb,el,he,pm2,hl,pown⟩
  have hR:cy (dE ζ.c ζ.d ζ.e) c.ps.length H3 us c.rls:=hR
  clear n1 n8 D1 D31 P1 P2 hday p1 p2 bl hb el he pm2 hl pown hsk
  have g410:=g5.trans (g59.trans g10)
  have g310:=g4.trans g410
  have esb:=(g3.trans g310) _ _ esb
  have err:=g310 _ _ err
  have hR:=cy.mono g310 hR
  have ero:=g410 _ _ ero
  have gA:=g14.trans (g5.trans (g59.trans g10))
  clear g410 g310 g5 g59 g10 g4 g3 g2 g1 g13 g14 e1 eL
  rw[u1];clear u1
  refine au fun U1 u1=>?_
  walk_at "rd"
  have ol:c.os.length≤12:=by rw[o.len];unfold ClD.N;have:=o.n8;have:=o.el;lia
  have oll:((c.os.map fun x:Nat=>(x:Int)).map V.int).length=c.os.length:=by rw[ya,ya]
  refine⟨_,.inl (SqL.of ero),by lia,by lia,fun M hM=>bw (fun i σ H'=>aA H10 H'∧H' M=some (.lst ((nsI c i).map V.int))∧∃v0,σ=[v0,some (.int (c.n:Int)),some (.ref ro)]) ⟨ah hM _,af,none,rfl⟩ ?_ ?_⟩
  ·rintro i σ H' hi ⟨g,e,v0,rfl⟩
   rw[show(0+(i:Int))=i by lia]
   have hi:i<c.os.length:=by lia
   have eo:=yb hi
   have eg:c.os.getD i 0=c.os[i]:=by rw[yz,eo];rfl
   have nl:=tQ c i
   walk_at "rd"
   refine⟨_,SqL.of (g _ _ ero),V.int ((c.os.getD i 0:Nat):Int),aR (by rw[yc,yc,eo,eg];rfl),_,rfl,?_⟩
   rw[p8]
   by_cases z:c.os.getD i 0≤c.n
   ·rw[if_pos (by lia),if_pos z]
    refine⟨_,e,aE (by rw[ya];lia),aI hM g _,?_⟩
    rw[af,yg]
    rfl
   ·rw[if_neg (by lia),if_neg z,yI]
    exact⟨g,e⟩
  rintro σ H11 ⟨g11,eM,v0,rfl⟩
  rw[oll,yh,rZ] at eM
  have esb:=g11 _ _ esb
  have err:=g11 _ _ err
  have hR:=cy.mono g11 hR
  have ero:=g11 _ _ ero
  have gA:=gA.trans g11
  have hW:=hW.mono g11
  clear g11
  rw[u1];clear u1
  refine au fun U1 u1=>?_
  walk_at "rd"
  refine⟨a,ns,_,rfl,gA.seq hS,hn,by decide,by decide,fun v=>⟨v,rfl,⟨by decide,by decide⟩,by have:=o.D1;lia,by decide,fun p1 hp1=>?_⟩⟩
  have k1:=ah hp1 (.lst [V.int (c.day:Int),V.int (v / 2 % (c.D:Int))])
  have f1:=af (H:=H11) (a:=p1) (o:=.lst [V.int (c.day:Int),V.int (v / 2 % (c.D:Int))])
  generalize upd H11 p1 (.lst [V.int (c.day:Int),V.int (v / 2 % (c.D:Int))])=J1 at k1 f1 ⊢
  refine⟨a,ns,_,rfl,(gA.trans k1).seq hS,hn,by decide,by decide,fun w=>⟨w,rfl,by decide,_,SqL.of f1,?_⟩⟩
  obtain⟨at',eat,hat⟩:∃at':Nat,atI [V.int (c.day:Int),V.int (v / 2 % (c.D:Int))] (w % 2)=some (.int (at':Int))∧at'<c.D:=by
   have D1:=o.D1
   have m0:=yv (v / 2) (b:=(c.D:Int)) (by lia)
   have m1:=yD (v / 2) (b:=(c.D:Int)) (by lia)
   obtain z | z:w % 2=0∨w % 2=1:=by lia
   ·exact⟨c.day,by rw[z];rfl,o.day⟩
   ·exact⟨(v / 2 % (c.D:Int)).toNat,by rw[z,yR m0];rfl,by lia⟩
  refine⟨_,eat,?_⟩
  clear eat f1 hp1
  replace esb:=k1 _ _ esb
  replace err:=k1 _ _ err
  replace hR:=cy.mono k1 hR
  replace ero:=k1 _ _ ero
  replace eM:=k1 _ _ eM
  replace gA:=gA.trans k1
  replace hW:=hW.mono k1
  clear k1
  rw[u1];clear u1
  refine au fun U1 u1=>?_
  walk_at "rd"
  have n8:=o.n8
  refine⟨by lia,by lia,fun S hSp=>bw (fun i σ H'=>SpI J1 S at' i H'∧∃v0,σ=[v0,some (.int (at':Int))]) ⟨SpI.start hSp,none,rfl⟩ ?_ ?_⟩
  ·rintro i σ H' hi ⟨sI,v0,rfl⟩
   rw[show(0+(i:Int))=i by lia]
   walk_at "rd"
   exact⟨by decide,fun t ht=>sI.step hSp (by lia) ht⟩
  rintro σ J2 ⟨sI,v0,rfl⟩
  rw[yh] at sI
  obtain⟨us2,k2,eS,hP2⟩:=sI.ex
  replace esb:=k2 _ _ esb
  replace err:=k2 _ _ err
  replace hR:=cy.mono k2 hR
  replace ero:=k2 _ _ ero
  replace eM:=k2 _ _ eM
  replace gA:=gA.trans k2
  replace hW:=hW.mono k2
  clear k2 hSp sI
  rw[u1];clear u1
  refine au fun U1 u1=>?_
  walk_at "rd"
  refine⟨a,M,ro,sb,S,ns,c,us2,at',rfl,gA.seq hS,hn,o,eM,ero,esb,eS,hP2,hat,fun pp uv sts ws tm J3 k3 hpp0 epp hSt t1 t2 pm3 ppr=>?_⟩
  replace esb:=k3 _ _ esb
  replace err:=k3 _ _ err
  replace hR:=cy.mono k3 hR
  replace ero:=k3 _ _ ero
  replace eM:=k3 _ _ eM
  replace gA:=gA.trans k3
  replace hW:=hW.mono k3
  clear k3 eS hP2 hat hpp0
  rw[u1];clear u1
  refine au fun U1 u1=>?_
  walk_at "rd"
  refine⟨yH _,fun A hA=>?_⟩
  have k4:=ah hA (.lst [])
  have f4:=af (H:=J3) (a:=A) (o:=.lst [])
  generalize upd J3 A (.lst [])=J4 at k4 f4 ⊢
  rw[u1];clear u1
  refine au fun U1 u1=>?_
  walk_at "rd"
  refine⟨yH _,fun B hB=>?_⟩
  have k5:=ah hB (.lst [])
  have f5:=af (H:=J4) (a:=B) (o:=.lst [])
  generalize upd J4 B (.lst [])=J5 at k5 f5 ⊢
  rw[u1];clear u1
  refine au fun U1 u1=>cq fun B1 b1=>?_
  walk_at "rd"
  have k35:=k4.trans k5
  have hAB:A≠B:=fun z=>by rw[z,hB] at f4;cases f4
  refine⟨⟨_,SqL.of (k35 _ _ eM)⟩,bg (xs:=c.ns.map V.int) (fun i σ H'=>aA J3 H'∧RoG [A,B] A ((c.cs.take i).map c.tb) H'∧RoG [A,B] B ((c.cs.take i).map c.wr) H'∧∃v17,σ=[some (.ref a),some (.int (c.n:Int)),some (.int (c.D:Int)),some (.int (c.ps.length:Int)),some (.int (c.day:Int)),some (.int c.post),some (.ref sb),some (.ref rr),some (.ref ro),some (.ref L),some (.ref y),some (.ref M),some (.int (at':Int)),some (.ref S),some (.ref pp),some (.ref A),some (.ref B),v17,none,none,none,none,none,none]) ⟨k35,⟨[],k5 _ _ f4,.nil⟩,⟨[],f5,.nil⟩,none,rfl⟩ (fun i σ H' _ hh=>SqL.of (hh.1 _ _ eM)) ?_ ?_⟩
  ·rintro i v σ H' hv ⟨g,rA,rB,v17,rfl⟩
   have hi:i<c.n+1:=by rw[← o.nsl];have:=(List.getElem?_eq_some_iff.mp hv).1;rw[ya] at this;exact this
   obtain⟨k,kn1,kn2,kn3,kn4⟩:=o.nsK (show i≤c.n by lia)
   rw[yc,kn2] at hv
   cases hv
   obtain⟨c1,c2⟩:=o.csG (show i≤c.n by lia)
   have eo:atI ((c.os.map fun x:Nat=>(x:Int)).map V.int) (k:Int)=some (.int ((c.cs.getD i 0:Nat):Int)):=aR (by rw[yc,yc,kn4];rfl)
   have D1:=o.D1
   have D31:=o.D31
   have hd:=o.day
   have cl:=o.csL
   rw[b1]
   refine au fun U2 u2=>?_
   walk_at "rd"
   obtain⟨uA,eA,_⟩:=rA.ex
   obtain⟨uB,eB,_⟩:=rB.ex
   refine⟨.inl ⟨rfl,_,SqL.of eA⟩,_,SqL.of (g _ _ ero),_,eo,_,rfl,?_⟩
   refine⟨c.n,c.D,_,c.day,c.post,rfl,n8,D31,D1,by lia,hd,fun r1 ur1 I1 m1 hr1 er1 hR1 nd1 fr1=>?_⟩
   have tl:((c.cs.take i).map c.tb).length≤900:=by rw[ya,yf];lia
   obtain⟨xs,x1,x2,x3⟩:=(rA.mono m1).step (rows:=c.tb (c.cs.getD i 0)) yq tl (eO.of hr1 er1 hR1 fr1 fun X hX=>by
    rcases List.mem_cons.mp hX with e | e
    ·rw[e];exact⟨_,eA⟩
    ·rw[List.mem_singleton.mp e];exact⟨_,eB⟩)
   refine⟨xs,x1,x2,?_⟩
   have rB1:=(rB.mono m1).off (o:=.lst (xs++[.ref r1])) (L2:=A) yq hAB
   have gI:=aI hA (g.trans m1) (.lst (xs++[.ref r1]))
   generalize upd I1 A (.lst (xs++[.ref r1]))=I2 at x3 rB1 gI ⊢
   clear rA rB eA eB x1 x2 hr1 er1 hR1 nd1 fr1 m1 tl
   obtain⟨uA,eA,_⟩:=x3.ex
   obtain⟨uB,eB,_⟩:=rB1.ex
   rw[u2];clear u2
   walk_at "rd"
   refine⟨.inl ⟨rfl,_,SqL.of eB⟩,_,SqL.of (gI _ _ ero),_,eo,_,rfl,?_⟩
   refine .inr ⟨c.n,c.D,_,c.day,c.post,rfl,n8,D31,D1,by have:=o.n1;split <;> lia,hd,fun r1 ur1 I3 m1 hr1 er1 hR1 nd1 fr1=>?_⟩
   have tl:((c.cs.take i).map c.wr).length≤900:=by rw[ya,yf];lia
   have ew:tabO c.n c.D (0-if 0<((c.cs.getD i 0:Nat):Int) then 1 else 0) c.day c.post=c.wr (c.cs.getD i 0):=by
    unfold ClD.wr
    by_cases z:0<c.cs.getD i 0
    ·rw[if_pos (by lia),if_pos z];rfl
    ·rw[if_neg (by lia),if_neg z];rfl
   rw[ew] at hR1
   have mB:B∈[A,B]:=yj _ (List.mem_singleton.mpr rfl)
   obtain⟨ys,y1,y2,y3⟩:=(rB1.mono m1).step (rows:=c.wr (c.cs.getD i 0)) mB tl (eO.of hr1 er1 hR1 fr1 fun X hX=>by
    rcases List.mem_cons.mp hX with e | e
    ·rw[e];exact⟨_,eA⟩
    ·rw[List.mem_singleton.mp e];exact⟨_,eB⟩)
   rw[ba c1,yg,yg]
   exact⟨ys,y1,y2,aI (k4.free hB) (gI.trans m1) _,(x3.mono m1).off mB hAB.symm,y3⟩
  rintro σ J6 ⟨k6,rA,rB,v17,rfl⟩
  rw[ya,o.nsl,← o.csL,yA] at rA rB
  replace esb:=k6 _ _ esb
  replace err:=k6 _ _ err
  replace hR:=cy.mono k6 hR
  replace ero:=k6 _ _ ero
  replace eM:=k6 _ _ eM
  replace gA:=gA.trans k6
  replace hW:=hW.mono k6
  replace epp:=k6 _ _ epp
  replace hSt:=cn.tmono (az k6) hSt
  clear k6 k35 k5 k4 f4 f5 hA hB
  obtain⟨uA,eA,hRA⟩:=rA.rots
  obtain⟨uB,eB,hRB⟩:=rB.rots
  clear rA rB
  rw[u1];clear u1
  refine au fun U1 u1=>?_
  walk_at "rd"
  refine⟨⟨_,SqL.of ero⟩,fun R1 hR1=>bg (xs:=(c.os.map fun x:Nat=>(x:Int)).map V.int) (fun i σ H'=>∃(ws:List V) (v0:Option V),aA J6 H'∧H' R1=some (.lst ws)∧cy (dE ζ.c ζ.d ζ.e) c.ps.length J6 ws ((c.os.take i).map c.rl)∧σ=[v0,some (.ref rr)]) ⟨[],none,ah hR1 _,af,.nil,rfl⟩ (fun i σ H' _ ⟨_,_,g,_⟩=>SqL.of (g _ _ ero)) ?_ ?_⟩
  ·rintro i v σ H' hv ⟨ws2,v0,g,e,hw,rfl⟩
   have hi:i<c.os.length:=by rw[← oll];exact(List.getElem?_eq_some_iff.mp hv).1
   have eo:=yb hi
   obtain rfl:V.int ((c.os[i]:Nat):Int)=v:=by rw[yc,yc,eo] at hv;exact yt hv
   have hN:=o.osN _ (yO hi)
   have er:=yb (show c.os[i]<c.rls.length by rw[c.rls_len];exact hN)
   obtain⟨w,hw1,hw2⟩:=c6 hR er
   have hwl:=Paired.length hw
   rw[ya,yf] at hwl
   walk_at "rd"
   refine⟨_,SqL.of (g _ _ err),w,aR hw1,ws2,e,aE (by lia),aI hR1 g _,_,af,?_⟩
   rw[ba eo,yg]
   refine aP hw ?_
   show qZ _ _ J6 w (c.rl c.os[i])
   unfold ClD.rl
   rw[eC er]
   exact hw2
  rintro σ J7 ⟨ws2,v0,g7,e7,hw7,rfl⟩
  rw[oll,yA] at hw7
  intro x dx hx hdx nx
  have s2:=ah hdx (.own x)
  have hx':upd J7 dx (.own x) x=none:=by rw[av nx.symm];exact hx
  have s3:=s2.trans (ah hx' (.ins ζ.b dx []))
  have gg:=g7.trans s3
  obtain⟨a1,a2,_,_⟩:=o.all o.osN
  refine⟨x,dx,y,R1,_,_,_,ws2,_,rfl,af,hW.mono gg,okw,s3 _ _ e7,cy.mono gg hw7,a1,a2,by rw[ya];lia,fun J8 kk hTR=>⟨rfl,?_⟩⟩
  have g8:aA J6 J8:=fun c o e'=>kk c o (gg c o e') fun z=>by rw[z,g7.free hx] at e'; cases e'
  clear kk gg s3 hx' s2 hx hdx nx hw7 e7 g7 hR1 a1 a2
  replace esb:=g8 _ _ esb
  replace err:=g8 _ _ err
  replace hR:=cy.mono g8 hR
  replace ero:=g8 _ _ ero
  replace eM:=g8 _ _ eM
  replace gA:=gA.trans g8
  replace hW:=hW.mono g8
  replace epp:=g8 _ _ epp
  replace hSt:=cn.tmono (az g8) hSt
  replace eA:=g8 _ _ eA
  replace eB:=g8 _ _ eB
  replace hRA:=cm.mono g8 hRA
  replace hRB:=cm.mono g8 hRB
  clear g8
  rw[u1];clear u1
  refine au fun U1 u1=>?_
  walk_at "rd"
  refine⟨by decide,fun tt htt=>?_⟩
  have k9:=ah htt (.tup [.str "clash",.ref M,.ref pp,.ref A])
  have f9:=af (H:=J8) (a:=tt) (o:=.tup [.str "clash",.ref M,.ref pp,.ref A])
  generalize upd J8 tt (.tup [.str "clash",.ref M,.ref pp,.ref A])=J9 at k9 f9 ⊢
  replace esb:=k9 _ _ esb
  replace err:=k9 _ _ err
  replace hR:=cy.mono k9 hR
  replace ero:=k9 _ _ ero
  replace eM:=k9 _ _ eM
  replace gA:=gA.trans k9
  replace hW:=hW.mono k9
  replace epp:=k9 _ _ epp
  replace hSt:=cn.tmono (az k9) hSt
  replace eA:=k9 _ _ eA
  replace eB:=k9 _ _ eB
  replace hRA:=cm.mono k9 hRA
  replace hRB:=cm.mono k9 hRB
  replace hTR:=hTR.mono k9
  clear k9 htt
  have hT:cX J9 tt c.ns sts c.tbs:=⟨M,pp,A,uv,uA,f9,eM,epp,hSt,eA,hRA⟩
  have hB:=o.tolB t1 t2 pm3 ppr
  rw[u1];clear u1
  refine au fun U1 u1=>?_
  walk_at "rd"
  refine⟨x,tt,c.ns,sts,c.tbs,true,c,c.os,rfl,hT,hB,o,okw,hTR,o.osN,ol,o.shown t1 pm3 ppr,fun J10 k10=>?_⟩
  refine⟨_,rfl,?_⟩
  rw[if_neg (by decide)]
  replace err:=k10 _ _ err
  replace hR:=cy.mono k10 hR
  replace ero:=k10 _ _ ero
  replace gA:=gA.trans k10
  replace hW:=hW.mono k10
  replace hTR:=hTR.mono k10
  replace hT:=hT.mono k10
  replace eB:=k10 _ _ eB
  replace hRB:=cm.mono k10 hRB
  clear k10 esb eM epp hSt eA hRA f9 hB
  rw[u1];clear u1
  refine au fun U1 u1=>?_
  walk_at "rd"
  refine⟨_,.inl (SqL.of err),a,tt,B,ns,c,sts,ws,tm,uB,(by rw[ul];rfl),gA.seq hS,hn,o,t1,t2,pm3,ppr,hT,eB,hRB,fun t' ns' sts' tabs' J11 k11 hT' hB' hf=>?_⟩
  refine⟨x,t',ns',sts',tabs',false,c,c.os,rfl,hT',hB',o,okw,hTR.mono k11,o.osN,ol,hf,fun J12 k12=>⟨_,rfl,?_⟩⟩
  rw[if_neg (by decide)]
  have k:=k11.trans k12
  replace err:=k _ _ err
  replace hR:=cy.mono k hR
  replace ero:=k _ _ ero
  replace gA:=gA.trans k
  replace hW:=hW.mono k
  replace hTR:=hTR.mono k
  clear k k11 k12 hT' hB' hf hT eB hRB ppr pm3 t1 t2
  rw[u1];clear u1
  refine au fun U1 u1=>?_
  walk_at "rd"
  refine⟨a,ns,_,rfl,gA.seq hS,hn,by decide,by decide,fun v=>⟨v,rfl,by lia,?_⟩⟩
  obtain⟨i,ei,hi⟩:∃i:Nat,v % ((c.n:Int)+1)-1=(i:Int)-1∧i≤c.n:=⟨(v % ((c.n:Int)+1)).toNat,by have:=yv v (b:=(c.n:Int)+1) (by lia);lia,by have:=yD v (b:=(c.n:Int)+1) (by lia);have:=yv v (b:=(c.n:Int)+1) (by lia);lia⟩
  rw[ei,u1];clear u1 ei
  refine au fun U1 u1=>?_
  walk_at "rd"
  refine⟨c.n,c.D,_,c.day,c.post,rfl,n8,o.D31,o.D1,by lia,o.day,fun rt ut J13 k13 hrt0 ert hRt nd fr=>?_⟩
  change Rows J13 ut (c.tb i) at hRt
  replace err:=k13 _ _ err
  replace hR:=cy.mono k13 hR
  replace ero:=k13 _ _ ero
  replace gA:=gA.trans k13
  replace hW:=hW.mono k13
  replace hTR:=hTR.mono k13
  clear k13 hrt0 nd fr
  rw[u1];clear u1
  refine au fun U1 u1=>?_
  walk_at "rd"
  refine⟨⟨_,SqL.of ero⟩,fun R1 hR1=>bg (xs:=(c.os.map fun x:Nat=>(x:Int)).map V.int) (fun i σ H'=>∃(ws:List V) (v0:Option V),aA J13 H'∧H' R1=some (.lst ws)∧cy (dE ζ.c ζ.d ζ.e) c.ps.length J13 ws (((c.os.take i).filter fun k=>decide (0<k)).map c.rl)∧σ=[v0,some (.ref rr)]) ⟨[],none,ah hR1 _,af,.nil,rfl⟩ (fun i σ H' _ ⟨_,_,g,_⟩=>SqL.of (g _ _ ero)) ?_ ?_⟩
  ·rintro i v σ H' hv ⟨ws2,v0,g,e,hw,rfl⟩
   have hi:i<c.os.length:=by rw[← oll];exact(List.getElem?_eq_some_iff.mp hv).1
   have eo:=yb hi
   obtain rfl:V.int ((c.os[i]:Nat):Int)=v:=by rw[yc,yc,eo] at hv;exact yt hv
   have hN:=o.osN _ (yO hi)
   have er:=yb (show c.os[i]<c.rls.length by rw[c.rls_len];exact hN)
   obtain⟨w,hw1,hw2⟩:=c6 hR er
   have hwl:=Paired.length hw
   rw[ya] at hwl
   have hfl:=yba (fun k=>decide (0<k)) (c.os.take i)
   rw[yf] at hfl
   walk_at "rd"
   rw[ba eo,yga,yg]
   by_cases z:0<c.os[i]
   ·rw[if_pos (by lia),ysa (p:=fun k=>decide (0<k)) (decide_eq_true z)]
    refine⟨_,SqL.of (g _ _ err),w,aR hw1,ws2,e,aE (by lia),aI hR1 g _,_,af,?_⟩
    refine aP hw ?_
    show qZ _ _ J13 w (c.rl c.os[i])
    unfold ClD.rl
    rw[eC er]
    exact hw2
   ·rw[if_neg (by lia),yra (p:=fun k=>decide (0<k)) (fun y=>z (of_decide_eq_true y))]
    exact⟨g,ws2,e,by rw[List.filter_nil,ycb,yI];exact hw⟩
  rintro σ J14 ⟨ws2,v0,g7,e7,hw7,rfl⟩
  rw[oll,yA] at hw7
  obtain⟨is,eis,hin,hisL,his0⟩:∃is:List Nat,(c.os.filter fun k=>decide (0<k))=is∧(∀i∈is,i<c.N)∧is.length≤12∧∀k,k∈is↔k<c.N∧0<k:=⟨_,rfl,(fun i h=>o.osN i (yEa.mp h).1),yJ (yba _ _) ol,fun k=>by rw[yEa,o.pm.mem_iff,yu,decide_eq_true_eq]⟩
  rw[eis] at hw7
  intro z dz hz hdz nz
  have s2:=ah hdz (.own z)
  have hz':upd J14 dz (.own z) z=none:=by rw[av nz.symm];exact hz
  have s3:=s2.trans (ah hz' (.ins ζ.b dz []))
  have gg:=g7.trans s3
  obtain⟨a1,a2,_,_⟩:=o.all hin
  refine⟨z,dz,y,R1,_,_,_,ws2,_,rfl,af,hW.mono gg,okw,s3 _ _ e7,cy.mono gg hw7,a1,a2,by rw[ya];lia,fun J15 kk hTZ=>⟨rfl,?_⟩⟩
  have g8:aA J13 J15:=fun c o e'=>kk c o (gg c o e') fun z=>by rw[z,g7.free hz] at e'; cases e'
  clear kk gg s3 hz' s2 hz hdz nz hw7 e7 g7 hR1 a1 a2 eis
  replace gA:=gA.trans g8
  replace hTR:=hTR.mono g8
  replace ert:=g8 _ _ ert
  replace hRt:=hRt.mono g8
  clear g8 err hR ero hW
  rw[u1];clear u1
  refine au fun U1 u1=>?_
  walk_at "rd"
  obtain⟨rl1,rl2⟩:=o.tbO i
  refine⟨x,rt,ut,c.tb i,false,c,c.os,rfl,ert,hRt,rl1,rl2,o,okw,hTR,o.osN,ol,?_,fun J16 k16=>⟨_,rfl,?_⟩⟩
  ·rw[decide_eq_false (o.rota_bad hi (o.pm.mem_iff.mpr (yu.mpr (by unfold ClD.N;lia)))),yja]
  rw[if_neg (by decide)]
  refine⟨z,rt,ut,c.tb i,_,c,is,rfl,k16 _ _ ert,hRt.mono k16,rl1,rl2,o,okw,hTZ.mono k16,hin,hisL,?_,fun J17 k17=>⟨_,rfl,?_⟩⟩
  ·by_cases zi:i=0
   ·rw[decide_eq_true (o.rota_good hi (fun h=>by have:=(his0 i).mp h;lia) hin),o.tab,decide_eq_true (show(i:Int)-1<0 by lia)];rfl
   ·rw[decide_eq_false (o.rota_bad hi ((his0 i).mpr ⟨by unfold ClD.N;lia,by lia⟩)),yja,decide_eq_false (by lia)]
  rw[if_neg (by decide)]
  have k:=k16.trans k17
  replace gA:=gA.trans k
  replace hTR:=hTR.mono k
  replace hTZ:=hTZ.mono k
  clear k k16 k17 rl1 rl2 ert hRt
  rw[u1];clear u1
  refine au fun U1 u1=>?_
  walk_at "rd"
  refine⟨c.n,c.D,-1,0,0,rfl,n8,o.D31,o.D1,by lia,by have:=o.D1;lia,fun ro2 uo J18 k18 h18 e18 hR18 nd18 fr18=>?_⟩
  have et:tabO c.n c.D (-1) 0 0=c.tb 0:=by unfold ClD.tb;rw[iO (by decide),iO (by decide)]
  rw[et] at hR18
  refine⟨a,ns,_,rfl,(gA.trans k18).seq hS,hn,by decide,by decide,fun v=>?_⟩
  refine⟨ro2,uo,v,c,J17,rfl,o,e18,hR18,nd18,k18,h18,fr18,fun us' rows J19 k19 e19 hR19 l19 r19 t19=>?_⟩
  replace hTR:=hTR.mono k19
  replace hTZ:=hTZ.mono k19
  clear et k18 h18 e18 hR18 nd18 fr18 gA k19
  rw[u1];clear u1
  refine au fun U1 u1=>?_
  walk_at "rd"
  refine⟨z,ro2,us',rows,false,c,is,rfl,e19,hR19,l19,r19,o,okw,hTZ,hin,hisL,by rw[t19];rfl,fun J20 k20=>⟨_,rfl,?_⟩⟩
  rw[if_neg (by decide)]
  replace hTR:=hTR.mono k20
  replace hTZ:=hTZ.mono k20
  rw[u1];clear u1
  walk_at "rd"
  refine⟨by decide,fun w1 hw1=>?_⟩
  have s1:=ah hw1 (.tup [.str "open"])
  obtain⟨a1,a2,a3,a4⟩:=o.all o.osN
  obtain⟨d1,d2,d3,d4⟩:=o.all hin
  have P2:=o.P2
  have hl:=o.hl
  refine⟨x,w1,_,_,_,_,rfl,hTR.mono s1,okw,by lia,by lia,a1,a2,by rw[ya];lia,a3,a4,.inl ⟨af,?_⟩⟩
  refine⟨_,rfl,?_⟩
  rw[if_pos (by decide)]
  refine⟨by decide,fun w2 hw2=>?_⟩
  have s2:=ah hw2 (.tup [.str "open"])
  exact⟨z,w2,_,_,_,_,rfl,hTZ.mono (s1.trans s2),okw,by lia,by lia,d1,d2,by rw[ya];lia,d3,d4,.inl ⟨af,_,rfl,q _⟩⟩
end
section
structure Pwb(P:Program)(w:World)(base:Heap):Prop where
variable{P:Program}{w:World}{K:PySem.W.Frag}{mg:Str→Option Value}{base:Heap}{x qual:Str}{st:Stmt}{f:Addr}{fd:FuncData}{k:Nat}{sp:Sp}{ps:List Str}{C:Addr}{m:Str}
theorem Af{α:Type}{us:List α}(h:us.length=1):∃u0:α,us=[u0]:=match us,h with | [u0],_=>⟨u0,rfl⟩
theorem bn1{p0:Str}(F:Fun K x qual st f fd)(h:∀(kV doc pm:Value) (an:Option Addr) (cdv ct u0:Value),bindArgs (PySem.W.fnOf x qual (cH st) (cg st) (ao st) .none kV doc pm an cdv ct) ⟨[u0],[]⟩=pure [(p0,u0)]:=by intros;rfl):b7 K fd [p0] []:=F.binds fun a b c d e g us hl=>by
 obtain⟨u0,rfl⟩:=Af (us:=us) hl
 exact h a b c d e g u0
theorem zN{α:Type}{us:List α}(h:us.length=2):∃u0 u1:α,us=[u0,u1]:=match us,h with | [u0,u1],_=>⟨u0,u1,rfl⟩
theorem bn2{p0 p1:Str}(F:Fun K x qual st f fd)(h:∀(kV doc pm:Value) (an:Option Addr) (cdv ct u0 u1:Value),bindArgs (PySem.W.fnOf x qual (cH st) (cg st) (ao st) .none kV doc pm an cdv ct) ⟨[u0,u1],[]⟩=pure [(p0,u0),(p1,u1)]:=by intros;rfl):b7 K fd [p0,p1] []:=F.binds fun a b c d e g us hl=>by
 obtain⟨u0,u1,rfl⟩:=zN (us:=us) hl
 exact h a b c d e g u0 u1
theorem Am{α:Type}{us:List α}(h:us.length=3):∃u0 u1 u2:α,us=[u0,u1,u2]:=match us,h with | [u0,u1,u2],_=>⟨u0,u1,u2,rfl⟩
theorem bn3{p0 p1 p2:Str}(F:Fun K x qual st f fd)(h:∀(kV doc pm:Value) (an:Option Addr) (cdv ct u0 u1 u2:Value),bindArgs (PySem.W.fnOf x qual (cH st) (cg st) (ao st) .none kV doc pm an cdv ct) ⟨[u0,u1,u2],[]⟩=pure [(p0,u0),(p1,u1),(p2,u2)]:=by intros;rfl):b7 K fd [p0,p1,p2] []:=F.binds fun a b c d e g us hl=>by
 obtain⟨u0,u1,u2,rfl⟩:=Am (us:=us) hl
 exact h a b c d e g u0 u1 u2
theorem zY{α:Type}{us:List α}(h:us.length=4):∃u0 u1 u2 u3:α,us=[u0,u1,u2,u3]:=match us,h with | [u0,u1,u2,u3],_=>⟨u0,u1,u2,u3,rfl⟩
theorem bn4{p0 p1 p2 p3:Str}(F:Fun K x qual st f fd)(h:∀(kV doc pm:Value) (an:Option Addr) (cdv ct u0 u1 u2 u3:Value),bindArgs (PySem.W.fnOf x qual (cH st) (cg st) (ao st) .none kV doc pm an cdv ct) ⟨[u0,u1,u2,u3],[]⟩=pure [(p0,u0),(p1,u1),(p2,u2),(p3,u3)]:=by intros;rfl):b7 K fd [p0,p1,p2,p3] []:=F.binds fun a b c d e g us hl=>by
 obtain⟨u0,u1,u2,u3,rfl⟩:=zY (us:=us) hl
 exact h a b c d e g u0 u1 u2 u3
theorem zR{α:Type}{us:List α}(h:us.length=5):∃u0 u1 u2 u3 u4:α,us=[u0,u1,u2,u3,u4]:=match us,h with | [u0,u1,u2,u3,u4],_=>⟨u0,u1,u2,u3,u4,rfl⟩
theorem bn5{p0 p1 p2 p3 p4:Str}(F:Fun K x qual st f fd)(h:∀(kV doc pm:Value) (an:Option Addr) (cdv ct u0 u1 u2 u3 u4:Value),bindArgs (PySem.W.fnOf x qual (cH st) (cg st) (ao st) .none kV doc pm an cdv ct) ⟨[u0,u1,u2,u3,u4],[]⟩=pure [(p0,u0),(p1,u1),(p2,u2),(p3,u3),(p4,u4)]:=by intros;rfl):b7 K fd [p0,p1,p2,p3,p4] []:=F.binds fun a b c d e g us hl=>by
 obtain⟨u0,u1,u2,u3,u4,rfl⟩:=zR (us:=us) hl
 exact h a b c d e g u0 u1 u2 u3 u4
theorem zJ{α:Type}{us:List α}(h:us.length=7):∃u0 u1 u2 u3 u4 u5 u6:α,us=[u0,u1,u2,u3,u4,u5,u6]:=match us,h with | [u0,u1,u2,u3,u4,u5,u6],_=>⟨u0,u1,u2,u3,u4,u5,u6,rfl⟩
theorem bn7{p0 p1 p2 p3 p4 p5 p6:Str}(F:Fun K x qual st f fd)(h:∀(kV doc pm:Value) (an:Option Addr) (cdv ct u0 u1 u2 u3 u4 u5 u6:Value),bindArgs (PySem.W.fnOf x qual (cH st) (cg st) (ao st) .none kV doc pm an cdv ct) ⟨[u0,u1,u2,u3,u4,u5,u6],[]⟩=pure [(p0,u0),(p1,u1),(p2,u2),(p3,u3),(p4,u4),(p5,u5),(p6,u6)]:=by intros;rfl):b7 K fd [p0,p1,p2,p3,p4,p5,p6] []:=F.binds fun a b c d e g us hl=>by
 obtain⟨u0,u1,u2,u3,u4,u5,u6,rfl⟩:=zJ (us:=us) hl
 exact h a b c d e g u0 u1 u2 u3 u4 u5 u6
theorem nC(Z:Pwb P w base)(o:aN P w K mg base CX0 k f fd ps sp)(b:b7 K fd ps [])(F:Fun K x qual st f fd)(a:mg x=some (.ref f)):Cal P w K mg base x ps k sp:=⟨f,fd,o,b,F.kp,a⟩
theorem nX(Z:Pwb P w base)(o:aN P w K mg base (CX1 P w) k f fd ps sp)(b:b7 K fd ps [])(F:Fun K x qual st f fd)(a:mg x=some (.ref f)):ph P w K mg base x ps k sp:=⟨f,fd,o,b,F.kp,a⟩
theorem nI(Z:Pwb P w base)(o:aN P w K mg base CX0 k f fd ps sp)(b:b7 K fd ps [])(a:Mk K C f)(c:mg x=some (.ref C)):kU P w K mg base x C ps k sp:=⟨f,fd,o,b,a,c⟩
theorem nM(Z:Pwb P w base)(o:aN P w K mg base CX0 k f fd ps sp)(b:b7 K fd ps [])(a:gM K C m f)(c:Cls K C):iB P w K mg base C m ps k sp:=⟨f,fd,o,b,a,c⟩
end
theorem wE{l:PySem.W.OpenLaw}{w:World}{K:PySem.W.Frag}{mg:Str→Option Value}{fa:Addr}(hfa:mg "law" = some (.ref fa))
  {C_Ward:Addr}
  {zau_:Addr}
  {C_Want:Addr}
  {zE_:Addr}
  {C_Away:Addr}
  {zcW_:Addr}
  {f1 f2 f3 f4 f5 f6 f7 f8 f9 f10 f11 f12 f13 f14 f15 f16 f17 f18 f19 f20 f21 f22 f23 f24 f25 f26 f27 f28 f29 f30 f31 f32 f33 f34 f35 f36 f37 f38 f39 f40 f41 f42 f43 f44 f45 f46 f47 f48 f49 f50 f51 f52 f53 f54 f55 f56 f57 f58 f59 f60 f61 f62 f63 f64 f65 f66 f67 f68 f69 f70 f71 f72:Addr}
  {d1 d2 d3 d4 d5 d6 d7 d8 d9 d10 d11 d12 d13 d14 d15 d16 d17 d18 d19 d20 d21 d22 d23 d24 d25 d26 d27 d28 d29 d30 d31 d32 d33 d34 d35 d36 d37 d38 d39 d40 d41 d42 d43 d44 d45 d46 d47 d48 d49 d50 d51 d52 d53 d54 d55 d56 d57 d58 d59 d60 d61 d62 d63 d64 d65 d66 d67 d68 d69 d70 d71 d72:FuncData}
  (aC_Ward:mg "Ward" = some (.ref C_Ward)) (cl_Ward:Cls K C_Ward) (f_days_Ward:PySem.W.findIn K (.ref C_Ward) "days" = some none) (f_hands_Ward:PySem.W.findIn K (.ref C_Ward) "hands" = some none) (f_posts_Ward:PySem.W.findIn K (.ref C_Ward) "posts" = some none) (aC_Terms:mg "Terms" = some (.ref zau_)) (cl_Terms:Cls K zau_) (f_ward_Terms:PySem.W.findIn K (.ref zau_) "ward" = some none)
  (f_rules_Terms:PySem.W.findIn K (.ref zau_) "rules" = some none) (f_sums_Terms:PySem.W.findIn K (.ref zau_) "sums" = some none) (aC_Want:mg "Want" = some (.ref C_Want)) (cl_Want:Cls K C_Want) (f_day_Want:PySem.W.findIn K (.ref C_Want) "day" = some none) (f_post_Want:PySem.W.findIn K (.ref C_Want) "post" = some none) (f_many_Want:PySem.W.findIn K (.ref C_Want) "many" = some none) (aC_Least:mg "Least" = some (.ref zE_))
  (cl_Least:Cls K zE_) (f_hand_Least:PySem.W.findIn K (.ref zE_) "hand" = some none) (f_days_Least:PySem.W.findIn K (.ref zE_) "days" = some none) (f_many_Least:PySem.W.findIn K (.ref zE_) "many" = some none) (aC_Away:mg "Away" = some (.ref C_Away)) (cl_Away:Cls K C_Away) (f_hand_Away:PySem.W.findIn K (.ref C_Away) "hand" = some none) (f_days_Away:PySem.W.findIn K (.ref C_Away) "days" = some none)
  (aC_NoTable:mg "NoTable" = some (.ref zcW_)) (xx_NoTable:PySem.W.excIn K zcW_ bmV "ValueError.__new__" = true) (a1:Mk K C_Want f1) (F1:Fun K "__init__" "Want.__init__" vN f1 d1) (a2:Mk K C_Away f2) (F2:Fun K "__init__" "Away.__init__" xk f2 d2) (a3:Mk K zE_ f3) (F3:Fun K "__init__" "Least.__init__" zO_ f3 d3)
  (a4:mg "need_month" = some (.ref f4)) (F4:Fun K "need_month" "need_month" wm f4 d4) (a5:mg "is_skills" = some (.ref f5)) (F5:Fun K "is_skills" "is_skills" vJ f5 d5) (a6:mg "need_hands" = some (.ref f6)) (F6:Fun K "need_hands" "need_hands" vh f6 d6) (a7:mg "is_post" = some (.ref f7)) (F7:Fun K "is_post" "is_post" vQ f7 d7)
  (a8:mg "need_posts" = some (.ref f8)) (F8:Fun K "need_posts" "need_posts" xS f8 d8) (a9:Mk K C_Ward f9) (F9:Fun K "__init__" "Ward.__init__" vo f9 d9) (a10:mg "has_day" = some (.ref f10)) (F10:Fun K "has_day" "has_day" va f10 d10) (a11:mg "has_post" = some (.ref f11)) (F11:Fun K "has_post" "has_post" xL f11 d11)
  (a12:mg "is_many" = some (.ref f12)) (F12:Fun K "is_many" "is_many" xj f12 d12) (a13:gM K C_Want "fits" f13) (F13:Fun K "fits" "Want.fits" wy f13 d13) (a14:mg "has_hand" = some (.ref f14)) (F14:Fun K "has_hand" "has_hand" uU f14 d14) (a15:mg "is_days" = some (.ref f15)) (F15:Fun K "is_days" "is_days" zn f15 d15)
  (a16:gM K zE_ "fits" f16) (F16:Fun K "fits" "Least.fits" zd f16 d16) (a17:gM K C_Away "fits" f17) (F17:Fun K "fits" "Away.fits" vR f17 d17) (a18:mg "need_rules" = some (.ref f18)) (F18:Fun K "need_rules" "need_rules" vY f18 d18) (a19:gM K C_Want "lines" f19) (F19:Fun K "lines" "Want.lines" wH f19 d19)
  (a20:mg "spread" = some (.ref f20)) (F20:Fun K "spread" "spread" wL f20 d20) (a21:mg "covers" = some (.ref f21)) (F21:Fun K "covers" "covers" zl f21 d21) (a22:mg "members" = some (.ref f22)) (F22:Fun K "members" "members" wJ f22 d22) (a23:mg "first_days" = some (.ref f23)) (F23:Fun K "first_days" "first_days" xa f23 d23)
  (a24:mg "days_of" = some (.ref f24)) (F24:Fun K "days_of" "days_of" uX f24 d24) (a25:mg "all_posts" = some (.ref f25)) (F25:Fun K "all_posts" "all_posts" vZ f25 d25) (a26:gM K zE_ "lines" f26) (F26:Fun K "lines" "Least.lines" vX f26 d26) (a27:gM K C_Away "lines" f27) (F27:Fun K "lines" "Away.lines" vg f27 d27)
  (a28:Mk K zau_ f28) (F28:Fun K "__init__" "Terms.__init__" zP_ f28 d28) (a29:gM K C_Ward "choices" f29) (F29:Fun K "choices" "Ward.choices" vc f29 d29) (a30:mg "is_row" = some (.ref f30)) (F30:Fun K "is_row" "is_row" vv f30 d30) (a31:mg "is_table" = some (.ref f31)) (F31:Fun K "is_table" "is_table" xw f31 d31)
  (a32:mg "copied" = some (.ref f32)) (F32:Fun K "copied" "copied" wC f32 d32) (a33:mg "need_table" = some (.ref f33)) (F33:Fun K "need_table" "need_table" wZ f33 d33) (a34:mg "holds" = some (.ref f34)) (F34:Fun K "holds" "holds" wV f34 d34) (a35:mg "total" = some (.ref f35)) (F35:Fun K "total" "total" xc f35 d35)
  (a36:mg "faults" = some (.ref f36)) (F36:Fun K "faults" "faults" wO f36 d36) (a37:mg "meets" = some (.ref f37)) (F37:Fun K "meets" "meets" xB f37 d37) (a38:mg "only" = some (.ref f38)) (F38:Fun K "only" "only" lO f38 d38) (a39:mg "is_free" = some (.ref f39)) (F39:Fun K "is_free" "is_free" wI f39 d39)
  (a40:mg "summed" = some (.ref f40)) (F40:Fun K "summed" "summed" vK f40 d40) (a41:mg "best" = some (.ref f41)) (F41:Fun K "best" "best" mi f41 d41) (a42:mg "closes" = some (.ref f42)) (F42:Fun K "closes" "closes" xG f42 d42) (a43:mg "is_there" = some (.ref f43)) (F43:Fun K "is_there" "is_there" xA f43 d43)
  (a44:mg "ends" = some (.ref f44)) (F44:Fun K "ends" "ends" lY f44 d44) (a45:mg "is_step" = some (.ref f45)) (F45:Fun K "is_step" "is_step" xH f45 d45) (a46:mg "parted" = some (.ref f46)) (F46:Fun K "parted" "parted" xY f46 d46) (a47:mg "left" = some (.ref f47)) (F47:Fun K "left" "left" mR f47 d47)
  (a48:mg "is_paper" = some (.ref f48)) (F48:Fun K "is_paper" "is_paper" vj f48 d48) (a49:mg "are_rising" = some (.ref f49)) (F49:Fun K "are_rising" "are_rising" xh f49 d49) (a50:mg "breaks_at_most" = some (.ref f50)) (F50:Fun K "breaks_at_most" "breaks_at_most" zQ_ f50 d50) (a51:mg "are_shown" = some (.ref f51)) (F51:Fun K "are_shown" "are_shown" w6 f51 d51)
  (a52:mg "is_clash" = some (.ref f52)) (F52:Fun K "is_clash" "is_clash" zq f52 d52) (a53:mg "_law_cell" = some (.ref f53)) (F53:Fun K "_law_cell" "_law_cell" xD f53 d53) (a54:mg "_law_sizes" = some (.ref f54)) (F54:Fun K "_law_sizes" "_law_sizes" uT f54 d54) (a55:mg "_law_sets" = some (.ref f55)) (F55:Fun K "_law_sets" "_law_sets" wP f55 d55)
  (a56:mg "_law_rules" = some (.ref f56)) (F56:Fun K "_law_rules" "_law_rules" xn f56 d56) (a57:mg "_law_order" = some (.ref f57)) (F57:Fun K "_law_order" "_law_order" vw f57 d57) (a58:mg "_law_below" = some (.ref f58)) (F58:Fun K "_law_below" "_law_below" xp f58 d58) (a59:mg "_law_paper" = some (.ref f59)) (F59:Fun K "_law_paper" "_law_paper" wY f59 d59)
  (a60:mg "_law_table" = some (.ref f60)) (F60:Fun K "_law_table" "_law_table" vi f60 d60) (a61:mg "_law_no_table" = some (.ref f61)) (F61:Fun K "_law_no_table" "_law_no_table" za f61 d61) (a62:mg "_law_copy_of" = some (.ref f62)) (F62:Fun K "_law_copy_of" "_law_copy_of" wM f62 d62) (a63:mg "_law_copy" = some (.ref f63)) (F63:Fun K "_law_copy" "_law_copy" vk f63 d63)
  (a64:mg "_law_says" = some (.ref f64)) (F64:Fun K "_law_says" "_law_says" ww f64 d64) (a65:mg "_law_rota_says" = some (.ref f65)) (F65:Fun K "_law_rota_says" "_law_rota_says" zR_ f65 d65) (a66:mg "_law_swapped" = some (.ref f66)) (F66:Fun K "_law_swapped" "_law_swapped" xT f66 d66) (a67:mg "_law_turned" = some (.ref f67)) (F67:Fun K "_law_turned" "_law_turned" vP f67 d67)
  (a68:mg "_law_spoilt_set" = some (.ref f68)) (F68:Fun K "_law_spoilt_set" "_law_spoilt_set" zF_ f68 d68) (a69:mg "_law_spoilt_tables" = some (.ref f69)) (F69:Fun K "_law_spoilt_tables" "_law_spoilt_tables" zt_ f69 d69) (a70:mg "_law_spoilt_paper" = some (.ref f70)) (F70:Fun K "_law_spoilt_paper" "_law_spoilt_paper" zA_ f70 d70) (a71:mg "_law_spoilt" = some (.ref f71)) (F71:Fun K "_law_spoilt" "_law_spoilt" uW f71 d71)
  (a72:mg "law" = some (.ref f72)) (F72:Fun K "law" "law" pY f72 d72) (z1:mg "all" = none) (z2:mg "bool" = none) (z3:mg "dict" = none) (z4:mg "enumerate" = none) (z5:mg "int" = none) (z6:mg "isinstance" = none)
  (z7:mg "len" = none) (z8:mg "list" = none) (z9:mg "max" = none) (z10:mg "min" = none) (z11:mg "range" = none) (z12:mg "reversed" = none) (z13:mg "sorted" = none) (z14:mg "str" = none)
  (z15:mg "sum" = none) (z16:mg "tuple" = none) (g1:∃tk,mg "MOST_DAYS" = some (.int 31 tk)) (g2:∃tk,mg "MOST_HANDS" = some (.int 8 tk)) (g3:∃tk,mg "MOST_MANY" = some (.int 99 tk)) (g4:∃tk,mg "MOST_POSTS" = some (.int 6 tk)) (g5:∃tk,mg "MOST_RULES" = some (.int 120 tk))
 :∃fd:FuncData,(∀(s:Shared) (v:Value),BindsTo s fd ⟨[v],[]⟩ [("_law_script",v)])∧∀base:Heap,K.In base→base.Ns mainGlobals mg→aN l.prog w K mg base CX0 12 fa fd ["_law_script"] (jQ K):=by
 let ζ:Cs:=⟨C_Ward,zau_,C_Want,zE_,C_Away,zcW_⟩
 have e:=hfa.symm.trans a72
 cases e
 have T:Txt K mg ζ:=⟨z1,z2,z3,z4,z5,z6,z7,z8,z9,z10,z11,z12,z13,z14,z15,z16,g1,g2,g3,g4,g5,cl_Ward,f_days_Ward,f_hands_Ward,f_posts_Ward,cl_Terms,f_ward_Terms,f_rules_Terms,f_sums_Terms,cl_Want,f_day_Want,f_post_Want,f_many_Want,cl_Least,f_hand_Least,f_days_Least,f_many_Least,cl_Away,f_hand_Away,f_days_Away,⟨aC_NoTable,xx_NoTable⟩⟩
 refine⟨d72,fun s v=>?_,fun base _ _=>?_⟩
 ·obtain⟨_,_,_,_,_,_,_,_,_,rfl,_,_⟩:=F72.ex
  exact .of_eq rfl
 have Z:Pwb l.prog w base:=⟨⟩
 have I_Want:=nI Z (A2 F1 T) (bn4 F1) a1 aC_Want
 have I_Away:=nI Z (Dt F2 T) (bn3 F2) a2 aC_Away
 have zdT_:=nI Z (A5 F3 T) (bn4 F3) a3 aC_Least
 have zbs_:=nC Z (C3 F4 T) (bn1 F4) F4 a4
 have zy_:=nC Z (BZ F5 T) (bn1 F5) F5 a5
 have zbt_:=nC Z (BW F6 T zy_) (bn1 F6) F6 a6
 have zcK_:=nC Z (Bo F7 T zy_) (bn1 F7) F7 a7
 have zbu_:=nC Z (AS F8 T zcK_) (bn1 F8) F8 a8
 have I_Ward:=nI Z (Bt F9 T zbs_ zbt_ zbu_) (bn4 F9) a9 aC_Ward
 have zX_:=nC Z (BD F10 T) (bn2 F10) F10 a10
 have zct_:=nC Z (Ba F11 T) (bn2 F11) F11 a11
 have zY_:=nC Z (CY F12 T) (bn1 F12) F12 a12
 have zce_:=nM Z (BM F13 T zX_ zct_ zY_) (bn2 F13) a13 T.cl_Want
 have zi_:=nC Z (Bc F14 T) (bn2 F14) F14 a14
 have zZ_:=nC Z (A7 F15 T) (bn1 F15) F15 a15
 have zbx_:=nM Z (Dr F16 T zi_ zZ_ zY_) (bn2 F16) a16 T.cl_Least
 have zcf_:=nM Z (Cr F17 T zi_ zZ_) (bn2 F17) a17 T.cl_Away
 have zbz_:=nC Z (BV F18 T zce_ zbx_ zcf_) (bn2 F18) F18 a18
 have zbA_:=nM Z (CH F19 T) (bn2 F19) a19 T.cl_Want
 have zap_:=nC Z (BJ F20 T) (bn4 F20) F20 a20
 have zan_:=nC Z (Cw F21 T) (bn2 F21) F21 a21
 have zcM_:=nC Z (BL F22 T zan_) (bn1 F22) F22 a22
 have zby_:=nC Z (CI F23 T) (bn1 F23) F23 a23
 have zaa_:=nC Z (Dv F24 T zcM_ zby_) (bn2 F24) F24 a24
 have zz_:=nC Z (A0 F25 T) (bn1 F25) F25 a25
 have zaL_:=nM Z (CU F26 T zap_ zaa_ zz_) (bn2 F26) a26 T.cl_Least
 have zbB_:=nM Z (Da F27 T zap_ zaa_ zz_) (bn2 F27) a27 T.cl_Away
 have zaq_:=nI Z (Dc F28 T zbz_ zbA_ zaL_ zbB_) (bn3 F28) a28 aC_Terms
 have zd_:=nM Z (Cb F29 T zan_) (bn2 F29) a29 T.cl_Ward
 have zdt_:=nC Z (Bv F30 T zd_) (bn3 F30) F30 a30
 have zj_:=nC Z (CF F31 T zdt_) (bn2 F31) F31 a31
 have zdu_:=nC Z (Dd F32 T) (bn1 F32) F32 a32
 have X_need_table:=nX Z (BY F33 T zdu_ zj_) (bn2 F33) F33 a33
 have zdM_:=nC Z (C8 F34 T) (bn4 F34) F34 a34
 have zdN_:=nC Z (Cn F35 T zdM_) (bn2 F35) F35 a35
 have X_faults:=nX Z (Dp F36 T X_need_table zdN_) (bn2 F36) F36 a36
 have zdS_:=nC Z (B3 F37 T zj_ X_faults) (bn2 F37) F37 a37
 have C_only:=nC Z (Cm F38 T zaq_) (bn2 F38) F38 a38
 have zcR_:=nC Z (C9 F39 T zi_ zX_) (bn4 F39) F39 a39
 have zdy_:=nC Z (BO F40 T) (bn1 F40) F40 a40
 have C_best:=nC Z (Di F41 T zd_) (bn3 F41) F41 a41
 have zdz_:=nC Z (Dl F42 T zdy_ C_best) (bn3 F42) F42 a42
 have zcw_:=nC Z (Ds F43 T) (bn3 F43) F43 a43
 have C_ends:=nC Z (CD F44 T zdz_ zcw_) (bn3 F44) F44 a44
 have zcT_:=nC Z (A4 F45 T zcR_ C_ends) (bn3 F45) F45 a45
 have zdA_:=nC Z (B4 F46 T zd_) (bn4 F46) F46 a46
 have C_left:=nC Z (Bg F47 T zcT_ zdA_) (bn2 F47) F47 a47
 have zcy_:=nC Z (BB F48 T C_left) (bn2 F48) F48 a48
 have zbD_:=nC Z (B5 F49 T) (bn2 F49) F49 a49
 have zV_:=nC Z (BI F50 T zj_ X_faults) (bn3 F50) F50 a50
 have zci_:=nC Z (CJ F51 T C_only zcy_ zbD_ zV_) (bn4 F51) F51 a51
 have zg_:=nC Z (CC F52 T zdS_ zci_) (bn2 F52) F52 a52
 have za_:=nC Z (BQ F53 T) (bn2 F53) F53 a53
 have zbL_:=nC Z (Df F54 T za_) (bn1 F54) F54 a54
 have zck_:=nC Z (Cf F55 T za_) (bn3 F55) F55 a55
 have zbM_:=nC Z (Dy F56 T I_Want za_ I_Away zdT_) (bn5 F56) F56 a56
 have zbN_:=nC Z (By F57 T za_) (bn2 F57) F57 a57
 have zbG_:=nC Z (BA F58 T) (bn2 F58) F58 a58
 have zbO_:=nC Z (Db F59 T za_ zbG_) (bn7 F59) F59 a59
 have zr_:=nC Z (Cc F60 T) (bn5 F60) F60 a60
 have zaj_:=nC Z (BX F61 T) (bn3 F61) F61 a61
 have zl_:=nC Z (CZ F62 T) (bn1 F62) F62 a62
 have zcj_:=nC Z (CA F63 T zl_) (bn1 F63) F63 a63
 have zav_:=nC Z (Bw F64 T zcj_ zg_) (bn3 F64) F64 a64
 have zm_:=nC Z (Cq F65 T zg_ zl_) (bn3 F65) F65 a65
 have zp_:=nC Z (Be F66 T) (bn2 F66) F66 a66
 have zaV_:=nC Z (BN F67 T zp_) (bn2 F67) F67 a67
 have zJ_:=nC Z (BC F68 T) (bn4 F68) F68 a68
 have zw_:=nC Z (Dn F69 T) (bn4 F69) F69 a69
 have zB_:=nC Z (Ci F70 T za_) (bn3 F70) F70 a70
 have zaW_:=nC Z (CG F71 T za_ zaV_ zJ_ zw_ zB_) (bn4 F71) F71 a71
 exact vW F72 T zbL_ zck_ zbM_ zbN_ I_Ward zbO_ zaq_ zr_ zaj_ za_ zav_ zm_ zaW_ zg_
theorem AR{l:PySem.W.OpenLaw}{q:Program}{loose:List Str}{XP:(Str→Option Value)→Heap→Prop}{YP:World→Heap→Prop}{d:DefRec}{K:Params→PySem.W.Frag}(hn:l.most=some 63)(hdf:d.params.defaults=[])
  (hY:∀(w:World) (h:Heap),YP w h→(K w.params).In h)
  (F:∀(w:World) (mg:Str→Option Value) (fa:Addr) (h:Heap),(K w.params).In h→h.Ns mainGlobals mg→mg d.name=some (.ref fa) →
   ∃fd:FuncData,(∀(s:Shared) (u:Value),BindsTo s fd ⟨[u],[]⟩ [("_law_script",u)])∧∀base:Heap,(K w.params).In base→base.Ns mainGlobals mg→aN l.prog w (K w.params) mg base CX0 12 fa fd ["_law_script"] (jQ (K w.params))) :
  PySem.W.WalkO q loose XP YP l.row.toRowW d [] (fun f vs=>PySem.call f vs) :=
 L2.sC (n:=63) (k:=12) (x := "_law_script") (CX:=fun _=>CX0) (sp:=fun w=>jQ (K w.params)) hn (by decide) hdf ⟨rfl,by decide,by decide⟩ hY F (fun _ _ a ns hl _ hS=>⟨a,ns,rfl,hS,hl,fun _=>rfl⟩) fun _ _ _ _ _ z=>z
end My
open PySem PySem.W PyProof.Rows
set_option maxRecDepth 100000 in
set_option maxHeartbeats 0 in
theorem PySem.Challenge.cw_rotaward_k62_a_clash_is_looked_at_holds : PySem.Challenge.rw_rotaward_k62_a_clash_is_looked_at.Holds := by
 w_on;o_law;k_head;(case hw=>w_witness2)
 k_fill
 refine My.AR (l:=PySem.Challenge.rw_rotaward_k62_a_clash_is_looked_at) rfl rfl (fun w h Y=>PySem.W.kIn_of Y) ?F
 case F =>
  intro w mg fa h KX G hmg
  refine' My.wE hmg ?_ ?_ ?_ ?_ ?_ ?_ ?_ ?_ ?_ ?_ ?_ ?_ ?_ ?_ ?_ ?_ ?_ ?_ ?_ ?_ ?_ ?_ ?_ ?_ ?_ ?_ ?_ ?_ ?_ ?_ ?_ ?_ ?_ ?_ ?_ ?_ ?_ ?_ ?_ ?_ ?_ ?_ ?_ ?_ ?_ ?_ ?_ ?_ ?_ ?_ ?_ ?_ ?_ ?_ ?_ ?_ ?_ ?_ ?_ ?_ ?_ ?_ ?_ ?_ ?_ ?_ ?_ ?_ ?_ ?_ ?_ ?_ ?_ ?_ ?_ ?_ ?_ ?_ ?_ ?_ ?_ ?_ ?_ ?_ ?_ ?_ ?_ ?_ ?_ ?_ ?_ ?_ ?_ ?_ ?_ ?_ ?_ ?_ ?_ ?_ ?_ ?_ ?_ ?_ ?_ ?_ ?_ ?_ ?_ ?_ ?_ ?_ ?_ ?_ ?_ ?_ ?_ ?_ ?_ ?_ ?_ ?_ ?_ ?_ ?_ ?_ ?_ ?_ ?_ ?_ ?_ ?_ ?_ ?_ ?_ ?_ ?_ ?_ ?_ ?_ ?_ ?_ ?_ ?_ ?_ ?_ ?_ ?_ ?_ ?_ ?_ ?_ ?_ ?_ ?_ ?_ ?_ ?_ ?_ ?_ ?_ ?_ ?_ ?_ ?_ ?_ ?_ ?_ ?_ ?_ ?_ ?_ ?_ ?_ ?_ ?_ ?_ ?_ ?_ ?_ ?_ ?_ ?_ ?_ ?_ ?_ ?_ ?_ ?_ ?_ ?_
  all_goals first | (refine PySem.W.mg_of KX G ?_;k_is) | (refine' L2.xV ?_ ?_ ?_ <;> first | k_is | skip) | (refine PySem.W.mg_none_of KX G ?_;k_is) | (refine' L2.gM.mk ?_ ?_ ?_ <;> first | k_is | skip) | (refine' L2.Mk.mk ?_ ?_ ?_ ?_ <;> first | k_is | skip) | (refine L2.Cls.mk ?_ ?_ ?_ ?_ <;> k_is) | (exact⟨_,PySem.W.mg_of KX G (by k_is)⟩) | k_exc | k_is | skip
