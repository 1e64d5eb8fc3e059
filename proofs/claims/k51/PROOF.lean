import PyProof.Rows.All
import Wide.All
import OpenK.AllK
import Wide.FinOn
import Lean
import PyProof.EqAt
import PyProof.EqKinds
import PyProof.TupleCall
import PySem.Challenge.RW_rotaward_k51_near_by_words
namespace PySem.W.Fast
def tw1089844134896506912:=0
def tw8113531164422444192:=0
def tw2331048693930216096:=0
def tw13796470066803479392:=0
def tw10753350723481205632:=0
def tw1845431259789893761:=0
def tw2102716969185448193:=0
def tw7666820563460885793:=0
def tw5049854825725797889:=0
def tw11070585664136675009:=0
def tw16457645034519790433:=0
def tw14059221610373559137:=0
def tw6809248277621757793:=0
def tw6167254933818684321:=0
def tw13177366650867587009:=0
def tw18147539362888621058:=0
def tw15475151092018078850:=0
def tw17359131799723743554:=0
def tw15529222352159473026:=0
def tw11561701510999179650:=0
def tw8374239683701734850:=0
def tw968455392398160322:=0
def tw13613321883903752674:=0
def tw18279037580343856642:=0
def tw8163921524255489538:=0
def tw7838171657781822018:=0
def tw43905663903341154:=0
def tw13211107747959180930:=0
def tw12794650191403491010:=0
def tw16039190689843722946:=0
def tw13429448408760262402:=0
def tw4902053651697249090:=0
def tw13408289598897881954:=0
def tw12335851628464500610:=0
def tw17982036601092283330:=0
def tw2534802873564893283:=0
def tw16266672095893271651:=0
def tw5319870701529935075:=0
def tw17221191165627134179:=0
def tw8084767376482650403:=0
def tw2084685449841626403:=0
def tw2275065402018315587:=0
def tw8487048190041940355:=0
def tw6788474583381843555:=0
def tw12329871602915925731:=0
def tw13889897913412477731:=0
def tw1720962055308693315:=0
def tw16668958723813186692:=0
def tw8645252182878598340:=0
def tw59372711087446276:=0
def tw16424613660329508164:=0
def tw12479285820627944804:=0
def tw5134649671103694180:=0
def tw13742555444897527364:=0
def tw12057216869719443108:=0
def tw12861876466895460068:=0
def tw17184379901465049956:=0
def tw14157719789139061700:=0
def tw16652281667525137509:=0
def tw16885592544197662821:=0
def tw13106424937575655685:=0
def tw12963858547568826725:=0
def tw17308052335504230917:=0
def tw12662665346085286501:=0
def tw14948684800867859045:=0
def tw4548559010729536133:=0
def tw14258994624720702117:=0
def tw8184030762946533093:=0
def tw8798592040424607557:=0
def tw7984626091041365989:=0
def tw2488746761548770470:=0
def tw13677338461764475142:=0
def tw18369730642589140294:=0
def tw15862137797194046822:=0
def tw11858467083844608358:=0
def tw13139050706286933350:=0
def tw10545083102748761830:=0
def tw11903076249667085254:=0
def tw14992771553069486022:=0
def tw2664560011047603271:=0
def tw1958096747531013255:=0
def tw13065493746434361479:=0
def tw6437095400182921383:=0
def tw14092654274083849415:=0
def tw3579745355669373159:=0
def tw894004990549219591:=0
def tw13310906247076190503:=0
def tw18290830715117861223:=0
def tw16374713689135309191:=0
def tw1160260126866193895:=0
def tw17469616621651338823:=0
def tw2276371438044721831:=0
def tw5155624800795987719:=0
def tw14734849865007999783:=0
def tw2015599925290628935:=0
def tw9724222492303450216:=0
def tw2880739785719185544:=0
def tw14975347858901174408:=0
def tw802216089501387912:=0
def tw14382373057640774824:=0
def tw2156827600704805032:=0
def tw2438285344752809192:=0
def tw5645068264698142024:=0
def tw11675136511824422216:=0
def tw4610220950146718088:=0
def tw6634630140770336360:=0
def tw10114527602309374632:=0
def tw12075913510849994504:=0
def tw6645186603803044616:=0
def tw5822599929001275144:=0
def tw17859132121379324808:=0
def tw7542081467720344649:=0
def tw9304465520949350473:=0
def tw17868531348451194089:=0
def tw1578691800066512105:=0
def tw10290613776778023209:=0
def tw14870755110927159721:=0
def tw13951228724315199945:=0
def tw6416914545747211881:=0
def tw7923573574892634761:=0
def tw14979428726835178217:=0
def tw9961300493861807945:=0
def tw11699760698148213609:=0
def tw11072021434397104073:=0
def tw11894996969212167113:=0
def tw14911118372926026762:=0
def tw5913418685045800330:=0
def tw13125513213368794730:=0
def tw8267856571337222922:=0
def tw11027035852714974251:=0
def tw7368605403437245547:=0
def tw1324125380958281963:=0
def tw7801798373951072747:=0
def tw12063451748356745739:=0
def tw3086543142561121963:=0
def tw5624580487204697803:=0
def tw14271965117383564075:=0
def tw11122052735020132235:=0
def tw18074415850602633099:=0
def tw17906642013230690251:=0
def tw4608501410438971468:=0
def tw14047571380802456908:=0
def tw16513867826891583916:=0
def tw316244706806321676:=0
def tw14122670543908512492:=0
def tw9118691272561857292:=0
def tw11221950940529483660:=0
def tw1971203641871356844:=0
def tw8418086917659671629:=0
def tw16988100219403563149:=0
def tw4464778921116996781:=0
def tw89835306165158093:=0
def tw4567788858682804493:=0
def tw7962234342800011693:=0
def tw1675739621825226157:=0
def tw10065894074091628077:=0
def tw2962867423150277229:=0
def tw16003597787071339181:=0
def tw17954583258354323213:=0
def tw16054946658009517869:=0
def tw18153853284803106862:=0
def tw10177874862508759118:=0
def tw3322413180099681358:=0
def tw1210524596687644846:=0
def tw1627688521673676974:=0
def tw12574057796614117614:=0
def tw7861439508909957422:=0
def tw10516720677979355502:=0
def tw8381615321711402638:=0
def tw7011106590694184718:=0
def tw243579602259003310:=0
def tw17746338999491020815:=0
def tw7505262469329372463:=0
def tw9571775812914797007:=0
def tw18135259948743917039:=0
def tw8801284603503634063:=0
def tw879201544269726415:=0
def tw11490924666894305103:=0
def tw15853116561684520879:=0
def tw1180258163600022511:=0
def tw13849303931526770992:=0
def tw16990926631685378416:=0
def tw13582896681114979792:=0
def tw14623377540565534384:=0
def tw7112713566618466032:=0
def tw402752109946529520:=0
def tw9421337070424068944:=0
def tw9243475677265843152:=0
def tw4303250014968594481:=0
def tw12632620754166570097:=0
def tw17037216043646583953:=0
def tw6319716964333890737:=0
def tw11105254325451149521:=0
def tw3946203990742328529:=0
def tw6046777668466976977:=0
def tw15108893936099446001:=0
def tw11263508028657752433:=0
def tw3707153098420537777:=0
def tw9009867398134595057:=0
def tw7755973048124747281:=0
def tw13148675292950285873:=0
def tw13095068431048761905:=0
def tw17700754952737832625:=0
def tw690463592376866641:=0
def tw17842609262352301969:=0
def tw5893498843754530737:=0
def tw6612816980922266738:=0
def tw3902604328382030034:=0
def tw3140141850797384946:=0
def tw10663250959487914258:=0
def tw6602093971603986738:=0
def tw12211172271717373266:=0
def tw1303688011852068210:=0
def tw976952328852999602:=0
def tw1593183616786513426:=0
def tw7763947064105733042:=0
def tw6151148811706660818:=0
def tw15205741104449690578:=0
def tw10226081416118605810:=0
def tw9765705465020350675:=0
def tw6591912427034118387:=0
def tw613903854120657235:=0
def tw1033098957499901523:=0
def tw1009013958403163795:=0
def tw13212535913787293427:=0
def tw4167234386518487027:=0
def tw13007696176201651252:=0
def tw8303951040040823892:=0
def tw13488866248250336436:=0
def tw6050868840949060788:=0
def tw3783827068072866132:=0
def tw9133678473766821236:=0
def tw2074645134917448084:=0
def tw1923943441570485780:=0
def tw16944904514250217012:=0
def tw499308130354046612:=0
def tw17406187000431020788:=0
def tw7795608009022968596:=0
def tw1336727104246721557:=0
def tw13697779839924403253:=0
def tw10153140183418253397:=0
def tw800169693151082581:=0
def tw15178345648086911221:=0
def tw8496037244643888437:=0
def tw11820448322592100853:=0
def tw13783364698358321685:=0
def tw4679006970528385685:=0
def tw16367848298482096789:=0
def tw17849426128936417973:=0
def tw4463101173599862517:=0
def tw8722520513141846805:=0
def tw13733617609102462805:=0
def tw1695352325491529589:=0
def tw7449006935674613685:=0
def tw15028066368623905910:=0
def tw5370383921538068726:=0
def tw16508717838704566614:=0
def tw17443273028133582358:=0
def tw189645922766362166:=0
def tw18272075255392333622:=0
def tw15673597152432702294:=0
def tw13831469676839133110:=0
def tw2496443220225976278:=0
def tw6635472797432018902:=0
def tw17275783489783788534:=0
def tw10630959919224663319:=0
def tw10220825781307132215:=0
def tw10299907737650127479:=0
def tw13653384674250154647:=0
def tw17609130342541858583:=0
def tw7221965245288003447:=0
def tw11258364435634445464:=0
def tw2406332970587273400:=0
def tw6343148217193965976:=0
def tw3457510936456360344:=0
def tw4609160718395475416:=0
def tw5329473806363250200:=0
def tw12296169148393674488:=0
def tw10643122223602352217:=0
def tw521969415381825721:=0
def tw307665024739153241:=0
def tw12915236837022090649:=0
def tw6690234773761727929:=0
def tw1297181996037018137:=0
def tw5266103889570881177:=0
def tw4814192347929452441:=0
def tw16657579464808055834:=0
def tw7756052538996299930:=0
def tw5483586278694584570:=0
def tw6173366525026720282:=0
def tw15783789440701876762:=0
def tw12931325800810059386:=0
def tw12006865733327586970:=0
def tw1379013644961553242:=0
def tw5432284383785981786:=0
def tw8411576905552898042:=0
def tw12614861446920002587:=0
def tw769564718830931003:=0
def tw8223985327895098683:=0
def tw8717892230788371835:=0
def tw5964214334818027931:=0
def tw8240216996775273083:=0
def tw14085749741489742619:=0
def tw4195796468695257148:=0
def tw10665063136429981884:=0
def tw18220825298215664924:=0
def tw9762324215206785340:=0
def tw16636950358304041276:=0
def tw17499492363409790268:=0
def tw15910954027399461276:=0
def tw11341930342668713404:=0
def tw14073707691133214332:=0
def tw8297264134822306460:=0
def tw4381752332077979292:=0
def tw10326476383754197724:=0
def tw11181303722571438876:=0
def tw6442521041642948380:=0
def tw7690211966539203420:=0
def tw13874794029330812764:=0
def tw12612624140342846364:=0
def tw2435855695947053980:=0
def tw4559234935939483644:=0
def tw10290674026409175036:=0
def tw12369224257608456317:=0
def tw14233014469889651901:=0
def tw212872692712826109:=0
def tw16237321802340166045:=0
def tw2297818724891032029:=0
def tw8967243476768045565:=0
def tw5570755195382822493:=0
def tw11112005814484284157:=0
def tw6690843579183652701:=0
def tw9480425644300894077:=0
def tw14161094160967862205:=0
def tw3498119057184263133:=0
def tw16665514461885218813:=0
def tw17882049120324370590:=0
def tw15671333312382999742:=0
def tw5040781500249261438:=0
def tw10814206162082083358:=0
def tw11177686090291101214:=0
def tw90544697004638750:=0
def tw5940481841442980414:=0
def tw7802588560608220734:=0
def tw17077409794066050654:=0
def tw13053196628701378238:=0
def tw1902594429091332894:=0
def tw1677610794718708959:=0
def tw12672209907029669215:=0
def tw14957414208048527775:=0
def tw4079733670857938431:=0
def tw2877547320580675135:=0
def tw13020126988518498879:=0
def tw18327501052719199903:=0
def tw11995841283346862879:=0
def tw8711953600834337631:=0
def tw3362748438477739339:=0
end PySem.W.Fast
set_option Elab.async false
set_option linter.all false
set_option maxRecDepth 100000
namespace L2
open PySem PySem.Spec PyProof.Rows

/-- a key: an int or a str -/
abbrev Key := Sum Int Str
def keyIs : Key → Value → Bool
  | .inl k, v => Value.isInt k v
  | .inr x, v => Value.isStrOf x v
def keyH (w : World) : Key → Int
  | .inl k => hashInt k
  | .inr x => hashStr w x
theorem keyIs_shape : ∀ {k : Key} {v : Value}, keyIs k v = true → (∃ i t, k = Sum.inl i ∧ v = Value.int i t) ∨ (∃ x t, k = Sum.inr x ∧ v = Value.str x t)
  | .inl i, v, h => by
    obtain ⟨t, e⟩ := Value.isInt_shape (k := i) (v := v) h
    exact .inl ⟨i, t, rfl, e⟩
  | .inr x, v, h => by
    obtain ⟨t, e⟩ := Value.isStrOf_shape (x := x) (v := v) h
    exact .inr ⟨x, t, rfl, e⟩
theorem keyIs_int (i : Int) (t : Tok) : keyIs (.inl i) (.int i t) = true := by simp [keyIs, Value.isInt]
theorem keyIs_str (x : Str) (t : Tok) : keyIs (.inr x) (.str x t) = true := by simp [keyIs, Value.isStrOf]
theorem key_ll (a b : Int) : decide ((Sum.inl a : Key) = Sum.inl b) = (a == b) := by
  by_cases e : a = b
  · subst e; simp
  · have h : ¬ (Sum.inl a : Key) = Sum.inl b := fun q => e (Sum.inl.inj q)
    rw [decide_eq_false h]
    exact (beq_eq_false_iff_ne.mpr e).symm
theorem key_rr (a b : Str) : decide ((Sum.inr a : Key) = Sum.inr b) = decide (a = b) := by
  by_cases e : a = b
  · subst e; simp
  · have h : ¬ (Sum.inr a : Key) = Sum.inr b := fun q => e (Sum.inr.inj q)
    rw [decide_eq_false h, decide_eq_false e]
theorem key_lr (a : Int) (b : Str) : decide ((Sum.inl a : Key) = Sum.inr b) = false := decide_eq_false (fun q => nomatch q)
theorem key_rl (a : Str) (b : Int) : decide ((Sum.inr a : Key) = Sum.inl b) = false := decide_eq_false (fun q => nomatch q)

def mixKind (prog : Program) (w : World) : PySem.KeyKind prog w Key where
  is := keyIs
  hash := keyH w
  inj := fun v a b ha hb => by
    rcases keyIs_shape ha with ⟨i, t, rfl, rfl⟩ | ⟨x, t, rfl, rfl⟩
    · rcases keyIs_shape hb with ⟨j, u, rfl, e⟩ | ⟨y, u, rfl, e⟩
      · injection e with e1 _; rw [e1]
      · exact nomatch e
    · rcases keyIs_shape hb with ⟨j, u, rfl, e⟩ | ⟨y, u, rfl, e⟩
      · exact nomatch e
      · injection e with e1 _; rw [e1]
  byValue := fun k v h => by
    rcases keyIs_shape h with ⟨i, t, rfl, rfl⟩ | ⟨x, t, rfl, rfl⟩ <;> rfl
  pyHash := fun hv h => by
    rcases keyIs_shape hv with ⟨i, t, rfl, rfl⟩ | ⟨x, t, rfl, rfl⟩
    · exact wpAny_pyHash_int h
    · exact wpAny_pyHash_str h
  eqBool := fun hu hv h => by
    rcases keyIs_shape hu with ⟨i, t, rfl, rfl⟩ | ⟨x, t, rfl, rfl⟩
    · rcases keyIs_shape hv with ⟨j, u, rfl, rfl⟩ | ⟨y, u, rfl, rfl⟩
      · rw [key_ll] at h; exact wpAny_eqBool_int h
      · rw [key_lr] at h; exact SeqAt.EqAt.int_str i t y u _ _ _ _ h
    · rcases keyIs_shape hv with ⟨j, u, rfl, rfl⟩ | ⟨y, u, rfl, rfl⟩
      · rw [key_rl] at h; exact SeqAt.EqAt.str_int x t j u _ _ _ _ h
      · rw [key_rr] at h; exact wpAny_eqBool_str h
  «strs» := fun k x t v h => by
    rcases keyIs_shape h with ⟨i, u, rfl, e⟩ | ⟨y, u, rfl, e⟩
    · exact nomatch e
    · injection e with e1 _
      subst e1
      cases v <;> rfl

theorem mixKind_int (prog : Program) (w : World) (i : Int) (t : Tok) : (mixKind prog w).is (.inl i) (.int i t) = true := keyIs_int i t
theorem mixKind_str (prog : Program) (w : World) (x : Str) (t : Tok) : (mixKind prog w).is (.inr x) (.str x t) = true := keyIs_str x t
end L2

namespace L2
open PySem PySem.Spec PyProof.Rows

/-- a value, without the heap -/
inductive V where
  | non | bl (b : Bool) | int (i : Int) | str (x : Str) | byt (b : Array UInt8) | flt (b : UInt64) | ref (a : Addr) | ty (n : String)
  deriving DecidableEq

def RelV : V → Value → Prop
  | .non, u => u = Value.none
  | .bl b, u => u = Value.bool b
  | .int i, u => ∃ t, u = Value.int i t
  | .str x, u => ∃ t, u = Value.str x t
  | .byt b, u => ∃ t, u = Value.bytes b t
  | .flt b, u => ∃ t, u = Value.float b t
  | .ref a, u => u = Value.ref a
  | .ty n, u => u = Value.type n

abbrev Vals : List V → List Value → Prop := Paired RelV
theorem Vals.length {xs : List V} {us : List Value} (r : Vals xs us) : xs.length = us.length := Paired.length r
theorem Vals.get : ∀ {xs : List V} {us : List Value} {i : Nat} {x : V}, Vals xs us → xs[i]? = some x → ∃ u, us[i]? = some u ∧ RelV x u
  | _, _, _, _, .nil, e => by simp at e
  | _, _, 0, _, .cons r _, e => by simp at e; subst e; exact ⟨_, rfl, r⟩
  | _, _, i + 1, x, .cons _ t, e => by
    obtain ⟨u, h1, h2⟩ := Vals.get (i := i) (x := x) t (by simpa using e)
    exact ⟨u, by simpa using h1, h2⟩
theorem Vals.set {x : V} {u : Value} (r : RelV x u) : ∀ {xs : List V} {us : List Value} (i : Nat), Vals xs us → Vals (xs.set i x) (us.set i u)
  | _, _, _, .nil => .nil
  | _, _, 0, .cons _ t => .cons r t
  | _, _, i + 1, .cons q t => .cons q (Vals.set r i t)
theorem Vals.append : ∀ {xs ys : List V} {us ws : List Value}, Vals xs us → Vals ys ws → Vals (xs ++ ys) (us ++ ws)
  | _, _, _, _, .nil, s => s
  | _, _, _, _, .cons r t, s => .cons r (Vals.append t s)
theorem Vals.take : ∀ {xs : List V} {us : List Value} (n : Nat), Vals xs us → Vals (xs.take n) (us.take n)
  | _, _, 0, _ => .nil
  | _, _, _ + 1, .nil => .nil
  | _, _, n + 1, .cons r t => .cons r (Vals.take n t)
theorem Vals.drop : ∀ {xs : List V} {us : List Value} (n : Nat), Vals xs us → Vals (xs.drop n) (us.drop n)
  | _, _, 0, r => r
  | _, _, _ + 1, .nil => .nil
  | _, _, n + 1, .cons _ t => Vals.drop n t
def RelO : Option V → Option Value → Prop
  | some v, some u => RelV v u
  | none, none => True
  | _, _ => False
def KV {κ : Type} : List (κ × V) → List (κ × Value) → Prop := Paired fun (p : κ × V) (q : κ × Value) => p.1 = q.1 ∧ RelV p.2 q.2

/-- a key of a dict (00_mix): an int or a text -/
def kV : Key → V
  | .inl i => .int i
  | .inr x => .str x

/-- what stands at a tracked address -/
inductive HO where
  /-- a list -/
  | lst (xs : List V)
  /-- a tuple (never changes) -/
  | tup (xs : List V)
  /-- a dict whose keys are ints and texts; one whose keys are tuples of ints and texts (the empty one is both) -/
  | dK (kvs : List (Key × V)) | dT (kvs : List (List Key × V))
  /-- a set of ints: its members, its size -/
  | set (S : Int → Bool) (n : Nat)
  /-- an instance of the class at C, its dict at dx, its attributes -/
  | ins (C dx : Addr) (fs : List (Str × V))
  /-- the dict of the instance at x -/
  | own (x : Addr)
  /-- the dict of an exception -/
  | xd (fs : List (Str × V))
  /-- a bound method, f of x -/
  | met (f x : Addr)
  /-- a range object lo, lo + 1, .. below hi -/
  | rng (lo hi : Int)
  /-- a thing that is known to the object (the script; a dict while a loop walks it): read, never written while it is so -/
  | frz (o : Obj) (u : HO)
  /-- a code object's table -/
  | tbl (ps : Array Value)
  /-- any other thing, by what is true of its one object (a def of one's own: SetO a S n := HO.ext fun h => ..) -/
  | ext (φ : Heap → Prop)

abbrev Hp := Addr → Option HO
def upd (H : Hp) (a : Addr) (o : HO) : Hp := fun b => if b = a then some o else H b
theorem upd_same {H : Hp} {a : Addr} {o : HO} : upd H a o a = some o := by unfold upd; rw [if_pos rfl]
theorem upd_ne {H : Hp} {a b : Addr} {o : HO} (h : b ≠ a) : upd H a o b = H b := by unfold upd; rw [if_neg h]
theorem upd_upd {H : Hp} {a : Addr} {o u : HO} : upd (upd H a o) a u = upd H a u := by
  funext b; unfold upd; split <;> rfl
/-- two objects of different content stand apart -/
theorem ne_of {H : Hp} {a b : Addr} {o u : HO} (h : H a = some o) (h' : H b = some u) (d : o ≠ u) : a ≠ b := by
  intro e; subst e; rw [h] at h'; exact d (Option.some.inj h')
theorem ne_of_none {H : Hp} {a b : Addr} {o : HO} (h : H a = some o) (h' : H b = none) : a ≠ b := by
  intro e; subst e; rw [h] at h'; cases h'

section
variable (P : Program) (w : World)
def ObjOk (H : Hp) (h : Heap) (a : Addr) : HO → Prop
  | .lst xs => xs.length ≤ sizeLine ∧ ∃ (its : List Value) (n : Nat), Vals xs its ∧ h.get? a = some { cls := .type "list", data := .seq its.toArray n }
  | .tup xs => xs.length ≤ sizeLine ∧ ∃ its : List Value, Vals xs its ∧ IsTup h a its.toArray
  | .dK kvs => kvs.length ≤ sizeLine ∧ (a == sysModules) = false ∧ ∃ vs, KV kvs vs ∧ h.DictOf (mixKind P w) a vs
  | .dT kvs => kvs.length ≤ sizeLine ∧ (a == sysModules) = false ∧ ∃ xs : List (List Key × Addr × Value),
      Paired (fun (p : List Key × V) (q : List Key × Addr × Value) => p.1 = q.1 ∧ H q.2.1 = some (.tup (p.1.map kV)) ∧ RelV p.2 q.2.2) kvs xs ∧
      ∃ o es ep, h.get? a = some o ∧ o.ExactDict ∧ o.data = .dict es ep ∧ es.toList = xs.map (entryOfKey (tupleKind (mixKind P w))) ∧ (xs.map (·.1)).Nodup
  | .set S n => h.SetOf (intKind P w) a S n
  | .ins C dx fs => H dx = some (.own a) ∧ fs.length ≤ 1000 ∧ dx ≠ a ∧ h.get? a = some (PySem.W.instObj C dx) ∧
      ∃ mA, h.Ns1 dx mA ∧ (∀ f, RelO (fs.lookup f) (mA f)) ∧ PySem.Within mA (fs.map (·.1))
  | .own _ => ∃ o, h.get? a = some o
  | .xd fs => ∃ mA, h.Ns1 a mA ∧ ∀ f, RelO (fs.lookup f) (mA f)
  | .rng lo hi => ∃ t u v, h.get? a = some { cls := .type "range", data := .fields #[.int lo t, .int hi u, .int 1 v] }
  | .frz o u => h.get? a = some o ∧ ObjOk H h a u
  | .tbl ps => h.get? a = some { cls := .none, data := .fields ps }
  | .met f x => h.get? a = some (PySem.W.methodObj (.ref f) (.ref x))
  | .ext φ => φ h ∧ (∃ o, h.get? a = some o) ∧ ∀ h1 h2 : Heap, φ h1 → (∀ o, h1.get? a = some o → h2.get? a = some o) → φ h2
/-- the abstract heap is held -/
def HOk (H : Hp) (h : Heap) : Prop := ∀ a o, H a = some o → ObjOk P w H h a o
end

section
variable {P : Program} {w : World} {H H' : Hp} {h h' : Heap} {a : Addr} {o : HO}
theorem ObjOk.lt (x : ObjOk P w H h a o) : a < h.objs.size := by
  cases o with
  | lst xs => obtain ⟨_, _, _, _, e⟩ := x; exact Heap.lt_size e
  | tup xs => obtain ⟨_, _, _, p⟩ := x; exact p.lt
  | dK kvs => obtain ⟨_, _, _, _, o, _, _, e, _⟩ := x; exact Heap.lt_size e
  | dT kvs => obtain ⟨_, _, _, _, o, _, _, e, _⟩ := x; exact Heap.lt_size e
  | set S n => obtain ⟨o, _, _, _, e, _⟩ := x; exact Heap.lt_size e
  | ins C dx fs => obtain ⟨_, _, _, e, _⟩ := x; exact Heap.lt_size e
  | own y => obtain ⟨_, e⟩ := x; exact Heap.lt_size e
  | xd fs => obtain ⟨_, ⟨_, _, _, e, _⟩, _⟩ := x; exact Heap.lt_size e
  | rng lo hi => obtain ⟨_, _, _, e⟩ := x; exact Heap.lt_size e
  | frz ob u => obtain ⟨e, _⟩ := x; exact Heap.lt_size e
  | tbl ps => exact Heap.lt_size (show h.get? a = some _ from x)
  | met f y => exact Heap.lt_size (show h.get? a = some _ from x)
  | ext φ => obtain ⟨_, ⟨_, e⟩, _⟩ := x; exact Heap.lt_size e
theorem Paired.mapP {α β : Type} {F G : α → β → Prop} : ∀ {l₁ : List α} {l₂ : List β}, Paired F l₁ l₂ → (∀ a b, F a b → G a b) → Paired G l₁ l₂
  | _, _, .nil, _ => .nil
  | _, _, .cons r t, f => .cons (f _ _ r) (Paired.mapP t f)
/-- what an object's description leans on: its own object, its own dict, the tuples -/
theorem ObjOk.stay (x : ObjOk P w H h a o) (k : ∀ b u, (b = a ∨ H b = some (.own a)) → h.get? b = some u → h'.get? b = some u)
    (ho : ∀ b, H b = some (.own a) → H' b = some (.own a)) (ht : ∀ b xs, H b = some (.tup xs) → H' b = some (.tup xs)) : ObjOk P w H' h' a o := by
  induction o with
  | lst xs => obtain ⟨z, its, n, r, e⟩ := x; exact ⟨z, its, n, r, k _ _ (.inl rfl) e⟩
  | tup xs => obtain ⟨z, its, r, ob, e, c⟩ := x; exact ⟨z, its, r, ob, k _ _ (.inl rfl) e, c⟩
  | dK kvs => obtain ⟨z, y, vs, r, ob, es, ep, e, c⟩ := x; exact ⟨z, y, vs, r, ob, es, ep, k _ _ (.inl rfl) e, c⟩
  | dT kvs =>
    obtain ⟨z, y, xs, r, ob, es, ep, e, c⟩ := x
    exact ⟨z, y, xs, Paired.mapP r fun p q z => ⟨z.1, ht _ _ z.2.1, z.2.2⟩, ob, es, ep, k _ _ (.inl rfl) e, c⟩
  | set S n => obtain ⟨ob, es, ep, t, e, c⟩ := x; exact ⟨ob, es, ep, t, k _ _ (.inl rfl) e, c⟩
  | ins C dx fs =>
    obtain ⟨d, z, ne, e, mA, ⟨od, es, ep, e2, c⟩, r⟩ := x
    exact ⟨ho _ d, z, ne, k _ _ (.inl rfl) e, mA, ⟨od, es, ep, k _ _ (.inr d) e2, c⟩, r⟩
  | own y => obtain ⟨ob, e⟩ := x; exact ⟨ob, k _ _ (.inl rfl) e⟩
  | xd fs => obtain ⟨mA, ⟨od, es, ep, e, c⟩, r⟩ := x; exact ⟨mA, ⟨od, es, ep, k _ _ (.inl rfl) e, c⟩, r⟩
  | rng lo hi => obtain ⟨t, u, v, e⟩ := x; exact ⟨t, u, v, k _ _ (.inl rfl) e⟩
  | frz ob u ih => obtain ⟨e, q⟩ := x; exact ⟨k _ _ (.inl rfl) e, ih q⟩
  | tbl ps =>
    have e : h.get? a = some { cls := .none, data := .fields ps } := x
    show h'.get? a = some { cls := .none, data := .fields ps }
    exact k a _ (.inl rfl) e
  | met f y =>
    have e : h.get? a = some (PySem.W.methodObj (.ref f) (.ref y)) := x
    show h'.get? a = some (PySem.W.methodObj (.ref f) (.ref y))
    exact k a _ (.inl rfl) e
  | ext φ => obtain ⟨p, ⟨o, e⟩, st⟩ := x; exact ⟨st _ _ p fun o q => k _ _ (.inl rfl) q, ⟨o, k _ _ (.inl rfl) e⟩, st⟩
theorem HOk.lt (x : HOk P w H h) (e : H a = some o) : a < h.objs.size := (x a o e).lt
theorem HOk.fresh (x : HOk P w H h) (e : h.objs.size ≤ a) : H a = none := by
  cases q : H a with
  | none => rfl
  | some u => exact absurd (Nat.lt_of_lt_of_le (x.lt q) e) (Nat.lt_irrefl _)
/-- every object of the heap is kept -/
theorem HOk.kept (x : HOk P w H h) (k : ∀ b u, h.get? b = some u → h'.get? b = some u) : HOk P w H h' := fun a o e =>
  (x a o e).stay (fun b u _ q => k b u q) (fun _ q => q) fun _ _ q => q
/-- a new object is laid and tracked -/
theorem HOk.laid (x : HOk P w H h) (k : ∀ b u, h.get? b = some u → h'.get? b = some u) (hp : h.objs.size ≤ a) (new : ObjOk P w (upd H a o) h' a o) : HOk P w (upd H a o) h' := fun b u e => by
  have hn := x.fresh hp
  by_cases hb : b = a
  · subst hb; rw [upd_same] at e; cases e; exact new
  · rw [upd_ne hb] at e
    exact (x b u e).stay (fun c v _ q => k c v q) (fun c q => by rw [upd_ne (ne_of_none q hn)]; exact q) fun c xs q => by rw [upd_ne (ne_of_none q hn)]; exact q
end

/-- what may be read as u: it is u, or a known u -/
def Rd (H : Hp) (a : Addr) (u : HO) : Prop := H a = some u ∨ ∃ o, H a = some (.frz o u)
theorem Rd.ok {P : Program} {w : World} {H : Hp} {h : Heap} {a : Addr} {u : HO} (r : Rd H a u) (x : HOk P w H h) : ObjOk P w H h a u := by
  rcases r with r | ⟨o, r⟩
  · exact x a u r
  · obtain ⟨_, q⟩ := x a _ r
    exact q
/-- what may be written -/
def Mut : Option HO → Prop
  | some (.lst _) => True
  | some (.dK _) => True
  | some (.dT _) => True
  | some (.set _ _) => True
  | some (.ins _ _ _) => True
  | some (.ext _) => True
  | _ => False
section
variable {P : Program} {w : World} {H : Hp} {h h' : Heap} {x e : Addr} {o' : HO}
/-- the object at e is changed: x itself, or the dict of the instance x -/
theorem HOk.write (ok : HOk P w H h) (mu : Mut (H x)) (he : e = x ∨ H e = some (.own x)) (k : ∀ b u, b ≠ e → h.get? b = some u → h'.get? b = some u) (heo : ∃ u, h'.get? e = some u)
    (new : ObjOk P w (upd H x o') h' x o') : HOk P w (upd H x o') h' := fun b u q => by
  have nown : ∀ c y, H c = some (.own y) → c ≠ x := fun c y r z => by subst z; rw [r] at mu; exact mu
  have ntup : ∀ c xs, H c = some (.tup xs) → c ≠ x := fun c xs r z => by subst z; rw [r] at mu; exact mu
  by_cases hb : b = x
  · subst hb; rw [upd_same] at q; cases q; exact new
  · rw [upd_ne hb] at q
    by_cases hbe : b = e
    · have q' : H b = some (.own x) := by
        rcases he with z | z
        · exact absurd (hbe.trans z) hb
        · rw [hbe]; exact z
      rw [q] at q'; cases q'
      obtain ⟨v, hv⟩ := heo
      exact ⟨v, by rw [hbe]; exact hv⟩
    · refine (ok b u q).stay (fun c v hc r => k c v ?_ r) (fun c r => by rw [upd_ne (nown c b r)]; exact r) fun c xs r => by rw [upd_ne (ntup c xs r)]; exact r
      rcases hc with rfl | hc
      · exact hbe
      · rintro rfl
        rcases he with z | z
        · exact nown c b hc z
        · rw [hc] at z; cases z; exact hb rfl
end

structure Un (fs ex : List Addr) (H H' : Hp) (h h' : Heap) : Prop where
  keep : ∀ b o, h.get? b = some o → H b = none → b ∉ fs → b ∉ ex → h'.get? b = some o
  slot : ∀ b o, h.get? b = some o → H b = none → b ∈ fs → b ∉ ex → ∃ sl, h'.get? b = some { o with slots := sl }
  free : ∀ b o, h.get? b = some o → H b = none → b ∉ ex → H' b = none
  there : ∀ b o, h.get? b = some o → b ∉ ex → ∃ o', h'.get? b = some o'
  tups : ∀ b xs, H b = some (.tup xs) → H' b = some (.tup xs)
  frzs : ∀ b o u, H b = some (.frz o u) → H' b = some (.frz o u)
  tbls : ∀ b ps, H b = some (.tbl ps) → ∃ more, H' b = some (.tbl (ps ++ more))
section
variable {fs fs' ex ex' : List Addr} {H H1 H2 : Hp} {h h1 h2 h' : Heap} {a x e : Addr} {o : HO}
theorem Un.any (u : Un fs ex H H1 h h1) {b : Addr} {ob : Obj} (q : h.get? b = some ob) (n : H b = none) (hx : b ∉ ex) : ∃ sl, h1.get? b = some { ob with slots := sl } := by
  by_cases hb : b ∈ fs
  · exact u.slot b ob q n hb hx
  · exact ⟨ob.slots, u.keep b ob q n hb hx⟩
theorem Un.trans (a : Un fs ex H H1 h h1) (b : Un fs ex H1 H2 h1 h2) : Un fs ex H H2 h h2 where
  keep := fun c ob q n hc hx => b.keep c ob (a.keep c ob q n hc hx) (a.free c ob q n hx) hc hx
  slot := fun c ob q n hc hx => by
    obtain ⟨sl, e1⟩ := a.slot c ob q n hc hx
    obtain ⟨sl', e2⟩ := b.slot c _ e1 (a.free c ob q n hx) hc hx
    exact ⟨sl', e2⟩
  free := fun c ob q n hx => by
    obtain ⟨o', e1⟩ := a.there c ob q hx
    exact b.free c o' e1 (a.free c ob q n hx) hx
  there := fun c ob q hx => by
    obtain ⟨o', e1⟩ := a.there c ob q hx
    exact b.there c o' e1 hx
  tups := fun c xs q => b.tups c xs (a.tups c xs q)
  frzs := fun c ob xs q => b.frzs c ob xs (a.frzs c ob xs q)
  tbls := fun c ps q => by
    obtain ⟨m1, e1⟩ := a.tbls c ps q
    obtain ⟨m2, e2⟩ := b.tbls c _ e1
    exact ⟨m1 ++ m2, by rw [e2, Array.append_assoc]⟩
theorem Un.kept (k : ∀ b u, h.get? b = some u → h'.get? b = some u) : Un fs ex H H h h' :=
  ⟨fun b ob q _ _ _ => k b ob q, fun b ob q _ _ _ => ⟨ob.slots, k b ob q⟩, fun _ _ _ n _ => n, fun b ob q _ => ⟨ob, k b ob q⟩, fun _ _ q => q, fun _ _ _ q => q, fun _ ps q => ⟨#[], by rw [q]; simp⟩⟩
theorem Un.refl : Un fs ex H H h h := Un.kept fun _ _ q => q
theorem Un.laid (k : ∀ b u, h.get? b = some u → h'.get? b = some u) (hp : h.objs.size ≤ a) (hn : H a = none) : Un fs ex H (upd H a o) h h' where
  keep := fun b u q _ _ _ => k b u q
  slot := fun b u q _ _ _ => ⟨u.slots, k b u q⟩
  free := fun b u q n _ => by rw [upd_ne (Nat.ne_of_lt (Nat.lt_of_lt_of_le (Heap.lt_size q) hp))]; exact n
  there := fun b u q _ => ⟨u, k b u q⟩
  tups := fun b xs q => by rw [upd_ne (ne_of_none q hn)]; exact q
  frzs := fun b u xs q => by rw [upd_ne (ne_of_none q hn)]; exact q
  tbls := fun b ps q => ⟨#[], by rw [upd_ne (ne_of_none q hn), q]; simp⟩
theorem Un.write (mu : Mut (H x)) (he : e = x ∨ H e = some (.own x)) (k : ∀ b u, b ≠ e → h.get? b = some u → h'.get? b = some u) (heo : ∃ u, h'.get? e = some u) : Un fs ex H (upd H x o) h h' := by
  have hx : ∀ b, H b = none → b ≠ x := fun b n z => by subst z; rw [n] at mu; exact mu
  have hb : ∀ b, H b = none → b ≠ e := fun b n z => by
    subst z
    rcases he with r | r
    · exact hx b n r
    · rw [n] at r; cases r
  have hm : ∀ b u, H b = some u → ¬ Mut (some u) → b ≠ x := fun b u q nm z => by subst z; rw [q] at mu; exact nm mu
  refine ⟨fun b u q n _ _ => k b u (hb b n) q, fun b u q n _ _ => ⟨u.slots, k b u (hb b n) q⟩, fun b u q n _ => by rw [upd_ne (hx b n)]; exact n, fun b u q _ => ?_,
    fun b xs q => by rw [upd_ne (hm b _ q fun z => z)]; exact q, fun b u xs q => by rw [upd_ne (hm b _ q fun z => z)]; exact q, fun b ps q => ⟨#[], by rw [upd_ne (hm b _ q fun z => z), q]; simp⟩⟩
  by_cases hbe : b = e
  · subst hbe; exact heo
  · exact ⟨u, k b u hbe q⟩
end

def trk (h : Heap) (H : Hp) : List Addr := (List.range h.objs.size).filter fun a => (H a).isSome
def hidT (h : Heap) (H : Hp) : Heap := PySem.W.hideAll h (trk h H)
theorem hidT_size (h : Heap) (H : Hp) : (hidT h H).objs.size = h.objs.size := PySem.W.hideAll_size _ _
theorem hidT_get {h : Heap} {H : Hp} {b : Addr} {o : Obj} (e : h.get? b = some o) (n : H b = none) : (hidT h H).get? b = some o :=
  PySem.W.hideAll_get _ e fun hm => by
    have q : (H b).isSome = true := (List.mem_filter.mp hm).2
    rw [n] at q; simp at q
theorem of_hidT {h : Heap} {H : Hp} {b : Addr} {o : Obj} (e : (hidT h H).get? b = some o) : h.get? b = some o ∧ H b = none := by
  have e' : h.get? b = some o := PySem.W.of_hideAll (trk h H) e
  refine ⟨e', ?_⟩
  cases q : H b with
  | none => rfl
  | some x =>
    have hm : b ∈ trk h H := List.mem_filter.mpr ⟨List.mem_range.mpr (Heap.lt_size e'), by simp [q]⟩
    have z : (hidT h H).get? b = none := PySem.W.hideAll_none (trk h H) hm
    rw [z] at e; cases e

def allNews (g h : Heap) (L : Addr) : List (Addr × Obj) := (List.range h.objs.size).filterMap fun a => if a = L ∨ (g.get? a).isSome = true then none else (h.get? a).map fun o => (a, o)
def rest (g h : Heap) (L d : Addr) : List (Addr × Obj) := (allNews g h L).filter fun p => decide (p.1 ≠ d)
end L2

namespace L2
open PySem PySem.Spec PyProof.Rows

/-- the module's facts, over the base: the heap at the law's entry without what is tracked there -/
structure Mod (K : PySem.W.Frag) (mg : Str → Option Value) (base : Heap) : Prop where
  kin : K.In base
  glob : base.Ns mainGlobals mg
  blt : ∃ mb, base.Ns builtinsNs mb ∧ ∀ x : Str, x ≠ "__name__" → mb x = bootBuiltins x
  nolimit : base.NoLimit

/-- the context: a def's body (or a comprehension's block) running. base: fixed through the whole law; s₀, H₀: the entry; outer: the frames whose slots others may change (a def's callers); stack: all frames that run;
   ex: iterators that were made ahead of the entry and are walked here (a comprehension's); fn: the names whose cells were made at the entry (a def: all; a comprehension's block: its own); calm: not within an except suite; pn: pins that every state bears; xe: what is wanted of an exception that leaves the code -/
structure Cx where
  prog : Program
  w : World
  K : PySem.W.Frag
  mg : Str → Option Value
  base : Heap
  A : Around
  N : List Str
  s₀ : Shared
  H₀ : Hp
  env : Env
  outer : List Env
  stack : List Env
  ex : List Addr
  fn : Str → Bool
  calm : Bool
  pn : List (Addr × Obj)
  xe : Value → Shared → Prop
/-- the callers' frames -/
def frs (l : List Env) : List Addr := l.filterMap (·.frame)
abbrev Cx.fs (X : Cx) : List Addr := frs X.outer

def Vis (sc : Scope) (x : Str) : Prop := sc.names.lookup x = some .local ∨ sc.names.lookup x = some .cell ∨ sc.names.lookup x = some .free
def Loc (sc : Scope) (x : Str) : Prop := sc.names.lookup x = some .local ∨ sc.names.lookup x = some .cell
def Look (env : Env) (h : Heap) (m : Str → Option Value) (x : Str) (u : Value) : Prop :=
  (env.kindOf x = some .local ∧ m x = some u) ∨ ((env.kindOf x = some .cell ∨ env.kindOf x = some .free) ∧ ∃ c, env.cells.lookup x = some c ∧ h.IsCell c (some u))

structure Cx.Ok (X : Cx) : Prop where
  mod : Mod X.K X.mg X.base
  kind : X.env.scope.kind = .function
  glob : X.env.globals = mainGlobals
  blt : X.env.builtins = builtinsNs
  above : X.s₀.heap.objs.size ≤ X.env.locals
  inj : ∀ x y c, X.env.cells.lookup x = some c → X.env.cells.lookup y = some c → x = y
  has : ∀ x, (X.env.kindOf x = some .cell ∨ X.env.kindOf x = some .free) → ∃ c, X.env.cells.lookup x = some c
  cab : ∀ x c, X.fn x = true → X.env.cells.lookup x = some c → X.s₀.heap.objs.size ≤ c
  hd : X.calm = true → X.A.handled = none
  frames : X.A.frames = some X.stack
  stk : X.stack = X.outer ∨ (X.stack = X.env :: X.outer ∧ X.env.frame = some X.env.locals)
  exf : ∀ b ∈ X.ex, b ≠ X.env.locals ∧ ∀ x c, X.env.cells.lookup x = some c → c ≠ b
  bs : ∀ b o, X.base.get? b = some o → X.s₀.heap.get? b = some o ∧ X.H₀ b = none
  bsz : X.base.objs.size ≤ X.s₀.heap.objs.size
  noex : ∀ b o, X.base.get? b = some o → b ∉ X.ex
  exfs : ∀ b ∈ X.ex, b ∉ X.fs
  funs : X.s₀.heap.FunFrames X.base X.outer
  frf : ∀ b ∈ X.fs, X.H₀ b = none

structure Inv (X : Cx) (pins : List (Addr × Obj)) (σ : List (Option V)) (H : Hp) (s : Shared) : Prop where
  ok : X.Ok
  os : s.os = X.s₀.os
  bare : AllBare s.gens
  base : Un X.fs X.ex X.H₀ H X.s₀.heap s.heap
  loc : ∃ m, s.heap.Ns X.env.locals m ∧ ∀ (i : Nat) (x : Str) (v : V), X.N[i]? = some x → σ[i]? = some (some v) → Vis X.env.scope x → ∃ u, RelV v u ∧ Look X.env s.heap m x u
  cell : ∀ x c, X.env.cells.lookup x = some c → ∃ v, s.heap.IsCell c v
  free : H X.env.locals = none
  freeC : ∀ x c, X.env.cells.lookup x = some c → H c = none
  pin : ∀ p ∈ X.pn ++ pins, s.heap.get? p.1 = some p.2 ∧ H p.1 = none ∧ p.1 ≠ X.env.locals ∧ p.1 ∉ X.fs ∧ ∀ v, p.2.data ≠ .cell v
  hok : HOk X.prog X.w H s.heap
  len : σ.length = X.N.length

section
variable {X : Cx} {pins : List (Addr × Obj)} {σ : List (Option V)} {H H' : Hp} {s : Shared} {h' : Heap}

theorem Cx.Ok.nofr (ok : X.Ok) {b : Addr} {o : Obj} (e : X.base.get? b = some o) : b ∉ X.fs := fun hb => by
  have := (ok.funs.mem hb).1
  rw [e] at this; cases this
theorem Inv.bs (I : Inv X pins σ H s) : ∀ b o, X.base.get? b = some o → s.heap.get? b = some o ∧ H b = none := fun b o e =>
  ⟨I.base.keep b o (I.ok.bs b o e).1 (I.ok.bs b o e).2 (I.ok.nofr e) (I.ok.noex b o e), I.base.free b o (I.ok.bs b o e).1 (I.ok.bs b o e).2 (I.ok.noex b o e)⟩
theorem Inv.bk (I : Inv X pins σ H s) : ∀ b o, X.base.get? b = some o → s.heap.get? b = some o := fun b o e => (I.bs b o e).1
theorem Inv.mod (I : Inv X pins σ H s) : Mod X.K X.mg X.base := I.ok.mod
theorem Inv.kIn (I : Inv X pins σ H s) : X.K.In s.heap := I.ok.mod.kin.keeps I.bk
theorem Inv.lt (I : Inv X pins σ H s) : X.env.locals < s.heap.objs.size := let ⟨_, hn, _⟩ := I.loc; hn.lt
theorem Inv.sz (I : Inv X pins σ H s) : X.s₀.heap.objs.size ≤ s.heap.objs.size := Nat.le_trans I.ok.above (Nat.le_of_lt I.lt)
theorem Inv.nofs (I : Inv X pins σ H s) {a : Addr} (h : s.heap.objs.size ≤ a) : a ∉ X.fs := fun hb => by
  obtain ⟨_, o, ho, _⟩ := I.ok.funs.mem hb
  exact absurd (Nat.lt_of_lt_of_le (Heap.lt_size ho) (Nat.le_trans I.sz h)) (Nat.lt_irrefl _)
theorem Inv.cne (I : Inv X pins σ H s) : ∀ x c, X.env.cells.lookup x = some c → c ≠ X.env.locals := fun x c e z => by
  obtain ⟨v, o, ho, hd⟩ := I.cell x c e
  obtain ⟨m, ⟨o', es, ep, ho', hd', _⟩, _⟩ := I.loc
  rw [z, ho'] at ho; cases ho; rw [hd'] at hd; cases hd
theorem Inv.funs (I : Inv X pins σ H s) : s.heap.FunFrames X.base X.outer := by
  have all : ∀ (l : List Env), (∀ b ∈ frs l, b ∈ X.fs) → X.s₀.heap.FunFrames X.base l → s.heap.FunFrames X.base l := by
    intro l
    induction l with
    | nil => intro _ _; trivial
    | cons env r ih =>
      intro hs hl
      obtain ⟨hk, ⟨L, o, hf, hn, ho, hd⟩, hr⟩ := hl
      have hL : L ∈ X.fs := hs L (by unfold frs; rw [List.filterMap_cons, hf]; exact List.mem_cons_self)
      obtain ⟨sl, e⟩ := I.base.slot L o ho (I.ok.frf L hL) hL fun z => I.ok.exfs L z hL
      exact ⟨hk, ⟨L, _, hf, hn, e, hd⟩, ih (fun b hb => hs b (by unfold frs; rw [List.filterMap_cons, hf]; exact List.mem_cons_of_mem _ hb)) hr⟩
  exact all X.outer (fun _ hb => hb) I.ok.funs

/-- the frames that run, for a call -/
theorem Inv.stack (I : Inv X pins σ H s) : s.heap.FunFrames X.base X.stack := by
  rcases I.ok.stk with e | ⟨e, hf⟩
  · rw [e]; exact I.funs
  · rw [e]
    obtain ⟨m, hn, _⟩ := I.loc
    refine .cons (by rw [I.ok.kind]; decide) hf hn ?_ I.funs
    exact Heap.get?_none_of_le (Nat.le_trans I.ok.bsz I.ok.above)
theorem Inv.stkSub (I : Inv X pins σ H s) : ∀ b ∈ frs X.stack, b ∈ X.env.locals :: X.fs := fun b hb => by
  rcases I.ok.stk with e | ⟨e, hf⟩
  · rw [e] at hb; exact List.mem_cons_of_mem _ hb
  · rw [e] at hb
    unfold frs at hb
    rw [List.filterMap_cons, hf] at hb
    exact hb
theorem Inv.stkFree (I : Inv X pins σ H s) : ∀ b ∈ frs X.stack, H b = none := fun b hb => by
  rcases List.mem_cons.mp (I.stkSub b hb) with e | hb
  · rw [e]; exact I.free
  · obtain ⟨_, o, ho, _⟩ := I.ok.funs.mem hb
    exact I.base.free b o ho (I.ok.frf b hb) fun z => I.ok.exfs b z hb

/-- THE STEP: the untracked objects but the frame and the records at ch are kept (the callers' frames up to slots), the frame's map is kept, the new abstract heap is held -/
theorem Inv.step {g' : Array GenState} {t' : Nat} {d' : Drawn} {ch : List Addr} (I : Inv X pins σ H s)
    (hch : ∀ b ∈ ch, (b ∈ X.ex ∨ X.s₀.heap.objs.size ≤ b) ∧ b ≠ X.env.locals ∧ (∀ x c, X.env.cells.lookup x = some c → c ≠ b) ∧ ∀ p ∈ X.pn ++ pins, p.1 ≠ b)
    (keep : ∀ b o, b ≠ X.env.locals → b ∉ X.fs → b ∉ ch → s.heap.get? b = some o → H b = none → h'.get? b = some o)
    (slot : ∀ b o, b ≠ X.env.locals → b ∈ X.fs → b ∉ ch → s.heap.get? b = some o → H b = none → ∃ sl, h'.get? b = some { o with slots := sl }) (free : ∀ b o, b ∉ ch → s.heap.get? b = some o → H b = none → H' b = none)
    (there : ∀ b o, b ∉ ch → s.heap.get? b = some o → ∃ o', h'.get? b = some o')
    (tups : ∀ b xs, H b = some (.tup xs) → H' b = some (.tup xs)) (frzs : ∀ b o u, H b = some (.frz o u) → H' b = some (.frz o u)) (tbls : ∀ b ps, H b = some (.tbl ps) → ∃ more, H' b = some (.tbl (ps ++ more)))
    (ns : ∀ m, s.heap.Ns X.env.locals m → h'.Ns X.env.locals m) (hok : HOk X.prog X.w H' h') (hg : AllBare g') :
    Inv X pins σ H' { s with heap := h', gens := g', drawn := d', toks := t' } := by
  have neL : ∀ b o, X.s₀.heap.get? b = some o → b ≠ X.env.locals := fun b o e => Nat.ne_of_lt (Nat.lt_of_lt_of_le (Heap.lt_size e) I.ok.above)
  have neC : ∀ b o, X.s₀.heap.get? b = some o → b ∉ X.ex → b ∉ ch := fun b o e hx hb => by
    rcases (hch b hb).1 with z | z
    · exact hx z
    · exact absurd (Nat.lt_of_lt_of_le (Heap.lt_size e) z) (Nat.lt_irrefl _)
  have cellK : ∀ x c, X.env.cells.lookup x = some c → ∀ v, s.heap.IsCell c v → h'.IsCell c v := fun x c e v ⟨o, ho, hd⟩ => by
    have nch : c ∉ ch := fun z => (hch c z).2.2.1 x c e rfl
    by_cases hc : c ∈ X.fs
    · obtain ⟨sl, q⟩ := slot c o (I.cne x c e) hc nch ho (I.freeC x c e)
      exact ⟨_, q, hd⟩
    · exact ⟨o, keep c o (I.cne x c e) hc nch ho (I.freeC x c e), hd⟩
  refine ⟨I.ok, I.os, hg, ⟨fun b o e n hb hx => ?_, fun b o e n hb hx => ?_, fun b o e n hx => ?_, fun b o e hx => ?_, fun b xs e => tups b xs (I.base.tups b xs e), fun b o xs e => frzs b o xs (I.base.frzs b o xs e), fun b ps e => ?_⟩, ?_, fun x c e => ?_, ?_, fun x c e => ?_, fun p hp => ?_, hok, I.len⟩
  · exact keep b o (neL b o e) hb (neC b o e hx) (I.base.keep b o e n hb hx) (I.base.free b o e n hx)
  · obtain ⟨sl, e1⟩ := I.base.slot b o e n hb hx
    obtain ⟨sl', e2⟩ := slot b _ (neL b o e) hb (neC b o e hx) e1 (I.base.free b o e n hx)
    exact ⟨sl', e2⟩
  · obtain ⟨o', e1⟩ := I.base.there b o e hx
    exact free b o' (neC b o e hx) e1 (I.base.free b o e n hx)
  · obtain ⟨o', e1⟩ := I.base.there b o e hx
    exact there b o' (neC b o e hx) e1
  · obtain ⟨m1, e1⟩ := I.base.tbls b ps e
    obtain ⟨m2, e2⟩ := tbls b _ e1
    exact ⟨m1 ++ m2, by rw [e2, Array.append_assoc]⟩
  · obtain ⟨m, hn, hl⟩ := I.loc
    refine ⟨m, ns m hn, fun i x v e1 e2 e3 => ?_⟩
    obtain ⟨u, r, l⟩ := hl i x v e1 e2 e3
    refine ⟨u, r, ?_⟩
    rcases l with l | ⟨k, c, e, z⟩
    · exact .inl l
    · exact .inr ⟨k, c, e, cellK x c e _ z⟩
  · obtain ⟨v, z⟩ := I.cell x c e
    exact ⟨v, cellK x c e v z⟩
  · obtain ⟨m, ⟨o, _, _, ho, _⟩, _⟩ := I.loc
    exact free _ o (fun z => (hch _ z).2.1 rfl) ho I.free
  · obtain ⟨v, o, ho, hd⟩ := I.cell x c e
    exact free c o (fun z => (hch c z).2.2.1 x c e rfl) ho (I.freeC x c e)
  · obtain ⟨e, n, ne, nf, d⟩ := I.pin p hp
    have nch : p.1 ∉ ch := fun z => (hch p.1 z).2.2.2 p hp rfl
    exact ⟨keep p.1 p.2 ne nf nch e n, free p.1 p.2 nch e n, ne, nf, d⟩
/-- .. where the frame's own object is kept too -/
theorem Inv.un {t' : Nat} (I : Inv X pins σ H s) (u : Un X.fs [] H H' s.heap h') (hok : HOk X.prog X.w H' h') : Inv X pins σ H' { s with heap := h', toks := t' } := by
  obtain ⟨m, ⟨o, es, ep, ho, r⟩, _⟩ := id I.loc
  obtain ⟨sl, hL⟩ := u.any ho I.free (by simp)
  exact I.step (g' := s.gens) (d' := s.drawn) (ch := []) (fun _ z => nomatch z) (fun b o _ hb _ e n => u.keep b o e n hb (by simp)) (fun b o _ hb _ e n => u.slot b o e n hb (by simp)) (fun b o _ e n => u.free b o e n (by simp)) (fun b o _ e => u.there b o e (by simp)) u.tups u.frzs u.tbls (fun m' hm => by
    obtain ⟨o', es', ep', ho', r'⟩ := hm
    rw [ho] at ho'; cases ho'
    exact ⟨_, es', ep', hL, r'⟩) hok I.bare
/-- behind a call (or a comprehension's block): the slots of this frame may have changed too, the records at ch may have turned -/
theorem Inv.call {g' : Array GenState} {t' : Nat} {d' : Drawn} {ch : List Addr} (I : Inv X pins σ H s) (u : Un (frs X.stack) ch H H' s.heap h') (hok : HOk X.prog X.w H' h') (hg : AllBare g')
    (hch : ∀ b ∈ ch, (b ∈ X.ex ∨ X.s₀.heap.objs.size ≤ b) ∧ b ≠ X.env.locals ∧ (∀ x c, X.env.cells.lookup x = some c → c ≠ b) ∧ ∀ p ∈ X.pn ++ pins, p.1 ≠ b) :
    Inv X pins σ H' { s with heap := h', gens := g', drawn := d', toks := t' } := by
  obtain ⟨m, ⟨o, es, ep, ho, r⟩, _⟩ := id I.loc
  obtain ⟨sl, hL⟩ := u.any ho I.free fun z => (hch _ z).2.1 rfl
  exact I.step (ch := ch) hch (fun b o hL hb hc e n => u.keep b o e n (fun z => (List.mem_cons.mp (I.stkSub b z)).elim hL hb) hc) (fun b o _ _ hc e n => u.any e n hc) (fun b o hc e n => u.free b o e n hc) (fun b o hc e => u.there b o e hc) u.tups u.frzs u.tbls (fun m' hm => by
    obtain ⟨o', es', ep', ho', r'⟩ := hm
    rw [ho] at ho'; cases ho'
    exact ⟨_, es', ep', hL, r'⟩) hok hg
/-- an untracked record of ours (an iterator) has turned -/
theorem Inv.turned {t' : Nat} {it : Addr} (I : Inv X pins σ H s) (k : ∀ b o, b ≠ it → s.heap.get? b = some o → h'.get? b = some o) (hn : H it = none) (hL : it ≠ X.env.locals)
    (h1 : it ∈ X.ex ∨ X.s₀.heap.objs.size ≤ it) (h2 : ∀ x c, X.env.cells.lookup x = some c → c ≠ it) (h3 : ∀ p ∈ X.pn ++ pins, p.1 ≠ it) : Inv X pins σ H { s with heap := h', toks := t' } := by
  have nit : ∀ b u, H b = some u → b ≠ it := fun b u e z => by rw [z, hn] at e; cases e
  refine I.step (g' := s.gens) (d' := s.drawn) (ch := [it]) (fun b hb => ?_) (fun b o _ _ hc e _ => k b o (fun z => hc (by simp [z])) e) (fun b o _ _ hc e _ => ⟨o.slots, k b o (fun z => hc (by simp [z])) e⟩) (fun _ _ _ _ n => n)
    (fun b o hc e => ⟨o, k b o (fun z => hc (by simp [z])) e⟩) (fun _ _ e => e) (fun _ _ _ e => e) (fun b ps e => ⟨#[], by rw [e]; simp⟩) (fun m hm => ?_) (fun b u e => ?_) I.bare
  · have e : b = it := by simpa using hb
    subst e
    exact ⟨h1, hL, h2, h3⟩
  · obtain ⟨o, es, ep, ho, r⟩ := hm
    exact ⟨o, es, ep, k _ o (Ne.symm hL) ho, r⟩
  · refine (I.hok b u e).stay (fun c v hc q => k c v ?_ q) (fun _ q => q) fun _ _ q => q
    rcases hc with z | z
    · rw [z]; exact nit b u e
    · exact nit c _ z
theorem Inv.tok (I : Inv X pins σ H s) (t : Nat) : Inv X pins σ H { s with toks := t } := I.un (h' := s.heap) (t' := t) Un.refl I.hok
/-- all objects kept -/
theorem Inv.kept {t' : Nat} (I : Inv X pins σ H s) (k : ∀ b u, s.heap.get? b = some u → h'.get? b = some u) : Inv X pins σ H { s with heap := h', toks := t' } := I.un (Un.kept k) (I.hok.kept k)
/-- a new object laid and tracked -/
theorem Inv.laid {a : Addr} {o : HO} {t' : Nat} (I : Inv X pins σ H s) (k : ∀ b u, s.heap.get? b = some u → h'.get? b = some u) (hp : s.heap.objs.size ≤ a) (new : ObjOk X.prog X.w (upd H a o) h' a o) :
    Inv X pins σ (upd H a o) { s with heap := h', toks := t' } := I.un (Un.laid k hp (I.hok.fresh hp)) (I.hok.laid k hp new)
/-- an object written -/
theorem Inv.write {x e : Addr} {o : HO} {t' : Nat} (I : Inv X pins σ H s) (mu : Mut (H x)) (he : e = x ∨ H e = some (.own x)) (k : ∀ b u, b ≠ e → s.heap.get? b = some u → h'.get? b = some u) (heo : ∃ u, h'.get? e = some u)
    (new : ObjOk X.prog X.w (upd H x o) h' x o) : Inv X pins σ (upd H x o) { s with heap := h', toks := t' } := I.un (Un.write mu he k heo) (I.hok.write mu he k heo new)
theorem Inv.pins_of {pins' : List (Addr × Obj)} (I : Inv X pins σ H s) (h : ∀ p ∈ pins', s.heap.get? p.1 = some p.2 ∧ H p.1 = none ∧ p.1 ≠ X.env.locals ∧ p.1 ∉ X.fs ∧ ∀ v, p.2.data ≠ .cell v) : Inv X pins' σ H s :=
  ⟨I.ok, I.os, I.bare, I.base, I.loc, I.cell, I.free, I.freeC, fun p hp => (List.mem_append.mp hp).elim (fun z => I.pin p (List.mem_append_left _ z)) (h p), I.hok, I.len⟩

theorem nodup_ix {N : List Str} (hN : N.Nodup) {i j : Nat} {x : Str} (a : N[i]? = some x) (b : N[j]? = some x) : i = j := by
  obtain ⟨h1, e1⟩ := List.getElem?_eq_some_iff.mp a
  obtain ⟨h2, e2⟩ := List.getElem?_eq_some_iff.mp b
  exact (List.getElem_inj hN).mp (e1.trans e2.symm)

/-- a name is stored; what changed -/
theorem store_ok2 {M : Model} {A : Around} {E : Value → Shared → Prop} {i : Nat} {x : Str} {v : V} {u : Value} {Q : Unit → Shared → Prop} (I : Inv X pins σ H s) (hN : X.N.Nodup) (hi : X.N[i]? = some x) (hx : Loc X.env.scope x) (r : RelV v u)
    (h : ∀ s', Inv X pins (σ.set i (some v)) H s' → (∃ a, Heap.SameBut a s.heap s'.heap ∧ (a = X.env.locals ∨ X.env.cells.lookup x = some a)) → Q () s') (hf : X.fn x = true ∨ X.env.scope.names.lookup x = some .local := by first | exact .inl rfl | exact .inr rfl | assumption) : wpAny M A (storeName X.env x u) Q E s := by
  obtain ⟨m, hn, hl⟩ := id I.loc
  have hcls : (X.env.scope.kind == .class || (X.env.scope.kind == .module && X.env.locals != X.env.globals)) = false := by rw [I.ok.kind]; rfl
  have hiσ : i < σ.length := by rw [I.len]; exact (List.getElem?_eq_some_iff.mp hi).1
  have cne := I.cne
  have tracked : ∀ {a : Addr} {h' : Heap}, (∃ o, s.heap.get? a = some o ∧ H a = none) → Heap.SameBut a s.heap h' → HOk X.prog X.w H h' := fun {a h'} ha hs b ob e => by
    obtain ⟨_, _, hfree⟩ := ha
    refine (I.hok b ob e).stay (fun c w' hc q => (hs.2 c ?_).trans q) (fun _ q => q) fun _ _ q => q
    rintro rfl
    rcases hc with rfl | hc
    · rw [hfree] at e; cases e
    · rw [hfree] at hc; cases hc
  rcases hx with hk | hk
  · refine wpAny_storeName_local hk hn (fun h' hn' hs => ?_) hcls
    obtain ⟨oL, _, _, hoL, _⟩ := id hn
    refine h _ ⟨I.ok, I.os, I.bare, ⟨fun b o e n hb hx => ?_, fun b o e n hb hx => ?_, I.base.free, fun b o e hx => ?_, I.base.tups, I.base.frzs, I.base.tbls⟩, ⟨_, hn', fun j y v' e1 e2 e3 => ?_⟩, fun y c e => ?_, I.free, I.freeC, fun p hp => ?_, tracked ⟨oL, hoL, I.free⟩ hs, by simpa using I.len⟩ ⟨_, hs, .inl rfl⟩
    · exact (hs.2 b (Nat.ne_of_lt (Nat.lt_of_lt_of_le (Heap.lt_size e) I.ok.above))).trans (I.base.keep b o e n hb hx)
    · obtain ⟨sl, e1⟩ := I.base.slot b o e n hb hx
      exact ⟨sl, (hs.2 b (Nat.ne_of_lt (Nat.lt_of_lt_of_le (Heap.lt_size e) I.ok.above))).trans e1⟩
    · obtain ⟨o', e1⟩ := I.base.there b o e hx
      exact ⟨o', (hs.2 b (Nat.ne_of_lt (Nat.lt_of_lt_of_le (Heap.lt_size e) I.ok.above))).trans e1⟩
    · by_cases hj : j = i
      · subst hj
        rw [hi] at e1; cases e1
        rw [List.getElem?_set_self hiσ] at e2
        cases e2
        exact ⟨u, r, .inl ⟨hk, by simp⟩⟩
      · rw [List.getElem?_set_ne (Ne.symm hj)] at e2
        obtain ⟨u', r', q⟩ := hl j y v' e1 e2 e3
        refine ⟨u', r', ?_⟩
        rcases q with ⟨k, e⟩ | ⟨k, c, e, z⟩
        · refine .inl ⟨k, ?_⟩
          have : y ≠ x := fun e => hj (nodup_ix hN e1 (e ▸ hi))
          simp [this, e]
        · exact .inr ⟨k, c, e, z.sameBut hs (cne y c e)⟩
    · obtain ⟨w', z⟩ := I.cell y c e
      exact ⟨w', z.sameBut hs (cne y c e)⟩
    · obtain ⟨e, n, ne, nf, d⟩ := I.pin p hp
      exact ⟨(hs.2 p.1 ne).trans e, n, ne, nf, d⟩
  · have hfn : X.fn x = true := by
      rcases hf with z | z
      · exact z
      · rw [z] at hk; cases hk
    obtain ⟨c, hc⟩ := I.ok.has x (.inl hk)
    obtain ⟨w', z⟩ := I.cell x c hc
    refine wpAny_storeName_cell I.ok.kind hk hc z (fun h' hc' hs => ?_)
    obtain ⟨oc, hoc, hocd⟩ := id z
    refine h { s with heap := h' } ⟨I.ok, I.os, I.bare, ⟨fun b o e n hb hx => ?_, fun b o e n hb hx => ?_, I.base.free, fun b o e hx => ?_, I.base.tups, I.base.frzs, I.base.tbls⟩, ⟨m, hn.sameBut hs (Ne.symm (cne x c hc)), fun j y v' e1 e2 e3 => ?_⟩, fun y c' e => ?_, I.free, I.freeC, fun p hp => ?_, tracked ⟨oc, hoc, I.freeC x c hc⟩ hs, by simpa using I.len⟩ ⟨c, hs, .inr hc⟩
    · exact (hs.2 b (Nat.ne_of_lt (Nat.lt_of_lt_of_le (Heap.lt_size e) (I.ok.cab x c hfn hc)))).trans (I.base.keep b o e n hb hx)
    · obtain ⟨sl, e1⟩ := I.base.slot b o e n hb hx
      exact ⟨sl, (hs.2 b (Nat.ne_of_lt (Nat.lt_of_lt_of_le (Heap.lt_size e) (I.ok.cab x c hfn hc)))).trans e1⟩
    · obtain ⟨o', e1⟩ := I.base.there b o e hx
      exact ⟨o', (hs.2 b (Nat.ne_of_lt (Nat.lt_of_lt_of_le (Heap.lt_size e) (I.ok.cab x c hfn hc)))).trans e1⟩
    · by_cases hj : j = i
      · subst hj
        rw [hi] at e1; cases e1
        rw [List.getElem?_set_self hiσ] at e2
        cases e2
        exact ⟨u, r, .inr ⟨.inl hk, c, hc, hc'⟩⟩
      · rw [List.getElem?_set_ne (Ne.symm hj)] at e2
        obtain ⟨u', r', q⟩ := hl j y v' e1 e2 e3
        refine ⟨u', r', ?_⟩
        rcases q with q | ⟨k, c', e, z'⟩
        · exact .inl q
        · refine .inr ⟨k, c', e, z'.sameBut hs ?_⟩
          rintro rfl
          exact hj (nodup_ix hN e1 (I.ok.inj _ _ _ e hc ▸ hi))
    · by_cases hcc : c' = c
      · subst hcc; exact ⟨_, hc'⟩
      · obtain ⟨w2, z2⟩ := I.cell y c' e
        exact ⟨w2, z2.sameBut hs hcc⟩
    · obtain ⟨e, n, ne, nf, d⟩ := I.pin p hp
      refine ⟨(hs.2 p.1 ?_).trans e, n, ne, nf, d⟩
      intro q
      rw [q, hoc] at e
      have q' : oc = p.2 := Option.some.inj e
      exact d w' (by rw [← q']; exact hocd)
theorem store_ok {M : Model} {A : Around} {E : Value → Shared → Prop} {i : Nat} {x : Str} {v : V} {u : Value} {Q : Unit → Shared → Prop} (I : Inv X pins σ H s) (hN : X.N.Nodup) (hi : X.N[i]? = some x) (hx : Loc X.env.scope x) (r : RelV v u)
    (h : ∀ s', Inv X pins (σ.set i (some v)) H s' → Q () s') (hf : X.fn x = true ∨ X.env.scope.names.lookup x = some .local := by first | exact .inl rfl | exact .inr rfl | assumption) : wpAny M A (storeName X.env x u) Q E s :=
  store_ok2 I hN hi hx r (fun s' I' _ => h s' I') hf
/-- behind a call or a block, the state as it is -/
theorem Inv.call' {s' : Shared} {ch : List Addr} (I : Inv X pins σ H s) (ho : s'.os = s.os) (u : Un (frs X.stack) ch H H' s.heap s'.heap) (hok : HOk X.prog X.w H' s'.heap) (hg : AllBare s'.gens)
    (hch : ∀ b ∈ ch, (b ∈ X.ex ∨ X.s₀.heap.objs.size ≤ b) ∧ b ≠ X.env.locals ∧ (∀ x c, X.env.cells.lookup x = some c → c ≠ b) ∧ ∀ p ∈ X.pn ++ pins, p.1 ≠ b) : Inv X pins σ H' s' := by
  obtain ⟨h', g', d', t', o'⟩ := s'
  have e : o' = s.os := ho
  subst e
  exact I.call (g' := g') (t' := t') (d' := d') u hok hg hch
end

/-- an exception: its class, its own dict's address (where it has one), the abstract heap behind it -/
abbrev XK := Value → Option Addr → Hp → Prop
abbrev St := List (Option V)
abbrev VK := V → Hp → Prop
/-- an expression's reading; a test's; an argument list's -/
abbrev TE := St → Hp → VK → Prop
abbrev TT := St → Hp → (Bool → Hp → Prop) → Prop
abbrev TA := St → Hp → (List V → Hp → Prop) → Prop
/-- what is wanted behind a statement -/
structure Ends where
  nx : St → Hp → Prop
  rt : VK
  bk : St → Hp → Prop := fun _ _ => False
  ct : St → Hp → Prop := fun _ _ => False
abbrev TS := Ends → St → Hp → Prop

def EP (X : Cx) (pins : List (Addr × Obj)) (σ : St) (Q : VK) (u : Value) (s' : Shared) : Prop := ∃ v H', Inv X pins σ H' s' ∧ RelV v u ∧ Q v H'
def TP (X : Cx) (pins : List (Addr × Obj)) (σ : St) (Q : Bool → Hp → Prop) (b : Bool) (s' : Shared) : Prop := ∃ H', Inv X pins σ H' s' ∧ Q b H'
def AP (X : Cx) (pins : List (Addr × Obj)) (σ : St) (Q : List V → Hp → Prop) (us : List Value) (s' : Shared) : Prop := ∃ vs H', Inv X pins σ H' s' ∧ Vals vs us ∧ Q vs H'
def SP (X : Cx) (pins : List (Addr × Obj)) (D : Ends) (f : Flow) (s' : Shared) : Prop :=
  match f with
  | .next => ∃ σ' H', Inv X pins σ' H' s' ∧ D.nx σ' H'
  | .brk => ∃ σ' H', Inv X pins σ' H' s' ∧ D.bk σ' H'
  | .cont => ∃ σ' H', Inv X pins σ' H' s' ∧ D.ct σ' H'
  | .ret u => ∃ v σ' H', Inv X pins σ' H' s' ∧ RelV v u ∧ D.rt v H'

def PE (X : Cx) (e : Expr) (t : TE) : Prop :=
  ∀ (pins : List (Addr × Obj)) (s : Shared) (σ : St) (H : Hp) (Q : VK), Inv X pins σ H s → t σ H Q → wpAny (model X.prog X.w) X.A (eval e X.env) (EP X pins σ Q) X.xe s
def PT (X : Cx) (e : Expr) (t : TT) : Prop :=
  ∀ (pins : List (Addr × Obj)) (s : Shared) (σ : St) (H : Hp) (Q : Bool → Hp → Prop), Inv X pins σ H s → t σ H Q → wpAny (model X.prog X.w) X.A (isTrue e X.env (eval e X.env)) (TP X pins σ Q) X.xe s
/-- a test whatever its 'whole' is (and, or) -/
def PW (X : Cx) (e : Expr) (t : TT) : Prop :=
  ∀ (whole : Sem Value) (pins : List (Addr × Obj)) (s : Shared) (σ : St) (H : Hp) (Q : Bool → Hp → Prop), Inv X pins σ H s → t σ H Q → wpAny (model X.prog X.w) X.A (isTrue e X.env whole) (TP X pins σ Q) X.xe s
theorem PW.pt {X : Cx} {e : Expr} {t : TT} (h : PW X e t) : PT X e t := h _
/-- an argument list (no star), from the left -/
def PA (X : Cx) (es : List Expr) (t : TA) : Prop :=
  ∀ (pos : Pos) (pins : List (Addr × Obj)) (s : Shared) (σ : St) (H : Hp) (Q : List V → Hp → Prop), Inv X pins σ H s → t σ H Q → wpAny (model X.prog X.w) X.A (spliced (backTo pos (starEach es X.env))) (AP X pins σ Q) X.xe s
def PS (X : Cx) (st : Stmt) (t : TS) : Prop :=
  ∀ (pins : List (Addr × Obj)) (s : Shared) (σ : St) (H : Hp) (D : Ends), Inv X pins σ H s → t D σ H → wpAny (model X.prog X.w) X.A (exec st X.env) (SP X pins D) X.xe s
def PSs (X : Cx) (st : List Stmt) (t : TS) : Prop :=
  ∀ (pins : List (Addr × Obj)) (s : Shared) (σ : St) (H : Hp) (D : Ends), Inv X pins σ H s → t D σ H → wpAny (model X.prog X.w) X.A (execs st X.env) (SP X pins D) X.xe s
/-- weaken the end -/
theorem thn {α : Type} {t : Sem α} {Q Q' : α → Shared → Prop} {M : Model} {A : Around} {E : Value → Shared → Prop} {s : Shared} (h : wpAny M A t Q E s) (hQ : ∀ a s, Q a s → Q' a s) : wpAny M A t Q' E s := wpAny_mono h hQ fun _ _ x => x
end L2

namespace L2
open PySem PySem.Spec PyProof.Rows
section
variable {X : Cx}

/-- two expressions in a row -/
theorem bin {a b : Expr} {ta tb : TE} (ha : PE X a ta) (hb : PE X b tb) {pins : List (Addr × Obj)} {s : Shared} {σ : St} {H : Hp} {R : V → V → Hp → Prop} (I : Inv X pins σ H s) (h : ta σ H fun x H1 => tb σ H1 fun y H2 => R x y H2)
    {α : Type} {Q : α → Shared → Prop} {f : Value → Value → Sem α}
    (hf : ∀ v u s2 x y H2, Inv X pins σ H2 s2 → RelV x v → RelV y u → R x y H2 → wpAny (model X.prog X.w) X.A (f v u) Q X.xe s2) :
    wpAny (model X.prog X.w) X.A (eval a X.env) (fun v s₁ => wpAny (model X.prog X.w) X.A (eval b X.env) (fun u s₂ => wpAny (model X.prog X.w) X.A (f v u) Q X.xe s₂) X.xe s₁) X.xe s := by
  refine thn (ha pins s σ H _ I h) fun v s1 ⟨x, H1, I1, r1, q1⟩ => ?_
  refine thn (hb pins s1 σ H1 _ I1 q1) fun u s2 ⟨y, H2, I2, r2, q2⟩ => ?_
  exact hf v u s2 x y H2 I2 r1 r2 q2

def tVar (i : Nat) : TE := fun σ H Q => ∃ v, σ[i]? = some (some v) ∧ Q v H
def tC (v : V) : TE := fun _ H Q => Q v H
theorem pe_var {i : Nat} {x : Str} {pos : Pos} (hN : X.N[i]? = some x) (hv : Vis X.env.scope x) (hd : (x == ("__debug__" : Str)) = false := by decide) (hcd : (x == ("__classdict__" : Str)) = false := by decide) : PE X (.Name x pos) (tVar i) := by
  intro pins s σ H Q I h
  obtain ⟨v, e, h⟩ := h
  obtain ⟨m, hn, hl⟩ := I.loc
  obtain ⟨u, r, l⟩ := hl i x v hN e hv
  have fin : EP X pins σ Q u s := ⟨v, H, I, r, h⟩
  rcases l with ⟨hk, hm⟩ | ⟨hk, c, hc, hcell⟩
  · exact wpAny_Name (wpAny_loadName_local I.ok.kind hk hn hm fin) hd
  · rcases hk with hk | hk
    · exact wpAny_Name (wpAny_loadName_cell I.ok.kind hk hc hcell fin) hd
    · exact wpAny_Name (wpAny_loadName_free I.ok.kind hk hc hcell fin hcd) hd
theorem pe_int {i j pos} : PE X (.Constant (.int i) j pos) (tC (.int i)) := fun _ _ _ H _ I h => wpAny_Constant_int ⟨.int i, H, I.tok _, ⟨_, rfl⟩, h⟩
theorem pe_bl {b j pos} : PE X (.Constant (.bool b) j pos) (tC (.bl b)) := fun _ _ _ H _ I h => Constant_bool ⟨.bl b, H, I, rfl, h⟩
theorem pe_non {j pos} : PE X (.Constant .none j pos) (tC .non) := fun _ _ _ H _ I h => Constant_none ⟨.non, H, I, rfl, h⟩
theorem pe_str {x j pos} : PE X (.Constant (.str x) j pos) (tC (.str x)) := fun _ _ _ H _ I h => Calls.Constant_str ⟨.str x, H, I.tok _, ⟨_, rfl⟩, h⟩

/-- a global name of the def -/
def Gl (X : Cx) (x : Str) : Prop := X.env.kindOf x = some .globalImplicit
theorem ld_glob {E : Value → Shared → Prop} {pins : List (Addr × Obj)} {s : Shared} {σ : St} {H : Hp} {x : Str} {u : Value} {pos : Pos} {Q : Value → Shared → Prop} (I : Inv X pins σ H s) (hg : Gl X x) (hm : X.mg x = some u) (h : Q u s)
    (hd : (x == ("__debug__" : Str)) = false := by decide) : wpAny (model X.prog X.w) X.A (eval (.Name x pos) X.env) Q E s :=
  Calls.Name_function_global I.ok.kind hg (Calls.loadGlobal_global (by rw [I.ok.glob]; exact I.mod.glob.keeps I.bk) hm h) hd
theorem ld_blt {E : Value → Shared → Prop} {pins : List (Addr × Obj)} {s : Shared} {σ : St} {H : Hp} {x : Str} {u : Value} {pos : Pos} {Q : Value → Shared → Prop} (I : Inv X pins σ H s) (hg : Gl X x) (hm : X.mg x = none) (hv : bootBuiltins x = some u) (h : Q u s)
    (hn : x ≠ "__name__" := by decide) (hd : (x == ("__debug__" : Str)) = false := by decide) : wpAny (model X.prog X.w) X.A (eval (.Name x pos) X.env) Q E s := by
  obtain ⟨mb, h1, h2⟩ := I.mod.blt
  exact Calls.Name_function_global I.ok.kind hg (Calls.loadGlobal_builtin (by rw [I.ok.glob]; exact I.mod.glob.keeps I.bk) hm (by rw [I.ok.blt]; exact h1.keeps I.bk) ((h2 x hn).trans hv) h) hd
/-- a module's constant, a class, a function, as a value -/
theorem pe_glob {x : Str} {v : V} {u : Value} {pos : Pos} (hg : Gl X x) (hm : X.mg x = some u) (r : RelV v u) (hd : (x == ("__debug__" : Str)) = false := by decide) : PE X (.Name x pos) (tC v) :=
  fun _ _ _ H _ I h => ld_glob I hg hm ⟨v, H, I, r, h⟩ hd
theorem pe_bltn {x : Str} {v : V} {u : Value} {pos : Pos} (hg : Gl X x) (hm : X.mg x = none) (hv : bootBuiltins x = some u) (r : RelV v u) (hn : x ≠ "__name__" := by decide) (hd : (x == ("__debug__" : Str)) = false := by decide) : PE X (.Name x pos) (tC v) :=
  fun _ _ _ H _ I h => ld_blt I hg hm hv ⟨v, H, I, r, h⟩ hn hd

variable {a b : Expr} {ta tb : TE} {pos : Pos}
def PC (X : Cx) (op : CmpOp) (a b : Expr) (t : TE) : Prop :=
  ∀ (pins : List (Addr × Obj)) (s : Shared) (σ : St) (H : Hp) (Q : VK), Inv X pins σ H s → t σ H Q →
    wpAny (model X.prog X.w) X.A (eval a X.env) (fun v s₁ => wpAny (model X.prog X.w) X.A (eval b X.env) (fun u s₂ => wpAny (model X.prog X.w) X.A (compareOp op v u) (EP X pins σ Q) X.xe s₂) X.xe s₁) X.xe s
theorem nobehind (b : Expr) {op : CmpOp} (h : op ≠ .In) (h2 : op ≠ .NotIn) : behindInMarks op b = false := by
  have e1 : (op == CmpOp.In) = false := by cases op <;> first | rfl | exact absurd rfl h
  have e2 : (op == CmpOp.NotIn) = false := by cases op <;> first | rfl | exact absurd rfl h2
  cases b <;> simp [behindInMarks, e1, e2]
/-- a comparison as a value, as a test -/
def tB (t : TE) : TT := fun σ H Q => t σ H fun x H1 => ∃ c, x = .bl c ∧ Q c H1
theorem pt_cmp {op : CmpOp} {t : TE} (h : PC X op a b t) (h1 : behindInMarks op b = false := by first | exact nobehind _ (by decide) (by decide) | rfl) : PT X (.Compare a [op] [b] pos) (tB t) := by
  intro pins s σ H Q I hw
  refine wpAny_isTrue_Compare1 (thn (h pins s σ H _ I hw) fun v s1 h1 => thn h1 fun u s2 h2 => thn h2 fun c s3 ⟨x, H1, I1, r1, q1⟩ => ?_) h1
  obtain ⟨d, rfl, q⟩ := q1
  cases r1
  exact wpAny_truthy_bool ⟨H1, I1, q⟩
/-- an expression whose value is a bool, as a test -/
theorem pt_val {e : Expr} {t : TE} (h : PE X e t) (he : ∀ whole, isTrue e X.env whole = (do let v ← whole; standAt e.pos; holding [v] (truthy v)) := by intro _; rfl) : PT X e (tB t) := by
  intro pins s σ H Q I hw
  refine isTrue_plain (thn (h pins s σ H _ I hw) fun v s1 ⟨x, H1, I1, r1, q1⟩ => ?_) (he _)
  obtain ⟨d, rfl, q⟩ := q1
  cases r1
  exact wpAny_truthy_bool ⟨H1, I1, q⟩

variable {tA tB' : TT} {rest : List Expr}
def tAnd (t u : TT) : TT := fun σ H Q => t σ H fun c H1 => if c = true then u σ H1 Q else Q false H1
def tOr (t u : TT) : TT := fun σ H Q => t σ H fun c H1 => if c = true then Q true H1 else u σ H1 Q
def tNot (t : TT) : TT := fun σ H Q => t σ H fun c H1 => Q (!c) H1
theorem pw_or1 (ha : PT X a tA) : PW X (.BoolOp .Or [a] pos) tA := by
  intro wh pins s σ H Q I h
  refine isTrue_or (thn (ha pins s σ H Q I h) fun c s1 e => ?_)
  cases c with
  | false => exact isTrue_or_nil e
  | true => exact e
theorem pw_or (ha : PT X a tA) (hb : PW X (.BoolOp .Or (b :: rest) pos) tB') : PW X (.BoolOp .Or (a :: b :: rest) pos) (tOr tA tB') := by
  intro wh pins s σ H Q I h
  refine isTrue_or (thn (ha pins s σ H _ I h) fun c s1 ⟨H1, I1, q1⟩ => ?_)
  cases c with
  | true => exact ⟨H1, I1, q1⟩
  | false => exact hb wh pins s1 σ H1 Q I1 q1
theorem pt_not (ha : PT X a tA) : PT X (.UnaryOp .Not a pos) (tNot tA) := by
  intro pins s σ H Q I h
  exact isTrue_not (ha pins s σ H (fun c H1 => Q (!c) H1) I h)
/-- .. as values (bools) -/
def tAndV (ta tb : TE) : TE := fun σ H Q => ta σ H fun x H1 => ∃ c, x = .bl c ∧ if c = true then tb σ H1 Q else Q (.bl false) H1
def tOrV (ta tb : TE) : TE := fun σ H Q => ta σ H fun x H1 => ∃ c, x = .bl c ∧ if c = true then Q (.bl true) H1 else tb σ H1 Q
def tNotV (ta : TE) : TE := fun σ H Q => ta σ H fun x H1 => ∃ c, x = .bl c ∧ Q (.bl (!c)) H1
theorem pe_one {op} {t : TE} (h : PE X a t) : PE X (.BoolOp op [a] pos) t := fun pins s σ H Q I hw => BoolOp_one (h pins s σ H Q I hw)
theorem pe_and (ha : PE X a ta) (hb : PE X (.BoolOp .And (b :: rest) pos) tb) : PE X (.BoolOp .And (a :: b :: rest) pos) (tAndV ta tb) := by
  intro pins s σ H Q I h
  refine BoolOp_and (thn (ha pins s σ H _ I h) fun v s1 ⟨x, H1, I1, r1, q1⟩ => ?_)
  obtain ⟨c, rfl, q1⟩ := q1
  cases r1
  refine wpAny_truthy_bool ?_
  cases c with
  | true => exact hb pins s1 σ H1 Q I1 q1
  | false => exact ⟨.bl false, H1, I1, rfl, q1⟩
theorem pe_or (ha : PE X a ta) (hb : PE X (.BoolOp .Or (b :: rest) pos) tb) : PE X (.BoolOp .Or (a :: b :: rest) pos) (tOrV ta tb) := by
  intro pins s σ H Q I h
  refine BoolOp_or (thn (ha pins s σ H _ I h) fun v s1 ⟨x, H1, I1, r1, q1⟩ => ?_)
  obtain ⟨c, rfl, q1⟩ := q1
  cases r1
  refine wpAny_truthy_bool ?_
  cases c with
  | false => exact hb pins s1 σ H1 Q I1 q1
  | true => exact ⟨.bl true, H1, I1, rfl, q1⟩
theorem pe_not (ha : PE X a ta) : PE X (.UnaryOp .Not a pos) (tNotV ta) := by
  intro pins s σ H Q I h
  refine UnaryOp_ (thn (ha pins s σ H _ I h) fun v s1 ⟨x, H1, I1, r1, q1⟩ => ?_)
  obtain ⟨c, rfl, q1⟩ := q1
  cases r1
  exact not_of (wpAny_truthy_bool ⟨.bl (!c), H1, I1, rfl, q1⟩)
/-- a if t else b -/
def tIf (t : TT) (ta tb : TE) : TE := fun σ H Q => t σ H fun c H1 => if c = true then ta σ H1 Q else tb σ H1 Q
end
end L2

namespace L2
open PySem PySem.Spec PyProof.Rows

def SqL (K : PySem.W.Frag) (H : Hp) (a : Addr) (xs : List V) : Prop :=
  Rd H a (.lst xs) ∨
    ∃ (o : Obj) (its : Array Value) (n : Nat), K.lookup a = some o ∧ o.cls = .type "list" ∧ o.dict = none ∧ o.data = .seq its n ∧ its.size ≤ sizeLine ∧ Vals xs its.toList
def SqT (K : PySem.W.Frag) (H : Hp) (a : Addr) (xs : List V) : Prop :=
  Rd H a (.tup xs) ∨
    ∃ (o : Obj) (its : Array Value) (n : Nat), K.lookup a = some o ∧ o.cls = .type "tuple" ∧ o.data = .seq its n ∧ its.size ≤ sizeLine ∧ Vals xs its.toList
def absV : Value → Option V
  | .none => some .non
  | .bool b => some (.bl b)
  | .int i _ => some (.int i)
  | .str x _ => some (.str x)
  | .bytes b _ => some (.byt b)
  | .float b _ => some (.flt b)
  | .ref a => some (.ref a)
  | .type n => some (.ty n)
  | _ => none
theorem RelV.abs {x : V} {u : Value} (r : RelV x u) : absV u = some x := by
  cases x with
  | non => cases r; rfl
  | bl _ => cases r; rfl
  | int _ => obtain ⟨t, rfl⟩ := r; rfl
  | str _ => obtain ⟨t, rfl⟩ := r; rfl
  | byt _ => obtain ⟨t, rfl⟩ := r; rfl
  | flt _ => obtain ⟨t, rfl⟩ := r; rfl
  | ref _ => cases r; rfl
  | ty _ => cases r; rfl
theorem RelV.inj {x y : V} {u : Value} (r : RelV x u) (q : RelV y u) : x = y := Option.some.inj (r.abs.symm.trans q.abs)
theorem Vals.inj : ∀ {xs ys : List V} {us : List Value}, Vals xs us → Vals ys us → xs = ys
  | _, _, _, .nil, .nil => rfl
  | _, _, _, .cons r t, .cons r' t' => by rw [r.inj r', Vals.inj t t']
section
variable {X : Cx} {pins : List (Addr × Obj)} {σ : St} {H : Hp} {s : Shared} {a : Addr} {xs ys : List V}
theorem SqL.of {K : PySem.W.Frag} (h : H a = some (.lst xs)) : SqL K H a xs := .inl (.inl h)
theorem SqT.of {K : PySem.W.Frag} (h : H a = some (.tup xs)) : SqT K H a xs := .inl (.inl h)
theorem Inv.list (I : Inv X pins σ H s) (h : SqL X.K H a xs) : ∃ its : List Value, Vals xs its ∧ PlainL s.heap a its.toArray ∧ xs.length ≤ sizeLine := by
  rcases h with h | ⟨o, its, n, hk, hc, hd, hs, hz, r⟩
  · obtain ⟨z, its, n, r, e⟩ := h.ok I.hok
    exact ⟨its, r, ⟨_, n, e, rfl, rfl, rfl⟩, z⟩
  · refine ⟨its.toList, r, ⟨o, n, I.kIn a o hk, hc, hd, by simpa using hs⟩, ?_⟩
    have e := r.length
    simp only [Array.length_toList] at e
    omega
theorem Inv.tuple (I : Inv X pins σ H s) (h : SqT X.K H a xs) : ∃ its : List Value, Vals xs its ∧ IsTup s.heap a its.toArray ∧ xs.length ≤ sizeLine := by
  rcases h with h | ⟨o, its, n, hk, hc, hs, hz, r⟩
  · obtain ⟨z, its, r, p⟩ := h.ok I.hok
    exact ⟨its, r, p, z⟩
  · refine ⟨its.toList, r, ⟨o, I.kIn a o hk, hc, n, by simpa using hs⟩, ?_⟩
    have e := r.length
    simp only [Array.length_toList] at e
    omega
theorem Inv.list_inj (I : Inv X pins σ H s) (h : SqL X.K H a xs) (h' : SqL X.K H a ys) : xs = ys := by
  obtain ⟨its, r, ⟨o, n, e, _, _, d⟩, _⟩ := I.list h
  obtain ⟨its', r', ⟨o', n', e', _, _, d'⟩, _⟩ := I.list h'
  rw [e] at e'; cases e'
  rw [d] at d'
  injection d' with d1 _
  have : its = its' := by simpa using congrArg Array.toList d1
  subst this
  exact r.inj r'
theorem Inv.tuple_inj (I : Inv X pins σ H s) (h : SqT X.K H a xs) (h' : SqT X.K H a ys) : xs = ys := by
  obtain ⟨its, r, ⟨o, e, _, n, d⟩, _⟩ := I.tuple h
  obtain ⟨its', r', ⟨o', e', _, n', d'⟩, _⟩ := I.tuple h'
  rw [e] at e'; cases e'
  rw [d] at d'
  injection d' with d1 _
  have : its = its' := by simpa using congrArg Array.toList d1
  subst this
  exact r.inj r'
end

abbrev Cx.wish (X : Cx) (E : Value → Shared → Prop) : Cx := { X with xe := E }
/-- no exception leaves -/
abbrev Cx.nox (X : Cx) : Cx := X.wish fun _ _ => False
theorem Cx.Ok.wish {X : Cx} (ok : X.Ok) (E : Value → Shared → Prop) : (X.wish E).Ok :=
  ⟨ok.mod, ok.kind, ok.glob, ok.blt, ok.above, ok.inj, ok.has, ok.cab, ok.hd, ok.frames, ok.stk, ok.exf, ok.bs, ok.bsz, ok.noex, ok.exfs, ok.funs, ok.frf⟩
theorem Cx.Ok.unwish {X : Cx} {E : Value → Shared → Prop} (ok : (X.wish E).Ok) : X.Ok :=
  ⟨ok.mod, ok.kind, ok.glob, ok.blt, ok.above, ok.inj, ok.has, ok.cab, ok.hd, ok.frames, ok.stk, ok.exf, ok.bs, ok.bsz, ok.noex, ok.exfs, ok.funs, ok.frf⟩
section
variable {X : Cx} {pins : List (Addr × Obj)} {σ : St} {H : Hp} {s : Shared} {E : Value → Shared → Prop}
theorem Inv.wish (I : Inv X pins σ H s) (E : Value → Shared → Prop) : Inv (X.wish E) pins σ H s := ⟨I.ok.wish E, I.os, I.bare, I.base, I.loc, I.cell, I.free, I.freeC, I.pin, I.hok, I.len⟩
theorem Inv.unwish (I : Inv (X.wish E) pins σ H s) : Inv X pins σ H s := ⟨I.ok.unwish, I.os, I.bare, I.base, I.loc, I.cell, I.free, I.freeC, I.pin, I.hok, I.len⟩
theorem SP.unwish {D : Ends} {f : Flow} {s' : Shared} (h : SP (X.wish E) pins D f s') : SP X pins D f s' := by
  cases f with
  | next => obtain ⟨σ', H', I, q⟩ := h; exact ⟨σ', H', I.unwish, q⟩
  | brk => obtain ⟨σ', H', I, q⟩ := h; exact ⟨σ', H', I.unwish, q⟩
  | cont => obtain ⟨σ', H', I, q⟩ := h; exact ⟨σ', H', I.unwish, q⟩
  | ret u => obtain ⟨v, σ', H', I, r, q⟩ := h; exact ⟨v, σ', H', I.unwish, r, q⟩
theorem PSs.nox {st : List Stmt} {t : TS} (h : PSs X.nox st t) : PSs X st t := fun pins s σ H D I hw =>
  wpAny_mono (h pins s σ H D (I.wish _) hw) (fun _ _ q => q.unwish) fun _ _ z => False.elim z
end

section
variable {X : Cx} {st : Stmt} {rest : List Stmt} {t u : TS} {e : Expr} {te : TE} {pos : Pos}
def tNext : TS := fun D σ H => D.nx σ H
def tSeq (t u : TS) : TS := fun D σ H => t { D with nx := u D } σ H
theorem pss_nil : PSs X [] tNext := fun _ _ σ H _ I h => wpAny_execs_nil ⟨σ, H, I, h⟩
theorem pss_cons (h1 : PS X st t) (h2 : PSs X rest u) : PSs X (st :: rest) (tSeq t u) := by
  intro pins s σ H D I h
  refine wpAny_execs_cons (thn (h1 pins s σ H { D with nx := u D } I h) fun f s1 q => ?_)
  cases f with
  | next =>
    obtain ⟨σ', H', I', q⟩ := q
    exact h2 pins s1 σ' H' D I' q
  | ret v => exact q
  | brk => exact q
  | cont => exact q
theorem pss_one (h1 : PS X st t) : PSs X [st] t := by
  intro pins s σ H D I h
  refine wpAny_execs_cons (thn (h1 pins s σ H D I h) fun f s1 q => ?_)
  cases f with
  | next => exact wpAny_execs_nil q
  | ret v => exact q
  | brk => exact q
  | cont => exact q
/-- in a def's body nothing is shown -/
theorem Inv.quiet {pins : List (Addr × Obj)} {σ : St} {H : Hp} {s : Shared} (I : Inv X pins σ H s) : interactive X.env = false := by simp [interactive, I.ok.kind]
/-- an expression whose value is dropped -/
def tDrop (te : TE) : TS := fun D σ H => te σ H fun _ H1 => D.nx σ H1
theorem ps_expr (he : PE X e te) (hs : swapsWith e none pos.line X.env = pure false := by rfl) : PS X (.Expr e pos) (tDrop te) := by
  intro pins s σ H D I h
  exact wpAny_Expr_any (thn (he pins s σ H _ I h) fun v s1 ⟨x, H1, I1, r1, q1⟩ => ⟨σ, H1, I1, q1⟩) I.quiet hs
def tRet (te : TE) : TS := fun D σ H => te σ H D.rt
theorem ps_ret (he : PE X e te) : PS X (.Return (some e) pos) (tRet te) := by
  intro pins s σ H D I h
  exact wpAny_Return_some (thn (he pins s σ H _ I h) fun v s1 ⟨x, H1, I1, r1, q1⟩ => ⟨x, σ, H1, I1, r1, q1⟩)
def tRetN : TS := fun D _ H => D.rt .non H
theorem ps_retN : PS X (.Return none pos) tRetN := fun _ _ σ H _ I h => wpAny_Return_none ⟨.non, σ, H, I, rfl, h⟩
def tIfS (c : TT) (t u : TS) : TS := fun D σ H => c σ H fun b H1 => if b = true then t D σ H1 else u D σ H1
theorem ps_if {c : Expr} {a b : List Stmt} {tc : TT} (hc : PT X c tc) (ha : PSs X a t) (hb : PSs X b u) : PS X (.If c a b pos) (tIfS tc t u) := by
  intro pins s σ H D I h
  refine wpAny_If (thn (hc pins s σ H _ I h) fun d s1 ⟨H1, I1, q1⟩ => ?_)
  cases d with
  | true => exact ha pins s1 σ H1 D I1 q1
  | false => exact hb pins s1 σ H1 D I1 q1
/-- code that the proof never comes to -/
def tNever : TS := fun _ _ _ => False
theorem ps_never : PS X st tNever := fun _ _ _ _ _ _ h => h.elim
end

abbrev TG := V → St → Hp → (St → Hp → Prop) → Prop
abbrev TGs := List V → St → Hp → (St → Hp → Prop) → Prop
def PG (X : Cx) (target : Expr) (t : TG) : Prop :=
  ∀ (pins : List (Addr × Obj)) (s : Shared) (σ : St) (H : Hp) (v : V) (u : Value) (Q : St → Hp → Prop), Inv X pins σ H s → RelV v u → t v σ H Q →
    wpAny (model X.prog X.w) X.A (assign target X.env u) (fun _ s' => ∃ σ' H', Inv X pins σ' H' s' ∧ Q σ' H') X.xe s
/-- several targets, one after another -/
def PGs (X : Cx) (ts : List Expr) (t : TGs) : Prop :=
  ∀ (pins : List (Addr × Obj)) (s : Shared) (σ : St) (H : Hp) (vs : List V) (us : List Value) (Q : St → Hp → Prop), Inv X pins σ H s → Vals vs us → t vs σ H Q →
    wpAny (model X.prog X.w) X.A (assignInOrder ((assignEach ts X.env).map (·.2)) us) (fun _ s' => ∃ σ' H', Inv X pins σ' H' s' ∧ Q σ' H') X.xe s
/-- o[i] = v, by values -/
abbrev TSet := V → V → V → Hp → (Hp → Prop) → Prop
def PSet (X : Cx) (t : TSet) : Prop :=
  ∀ (pins : List (Addr × Obj)) (s : Shared) (σ : St) (H : Hp) (o i v : V) (ov iv u : Value) (Q : Hp → Prop), Inv X pins σ H s → RelV o ov → RelV i iv → RelV v u → t o i v H Q →
    wpAny (model X.prog X.w) X.A (setItem ov iv u) (fun _ s' => ∃ H', Inv X pins σ H' s' ∧ Q H') X.xe s
section
variable {X : Cx} {pos : Pos}
def gName (i : Nat) : TG := fun v σ H Q => Q (σ.set i (some v)) H
theorem pg_name {i : Nat} {x : Str} (hN : X.N.Nodup) (hi : X.N[i]? = some x) (hx : Loc X.env.scope x) (hf : X.fn x = true ∨ X.env.scope.names.lookup x = some .local := by first | exact .inl rfl | exact .inr rfl | assumption) : PG X (.Name x pos) (gName i) := by
  intro pins s σ H v u Q I r h
  exact wpAny_assign_Name (store_ok I hN hi hx r (fun s' I' => ⟨_, H, I', h⟩) hf)
def gNil : TGs := fun vs σ H Q => vs = [] ∧ Q σ H
def gCons (t : TG) (u : TGs) : TGs := fun vs σ H Q => ∃ v r, vs = v :: r ∧ t v σ H fun σ' H' => u r σ' H' Q
theorem pgs_nil : PGs X [] gNil := by
  intro pins s σ H vs us Q I r h
  obtain ⟨e, h⟩ := h
  subst e
  cases r
  exact assignInOrder_nil ⟨σ, H, I, h⟩
theorem pgs_cons {e : Expr} {es : List Expr} {t : TG} {u : TGs} (h1 : PG X e t) (h2 : PGs X es u)
    (hs : (assignEach (e :: es) X.env).map (·.2) = assign e X.env :: (assignEach es X.env).map (·.2) := by rfl) : PGs X (e :: es) (gCons t u) := by
  intro pins s σ H vs us Q I r h
  obtain ⟨v, vr, e1, h⟩ := h
  subst e1
  cases r with
  | cons r rr =>
    rw [hs]
    refine assignInOrder_cons (thn (h1 pins s σ H _ _ _ I r h) fun _ s1 ⟨σ1, H1, I1, q1⟩ => ?_)
    exact h2 pins s1 σ1 H1 _ _ Q I1 rr q1
/-- (a, b, ..) = a tuple of that length -/
def gTup (K : PySem.W.Frag) (n : Nat) (t : TGs) : TG := fun v σ H Q => ∃ a xs, v = .ref a ∧ SqT K H a xs ∧ xs.length = n ∧ t xs σ H Q
theorem pg_tup {es : List Expr} {k : Nat} {t : TGs} {n : Nat} (hc : X.calm = true) (h : PGs X es t)
    (hn : (assignEach es X.env).length = n := by rfl) (hst : (assignEach es X.env).findIdx? (·.1) = none := by rfl) : PG X (.Tuple es k pos) (gTup X.K n t) := by
  intro pins s σ H v u Q I r hw
  obtain ⟨a, xs, e1, hq, hl, hw⟩ := hw
  subst e1
  cases r
  obtain ⟨its, rv, ht, hz⟩ := I.tuple hq
  refine assign_Tuple_tuple (I.ok.hd hc) ht (by simp [hn, ← hl, rv.length]) hst fun h' hx => ?_
  have I1 : Inv X pins σ H { s with heap := h' } := I.kept (t' := s.toks) fun b o e => hx b o (Nat.ne_of_lt (Heap.lt_size e)) e
  exact h pins _ σ H xs _ Q I1 (by simpa using rv) hw
/-- o[i] = .. -/
def gSub (to ti : TE) (t : TSet) : TG := fun v σ H Q => to σ H fun o H1 => ti σ H1 fun i H2 => t o i v H2 fun H3 => Q σ H3
theorem pg_sub {o i : Expr} {to ti : TE} {t : TSet} (ho : PE X o to) (hi : PE X i ti) (hs : PSet X t)
    (ha : ∀ v, assign (.Subscript o i pos) X.env v = (do
      let ov ← holding [v] (eval o X.env)
      let iv ← holding [v, ov] (eval i X.env)
      standAt pos
      holding [v, ov, iv] (setItem ov iv v)
      release [v, ov, iv] []) := by intro _; rfl) : PG X (.Subscript o i pos) (gSub to ti t) := by
  intro pins s σ H v u Q I r h
  rw [ha]
  refine wpAny_bind (wpAny_holding (thn (ho pins s σ H _ I h) fun ov s1 ⟨x, H1, I1, r1, q1⟩ => ?_))
  refine wpAny_bind (wpAny_holding (thn (hi pins s1 σ H1 _ I1 q1) fun iv s2 ⟨y, H2, I2, r2, q2⟩ => ?_))
  refine wpAny_bind (wpAny_standAt (wpAny_bind (wpAny_holding (thn (hs pins s2 σ H2 x y v ov iv u _ I2 r1 r2 r q2) fun _ s3 ⟨H3, I3, q3⟩ => ?_))))
  exact wpAny_release ⟨σ, H3, I3, q3⟩
/-- target = value -/
def tAsg (te : TE) (g : TG) : TS := fun D σ H => te σ H fun x H1 => g x σ H1 D.nx
theorem ps_asg {tg e : Expr} {te : TE} {g : TG} (he : PE X e te) (hg : PG X tg g) (hs : swapsWithSole [tg] e pos.line X.env = pure false := by rfl) (hw : swappedStores [tg] e X.env = pure none := by rfl)
    (h1 : (assignEach [tg] X.env).map (·.2) = [assign tg X.env] := by rfl) : PS X (.Assign [tg] e pos) (tAsg te g) := by
  intro pins s σ H D I h
  refine wpAny_Assign_stores (thn (he pins s σ H _ I h) fun v s1 ⟨x, H1, I1, r1, q1⟩ => ?_) hs hw
  rw [h1]
  exact thn (hg pins s1 σ H1 x v _ I1 r1 q1) fun _ s2 q => q
/-- name = value -/
theorem ps_set {i : Nat} {x : Str} {e : Expr} {te : TE} {pos' : Pos} (hN : X.N.Nodup) (hi : X.N[i]? = some x) (hx : Loc X.env.scope x) (he : PE X e te) (hs : swapsWith e (some (.Name x pos')) pos.line X.env = pure false := by rfl) (hf : X.fn x = true ∨ X.env.scope.names.lookup x = some .local := by first | exact .inl rfl | exact .inr rfl | assumption) :
    PS X (.Assign [.Name x pos'] e pos) (tAsg te (gName i)) := by
  intro pins s σ H D I h
  refine wpAny_Assign_Name (thn (he pins s σ H _ I h) fun v s1 ⟨y, H1, I1, r1, q1⟩ => ?_) hs
  exact store_ok I1 hN hi hx r1 (fun s2 I2 => ⟨_, H1, I2, q1⟩) hf
end

section
variable {X : Cx} {pos : Pos}
/-- the invariant W with its measure -/
def tWhile (c : TT) (tb : TS) : TS := fun D σ H => ∃ W : Nat → St → Hp → Prop, (∃ m, W m σ H) ∧ ∀ m σ H, W m σ H →
  c σ H fun b H1 => if b = true then ∃ N : St → Hp → Prop, (∀ σ' H', N σ' H' → ∃ m', m' < m ∧ W m' σ' H') ∧ tb { D with nx := N, ct := N, bk := D.nx } σ H1 else D.nx σ H1
theorem ps_while {c : Expr} {body : List Stmt} {tc : TT} {tb : TS} (hp : PassesOwn (model X.prog X.w) X.A X.env X.xe) (hc : PT X c tc) (hb : PSs X body tb) : PS X (.While c body [] pos) (tWhile tc tb) := by
  intro pins s σ H D I h
  obtain ⟨W, ⟨m0, w0⟩, turn⟩ := h
  refine wpAny_While (codeAny_whileLoop (fun n s' => ∃ σ' H', Inv X pins σ' H' s' ∧ W n σ' H') ?_ m0 ⟨σ, H, I, w0⟩)
  rintro n s1 ⟨σ1, H1, I1, w1⟩
  refine wpAny_passesOwn hp (thn (hc pins s1 σ1 H1 _ I1 (turn n σ1 H1 w1)) fun b s2 ⟨H2, I2, q2⟩ => ?_)
  cases b with
  | true =>
    obtain ⟨N, hN, q2⟩ := q2
    rw [if_pos rfl]
    refine wpAny_passesOwn hp (thn (hb pins s2 σ1 H2 _ I2 q2) fun f s3 q3 => ?_)
    cases f with
    | next =>
      obtain ⟨σ3, H3, I3, n3⟩ := q3
      obtain ⟨m', hm, w3⟩ := hN σ3 H3 n3
      exact ⟨m', hm, σ3, H3, I3, w3⟩
    | cont =>
      obtain ⟨σ3, H3, I3, n3⟩ := q3
      obtain ⟨m', hm, w3⟩ := hN σ3 H3 n3
      exact ⟨m', hm, σ3, H3, I3, w3⟩
    | brk => exact q3
    | ret v => exact q3
  | false =>
    rw [if_neg Bool.false_ne_true]
    exact wpAny_execs_nil ⟨σ1, H2, I2, q2⟩
end

/-- at turn i: it yields x (the heap may grow), or it stops -/
structure It where
  go : Nat → Hp → Prop
  yld : Nat → Hp → V → Hp → Prop
  stop : Nat → Hp → Prop
/-- the iterator's own objects may turn: they are not the frame's, not pinned, younger than the entry (or a comprehension's own) -/
def FpOk (X : Cx) (pins : List (Addr × Obj)) (H : Hp) (b : Addr) : Prop :=
  H b = none ∧ b ≠ X.env.locals ∧ b ∉ X.fs ∧ (b ∈ X.ex ∨ X.s₀.heap.objs.size ≤ b) ∧ (∀ x c, X.env.cells.lookup x = some c → c ≠ b) ∧ ∀ p ∈ X.pn ++ pins, p.1 ≠ b
theorem Inv.fpOk {X : Cx} {pins : List (Addr × Obj)} {σ : St} {H H' : Hp} {s : Shared} {b : Addr} (I : Inv X pins σ H s) (hb : s.heap.objs.size ≤ b) (hn : H' b = none) : FpOk X pins H' b := by
  refine ⟨hn, Nat.ne_of_gt (Nat.lt_of_lt_of_le I.lt hb), I.nofs hb, .inr (Nat.le_trans I.sz hb), fun x c e z => ?_, fun p hp z => ?_⟩
  · obtain ⟨v, q⟩ := I.cell x c e
    exact absurd (Nat.lt_of_lt_of_le q.lt (by rw [z]; exact hb)) (Nat.lt_irrefl _)
  · exact absurd (Nat.lt_of_lt_of_le (Heap.lt_size (I.pin p hp).1) (by rw [z]; exact hb)) (Nat.lt_irrefl _)
structure Turn (P : Program) (w : World) (K : PySem.W.Frag) (tg : Expr) (J : It) (fp : List Addr) (it : Addr) (tn : Nat → Heap → Prop) : Prop where
  mem : it ∈ fp
  obj : ∀ i h, tn i h → ∀ b ∈ fp, ∃ o, h.get? b = some o ∧ ∀ v, o.data ≠ .cell v
  keep : ∀ i h h', tn i h → (∀ b ∈ fp, ∀ o, h.get? b = some o → h'.get? b = some o) → tn i h'
  item : ∀ (X : Cx), X.prog = P → X.w = w → X.K = K → X.calm = true → ∀ (i : Nat) (pins : List (Addr × Obj)) (s : Shared) (σ : St) (H : Hp) (E : Value → Shared → Prop), Inv X pins σ H s → (∀ b ∈ fp, FpOk X pins H b) → tn i s.heap → J.go i H →
    wpAny (model P w) X.A (pyNext (.ref it)) (fun r s1 => ∃ u, r = some u ∧
      wpAny (model P w) X.A (letOwnedTupleGo tg (.ref it) u) (fun _ s2 => ∃ x H', Inv X pins σ H' s2 ∧ RelV x u ∧ J.yld i H x H' ∧ tn (i + 1) s2.heap ∧ ∀ b ∈ fp, H' b = none) E s1) E s
  done : ∀ (X : Cx), X.prog = P → X.w = w → X.K = K → X.calm = true → ∀ (i : Nat) (pins : List (Addr × Obj)) (s : Shared) (σ : St) (H : Hp) (E : Value → Shared → Prop), Inv X pins σ H s → (∀ b ∈ fp, FpOk X pins H b) → tn i s.heap → J.stop i H →
    wpAny (model P w) X.A (pyNext (.ref it)) (fun r s1 => r = none ∧ Inv X pins σ H s1) E s
  self : ∀ (A : Around) (i : Nat) (s : Shared) (Q : Value → Shared → Prop) (E : Value → Shared → Prop), tn i s.heap → Q (.ref it) s → wpAny (model P w) A (pyIter (.ref it)) Q E s
abbrev TI := St → Hp → (It → Hp → Prop) → Prop
/-- an iterator has come -/
def PIE (X : Cx) (pins : List (Addr × Obj)) (σ : St) (tg : Expr) (R : It → Hp → Prop) (itv : Value) (s2 : Shared) : Prop :=
  ∃ (it : Addr) (fp : List Addr) (tn : Nat → Heap → Prop) (J : It) (H' : Hp), itv = .ref it ∧ Inv X pins σ H' s2 ∧ Turn X.prog X.w X.K tg J fp it tn ∧ tn 0 s2.heap ∧ (∀ b ∈ fp, FpOk X pins H' b) ∧ R J H'
def PI (X : Cx) (tg iter : Expr) (wi : TI) : Prop :=
  ∀ (pins : List (Addr × Obj)) (s : Shared) (σ : St) (H : Hp) (R : It → Hp → Prop), Inv X pins σ H s → wi σ H R →
    wpAny (model X.prog X.w) X.A (eval iter X.env) (fun v s1 => wpAny (model X.prog X.w) X.A (pyIter v) (PIE X pins σ tg R) X.xe s1) X.xe s

/-- the step ahead of the store is nothing for an iterator that keeps no tuple -/
theorem go_of {M : Model} {A : Around} {E : Value → Shared → Prop} {s : Shared} {tg : Expr} {it : Addr} {u : Value} {o : Obj} {n : String} {vs : Array Value} {Q : Unit → Shared → Prop} (ho : s.heap.get? it = some o) (hc : o.cls = .type n) (hd : o.data = .fields vs)
    (hn : ["enumerate", "zip", "dict_itemiterator", "dict_reverseitemiterator", "odict_iterator", "itertools.zip_longest", "itertools.pairwise"].contains n = false) (hQ : Q () s) : wpAny M A (letOwnedTupleGo tg (.ref it) u) Q E s := by
  unfold letOwnedTupleGo
  cases tg <;> first
    | exact wpAny_pure hQ
    | (cases u <;> first
        | exact wpAny_pure hQ
        | (refine wpAny_bind (wpAny_load ho ?_)
           rw [hc, hd]
           show wpAny M A (if (["enumerate", "zip", "dict_itemiterator", "dict_reverseitemiterator", "odict_iterator", "itertools.zip_longest", "itertools.pairwise"].contains n && vs[0]? == some (rawInt _)) = true then _ else _) Q E s
           rw [if_neg (by intro h; rw [hn, Bool.false_and] at h; cases h)]
           exact wpAny_pure hQ))

/-- the list at a, as it stands at each turn (a loop may append to it) -/
def Itl (K : PySem.W.Frag) (a : Addr) : It :=
  ⟨fun i H => ∃ xs x, SqL K H a xs ∧ xs[i]? = some x, fun i H x H' => H' = H ∧ ∀ xs, SqL K H a xs → xs[i]? = some x, fun i H => ∃ xs, SqL K H a xs ∧ xs.length ≤ i⟩
def Itt (K : PySem.W.Frag) (a : Addr) : It :=
  ⟨fun i H => ∃ xs x, SqT K H a xs ∧ xs[i]? = some x, fun i H x H' => H' = H ∧ ∀ xs, SqT K H a xs → xs[i]? = some x, fun i H => ∃ xs, SqT K H a xs ∧ xs.length ≤ i⟩
/-- lo, lo + 1, .. (n of them) -/
def Itr (lo : Int) (n : Nat) : It := ⟨fun i _ => i < n, fun i H x H' => H' = H ∧ x = .int (lo + i), fun i _ => n ≤ i⟩
theorem turn_list {P : Program} {w : World} {K : PySem.W.Frag} {tg : Expr} (a it : Addr) : Turn P w K tg (Itl K a) [it] it (fun i h => h.IsListIter it a i) where
  mem := by simp
  obj := fun i h st b hb => by
    have e : b = it := by simpa using hb
    subst e
    obtain ⟨o, e, c, d⟩ := st
    exact ⟨o, e, fun v z => by rw [d] at z; cases z⟩
  keep := fun i h h' st k => st.at fun o e => k it (by simp) o e
  item := by
    intro X hP hw hK hc i pins s σ H E I hf st hg
    subst hP hw hK
    obtain ⟨xs, x, hq, hx⟩ := hg
    obtain ⟨its, rv, p, hz⟩ := I.list hq
    obtain ⟨u, hu, ru⟩ := rv.get hx
    obtain ⟨f0, f1, f2, f3, f4, f5⟩ := hf it (by simp)
    refine wpAny_pyNext_list_item st p.isList (x := u) (by simpa using hu) fun h' st' sb => ?_
    have I1 : Inv X pins σ H { s with heap := h' } := I.turned (t' := s.toks) (fun b o hb e => (sb.2 b hb).trans e) f0 f1 f3 f4 f5
    obtain ⟨o, e, c, d⟩ := id st'
    exact ⟨u, rfl, go_of (s := { s with heap := h' }) e c d (by decide) ⟨x, H, I1, ru, ⟨rfl, fun ys hy => by rw [I.list_inj hy hq]; exact hx⟩, st', fun b hb => (hf b hb).1⟩⟩
  done := by
    intro X hP hw hK hc i pins s σ H E I hf st hg
    subst hP hw hK
    obtain ⟨xs, hq, hx⟩ := hg
    obtain ⟨its, rv, p, hz⟩ := I.list hq
    obtain ⟨f0, f1, f2, f3, f4, f5⟩ := hf it (by simp)
    have hl := rv.length
    exact wpAny_pyNext_list_end (I.ok.hd hc) st p.isList (by simp; omega) fun h' eb => ⟨rfl, I.turned (t' := s.toks) (fun b o hb e => eb b o hb e) f0 f1 f3 f4 f5⟩
  self := fun _ _ _ _ _ st h => wpAny_pyIter_listiter st h
theorem turn_tuple {P : Program} {w : World} {K : PySem.W.Frag} {tg : Expr} (a it : Addr) : Turn P w K tg (Itt K a) [it] it (fun i h => h.IsTupleIter it a i) where
  mem := by simp
  obj := fun i h st b hb => by
    have e : b = it := by simpa using hb
    subst e
    obtain ⟨o, e, c, d⟩ := st
    exact ⟨o, e, fun v z => by rw [d] at z; cases z⟩
  keep := fun i h h' st k => st.at fun o e => k it (by simp) o e
  item := by
    intro X hP hw hK hc i pins s σ H E I hf st hg
    subst hP hw hK
    obtain ⟨xs, x, hq, hx⟩ := hg
    obtain ⟨its, rv, p, hz⟩ := I.tuple hq
    obtain ⟨u, hu, ru⟩ := rv.get hx
    obtain ⟨f0, f1, f2, f3, f4, f5⟩ := hf it (by simp)
    refine wpAny_pyNext_tuple_item st (show s.heap.IsTuple a its.toArray from p) (x := u) (by simpa using hu) fun h' st' sb => ?_
    have I1 : Inv X pins σ H { s with heap := h' } := I.turned (t' := s.toks) (fun b o hb e => (sb.2 b hb).trans e) f0 f1 f3 f4 f5
    obtain ⟨o, e, c, d⟩ := id st'
    exact ⟨u, rfl, go_of (s := { s with heap := h' }) e c d (by decide) ⟨x, H, I1, ru, ⟨rfl, fun ys hy => by rw [I.tuple_inj hy hq]; exact hx⟩, st', fun b hb => (hf b hb).1⟩⟩
  done := by
    intro X hP hw hK hc i pins s σ H E I hf st hg
    subst hP hw hK
    obtain ⟨xs, hq, hx⟩ := hg
    obtain ⟨its, rv, p, hz⟩ := I.tuple hq
    obtain ⟨f0, f1, f2, f3, f4, f5⟩ := hf it (by simp)
    have hl := rv.length
    exact wpAny_pyNext_tuple_end (I.ok.hd hc) st (show s.heap.IsTuple a its.toArray from p) (by simp; omega) fun h' eb => ⟨rfl, I.turned (t' := s.toks) (fun b o hb e => eb b o hb e) f0 f1 f3 f4 f5⟩
  self := fun _ _ _ _ _ st h => wpAny_pyIter_tupleiter st h
theorem turn_range {P : Program} {w : World} {K : PySem.W.Frag} {tg : Expr} (it : Addr) (lo : Int) (n : Nat) : Turn P w K tg (Itr lo n) [it] it (fun i h => IsRangeIter h it (lo + (i : Nat) * 1) ((n : Int) - (i : Nat)) 1) where
  mem := by simp
  obj := fun i h st b hb => by
    have e : b = it := by simpa using hb
    subst e
    exact ⟨_, st, fun v z => by
      have z' : Data.fields _ = Data.cell v := z
      cases z'⟩
  keep := fun i h h' st k => k it (by simp) _ st
  item := by
    intro X hP hw hK hc i pins s σ H E I hf st hg
    subst hP hw hK
    obtain ⟨f0, f1, f2, f3, f4, f5⟩ := hf it (by simp)
    have W := Walks.range (prog := X.prog) (w := X.w) (I.ok.hd hc) it lo 1 n
    refine W.item i s _ _ hg st fun v h' tk hv st' kk => ?_
    obtain ⟨t, rfl⟩ := hv
    have I1 : Inv X pins σ H { s with heap := h', toks := tk } := I.turned (fun b o hb e => kk b o (by simpa using hb) e) f0 f1 f3 f4 f5
    refine ⟨_, rfl, go_of (s := { s with heap := h', toks := tk }) (n := "range_iterator") st' rfl rfl (by decide) ⟨.int (lo + i), H, I1, ⟨t, ?_⟩, ⟨rfl, rfl⟩, st', fun b hb => (hf b hb).1⟩⟩
    rw [Int.mul_one]
  done := by
    intro X hP hw hK hc i pins s σ H E I hf st hg
    subst hP hw hK
    obtain ⟨f0, f1, f2, f3, f4, f5⟩ := hf it (by simp)
    exact wpAny_pyNext_range_end (I.ok.hd hc) st (by have : n ≤ i := hg; omega) fun h' eb => ⟨rfl, I.turned (t' := s.toks) (fun b o hb e => eb b o hb e) f0 f1 f3 f4 f5⟩
  self := fun _ _ _ _ _ st h => wpAny_pyIter_rangeiter st h
end L2

namespace L2
open PySem PySem.Spec PyProof.Rows
section
variable {X : Cx} {tg : Expr}
def iList (K : PySem.W.Frag) (tl : TE) : TI := fun σ H R => tl σ H fun x H1 => ∃ a, x = .ref a ∧ (∃ xs, SqL K H1 a xs) ∧ R (Itl K a) H1
def iTup (K : PySem.W.Frag) (tl : TE) : TI := fun σ H R => tl σ H fun x H1 => ∃ a, x = .ref a ∧ (∃ xs, SqT K H1 a xs) ∧ R (Itt K a) H1
theorem pi_list {l : Expr} {tl : TE} (hl : PE X l tl) : PI X tg l (iList X.K tl) := by
  intro pins s σ H R I h
  refine thn (hl pins s σ H _ I h) fun v s1 ⟨x, H1, I1, r1, q1⟩ => ?_
  obtain ⟨a, e, ⟨xs, hq⟩, q⟩ := q1
  subst e
  cases r1
  obtain ⟨its, rv, p, hz⟩ := I1.list hq
  refine wpAny_pyIter_list p.isList ?_
  refine ⟨s1.heap.objs.size, [s1.heap.objs.size], _, _, H1, rfl, I1.kept (t' := s1.toks) fun b o e => Heap.get?_push_of_some _ e, turn_list a _, ⟨_, Heap.get?_push_size _ rfl, rfl, rfl⟩, fun b hb => ?_, q⟩
  have e : b = s1.heap.objs.size := by simpa using hb
  subst e
  exact I1.fpOk (Nat.le_refl _) (I1.hok.fresh (Nat.le_refl _))
theorem pi_tup {l : Expr} {tl : TE} (hl : PE X l tl) : PI X tg l (iTup X.K tl) := by
  intro pins s σ H R I h
  refine thn (hl pins s σ H _ I h) fun v s1 ⟨x, H1, I1, r1, q1⟩ => ?_
  obtain ⟨a, e, ⟨xs, hq⟩, q⟩ := q1
  subst e
  cases r1
  obtain ⟨its, rv, p, hz⟩ := I1.tuple hq
  refine wpAny_pyIter_tuple (show s1.heap.IsTuple a its.toArray from p) ?_
  refine ⟨s1.heap.objs.size, [s1.heap.objs.size], _, _, H1, rfl, I1.kept (t' := s1.toks) fun b o e => Heap.get?_push_of_some _ e, turn_tuple a _, ⟨_, Heap.get?_push_size _ rfl, rfl, rfl⟩, fun b hb => ?_, q⟩
  have e : b = s1.heap.objs.size := by simpa using hb
  subst e
  exact I1.fpOk (Nat.le_refl _) (I1.hok.fresh (Nat.le_refl _))
/-- a range object just made, walked -/
theorem range_it {pins : List (Addr × Obj)} {σ : St} {H : Hp} {s : Shared} {R : It → Hp → Prop} {E : Value → Shared → Prop} {lo hi : Int} {t u v : Tok} {tk : Nat} (I : Inv X pins σ H s) (h1 : -(2 ^ 62) ≤ lo) (h2 : lo < 2 ^ 62) (h3 : -(2 ^ 62) ≤ hi) (h4 : hi < 2 ^ 62)
    (q : R (Itr lo (hi - lo).toNat) H) : wpAny (model X.prog X.w) X.A (pyIter (.ref s.heap.objs.size)) (PIE X pins σ tg R) E { s with heap := s.heap.push { cls := .type "range", data := .fields #[.int lo t, .int hi u, .int 1 v] }, toks := tk } := by
  refine wpAny_pyIter_range (IsRange.new ..) (small_one h1 h2 h3 h4) ?_
  have I1 : Inv X pins σ H { s with heap := s.heap.push { cls := .type "range", data := .fields #[.int lo t, .int hi u, .int 1 v] }, toks := tk } := I.kept fun b o e => Heap.get?_push_of_some _ e
  refine ⟨(s.heap.push { cls := .type "range", data := .fields #[.int lo t, .int hi u, .int 1 v] }).objs.size, [(s.heap.push { cls := .type "range", data := .fields #[.int lo t, .int hi u, .int 1 v] }).objs.size], _, _, H, rfl,
    I1.kept (t' := tk) fun b o e => Heap.get?_push_of_some _ e, turn_range _ lo (hi - lo).toNat, ?_, fun b hb => ?_, q⟩
  · have e1 : lo + ((0 : Nat) : Int) * 1 = lo := by simp
    have e2 : (((hi - lo).toNat : Nat) : Int) - ((0 : Nat) : Int) = Builtin.Range.rangeSize lo hi 1 := by rw [rangeSize_one]; split <;> omega
    show IsRangeIter _ _ (lo + ((0 : Nat) : Int) * 1) ((((hi - lo).toNat : Nat) : Int) - ((0 : Nat) : Int)) 1
    rw [e1, e2]
    exact Heap.get?_push_size _ rfl
  · have e : b = (s.heap.push { cls := .type "range", data := .fields #[.int lo t, .int hi u, .int 1 v] }).objs.size := by simpa using hb
    subst e
    exact I1.fpOk (Nat.le_refl _) (I1.hok.fresh (Nat.le_refl _))
def iRng1 (ta : TA) : TI := fun σ H R => ta σ H fun vs H1 => ∃ j : Int, vs = [.int j] ∧ -(2 ^ 62) ≤ j ∧ j < 2 ^ 62 ∧ R (Itr 0 j.toNat) H1
def iRng2 (ta : TA) : TI := fun σ H R => ta σ H fun vs H1 => ∃ i j : Int, vs = [.int i, .int j] ∧ (-(2 ^ 62) ≤ i ∧ i < 2 ^ 62 ∧ -(2 ^ 62) ≤ j ∧ j < 2 ^ 62) ∧ R (Itr i (j - i).toNat) H1
theorem pi_range1 {a : Expr} {ta : TA} {p pos : Pos} (hg : Gl X "range") (hm : X.mg "range" = none) (ha : PA X [a] ta) (hs : starEach [a] X.env = [(false, eval a X.env)] := by rfl) : PI X tg (.Call (.Name "range" p) [a] [] pos) (iRng1 ta) := by
  intro pins s σ H R I h
  refine Call_ (ld_blt I hg hm boot_range (PyProof.Rows.callWith_type1 (thn (ha pos pins s σ H _ I h) fun us s1 ⟨vs, H1, I1, r1, q1⟩ => ?_) hs rfl))
  obtain ⟨j, e, q1, q2, q⟩ := q1
  subst e
  cases r1 with
  | cons r rr =>
    cases rr
    obtain ⟨t, rfl⟩ := r
    exact call_range_1 (range_it I1 (by omega) (by omega) q1 q2 (by simpa using q))
/-- W: the invariant by the turn and a measure; N: what the body is to reach -/
def tFor (wi : TI) (g : TG) (tb : TS) : TS := fun D σ H => wi σ H fun J H1 => ∃ W : Nat → Nat → St → Hp → Prop, (∃ m, W 0 m σ H1) ∧ ∀ i m σ H, W i m σ H →
  (J.stop i H ∧ D.nx σ H) ∨ (J.go i H ∧ ∃ N : St → Hp → Prop, (∀ σ' H', N σ' H' → ∃ m', m' < m ∧ W (i + 1) m' σ' H') ∧ ∀ x H', J.yld i H x H' → g x σ H' fun σ2 H2 => tb { D with nx := N, ct := N, bk := D.nx } σ2 H2)
/-- the records at fp as they stand -/
def pinsAt (fp : List Addr) (h : Heap) : List (Addr × Obj) := fp.filterMap fun b => (h.get? b).map fun o => (b, o)
theorem mem_pinsAt {fp : List Addr} {h : Heap} {b : Addr} {o : Obj} (hb : b ∈ fp) (e : h.get? b = some o) : (b, o) ∈ pinsAt fp h := List.mem_filterMap.mpr ⟨b, hb, by rw [e]; rfl⟩
theorem of_pinsAt {fp : List Addr} {h : Heap} {p : Addr × Obj} (hp : p ∈ pinsAt fp h) : p.1 ∈ fp ∧ h.get? p.1 = some p.2 := by
  obtain ⟨b, hb, e⟩ := List.mem_filterMap.mp hp
  cases q : h.get? b with
  | none => rw [q] at e; cases e
  | some o =>
    rw [q] at e
    have e' : (b, o) = p := Option.some.inj e
    subst e'
    exact ⟨hb, q⟩
theorem Inv.pinned {pins : List (Addr × Obj)} {σ : St} {H : Hp} {s : Shared} {fp : List Addr} (I : Inv X pins σ H s) (hf : ∀ b ∈ fp, FpOk X pins H b) (ho : ∀ b ∈ fp, ∃ o, s.heap.get? b = some o ∧ ∀ v, o.data ≠ .cell v) : Inv X (pins ++ pinsAt fp s.heap) σ H s :=
  I.pins_of fun p hp => (List.mem_append.mp hp).elim (fun z => I.pin p (List.mem_append_right _ z)) fun z => by
    obtain ⟨hb, e⟩ := of_pinsAt z
    obtain ⟨f0, f1, f2, _⟩ := hf p.1 hb
    obtain ⟨o, e', d⟩ := ho p.1 hb
    rw [e] at e'; cases e'
    exact ⟨e, f0, f1, f2, d⟩
theorem Inv.unpinned {pins pl : List (Addr × Obj)} {σ : St} {H : Hp} {s : Shared} (I : Inv X (pins ++ pl) σ H s) : Inv X pins σ H s := I.pins_of fun p hp => I.pin p (List.mem_append_right _ (List.mem_append_left _ hp))
theorem ps_for {iter : Expr} {body : List Stmt} {wi : TI} {g : TG} {tb : TS} {pos : Pos} (hp : PassesOwn (model X.prog X.w) X.A X.env X.xe) (hc : X.calm = true) (hi : PI X tg iter wi) (hg : PG X tg g) (hb : PSs X body tb)
    (hs : ∀ x, foldedSetIterable iter X.env x = pure x := by intro _; rfl) : PS X (.For tg iter body [] pos) (tFor wi g tb) := by
  intro pins s σ H D I h
  refine wpAny_For (thn (hi pins s σ H _ I h) fun v s1 h1 => thn h1 fun itv s2 h2 => ?_) hs
  obtain ⟨it, fp, tn, J, H2, e, I2, T, st2, f2, W, ⟨m0, w0⟩, turn⟩ := h2
  subst e
  -- what stays true of the iterator's objects through the loop
  have stat : ∀ {H' : Hp}, (∀ b ∈ fp, H' b = none) → ∀ b ∈ fp, FpOk X pins H' b := fun hn b hb => ⟨hn b hb, (f2 b hb).2⟩
  refine codeAny_forLoop_any (fun n s' => ∃ i σ' H', Inv X pins σ' H' s' ∧ tn i s'.heap ∧ (∀ b ∈ fp, H' b = none) ∧ W i n σ' H') ?_ m0 ⟨0, σ, H2, I2, st2, fun b hb => (f2 b hb).1, w0⟩
  rintro n s3 ⟨i, σ3, H3, I3, st3, fr3, w3⟩
  rcases turn i n σ3 H3 w3 with ⟨stop, qn⟩ | ⟨go, N, hN, step⟩
  · refine wpAny_passesOwn hp (thn (T.done X rfl rfl rfl hc i pins s3 σ3 H3 X.xe I3 (stat fr3) st3 stop) fun r s4 ⟨hr, I4⟩ => ?_)
    subst hr
    exact wpAny_execs_nil ⟨σ3, H3, I4, qn⟩
  · refine wpAny_passesOwn hp (thn (T.item X rfl rfl rfl hc i pins s3 σ3 H3 X.xe I3 (stat fr3) st3 go) fun r s4 ⟨u, hr, h4⟩ => ?_)
    subst hr
    refine wpAny_passesOwn hp (thn h4 fun _ s5 ⟨x, H5, I5, r5, y5, st5, fr5⟩ => ?_)
    have I5' := I5.pinned (stat fr5) (T.obj _ _ st5)
    refine wpAny_passesOwn hp (thn (hg _ s5 σ3 H5 x u _ I5' r5 (step x H5 y5)) fun _ s6 ⟨σ6, H6, I6, q6⟩ => ?_)
    refine wpAny_passesOwn hp (thn (hb _ s6 σ6 H6 _ I6 q6) fun f s7 q7 => ?_)
    have again : ∀ {σ7 : St} {H7 : Hp}, Inv X (pins ++ pinsAt fp s5.heap) σ7 H7 s7 → N σ7 H7 → ∃ m, m < n ∧ ∃ i σ' H', Inv X pins σ' H' s7 ∧ tn i s7.heap ∧ (∀ b ∈ fp, H' b = none) ∧ W i m σ' H' := fun {σ7 H7} I7 n7 => by
      obtain ⟨m', hm, w7⟩ := hN σ7 H7 n7
      refine ⟨m', hm, i + 1, σ7, H7, I7.unpinned, T.keep _ _ _ st5 fun b hb o e => (I7.pin (b, o) (List.mem_append_right _ (List.mem_append_right _ (mem_pinsAt hb e)))).1, fun b hb => ?_, w7⟩
      obtain ⟨o, e, d⟩ := T.obj _ _ st5 b hb
      exact (I7.pin (b, o) (List.mem_append_right _ (List.mem_append_right _ (mem_pinsAt hb e)))).2.1
    cases f with
    | next => obtain ⟨σ7, H7, I7, n7⟩ := q7; exact again I7 n7
    | cont => obtain ⟨σ7, H7, I7, n7⟩ := q7; exact again I7 n7
    | brk => obtain ⟨σ7, H7, I7, q7⟩ := q7; exact ⟨σ7, H7, I7.unpinned, q7⟩
    | ret v => obtain ⟨x7, σ7, H7, I7, r7, q7⟩ := q7; exact ⟨x7, σ7, H7, I7.unpinned, r7, q7⟩
end

end L2

namespace L2
open PySem PySem.Spec PyProof.Rows

abbrev R2 := V → V → Hp → VK → Prop
/-- a two-place operation on values: f is binaryOp op, inplaceOp op or compareOp op -/
def OpR (X : Cx) (f : Value → Value → Sem Value) (r : R2) : Prop :=
  ∀ (pins : List (Addr × Obj)) (s : Shared) (σ : St) (H : Hp) (x y : V) (v u : Value) (Q : VK), Inv X pins σ H s → RelV x v → RelV y u → r x y H Q →
    wpAny (model X.prog X.w) X.A (f v u) (EP X pins σ Q) X.xe s
/-- a one-place operation -/
def UnR (X : Cx) (f : Value → Sem Value) (r : V → Hp → VK → Prop) : Prop :=
  ∀ (pins : List (Addr × Obj)) (s : Shared) (σ : St) (H : Hp) (x : V) (v : Value) (Q : VK), Inv X pins σ H s → RelV x v → r x H Q →
    wpAny (model X.prog X.w) X.A (f v) (EP X pins σ Q) X.xe s
/-- a call of a value that is known (a builtin, a type) with values -/
def CallR (X : Cx) (f : Value) (r : List V → Hp → VK → Prop) : Prop :=
  ∀ (pins : List (Addr × Obj)) (s : Shared) (σ : St) (H : Hp) (xs : List V) (us : List Value) (Q : VK), Inv X pins σ H s → Vals xs us → r xs H Q →
    wpAny (model X.prog X.w) X.A (call f us) (EP X pins σ Q) X.xe s
def tOp (r : R2) (ta tb : TE) : TE := fun σ H Q => ta σ H fun x H1 => tb σ H1 fun y H2 => r x y H2 Q
def tUn (r : V → Hp → VK → Prop) (ta : TE) : TE := fun σ H Q => ta σ H fun x H1 => r x H1 Q
/-- ints in, under C, and a value out -/
def rI (C : Int → Int → Prop) (g : Int → Int → V) : R2 := fun x y H Q => ∃ i j, x = .int i ∧ y = .int j ∧ C i j ∧ Q (g i j) H
def rI0 (g : Int → Int → V) : R2 := fun x y H Q => ∃ i j, x = .int i ∧ y = .int j ∧ Q (g i j) H
def rU (g : Int → V) : V → Hp → VK → Prop := fun x H Q => ∃ i, x = .int i ∧ Q (g i) H

section
variable {X : Cx} {a b c : Expr} {ta tb tc : TE} {pos : Pos}

theorem binT (ha : PE X a ta) (hb : PE X b tb) {pins : List (Addr × Obj)} {s : Shared} {σ : St} {H : Hp} {R : V → V → Hp → Prop} (I : Inv X pins σ H s)
    (h : ta σ H fun x H1 => tb σ H1 fun y H2 => R x y H2) {Q : Value → Shared → Prop} {f : Value → Value → Sem Value}
    (hf : ∀ v u s2 x y H2, Inv X pins σ H2 s2 → RelV x v → RelV y u → R x y H2 → wpAny (model X.prog X.w) X.A (f v u) Q X.xe s2) :
    wpAny (model X.prog X.w) X.A (eval a X.env) (fun v s₁ => wpAny (model X.prog X.w) X.A (eval b X.env) (fun u s₂ => wpAny (model X.prog X.w) X.A (f v u) Q X.xe s₂) X.xe s₁) X.xe s := by
  refine thn (ha pins s σ H _ I h) fun v s1 ⟨x, H1, I1, r1, q1⟩ => ?_
  refine thn (hb pins s1 σ H1 _ I1 q1) fun u s2 ⟨y, H2, I2, r2, q2⟩ => ?_
  exact hf v u s2 x y H2 I2 r1 r2 q2

theorem pe_op {op : Operator} {r : R2} (ho : OpR X (binaryOp op) r) (ha : PE X a ta) (hb : PE X b tb) : PE X (.BinOp a op b pos) (tOp r ta tb) := by
  intro pins s σ H Q I h
  exact wpAny_BinOp (binT ha hb I h fun v u s2 x y H2 I2 rx ry q => ho pins s2 σ H2 x y v u Q I2 rx ry q)
theorem pe_un {op : UnaryOp} {r : V → Hp → VK → Prop} (ho : UnR X (unaryOp op) r) (ha : PE X a ta) : PE X (.UnaryOp op a pos) (tUn r ta) := by
  intro pins s σ H Q I h
  exact UnaryOp_ (thn (ha pins s σ H _ I h) fun v s1 ⟨x, H1, I1, r1, q1⟩ => ho pins s1 σ H1 x v Q I1 r1 q1)
theorem opI {f : Value → Value → Sem Value} {C : Int → Int → Prop} {g : Int → Int → Int}
    (rule : ∀ (i j : Int) (t u : Tok) (s : Shared) (Q : Value → Shared → Prop) (E : Value → Shared → Prop), C i j → Q (.int (g i j) s.toks) { s with toks := s.toks + 1 } → wpAny (model X.prog X.w) X.A (f (.int i t) (.int j u)) Q E s) :
    OpR X f (rI C fun i j => .int (g i j)) := by
  intro pins s σ H x y v u Q I rx ry h
  obtain ⟨i, j, rfl, rfl, hc, q⟩ := h
  obtain ⟨t, rfl⟩ := rx
  obtain ⟨t', rfl⟩ := ry
  exact rule i j t t' s _ _ hc ⟨.int (g i j), H, I.tok _, ⟨_, rfl⟩, q⟩
theorem opI0 {f : Value → Value → Sem Value} {g : Int → Int → Int}
    (rule : ∀ (i j : Int) (t u : Tok) (s : Shared) (Q : Value → Shared → Prop) (E : Value → Shared → Prop), Q (.int (g i j) s.toks) { s with toks := s.toks + 1 } → wpAny (model X.prog X.w) X.A (f (.int i t) (.int j u)) Q E s) :
    OpR X f (rI0 fun i j => .int (g i j)) := by
  intro pins s σ H x y v u Q I rx ry h
  obtain ⟨i, j, rfl, rfl, q⟩ := h
  obtain ⟨t, rfl⟩ := rx
  obtain ⟨t', rfl⟩ := ry
  exact rule i j t t' s _ _ ⟨.int (g i j), H, I.tok _, ⟨_, rfl⟩, q⟩
theorem opB0 {f : Value → Value → Sem Value} {g : Int → Int → Bool}
    (rule : ∀ (i j : Int) (t u : Tok) (s : Shared) (Q : Value → Shared → Prop) (E : Value → Shared → Prop), Q (.bool (g i j)) s → wpAny (model X.prog X.w) X.A (f (.int i t) (.int j u)) Q E s) :
    OpR X f (rI0 fun i j => .bl (g i j)) := by
  intro pins s σ H x y v u Q I rx ry h
  obtain ⟨i, j, rfl, rfl, q⟩ := h
  obtain ⟨t, rfl⟩ := rx
  obtain ⟨t', rfl⟩ := ry
  exact rule i j t t' s _ _ ⟨.bl (g i j), H, I, rfl, q⟩

def CDiv (i j : Int) : Prop := 0 < j ∧ j < 1073741824
def CPow (i j : Int) : Prop := 0 ≤ j ∧ j ≤ 1000000 ∧ i.natAbs < 2 ^ 64
def CMul (i j : Int) : Prop := (-(2 ^ 64) < i ∧ i < 2 ^ 64) ∨ (-(2 ^ 64) < j ∧ j < 2 ^ 64)
theorem CMul.ok {i j : Int} (h : CMul i j) : IntMulOk i j := by
  rcases h with ⟨h1, h2⟩ | ⟨h1, h2⟩
  · exact .of_left (intBits_le_64 h1 h2)
  · exact .of_right (intBits_le_64 h1 h2)
theorem op_add : OpR X (binaryOp .Add) (rI0 fun i j => .int (i + j)) := opI0 fun _ _ _ _ _ _ _ q => add_int q
theorem op_sub : OpR X (binaryOp .Sub) (rI0 fun i j => .int (i - j)) := opI0 fun _ _ _ _ _ _ _ q => sub_int q
theorem op_mul : OpR X (binaryOp .Mult) (rI CMul fun i j => .int (i * j)) := opI fun _ _ _ _ _ _ _ hc q => mul_int q hc.ok
/-- // by a positive divisor -/
theorem op_fdiv : OpR X (binaryOp .FloorDiv) (rI CDiv fun i j => .int (i / j)) := opI fun i j _ _ _ _ _ hc q => by
  have h1 : (0 : Int) < j := hc.1
  have h2 : j < 1073741824 := hc.2
  exact floordiv_int (by omega) (by rw [Int.fdiv_eq_ediv_of_nonneg i (by omega)]; exact q) (.inl (PyProof.noPylong_small (by omega)))
/-- % by a positive divisor of any size -/
theorem op_mod : OpR X (binaryOp .Mod) (rI (fun _ j => 0 < j) fun i j => .int (i % j)) := opI fun i j _ _ _ _ _ hc q => by
  have h1 : (0 : Int) < j := hc
  exact mod_int' (by omega) (by rw [Int.fmod_eq_emod_of_nonneg i (by omega)]; exact q)
theorem op_pow : OpR X (binaryOp .Pow) (rI CPow fun i j => .int (i ^ j.toNat)) := opI fun _ _ _ _ _ _ _ hc q => pow_int_small hc.1 hc.2.1 hc.2.2 q
theorem op_and : OpR X (binaryOp .BitAnd) (rI0 fun i j => .int (Builtin.bitAnd i j)) := opI0 fun _ _ _ _ _ _ _ q => and_int q
theorem unI {f : Value → Sem Value} {g : Int → Int}
    (rule : ∀ (i : Int) (t : Tok) (s : Shared) (Q : Value → Shared → Prop) (E : Value → Shared → Prop), Q (.int (g i) s.toks) { s with toks := s.toks + 1 } → wpAny (model X.prog X.w) X.A (f (.int i t)) Q E s) :
    UnR X f (rU fun i => .int (g i)) := by
  intro pins s σ H x v Q I rx h
  obtain ⟨i, rfl, q⟩ := h
  obtain ⟨t, rfl⟩ := rx
  exact rule i t s _ _ ⟨.int (g i), H, I.tok _, ⟨_, rfl⟩, q⟩
theorem un_neg : UnR X (unaryOp .USub) (rU fun i => .int (-i)) := unI fun _ _ _ _ _ q => neg_int q
end

/-- the scalars that == tells apart as data does -/
def scal : V → V → Bool
  | .non, .non => true | .non, .int _ => true | .int _, .non => true | .non, .bl _ => true | .bl _, .non => true | .non, .str _ => true | .str _, .non => true
  | .int _, .int _ => true | .bl _, .bl _ => true | .str _, .str _ => true | .byt _, .byt _ => true
  | .int _, .str _ => true | .str _, .int _ => true | .bl _, .str _ => true | .str _, .bl _ => true
  | _, _ => false
def rEq : R2 := fun x y H Q => scal x y = true ∧ Q (.bl (decide (x = y))) H
def rNe : R2 := fun x y H Q => scal x y = true ∧ Q (.bl (!decide (x = y))) H

theorem dec_int {i j : Int} : decide (V.int i = V.int j) = (i == j) := by
  rw [Bool.eq_iff_iff]
  simp
theorem dec_bl {i j : Bool} : decide (V.bl i = V.bl j) = (i == j) := by
  rw [Bool.eq_iff_iff]
  simp
theorem dec_str {i j : Str} : decide (V.str i = V.str j) = (i == j) := by
  rw [Bool.eq_iff_iff]
  simp
theorem dec_byt {i j : Array UInt8} : decide (V.byt i = V.byt j) = (i.toList == j.toList) := by
  rw [Bool.eq_iff_iff]
  cases i
  cases j
  simp

section
variable {X : Cx} {a b c : Expr} {ta tb tc : TE} {pos : Pos}
theorem fin_bl {pins : List (Addr × Obj)} {σ : St} {H : Hp} {s : Shared} {Q : VK} {k k' : Bool} (I : Inv X pins σ H s) (q : Q (.bl k) H) (e : k = k') : EP X pins σ Q (.bool k') s := by
  subst e
  exact ⟨.bl k, H, I, rfl, q⟩
theorem op_eq : OpR X (compareOp .Eq) rEq := by
  intro pins s σ H x y v u Q I rx ry h
  obtain ⟨hs, q⟩ := h
  cases x with
  | non =>
    cases rx
    cases y with
    | non => cases ry; exact PySem.EqNone.eq_none_none (fin_bl I q (by simp))
    | bl j => cases ry; exact PySem.EqNone.eq_none_bool (fin_bl I q (by simp))
    | int j => obtain ⟨t', rfl⟩ := ry; exact PySem.EqNone.eq_none_int (fin_bl I q (by simp))
    | str j => obtain ⟨t', rfl⟩ := ry; exact PySem.EqNone.eq_none_str (fin_bl I q (by simp))
    | _ => exact absurd (show false = true from hs) Bool.false_ne_true
  | bl i =>
    cases rx
    cases y with
    | non => cases ry; exact PySem.EqNone.eq_bool_none (fin_bl I q (by simp))
    | bl j => cases ry; exact eq_bool (fin_bl I q dec_bl)
    | str j => obtain ⟨t', rfl⟩ := ry; exact PySem.EqMixed.eq_bool_str (fin_bl I q (by simp))
    | _ => exact absurd (show false = true from hs) Bool.false_ne_true
  | int i =>
    obtain ⟨t, rfl⟩ := rx
    cases y with
    | non => cases ry; exact PySem.EqNone.eq_int_none (fin_bl I q (by simp))
    | int j => obtain ⟨t', rfl⟩ := ry; exact eq_int (fin_bl I q dec_int)
    | str j => obtain ⟨t', rfl⟩ := ry; exact PySem.EqMixed.eq_int_str (fin_bl I q (by simp))
    | _ => exact absurd (show false = true from hs) Bool.false_ne_true
  | str i =>
    obtain ⟨t, rfl⟩ := rx
    cases y with
    | non => cases ry; exact PySem.EqNone.eq_str_none (fin_bl I q (by simp))
    | bl j => cases ry; exact PySem.EqMixed.eq_str_bool (fin_bl I q (by simp))
    | int j => obtain ⟨t', rfl⟩ := ry; exact PySem.EqMixed.eq_str_int (fin_bl I q (by simp))
    | str j => obtain ⟨t', rfl⟩ := ry; exact eq_str (fin_bl I q dec_str)
    | _ => exact absurd (show false = true from hs) Bool.false_ne_true
  | byt i =>
    obtain ⟨t, rfl⟩ := rx
    cases y with
    | byt j => obtain ⟨t', rfl⟩ := ry; exact PySem.W.eq_bytes (fin_bl I q dec_byt)
    | _ => exact absurd (show false = true from hs) Bool.false_ne_true
  | _ => cases y <;> exact absurd (show false = true from hs) Bool.false_ne_true
theorem op_ne : OpR X (compareOp .NotEq) rNe := by
  intro pins s σ H x y v u Q I rx ry h
  obtain ⟨hs, q⟩ := h
  cases x with
  | non =>
    cases rx
    cases y with
    | non => cases ry; exact PySem.EqNone.ne_none_none (fin_bl I q (by simp))
    | bl j => cases ry; exact PySem.EqNone.ne_none_bool (fin_bl I q (by simp))
    | int j => obtain ⟨t', rfl⟩ := ry; exact PySem.EqNone.ne_none_int (fin_bl I q (by simp))
    | str j => obtain ⟨t', rfl⟩ := ry; exact PySem.EqNone.ne_none_str (fin_bl I q (by simp))
    | _ => exact absurd (show false = true from hs) Bool.false_ne_true
  | bl i =>
    cases rx
    cases y with
    | non => cases ry; exact PySem.EqNone.ne_bool_none (fin_bl I q (by simp))
    | bl j => cases ry; exact ne_bool (fin_bl I q (congrArg not dec_bl))
    | str j => obtain ⟨t', rfl⟩ := ry; exact PySem.EqMixed.ne_bool_str (fin_bl I q (by simp))
    | _ => exact absurd (show false = true from hs) Bool.false_ne_true
  | int i =>
    obtain ⟨t, rfl⟩ := rx
    cases y with
    | non => cases ry; exact PySem.EqNone.ne_int_none (fin_bl I q (by simp))
    | int j => obtain ⟨t', rfl⟩ := ry; exact ne_int (fin_bl I q (congrArg not dec_int))
    | str j => obtain ⟨t', rfl⟩ := ry; exact PySem.EqMixed.ne_int_str (fin_bl I q (by simp))
    | _ => exact absurd (show false = true from hs) Bool.false_ne_true
  | str i =>
    obtain ⟨t, rfl⟩ := rx
    cases y with
    | non => cases ry; exact PySem.EqNone.ne_str_none (fin_bl I q (by simp))
    | bl j => cases ry; exact PySem.EqMixed.ne_str_bool (fin_bl I q (by simp))
    | int j => obtain ⟨t', rfl⟩ := ry; exact PySem.EqMixed.ne_str_int (fin_bl I q (by simp))
    | str j => obtain ⟨t', rfl⟩ := ry; exact ne_str (fin_bl I q (congrArg not dec_str))
    | _ => exact absurd (show false = true from hs) Bool.false_ne_true
  | byt i =>
    obtain ⟨t, rfl⟩ := rx
    cases y with
    | byt j => obtain ⟨t', rfl⟩ := ry; exact PySem.W.ne_bytes (fin_bl I q (congrArg not dec_byt))
    | _ => exact absurd (show false = true from hs) Bool.false_ne_true
  | _ => cases y <;> exact absurd (show false = true from hs) Bool.false_ne_true

theorem op_lt : OpR X (compareOp .Lt) (rI0 fun i j => .bl (decide (i < j))) := opB0 fun _ _ _ _ _ _ _ q => lt_int q
theorem op_le : OpR X (compareOp .LtE) (rI0 fun i j => .bl (decide (i ≤ j))) := opB0 fun _ _ _ _ _ _ _ q => le_int q
theorem op_gt : OpR X (compareOp .Gt) (rI0 fun i j => .bl (decide (j < i))) := opB0 fun _ _ _ _ _ _ _ q => gt_int q
theorem op_ge : OpR X (compareOp .GtE) (rI0 fun i j => .bl (decide (j ≤ i))) := opB0 fun _ _ _ _ _ _ _ q => ge_int q
/-- is None, is not None: the right side a value none -/
theorem op_isN : OpR X (compareOp .Is) (fun x y H Q => y = .non ∧ Q (.bl (decide (x = .non))) H) := by
  intro pins s σ H x y v u Q I rx ry h
  obtain ⟨rfl, q⟩ := h
  cases ry
  refine is_none_gen (fin_bl I q ?_)
  cases x <;> first
    | (cases rx; rfl)
    | (obtain ⟨t, rfl⟩ := rx; rfl)
theorem nomark (b : Expr) {op : CmpOp} (h : op ≠ .In := by decide) (h2 : op ≠ .NotIn := by decide) : behindInMarks op b = false := by
  have e1 : (op == CmpOp.In) = false := by cases op <;> first | rfl | exact absurd rfl h
  have e2 : (op == CmpOp.NotIn) = false := by cases op <;> first | rfl | exact absurd rfl h2
  cases b <;> simp [behindInMarks, e1, e2]
/-- a comparison as a value; hm: nomark b, or (for in, not in) by with_unfolding_all rfl -/
theorem pe_cmpR {op : CmpOp} {r : R2} (ho : OpR X (compareOp op) r) (ha : PE X a ta) (hb : PE X b tb) (hm : behindInMarks op b = false) : PE X (.Compare a [op] [b] pos) (tOp r ta tb) := by
  intro pins s σ H Q I h
  exact wpAny_Compare1 (binT ha hb I h fun v u s2 x y H2 I2 rx ry q => ho pins s2 σ H2 x y v u Q I2 rx ry q) hm
/-- a reading of a value as a test -/
def tTest (t : TE) : TT := fun σ H Q => t σ H fun x H' => ∃ k, x = .bl k ∧ Q k H'
theorem pt_cmpR {op : CmpOp} {r : R2} (ho : OpR X (compareOp op) r) (ha : PE X a ta) (hb : PE X b tb) (hm : behindInMarks op b = false) : PT X (.Compare a [op] [b] pos) (tTest (tOp r ta tb)) := by
  intro pins s σ H Q I h
  refine wpAny_isTrue_Compare1 (thn (ha pins s σ H _ I h) fun v s1 ⟨x, H1, I1, r1, q1⟩ => thn (hb pins s1 σ H1 _ I1 q1) fun u s2 ⟨y, H2, I2, r2, q2⟩ =>
    thn (ho pins s2 σ H2 x y v u _ I2 r1 r2 q2) fun c s3 ⟨z, H3, I3, r3, k, e, q3⟩ => ?_) hm
  subst e
  cases r3
  exact wpAny_truthy_bool ⟨H3, I3, q3⟩
/-- a op1 b op2 c -/
def tChain (r r' : R2) (ta tb tc : TE) : TE := fun σ H Q => ta σ H fun x H1 => tb σ H1 fun y H2 => r x y H2 fun z H3 => ∃ k, z = .bl k ∧
  (if k = true then tc σ H3 fun w' H4 => r' y w' H4 Q else Q (.bl false) H3)
theorem pe_chain {op op' : CmpOp} {r r' : R2} (ho : OpR X (compareOp op) r) (ho' : OpR X (compareOp op') r') (ha : PE X a ta) (hb : PE X b tb) (hc : PE X c tc)
    (hm : lastMarks [op, op'] [b, c] = false := by with_unfolding_all rfl) : PE X (.Compare a [op, op'] [b, c] pos) (tChain r r' ta tb tc) := by
  intro pins s σ H Q I h
  refine Compare_chain (thn (ha pins s σ H _ I h) fun v s1 ⟨x, H1, I1, r1, q1⟩ => chain_link (thn (hb pins s1 σ H1 _ I1 q1) fun u s2 ⟨y, H2, I2, r2, q2⟩ =>
    thn (ho pins s2 σ H2 x y v u _ I2 r1 r2 q2) fun d s3 ⟨z, H3, I3, r3, k, e, q3⟩ => ?_)) hm
  subst e
  cases r3
  refine wpAny_truthy_bool ?_
  cases k with
  | false => exact ite_ff ⟨.bl false, H3, I3, rfl, q3⟩
  | true => exact ite_tt (chain_last (thn (hc pins s3 σ H3 _ I3 q3) fun w' s4 ⟨z', H4, I4, r4, q4⟩ => ho' pins s4 σ H4 y z' u w' Q I4 r2 r4 q4))
theorem line63 : (sizeLine : Nat) < 2 ^ 63 := by rw [sizeLine_eq]; decide
theorem vals1 {x : V} {us : List Value} (r : Vals [x] us) : ∃ u, us = [u] ∧ RelV x u := by
  cases r with
  | cons r1 r2 => cases r2; exact ⟨_, rfl, r1⟩
theorem vals2 {x y : V} {us : List Value} (r : Vals [x, y] us) : ∃ u w', us = [u, w'] ∧ RelV x u ∧ RelV y w' := by
  cases r with
  | cons r1 r2 =>
    cases r2 with
    | cons r3 r4 => cases r4; exact ⟨_, _, rfl, r1, r3⟩
theorem call_int1 : CallR X (.type "int") (fun xs H Q => (∃ i, xs = [.int i] ∧ Q (.int i) H) ∨ ∃ k, xs = [.bl k] ∧ Q (.int (if k then 1 else 0)) H) := by
  intro pins s σ H xs us Q I r h
  rcases h with ⟨i, rfl, q⟩ | ⟨k, rfl, q⟩
  · obtain ⟨u, rfl, t, rfl⟩ := vals1 r
    exact call_int_int ⟨.int i, H, I, ⟨_, rfl⟩, q⟩
  · obtain ⟨u, rfl, r1⟩ := vals1 r
    cases r1
    exact call_int_bool ⟨.int (if k then 1 else 0), H, I.tok _, ⟨_, rfl⟩, q⟩
end
end L2

namespace L2
open PySem PySem.Spec PyProof.Rows

structure ObjM (h : Heap) (x dx C : Addr) (mA : Str → Option Value) : Prop where
  obj : h.get? x = some (PySem.W.instObj C dx)
  ns : h.Ns1 dx mA
  ne : dx ≠ x

theorem lookIn_ns {h : Heap} {dx : Addr} {mA : Str → Option Value} (n : h.Ns1 dx mA) : ∃ od, h.get? dx = some od ∧ ∀ name, PySem.W.lookIn name od = some (mA name) := by
  obtain ⟨o, es, ep, ho, hd, hk, _, hm⟩ := n
  refine ⟨o, ho, fun name => ?_⟩
  have e := hm name
  unfold nsFind findBy at e
  rw [← Array.find?_toList] at e
  unfold PySem.W.lookIn
  rw [hd]
  dsimp only
  split
  · rename_i y q
    rw [q] at e
    exact congrArg some e
  · rename_i q
    rw [q] at e
    have a : es.toList.any (·.refKey) = false := by
      rw [List.any_eq_false]
      intro y hy
      obtain ⟨z, t, hkey⟩ := hk y (Array.mem_toList_iff.mp hy)
      simp [DictEntry.refKey, hkey]
    have a' : ¬ es.toList.any (·.refKey) = true := by rw [a]; exact Bool.false_ne_true
    rw [if_neg a']
    exact congrArg some e

theorem ObjM.look {h : Heap} {x dx C : Addr} {mA : Str → Option Value} (I : ObjM h x dx C mA) : ∃ od, PySem.W.InstAt h x (PySem.W.instObj C dx) C (some od) ∧ ∀ name, PySem.W.lookIn name od = some (mA name) :=
  let ⟨od, ho, hl⟩ := lookIn_ns I.ns
  ⟨od, ⟨I.obj, rfl, rfl, ho⟩, hl⟩

section
variable {prog : Program} {w : World} {A : Around} {E : Value → Shared → Prop} {s : Shared} {K : PySem.W.Frag} {x dx C f : Addr} {mA : Str → Option Value} {name : Str} {v : Value}

theorem get_map {expr : Bool} {Q : Value → Shared → Prop} (X : K.In s.heap) (I : ObjM s.heap x dx C mA) (hg : PySem.W.plainGet K C name = true) (hh : PySem.W.hasDictIn K C = true)
    (ha : PySem.W.findIn K (.ref C) name = some none) (hv : mA name = some v) (hv' : PySem.W.handedIn v = true) (h : Q v { s with toks := s.toks + 1 }) :
    wpAny (model prog w) A (getAttr (.ref x) name expr) Q E s := by
  obtain ⟨od, J, hl⟩ := I.look
  exact PySem.W.get_value X J (PySem.W.plainGet_of hg).1 (PySem.W.findObj_own hh ha rfl (by rw [hl, hv])) hv' h

theorem get_meth {pl : Sem Bool} {Q : Value × List Value → Shared → Prop} (X : K.In s.heap) (I : ObjM s.heap x dx C mA) (hg : PySem.W.plainGet K C name = true)
    (hf : PySem.W.findIn K (.ref C) name = some (some (.ref f))) (ht : PySem.W.isFn K (.ref f) = true) (hv : mA name = none) (h : Q (.ref f, [.ref x]) s) :
    wpAny (model prog w) A (getMethod (.ref x) name pl) Q E s := by
  obtain ⟨od, J, hl⟩ := I.look
  exact PySem.W.method_fn X J (PySem.W.plainGet_of hg).1 (PySem.W.plainGet_of hg).2 hf (beq_iff_eq.mp ht) (by show (PySem.W.lookIn name od).map (·.isSome) = some false; rw [hl, hv]; rfl) h

theorem set_map {ns : List Str} {Q : Unit → Shared → Prop} (X : K.In s.heap) (I : ObjM s.heap x dx C mA)
    (hs : PySem.W.findIn K (.ref C) "__setattr__" = some (some (.builtin "object.__setattr__"))) (hp : PySem.W.plainOver K C = true) (ht : PySem.W.takerIn K C name = some none) (hh : PySem.W.hasDictIn K C = true)
    (hw : PySem.Within mA ns) (hsz : ns.length ≤ sizeLine)
    (h : ∀ h', ObjM h' x dx C (fun y => if y = name then some v else mA y) → Heap.SameBut dx s.heap h' → Q () { s with heap := h', toks := s.toks + 2 }) :
    wpAny (model prog w) A (setAttr (.ref x) name v) Q E s := by
  obtain ⟨od, J, hl⟩ := I.look
  refine PySem.W.set_plain X J hs (PySem.W.osa_open (s := { s with toks := s.toks + 1 }) (r := none) X J hp ht fun b => ?_)
  obtain ⟨cd, hc, hd'⟩ := PySem.W.any_some hh
  have hx : s.heap.get? x = some ⟨.ref C, some dx, .plain, #[]⟩ := I.obj
  refine wpAny_bind (wpAny_pure (wpAny_bind (wpAny_bind (wpAny_loadPart hx (wpAny_bind (PySem.W.Looks.here (s := { s with toks := s.toks + 1 }) (PySem.W.looks_clsIn X hc) ?_))))))
  rw [hd']
  refine wpAny_pure (a := some dx) (wpAny_bind (wpAny_pure (wpAny_bind ?_)))
  refine wpAny_nsSet1 (s := { s with toks := s.toks + 1 }) I.ns fun h' hn2 hs2 => ?_
  obtain ⟨oD, esD, epD, hoD, hdD, hcD⟩ := hn2.count (PySem.Within.cons name v hw)
  refine wpAny_bind (wpAny_lookBehind hoD (by rw [hdD]; exact pastItsLine_dict (Nat.le_trans hcD (by rw [List.length_cons]; omega))) ?_)
  exact wpAny_pure (h _ ⟨(hs2.2 _ (Ne.symm I.ne)).trans I.obj, hn2, I.ne⟩ hs2)

/-- C(..): the dict at the heap's end, the instance behind it; then its __init__ -/
theorem make_map {R : Result → Shared → Prop} {vs : List Value} {kw : List (Str × Value)} (X : K.In s.heap) (hm : PySem.W.makesIn K C = true)
    (hi : PySem.W.findIn K (.ref C) "__init__" = some (some (.ref f))) (hf : PySem.W.typeIn K (.ref f) = some (.type "function"))
    (h : codeAny (model prog w) (A.under (.builtin "type.__call__" ⟨.ref C :: vs, kw⟩)) (.call (.ref f) ⟨.ref (s.heap.objs.size + 1) :: vs, kw⟩) (PySem.W.InitBack (s.heap.objs.size + 1) R)
      { s with heap := (s.heap.push PySem.W.emptyDict).push (PySem.W.instObj C s.heap.objs.size) }) :
    codeAny (model prog w) A (.call (.ref C) ⟨vs, kw⟩) R s := by
  obtain ⟨hh, g, d, t, os⟩ := s
  exact PySem.W.make_core (PySem.W.makes_of X hm) (PySem.W.looks_findIn X hi) (fun self => PySem.W.bind_fn X self hf) (.inl rfl) h
end

def putF (f : Str) (v : V) : List (Str × V) → List (Str × V)
  | [] => [(f, v)]
  | (g, x) :: r => if g = f then (g, v) :: r else (g, x) :: putF f v r
theorem lookup_putF (f g : Str) (v : V) : ∀ fs : List (Str × V), (putF f v fs).lookup g = if g = f then some v else fs.lookup g
  | [] => by
    show List.lookup g [(f, v)] = _
    by_cases h : g = f
    · have hb : (g == f) = true := beq_iff_eq.mpr h
      simp only [List.lookup, hb, if_pos h]
    · have hb : (g == f) = false := beq_eq_false_iff_ne.mpr h
      simp only [List.lookup, hb, if_neg h]
  | (k, x) :: r => by
    have ih := lookup_putF f g v r
    rw [show putF f v ((k, x) :: r) = (if k = f then (k, v) :: r else (k, x) :: putF f v r) from rfl]
    by_cases hk : k = f
    · rw [if_pos hk]
      by_cases h : g = k
      · have hb : (g == k) = true := beq_iff_eq.mpr h
        simp only [List.lookup, hb, if_pos (h.trans hk)]
      · have hb : (g == k) = false := beq_eq_false_iff_ne.mpr h
        simp only [List.lookup, hb, if_neg (fun e : g = f => h (e.trans hk.symm))]
    · rw [if_neg hk]
      by_cases h : g = k
      · have hb : (g == k) = true := beq_iff_eq.mpr h
        simp only [List.lookup, hb, if_neg (fun e : g = f => hk (h.symm.trans e))]
      · have hb : (g == k) = false := beq_eq_false_iff_ne.mpr h
        simp only [List.lookup, hb]
        exact ih
theorem keys_putF (f : Str) (v : V) : ∀ fs : List (Str × V), f ∈ (putF f v fs).map (·.1) ∧ ∀ g, g ∈ fs.map (·.1) → g ∈ (putF f v fs).map (·.1)
  | [] => ⟨by simp [putF], fun g h => by simp at h⟩
  | (k, x) :: r => by
    obtain ⟨i1, i2⟩ := keys_putF f v r
    rw [show putF f v ((k, x) :: r) = (if k = f then (k, v) :: r else (k, x) :: putF f v r) from rfl]
    by_cases hk : k = f
    · rw [if_pos hk]
      subst hk
      exact ⟨by simp, fun g h => by simpa using h⟩
    · rw [if_neg hk]
      refine ⟨?_, fun g h => ?_⟩
      · rw [List.map_cons]
        exact List.mem_cons_of_mem _ i1
      · rw [List.map_cons] at h ⊢
        rcases List.mem_cons.mp h with e | e
        · exact List.mem_cons.mpr (.inl e)
        · exact List.mem_cons_of_mem _ (i2 g e)
theorem length_putF (f : Str) (v : V) : ∀ fs : List (Str × V), (putF f v fs).length ≤ fs.length + 1
  | [] => by simp [putF]
  | (k, x) :: r => by
    have ih := length_putF f v r
    rw [show putF f v ((k, x) :: r) = (if k = f then (k, v) :: r else (k, x) :: putF f v r) from rfl]
    by_cases hk : k = f
    · rw [if_pos hk, List.length_cons, List.length_cons]; omega
    · rw [if_neg hk, List.length_cons, List.length_cons]; omega

theorem RelO.some_of {v : V} {o : Option Value} (r : RelO (some v) o) : ∃ u, o = some u ∧ RelV v u := by
  cases o with
  | none => exact (show False from r).elim
  | some u => exact ⟨u, rfl, r⟩
theorem RelO.none_of {o : Option Value} (r : RelO none o) : o = none := by
  cases o with
  | none => rfl
  | some u => exact (show False from r).elim
theorem handed_of {v : V} {u : Value} (r : RelV v u) : PySem.W.handedIn u = true := by
  cases v with
  | non => cases (show u = Value.none from r); rfl
  | bl b => cases (show u = Value.bool b from r); rfl
  | int i => obtain ⟨t, e⟩ := (show ∃ t, u = Value.int i t from r); cases e; rfl
  | str x => obtain ⟨t, e⟩ := (show ∃ t, u = Value.str x t from r); cases e; rfl
  | byt b => obtain ⟨t, e⟩ := (show ∃ t, u = Value.bytes b t from r); cases e; rfl
  | flt b => obtain ⟨t, e⟩ := (show ∃ t, u = Value.float b t from r); cases e; rfl
  | ref a => cases (show u = Value.ref a from r); rfl
  | ty n => cases (show u = Value.type n from r); rfl

section
variable {P : Program} {w : World} {H H' : Hp} {h h' : Heap} {a C dx : Addr} {fs fs' : List (Str × V)}
theorem ins_get (hok : HOk P w H h) (e : H a = some (.ins C dx fs)) : ∃ mA, ObjM h a dx C mA ∧ (∀ f, RelO (fs.lookup f) (mA f)) ∧ PySem.Within mA (fs.map (·.1)) ∧ fs.length ≤ 1000 ∧ H dx = some (.own a) := by
  obtain ⟨d, z, ne, ob, mA, n, r, q⟩ := (show ObjOk P w H h a (.ins C dx fs) from hok a _ e)
  exact ⟨mA, ⟨ob, n, ne⟩, r, q, z, d⟩
end

structure Cls (K : PySem.W.Frag) (C : Addr) : Prop where
  pg : PySem.W.plainGet K C Str.empty = true
  hd : PySem.W.hasDictIn K C = true
  po : PySem.W.plainOver K C = true
  sa : PySem.W.findIn K (.ref C) "__setattr__" = some (some (.builtin "object.__setattr__"))
theorem Cls.get {K : PySem.W.Frag} {C : Addr} (c : Cls K C) (f : Str) : PySem.W.plainGet K C f = true := c.pg
/-- no class of it has the name -/
def NoAttr (K : PySem.W.Frag) (C : Addr) (f : Str) : Prop := PySem.W.findIn K (.ref C) f = some none
theorem NoAttr.taker {K : PySem.W.Frag} {C : Addr} {f : Str} (n : NoAttr K C f) : PySem.W.takerIn K C f = some none := by
  unfold PySem.W.takerIn
  rw [show PySem.W.findIn K (.ref C) f = some none from n]
  rfl
/-- a method: a plain def of the class or of one above it -/
structure Meth (K : PySem.W.Frag) (C : Addr) (m : Str) (f : Addr) : Prop where
  at_ : PySem.W.findIn K (.ref C) m = some (some (.ref f))
  fn : PySem.W.isFn K (.ref f) = true
  kp : PySem.W.keepIn K (.ref f) = true

section
variable {X : Cx} {pins : List (Addr × Obj)} {σ : St} {H : Hp} {s : Shared} {a C dx : Addr} {fs : List (Str × V)} {f : Str} {v : V} {A : Around} {E : Value → Shared → Prop}

theorem getattr_ok {b : Bool} {Q : Value → Shared → Prop} (I : Inv X pins σ H s) (e : H a = some (.ins C dx fs)) (c : Cls X.K C) (n : NoAttr X.K C f) (l : fs.lookup f = some v)
    (h : ∀ u s', Inv X pins σ H s' → RelV v u → Q u s') : wpAny (model X.prog X.w) A (getAttr (.ref a) f b) Q E s := by
  obtain ⟨mA, O, r, _, _, _⟩ := ins_get I.hok e
  obtain ⟨u, hu, ru⟩ := RelO.some_of (v := v) (o := mA f) (by rw [← l]; exact r f)
  exact get_map I.kIn O (c.get f) c.hd n hu (handed_of ru) (h u _ (I.tok _) ru)

theorem getmeth_ok {m : Str} {g : Addr} {pl : Sem Bool} {Q : Value × List Value → Shared → Prop} (I : Inv X pins σ H s) (e : H a = some (.ins C dx fs)) (c : Cls X.K C) (k : Meth X.K C m g) (l : fs.lookup m = none)
    (h : Q (.ref g, [.ref a]) s) : wpAny (model X.prog X.w) A (getMethod (.ref a) m pl) Q E s := by
  obtain ⟨mA, O, r, _, _, _⟩ := ins_get I.hok e
  have hn : mA m = none := RelO.none_of (by rw [← l]; exact r m)
  exact get_meth I.kIn O (c.get m) k.at_ k.fn hn h

theorem setattr_ok {y : V} {u : Value} {Q : Unit → Shared → Prop} (I : Inv X pins σ H s) (e : H a = some (.ins C dx fs)) (c : Cls X.K C) (n : NoAttr X.K C f) (hl : fs.length < 1000) (ry : RelV y u)
    (h : ∀ s', Inv X pins σ (upd H a (.ins C dx (putF f y fs))) s' → Q () s') : wpAny (model X.prog X.w) A (setAttr (.ref a) f u) Q E s := by
  obtain ⟨mA, O, r, wi, _, ho⟩ := ins_get I.hok e
  have hz : (fs.map (·.1)).length ≤ sizeLine := by rw [List.length_map, sizeLine_eq]; omega
  refine set_map I.kIn O c.sa c.po n.taker c.hd wi hz fun h' O' sb => h _ ?_
  have hd : ∃ o, h'.get? dx = some o := let ⟨o, _, _, e', _⟩ := O'.ns; ⟨o, e'⟩
  refine I.write (x := a) (e := dx) (by rw [e]; exact True.intro) (.inr ho) (fun b q hb z => (sb.2 b hb).trans z) hd ?_
  refine ⟨by rw [upd_ne O.ne]; exact ho, ?_, O.ne, O'.obj, _, O'.ns, fun g => ?_, fun g hg => ?_⟩
  · have := length_putF f y fs; omega
  · show RelO ((putF f y fs).lookup g) (if g = f then some u else mA g)
    rw [lookup_putF]
    by_cases q : g = f
    · rw [if_pos q, if_pos q]; exact ry
    · rw [if_neg q, if_neg q]; exact r g
  · by_cases q : g = f
    · rw [q]; exact (keys_putF f y fs).1
    · refine (keys_putF f y fs).2 g (wi g fun z => hg ?_)
      show (if g = f then some u else mA g) = none
      rw [if_neg q]; exact z

/-- a new instance, tracked, without attributes -/
theorem Inv.made (I : Inv X pins σ H s) : Inv X pins σ (upd (upd H s.heap.objs.size (.own (s.heap.objs.size + 1))) (s.heap.objs.size + 1) (.ins C s.heap.objs.size []))
    { s with heap := (s.heap.push PySem.W.emptyDict).push (PySem.W.instObj C s.heap.objs.size) } := by
  have e1 : (s.heap.push PySem.W.emptyDict).get? s.heap.objs.size = some PySem.W.emptyDict := Heap.get?_push_size s.heap rfl
  have e2 : ((s.heap.push PySem.W.emptyDict).push (PySem.W.instObj C s.heap.objs.size)).get? (s.heap.objs.size + 1) = some (PySem.W.instObj C s.heap.objs.size) := by
    have := Heap.get?_push_size (s.heap.push PySem.W.emptyDict) (o := PySem.W.instObj C s.heap.objs.size) rfl
    rwa [Heap.size_push] at this
  have e3 : (s.heap.push PySem.W.emptyDict).Ns s.heap.objs.size (fun _ => none) := ⟨PySem.W.emptyDict, #[], _, e1, rfl, (fun e he => absurd he (by simp)), fun _ => rfl⟩
  have I1 := I.laid (a := s.heap.objs.size) (o := .own (s.heap.objs.size + 1)) (h' := s.heap.push PySem.W.emptyDict) (t' := s.toks) (fun b u q => Heap.get?_push_of_some _ q) (Nat.le_refl _) ⟨_, e1⟩
  refine I1.laid (a := s.heap.objs.size + 1) (o := .ins C s.heap.objs.size []) (t' := s.toks) (fun b u q => Heap.get?_push_of_some _ q) (Nat.le_of_eq (Heap.size_push _ _)) ?_
  have ne : s.heap.objs.size ≠ s.heap.objs.size + 1 := Nat.ne_of_lt (Nat.lt_succ_self _)
  refine ⟨by rw [upd_ne ne, upd_same], Nat.zero_le _, ne, e2, fun _ => none, (Heap.Ns1.of_empty e3).at fun o q => Heap.get?_push_of_some _ q, fun _ => True.intro, fun y hy => absurd rfl hy⟩

/-- e.f where nothing but the object is asked: through attributeBase (super) and the last hold -/
theorem attr_of {prog : Program} {w : World} {env : Env} {e : Expr} {f : Str} {pos : Pos} {s : Shared} {Q : Value → Shared → Prop} (hb : attributeBase e f env (eval e env) = eval e env)
    (h : wpAny (model prog w) A (eval e env) (fun o s₁ => wpAny (model prog w) A (getAttr o f true) Q E s₁) E s) : wpAny (model prog w) A (eval (.Attribute e f pos) env) Q E s :=
  Attribute_any_ h (by rw [arm_eval_Attribute, hb])
end

/-- e.f, an attribute of the instance -/
def tFld (K : PySem.W.Frag) (ta : TE) (f : Str) : TE := fun σ H Q => ta σ H fun x H1 => ∃ a C dx fs v, x = .ref a ∧ H1 a = some (.ins C dx fs) ∧ Cls K C ∧ NoAttr K C f ∧ fs.lookup f = some v ∧ Q v H1
/-- e.f = value -/
def sFld (K : PySem.W.Frag) (ta tv : TE) (f : Str) : TS := fun D σ H => tv σ H fun y H1 => ta σ H1 fun x H2 => ∃ a C dx fs, x = .ref a ∧ H2 a = some (.ins C dx fs) ∧ Cls K C ∧ NoAttr K C f ∧ fs.length < 1000 ∧
  D.nx σ (upd H2 a (.ins C dx (putF f y fs)))
section
variable {X : Cx} {o e value : Expr} {f : Str} {pos pos' tpos : Pos} {ta tv : TE}
theorem pe_fld (he : PE X e ta) (hb : attributeBase e f X.env (eval e X.env) = eval e X.env) : PE X (.Attribute e f pos) (tFld X.K ta f) := by
  intro pins s σ H Q I h
  refine attr_of hb (thn (he pins s σ H _ I h) fun u s1 ⟨x, H1, I1, rx, a, C, dx, fs, v, ex, ea, c, n, l, q⟩ => ?_)
  subst ex
  obtain rfl : u = Value.ref a := rx
  exact getattr_ok I1 ea c n l fun u' s2 I2 ru => ⟨v, H1, I2, ru, q⟩
theorem ps_fld (ha : PE X o ta) (hv : PE X value tv) (hs : swapsWith value (some (.Attribute o f pos')) pos.line X.env = pure false) : PS X (.Assign [.Attribute o f pos'] value pos) (sFld X.K ta tv f) := by
  intro pins s σ H D I h
  refine plainObj_wpAny_Assign_Attribute (thn (hv pins s σ H _ I h) fun u s1 ⟨y, H1, I1, ry, q⟩ => thn (ha pins s1 σ H1 _ I1 q) fun ov s2 ⟨x, H2, I2, rx, a, C, dx, fs, ex, ea, c, n, l, q2⟩ => ?_) hs
  subst ex
  obtain rfl : ov = Value.ref a := rx
  exact setattr_ok I2 ea c n l ry fun s3 I3 => ⟨σ, _, I3, q2⟩
/-- what is between an instance and its method: the tree of a method call -/
theorem methcall_of {pl : Sem Bool} {m : Str} {apos : Pos} {args : List Expr} {pins : List (Addr × Obj)} {s : Shared} {σ : St} {H : Hp} {Q : Value → Shared → Prop} {te : TE} (he : PE X e te) (I : Inv X pins σ H s)
    (h : te σ H fun x H1 => ∃ a C dx fs g, x = .ref a ∧ H1 a = some (.ins C dx fs) ∧ Cls X.K C ∧ Meth X.K C m g ∧ fs.lookup m = none ∧
      ∀ s1, Inv X pins σ H1 s1 → wpAny (model X.prog X.w) X.A (callWith pos (.ref g) [.ref a] (backTo pos (starEach args X.env)) (backToKw pos (keywordEach [] X.env))) Q X.xe s1)
    (ht : eval (.Call (.Attribute e m apos) args [] pos) X.env = (do
      let ov ← eval e X.env
      standAt apos.atName
      let (f, first) ← holding [ov] (getMethod ov m pl)
      callWith pos f first (backTo pos (starEach args X.env)) (backToKw pos (keywordEach [] X.env)))) :
    wpAny (model X.prog X.w) X.A (eval (.Call (.Attribute e m apos) args [] pos) X.env) Q X.xe s := by
  refine PySem.W.methodCall_KW (pl := pl) (thn (he pins s σ H _ I h) fun u s1 ⟨x, H1, I1, rx, a, C, dx, fs, g, ex, ea, c, k, l, q⟩ => ?_) ht
  subst ex
  obtain rfl : u = Value.ref a := rx
  exact getmeth_ok I1 ea c k l (q s1 I1)
end

section
variable {X : Cx} {pins : List (Addr × Obj)} {σ : St} {H : Hp} {s : Shared} {A : Around} {E : Value → Shared → Prop} {Q : Value → Shared → Prop} {c : Value} {b : Bool}
/-- the type of a value, as the fragment's deciders take it; for an instance its class -/
inductive TyOf (K : PySem.W.Frag) (H : Hp) : V → Value → Prop where
  | non : TyOf K H .non (.type "NoneType")
  | bl (x : Bool) : TyOf K H (.bl x) (.type "bool")
  | int (i : Int) : TyOf K H (.int i) (.type "int")
  | str (x : Str) : TyOf K H (.str x) (.type "str")
  | flt (x : UInt64) : TyOf K H (.flt x) (.type "float")
  | lst {a : Addr} {xs : List V} (e : H a = some (.lst xs)) : TyOf K H (.ref a) (.type "list")
  | frz {a : Addr} {o : Obj} {xs : List V} (e : H a = some (.frz o (.lst xs))) : TyOf K H (.ref a) (.type "list")
  | tup {a : Addr} {xs : List V} (e : H a = some (.tup xs)) : TyOf K H (.ref a) (.type "tuple")
  | dK {a : Addr} {kvs : List (Key × V)} (e : H a = some (.dK kvs)) : TyOf K H (.ref a) (.type "dict")
  | dT {a : Addr} {kvs : List (List Key × V)} (e : H a = some (.dT kvs)) : TyOf K H (.ref a) (.type "dict")
  | ins {a C dx : Addr} {fs : List (Str × V)} (e : H a = some (.ins C dx fs)) (cl : Cls K C) (ha : PySem.W.findIn K (.ref C) "__class__" = some (some (.builtin "object.__class__")))
      (hn : PySem.W.specialIn K (.builtin "object.__class__") "__get__" = some (some (.builtin "getset_descriptor.__get__"))) (htk : PySem.W.takesIn K (.builtin "object.__class__") = some true)
      (hm : PySem.W.mroIn K C (.type "object") = some true) : TyOf K H (.ref a) (.ref C)
/-- isinstance(x, c) for one class c, a built-in or an own one: kitOne's answer -/
theorem isinst_ok {x : V} {u t : Value} (I : Inv X pins σ H s) (rx : RelV x u) (ty : TyOf X.K H x t) (e : PySem.W.kitOne X.K t c = some b) (h : ∀ tk, Q (.bool b) { s with toks := tk }) :
    wpAny (model X.prog X.w) A (call (.builtin "isinstance") [u, c]) Q E s := by
  cases ty with
  | non => cases (show u = Value.none from rx); exact PySem.W.kia_one PySem.W.kitx_none I.kIn True.intro e (fun z => nomatch z) h
  | bl y => cases (show u = Value.bool y from rx); exact PySem.W.kia_one PySem.W.kitx_bool I.kIn True.intro e (fun z => nomatch z) h
  | int i => obtain ⟨t, q⟩ := (show ∃ t, u = Value.int i t from rx); cases q; exact PySem.W.kia_one PySem.W.kitx_int I.kIn True.intro e (fun z => nomatch z) h
  | str y => obtain ⟨t, q⟩ := (show ∃ t, u = Value.str y t from rx); cases q; exact PySem.W.kia_one PySem.W.kitx_str I.kIn True.intro e (fun z => nomatch z) h
  | flt y => obtain ⟨t, q⟩ := (show ∃ t, u = Value.float y t from rx); cases q; exact PySem.W.kia_one PySem.W.kitx_float I.kIn True.intro e (fun z => nomatch z) h
  | @lst a xs ea =>
    cases (show u = Value.ref a from rx)
    obtain ⟨_, _, n, _, h1⟩ := (show ObjOk X.prog X.w H s.heap a (.lst xs) from I.hok a _ ea)
    exact PySem.W.kia_one PySem.W.kitx_list I.kIn ⟨_, h1, rfl⟩ e (fun z => nomatch z) h
  | @frz a ob xs ea =>
    cases (show u = Value.ref a from rx)
    obtain ⟨_, _, _, n, _, h1⟩ := (show ObjOk X.prog X.w H s.heap a (.frz ob (.lst xs)) from I.hok a _ ea)
    exact PySem.W.kia_one PySem.W.kitx_list I.kIn ⟨_, h1, rfl⟩ e (fun z => nomatch z) h
  | @tup a xs ea =>
    cases (show u = Value.ref a from rx)
    obtain ⟨_, _, _, p⟩ := (show ObjOk X.prog X.w H s.heap a (.tup xs) from I.hok a _ ea)
    obtain ⟨o, h1, h2, _⟩ := p
    exact PySem.W.kia_one PySem.W.kitx_tuple I.kIn ⟨o, h1, h2⟩ e (fun z => nomatch z) h
  | @dK a kvs ea =>
    cases (show u = Value.ref a from rx)
    obtain ⟨_, _, vs, _, p⟩ := (show ObjOk X.prog X.w H s.heap a (.dK kvs) from I.hok a _ ea)
    obtain ⟨o, es, ep, h1, h2, _⟩ := p
    exact PySem.W.kia_one PySem.W.kitx_dict I.kIn ⟨o, h1, h2.1⟩ e (fun z => nomatch z) h
  | @dT a kvs ea =>
    cases (show u = Value.ref a from rx)
    obtain ⟨_, _, xs, _, o, es, ep, h1, h2, _⟩ := (show ObjOk X.prog X.w H s.heap a (.dT kvs) from I.hok a _ ea)
    exact PySem.W.kia_one PySem.W.kitx_dict I.kIn ⟨o, h1, h2.1⟩ e (fun z => nomatch z) h
  | @ins a C dx fs ea cl ha hn htk hm =>
    cases (show u = Value.ref a from rx)
    obtain ⟨mA, O, _⟩ := ins_get I.hok ea
    obtain ⟨od, J, _⟩ := O.look
    exact PySem.W.kia_one (PySem.W.kitx_own (cl.get _) cl.hd ha hn htk hm) I.kIn J e (fun z => nomatch z) h
end
end L2

namespace L2
open PySem PySem.Spec PyProof.Rows

structure Room (k : Nat) (A : Around) : Prop where
  hd : A.handled = none
  dp : A.depth + 3 * k + 5 < recursionLimit
  un : A.units + 16 * k + 200 < cLine
theorem Room.mono {j k : Nat} {A : Around} (r : Room k A) (h : j ≤ k) : Room j A := ⟨r.hd, by have := r.dp; omega, by have := r.un; omega⟩
theorem Room.deeper {k : Nat} {A : Around} (r : Room (k + 1) A) (env : Env) : Room k (A.deeper env) :=
  ⟨r.hd, by have := r.dp; show A.depth + 1 + 3 * k + 5 < _; omega, by have := r.un; show A.units + 3 + 16 * k + 200 < _; omega⟩
theorem make_depth {A : Around} {C : Addr} {us : List Value} {kw : List (Str × Value)} : (A.under (.builtin "type.__call__" ⟨.ref C :: us, kw⟩)).depth = A.depth + 1 := by
  first | rfl | simp [Around.under, Code.weight, Code.isCreation, Code.isGuard, Code.isCaller, Code.frames, Code.isFrame, guardIds]
theorem make_units {A : Around} {C : Addr} {us : List Value} {kw : List (Str × Value)} : (A.under (.builtin "type.__call__" ⟨.ref C :: us, kw⟩)).units = A.units + 1 := by
  first | rfl | simp [Around.under, Code.cUnits, Code.frames, Code.isFrame]
theorem Room.make {k : Nat} {A : Around} (r : Room (k + 1) A) (C : Addr) (us : List Value) (kw : List (Str × Value)) : Room k (A.under (.builtin "type.__call__" ⟨.ref C :: us, kw⟩)) :=
  ⟨r.hd, by have := r.dp; rw [make_depth]; omega, by have := r.un; rw [make_units]; omega⟩
theorem Room.depth {k : Nat} {A : Around} (r : Room k A) : A.depth < recursionLimit := by have := r.dp; omega
theorem Room.units {k : Nat} {A : Around} (r : Room k A) : A.units + 64 < cLine := by have := r.un; omega
def tNil : TA := fun _ H Q => Q [] H
def tCons (ta : TE) (tr : TA) : TA := fun σ H Q => ta σ H fun x H1 => tr σ H1 fun xs H2 => Q (x :: xs) H2
section
variable {X : Cx} {e : Expr} {es : List Expr} {te : TE} {t : TA} {pos : Pos}
theorem pa_nil : PA X [] tNil := fun _ _ _ _ H Q I h => Calls.spliced_nil ⟨[], H, I, .nil, h⟩
theorem pa_cons (ha : PE X e te) (hr : PA X es t) (hs : starEach (e :: es) X.env = (false, eval e X.env) :: starEach es X.env := by rfl) : PA X (e :: es) (tCons te t) := by
  intro pos pins s σ H Q I h
  rw [hs]
  show wpAny _ _ (spliced ((false, eval e X.env) :: backTo pos (starEach es X.env))) _ _ s
  refine Calls.spliced_cons (thn (ha pins s σ H _ I h) fun u s1 ⟨x, H1, I1, r1, q1⟩ => ?_)
  exact thn (hr pos pins s1 σ H1 _ I1 q1) fun us s2 ⟨xs, H2, I2, r2, q2⟩ => ⟨x :: xs, H2, I2, .cons r1 r2, q2⟩

/-- a tuple, a list of written items -/
def tTup (t : TA) : TE := fun σ H Q => t σ H fun xs H1 => xs.length ≤ sizeLine ∧ ∀ p, H1 p = none → Q (.ref p) (upd H1 p (.tup xs))
def tLst (t : TA) : TE := fun σ H Q => t σ H fun xs H1 => xs.length ≤ sizeLine ∧ ∀ p, H1 p = none → Q (.ref p) (upd H1 p (.lst xs))
theorem pe_tup {x1} (h : PA X es t) : PE X (.Tuple es x1 pos) (tTup t) := by
  intro pins s σ H Q I hq
  refine wpAny_Tuple_spliced (thn (h pos pins s σ H _ I hq) fun us s1 ⟨xs, H1, I1, r, z, q⟩ => ⟨by rw [← r.length]; exact z, ?_⟩)
  have hf : H1 s1.heap.objs.size = none := I1.hok.fresh (Nat.le_refl _)
  refine ⟨.ref s1.heap.objs.size, upd H1 s1.heap.objs.size (.tup xs), I1.laid (t' := s1.toks) (fun b u e => Heap.get?_push_of_some _ e) (Nat.le_refl _) ?_, rfl, q _ hf⟩
  exact ⟨z, us, r, ⟨_, Heap.get?_push_size _ rfl, rfl, _, rfl⟩⟩
theorem pe_lst (h : PA X es t) : PE X (.List es pos) (tLst t) := by
  intro pins s σ H Q I hq
  refine wpAny_List_spliced (thn (h pos pins s σ H _ I hq) fun us s1 ⟨xs, H1, I1, r, z, q⟩ => ⟨by rw [← r.length]; exact z, ?_⟩)
  have hf : H1 s1.heap.objs.size = none := I1.hok.fresh (Nat.le_refl _)
  refine ⟨.ref s1.heap.objs.size, upd H1 s1.heap.objs.size (.lst xs), I1.laid (t' := s1.toks) (fun b u e => Heap.get?_push_of_some _ e) (Nat.le_refl _) ?_, rfl, q _ hf⟩
  exact ⟨z, us, 0, r, Heap.get?_push_size _ rfl⟩
end

/-- a def's promise: the bound arguments in the parameters' order, the heap, the wanted end, the wanted exception -/
abbrev Sp := List V → Hp → VK → XK → Prop
/-- how an exception lies behind a call (file 08 gives it): the callers' frames, abstract heap and state ahead of the call, the wish, the exception, the state -/
abbrev CXT := List Env → Hp → Shared → XK → Value → Shared → Prop

/-- the state at a call -/
structure Env0 (P : Program) (w : World) (K : PySem.W.Frag) (mg : Str → Option Value) (base : Heap) (A : Around) (outer : List Env) (s : Shared) (H : Hp) : Prop where
  frames : A.frames = some outer
  mod : Mod K mg base
  bs : ∀ b o, base.get? b = some o → s.heap.get? b = some o ∧ H b = none
  bsz : base.objs.size ≤ s.heap.objs.size
  funs : s.heap.FunFrames base outer
  frf : ∀ b ∈ frs outer, H b = none
  hok : HOk P w H s.heap
  bare : AllBare s.gens
/-- a call's end -/
def CE (outer : List Env) (P : Program) (w : World) (H : Hp) (s : Shared) (Q : VK) (u : Value) (s' : Shared) : Prop :=
  ∃ v H', s'.os = s.os ∧ AllBare s'.gens ∧ Un (frs outer) [] H H' s.heap s'.heap ∧ HOk P w H' s'.heap ∧ RelV v u ∧ Q v H'
def CR (CX : CXT) (outer : List Env) (P : Program) (w : World) (H : Hp) (s : Shared) (Q : VK) (E : XK) (r : Result) (s' : Shared) : Prop :=
  match r with
  | .ok (.ret u) => CE outer P w H s Q u s'
  | .ok _ => False
  | .error e => CX outer H s E e s'
structure FnOk (P : Program) (w : World) (K : PySem.W.Frag) (mg : Str → Option Value) (base : Heap) (CX : CXT) (k : Nat) (f : Addr) (fd : FuncData) (ps : List Str) (sp : Sp) : Prop where
  len : ∀ vs H Q E, sp vs H Q E → vs.length = ps.length
  run : ∀ (A : Around) (outer : List Env) (s : Shared) (H : Hp) (args : Args) (us : List Value) (vs : List V) (Q : VK) (E : XK), Room k A → Env0 P w K mg base A outer s H → BindsTo s fd args (ps.zip us) → Vals vs us → sp vs H Q E →
    codeAny (model P w) A (.call (.ref f) args) (CR CX outer P w H s Q E) s
theorem Env0.make {P : Program} {w : World} {K : PySem.W.Frag} {mg : Str → Option Value} {base : Heap} {A : Around} {outer : List Env} {s : Shared} {H : Hp} (e : Env0 P w K mg base A outer s H) (C : Addr) (us : List Value) (kw : List (Str × Value)) :
    Env0 P w K mg base (A.under (.builtin "type.__call__" ⟨.ref C :: us, kw⟩)) outer s H := ⟨by first | exact e.frames | (simpa [Around.under, Code.envs, Code.isFrame, pushEnvs] using e.frames), e.mod, e.bs, e.bsz, e.funs, e.frf, e.hok, e.bare⟩
section
variable {X : Cx} {pins : List (Addr × Obj)} {σ : St} {H : Hp} {s s' : Shared}
/-- from a body: what a callee wants -/
theorem Inv.env0 (I : Inv X pins σ H s) : Env0 X.prog X.w X.K X.mg X.base X.A X.stack s H :=
  ⟨I.ok.frames, I.ok.mod, I.bs, Nat.le_trans I.ok.bsz I.sz, I.stack, I.stkFree, I.hok, I.bare⟩
/-- behind a call -/
theorem Inv.after {Q : VK} {u : Value} (I : Inv X pins σ H s) (h : CE X.stack X.prog X.w H s Q u s') : EP X pins σ Q u s' := by
  obtain ⟨v, H', os, bare, un, hok, r, q⟩ := h
  obtain ⟨hh, g, d, t, os'⟩ := s'
  obtain rfl : os' = s.os := os
  exact ⟨v, H', I.call (h' := hh) (g' := g) (d' := d) (t' := t) (ch := []) un hok bare (fun b z => absurd z (by simp)), r, q⟩
end

/-- f(..): the written arguments, then the defaults dvs; E: what is wanted of an exception -/
def tCall (sp : Sp) (dvs : List V) (E : XK) (t : TA) : TE := fun σ H Q => t σ H fun vs H1 => sp (vs ++ dvs) H1 Q E
/-- o.m(..) of an instance of the class at C -/
def tMeth (C : Addr) (m : Str) (sp : Sp) (dvs : List V) (E : XK) (ta : TE) (t : TA) : TE := fun σ H Q => ta σ H fun x H1 => ∃ a dx fs, x = .ref a ∧ H1 a = some (.ins C dx fs) ∧ fs.lookup m = none ∧
  t σ H1 fun vs H2 => sp (x :: (vs ++ dvs)) H2 Q E
/-- C(..): a new instance and its dict, then __init__ -/
def tMake (C : Addr) (sp : Sp) (dvs : List V) (E : XK) (t : TA) : TE := fun σ H Q => t σ H fun vs H1 => ∀ x dx, H1 x = none → H1 dx = none → dx ≠ x →
  sp (.ref x :: (vs ++ dvs)) (upd (upd H1 dx (.own x)) x (.ins C dx [])) (fun v H2 => v = .non ∧ Q (.ref x) H2) E

/-- how the parameters are bound: us the positional arguments, kw the keywords' values by name, ds the defaults that fill up -/
def Binds (K : PySem.W.Frag) (fd : FuncData) (ps : List Str) (ds : List Value) : Prop :=
  ∀ (s : Shared) (us : List Value), K.In s.heap → (us ++ ds).length = ps.length → BindsTo s fd ⟨us, []⟩ (ps.zip (us ++ ds))
/-- every parameter is given -/
theorem Binds.all {K : PySem.W.Frag} {fd : FuncData} {ps : List Str} (h : ∀ us : List Value, us.length = ps.length → bindArgs fd ⟨us, []⟩ = pure (ps.zip us)) : Binds K fd ps [] := fun s us _ hl => by
  rw [List.append_nil] at hl ⊢
  exact .of_eq (h us hl)

/-- an exception of a callee reaches what this body wants of exceptions -/
def Passes (CX : CXT) (X : Cx) (E : XK) : Prop := ∀ (pins : List (Addr × Obj)) (σ : St) (H : Hp) (s : Shared) (e : Value) (s' : Shared), Inv X pins σ H s → CX X.stack H s E e s' → X.xe e s'

section
variable {X : Cx} {CX : CXT} {k : Nat} {f C : Addr} {fd : FuncData} {ps : List Str} {sp : Sp} {dvs : List V} {ds : List Value} {E : XK} {x m : Str} {p pos apos : Pos} {e o : Expr} {es : List Expr} {ta : TE} {t : TA}

/-- the callee runs -/
theorem run_fn {pins : List (Addr × Obj)} {σ : St} {H : Hp} {s : Shared} {Q : VK} {us : List Value} {vs : List V} (F : FnOk X.prog X.w X.K X.mg X.base CX k f fd ps sp) (hr : Room k X.A) (hb : Binds X.K fd ps ds) (hd : Vals dvs ds) (hx : Passes CX X E)
    (I : Inv X pins σ H s) (r : Vals vs us) (h : sp (vs ++ dvs) H Q E) : wpAny (model X.prog X.w) X.A (call (.ref f) us) (EP X pins σ Q) X.xe s := by
  have r2 : Vals (vs ++ dvs) (us ++ ds) := r.append hd
  have hl : (us ++ ds).length = ps.length := by rw [← r2.length]; exact F.len _ _ _ _ h
  refine wpAny_call (codeAny_mono (F.run X.A X.stack s H ⟨us, []⟩ (us ++ ds) (vs ++ dvs) Q E hr I.env0 (hb s us I.kIn hl) r2 h) fun r s' hq => ?_)
  cases r with
  | error e => exact hx pins σ H s e s' I hq
  | ok fl =>
    cases fl with
    | ret u => exact I.after hq
    | next => exact False.elim hq
    | brk => exact False.elim hq
    | cont => exact False.elim hq

theorem pe_call (F : FnOk X.prog X.w X.K X.mg X.base CX k f fd ps sp) (hr : Room k X.A) (hg : Gl X x) (hm : X.mg x = some (.ref f)) (hk : PySem.W.keepIn X.K (.ref f) = true) (hb : Binds X.K fd ps ds) (hd : Vals dvs ds) (hx : Passes CX X E)
    (ha : PA X (e :: es) t) (hdb : (x == ("__debug__" : Str)) = false := by decide) (he : starEach (e :: es) X.env = (false, eval e X.env) :: starEach es X.env := by rfl) (hpl : (backTo pos (starEach es X.env)).any (·.1) = false := by rfl) :
    PE X (.Call (.Name x p) (e :: es) [] pos) (tCall sp dvs E t) := by
  intro pins s σ H Q I h
  refine wpAny_Call_Name_kw (ld_glob I hg hm ?_ hdb)
  refine PySem.W.callWith_K (h₀ := X.base) I.ok.mod.kin hk (thn (ha pos pins s σ H _ I h) fun us s1 ⟨vs, H1, I1, r, q⟩ => ⟨I1.kIn, ?_⟩) he hpl
  exact run_fn F hr hb hd hx I1 r q
/-- o.m(e, ..) -/
theorem pe_meth {pl : Sem Bool} (he : PE X o ta) (c : Cls X.K C) (hm : Meth X.K C m f) (F : FnOk X.prog X.w X.K X.mg X.base CX k f fd ps sp) (hr : Room k X.A) (hb : Binds X.K fd ps ds) (hd : Vals dvs ds) (hx : Passes CX X E) (ha : PA X (e :: es) t)
    (hst : starEach (e :: es) X.env = (false, eval e X.env) :: starEach es X.env := by rfl) (hpl : (backTo pos (starEach es X.env)).any (·.1) = false := by rfl)
    (ht : eval (.Call (.Attribute o m apos) (e :: es) [] pos) X.env = (do
      let ov ← eval o X.env
      standAt apos.atName
      let (f, first) ← holding [ov] (getMethod ov m pl)
      callWith pos f first (backTo pos (starEach (e :: es) X.env)) (backToKw pos (keywordEach [] X.env))) := by rfl) :
    PE X (.Call (.Attribute o m apos) (e :: es) [] pos) (tMeth C m sp dvs E ta t) := by
  intro pins s σ H Q I h
  refine PySem.W.methodCall_KW (pl := pl) (thn (he pins s σ H _ I h) fun u s1 ⟨x, H1, I1, rx, a, dx, fs, ex, ea, l, q⟩ => ?_) ht
  subst ex
  obtain rfl : u = Value.ref a := rx
  refine getmeth_ok I1 ea c hm l ?_
  refine PySem.W.callWith_K (first := [.ref a]) (h₀ := X.base) I.ok.mod.kin hm.kp (thn (ha pos pins s1 σ H1 _ I1 q) fun us s2 ⟨vs, H2, I2, r, q2⟩ => ⟨I2.kIn, ?_⟩) hst hpl
  exact run_fn (us := .ref a :: us) (vs := .ref a :: vs) F hr hb hd hx I2 (.cons rfl r) q2
/-- o.m() -/
theorem pe_meth0 {pl : Sem Bool} (he : PE X o ta) (c : Cls X.K C) (hm : Meth X.K C m f) (F : FnOk X.prog X.w X.K X.mg X.base CX k f fd ps sp) (hr : Room k X.A) (hb : Binds X.K fd ps ds) (hd : Vals dvs ds) (hx : Passes CX X E)
    (ht : eval (.Call (.Attribute o m apos) [] [] pos) X.env = (do
      let ov ← eval o X.env
      standAt apos.atName
      let (f, first) ← holding [ov] (getMethod ov m pl)
      callWith pos f first (backTo pos (starEach [] X.env)) (backToKw pos (keywordEach [] X.env))) := by rfl) :
    PE X (.Call (.Attribute o m apos) [] [] pos) (tMeth C m sp dvs E ta tNil) := by
  intro pins s σ H Q I h
  refine PySem.W.methodCall_KW (pl := pl) (thn (he pins s σ H _ I h) fun u s1 ⟨x, H1, I1, rx, a, dx, fs, ex, ea, l, q⟩ => ?_) ht
  subst ex
  obtain rfl : u = Value.ref a := rx
  refine getmeth_ok I1 ea c hm l ?_
  exact PySem.W.callWith_K0 (first := [.ref a]) I1.kIn hm.kp (run_fn (us := [.ref a]) (vs := [.ref a]) F hr hb hd hx I1 (.cons rfl .nil) q)

/-- what a class must have to be made -/
structure Mk (K : PySem.W.Frag) (C f : Addr) : Prop where
  makes : PySem.W.makesIn K C = true
  init : PySem.W.findIn K (.ref C) "__init__" = some (some (.ref f))
  fn : PySem.W.isFn K (.ref f) = true
  kp : PySem.W.keepIn K (.ref C) = true

theorem run_make {pins : List (Addr × Obj)} {σ : St} {H : Hp} {s : Shared} {Q : VK} {us : List Value} {vs : List V} (M : Mk X.K C f) (F : FnOk X.prog X.w X.K X.mg X.base CX k f fd ps sp) (hr : Room (k + 1) X.A) (hb : Binds X.K fd ps ds) (hd : Vals dvs ds)
    (hx : Passes CX X E) (I : Inv X pins σ H s) (r : Vals vs us)
    (h : ∀ x dx, H x = none → H dx = none → dx ≠ x → sp (.ref x :: (vs ++ dvs)) (upd (upd H dx (.own x)) x (.ins C dx [])) (fun v H2 => v = .non ∧ Q (.ref x) H2) E) :
    wpAny (model X.prog X.w) X.A (call (.ref C) us) (EP X pins σ Q) X.xe s := by
  have hq := h (s.heap.objs.size + 1) s.heap.objs.size (I.hok.fresh (Nat.le_succ _)) (I.hok.fresh (Nat.le_refl _)) (Nat.ne_of_lt (Nat.lt_succ_self _))
  have I2 := Inv.made (C := C) I
  have r2 : Vals (V.ref (s.heap.objs.size + 1) :: (vs ++ dvs)) (Value.ref (s.heap.objs.size + 1) :: (us ++ ds)) := .cons rfl (r.append hd)
  have hl : (Value.ref (s.heap.objs.size + 1) :: us ++ ds).length = ps.length := by
    have e := r2.length
    rw [F.len _ _ _ _ hq] at e
    exact e.symm
  refine wpAny_call (make_map (f := f) I.kIn M.makes M.init (beq_iff_eq.mp M.fn) (codeAny_mono (F.run _ X.stack _ _ ⟨Value.ref (s.heap.objs.size + 1) :: us, []⟩ (Value.ref (s.heap.objs.size + 1) :: (us ++ ds)) _ _ E (hr.make C us [])
    (I2.env0.make C us []) (hb _ (Value.ref (s.heap.objs.size + 1) :: us) I2.kIn hl) r2 hq) fun r s' hq' => ?_))
  cases r with
  | error e => exact hx pins σ _ _ e s' I2 hq'
  | ok fl =>
    cases fl with
    | ret u =>
      obtain ⟨v, H', I3, rv, ev, q3⟩ := I2.after hq'
      subst ev
      exact ⟨rv, ⟨V.ref (s.heap.objs.size + 1), H', I3, rfl, q3⟩⟩
    | next => exact False.elim hq'
    | brk => exact False.elim hq'
    | cont => exact False.elim hq'
theorem pe_make (M : Mk X.K C f) (F : FnOk X.prog X.w X.K X.mg X.base CX k f fd ps sp) (hr : Room (k + 1) X.A) (hg : Gl X x) (hm : X.mg x = some (.ref C)) (hb : Binds X.K fd ps ds) (hd : Vals dvs ds) (hx : Passes CX X E)
    (ha : PA X (e :: es) t) (hdb : (x == ("__debug__" : Str)) = false := by decide) (he : starEach (e :: es) X.env = (false, eval e X.env) :: starEach es X.env := by rfl) (hpl : (backTo pos (starEach es X.env)).any (·.1) = false := by rfl) :
    PE X (.Call (.Name x p) (e :: es) [] pos) (tMake C sp dvs E t) := by
  intro pins s σ H Q I h
  refine wpAny_Call_Name_kw (ld_glob I hg hm ?_ hdb)
  refine PySem.W.callWith_K (h₀ := X.base) I.ok.mod.kin M.kp (thn (ha pos pins s σ H _ I h) fun us s1 ⟨vs, H1, I1, r, q⟩ => ⟨I1.kIn, ?_⟩) he hpl
  exact run_make M F hr hb hd hx I1 r q
end

section
variable {X : Cx} {CX : CXT} {k : Nat} {f C : Addr} {fd : FuncData} {ps ks : List Str} {sp : Sp} {E : XK} {x m : Str} {p pos apos kpos : Pos} {e o : Expr} {es : List Expr} {kws : List Keyword} {te ta : TE} {t tk : TA} {nm : Option Str}
variable {g : List Value → List Value → List Value} {gV : List V → List V → List V}
end

/-- names: the parameters first -/
structure FnScope (N P : List Str) (sc : Scope) : Prop where
  kind : sc.kind = .function
  co : sc.isCoroutine = false
  gen : sc.isGenerator = false
  nd : N.Nodup
  pre : N.take P.length = P
  par : ∀ x ∈ P, sc.names.lookup x = some .local ∨ sc.names.lookup x = some .cell
  nofree : ∀ y ∈ sc.names, y.2 ≠ .free

theorem bindL_out {kindOf : Str → Option NameKind} {x : Str} : ∀ {binds : List (Str × Value)} {m : Str → Option Value}, (∀ v, (x, v) ∉ binds) → bindL kindOf binds m x = m x
  | [], _, _ => rfl
  | (n, v) :: r, m, h => by
    unfold bindL
    rw [bindL_out fun w hw => h w (List.mem_cons_of_mem _ hw)]
    split
    · have : x ≠ n := by rintro rfl; exact h v List.mem_cons_self
      simp [this]
    · rfl
theorem bindC_out {kindOf : Str → Option NameKind} {x : Str} : ∀ {binds : List (Str × Value)} {m : Str → Option Value}, (∀ v, (x, v) ∉ binds) → bindC kindOf binds m x = m x
  | [], _, _ => rfl
  | (n, v) :: r, m, h => by
    unfold bindC
    rw [bindC_out fun w hw => h w (List.mem_cons_of_mem _ hw)]
    split
    · rfl
    · have : x ≠ n := by rintro rfl; exact h v List.mem_cons_self
      simp [this]
theorem bindL_get {kindOf : Str → Option NameKind} {x : Str} {v : Value} : ∀ {P : List Str} {vs : List Value} {i : Nat} {m : Str → Option Value}, P.Nodup → P[i]? = some x → vs[i]? = some v → kindOf x = some .local →
    bindL kindOf (P.zip vs) m x = some v
  | [], _, _, _, _, h, _, _ => by simp at h
  | _ :: _, [], _, _, _, _, h, _ => by simp at h
  | p :: P, w :: vs, 0, m, nd, h1, h2, hk => by
    simp at h1 h2; subst h1; subst h2
    show bindL kindOf ((p, w) :: P.zip vs) m p = _
    unfold bindL
    rw [bindL_out fun v hv => (List.nodup_cons.mp nd).1 (List.of_mem_zip hv).1, if_pos hk]
    simp
  | p :: P, w :: vs, i + 1, m, nd, h1, h2, hk => by
    show bindL kindOf ((p, w) :: P.zip vs) m x = _
    unfold bindL
    exact bindL_get (i := i) (List.nodup_cons.mp nd).2 (by simpa using h1) (by simpa using h2) hk
theorem bindC_get {kindOf : Str → Option NameKind} {x : Str} {v : Value} : ∀ {P : List Str} {vs : List Value} {i : Nat} {m : Str → Option Value}, P.Nodup → P[i]? = some x → vs[i]? = some v → kindOf x ≠ some .local →
    bindC kindOf (P.zip vs) m x = some v
  | [], _, _, _, _, h, _, _ => by simp at h
  | _ :: _, [], _, _, _, _, h, _ => by simp at h
  | p :: P, w :: vs, 0, m, nd, h1, h2, hk => by
    simp at h1 h2; subst h1; subst h2
    show bindC kindOf ((p, w) :: P.zip vs) m p = _
    unfold bindC
    rw [bindC_out fun v hv => (List.nodup_cons.mp nd).1 (List.of_mem_zip hv).1, if_neg hk]
    simp
  | p :: P, w :: vs, i + 1, m, nd, h1, h2, hk => by
    show bindC kindOf ((p, w) :: P.zip vs) m x = _
    unfold bindC
    exact bindC_get (i := i) (List.nodup_cons.mp nd).2 (by simpa using h1) (by simpa using h2) hk

/-- the names' values at the entry -/
def start (N : List Str) (vs : List V) : St := vs.map some ++ List.replicate (N.length - vs.length) none

/-- the context of a def's body, at its entry; an exception leaves the frame, then lies as CX says -/
def cxOf (CX : CXT) (P : Program) (w : World) (K : PySem.W.Frag) (mg : Str → Option Value) (base : Heap) (N : List Str) (qual : Str) (scope : Scope) (f : Addr) (cd : Value) (A : Around) (outer : List Env) (s : Shared) (H : Hp) (E : XK) : Cx where
  prog := P
  w := w
  K := K
  mg := mg
  base := base
  A := A.deeper (envOfC qual scope s.heap.objs.size f cd)
  N := N
  s₀ := s
  H₀ := H
  env := envOfC qual scope s.heap.objs.size f cd
  outer := outer
  stack := envOfC qual scope s.heap.objs.size f cd :: outer
  ex := []
  calm := true
  fn := fun _ => true
  pn := []
  xe := fun e s' => wpAny (model P w) (A.deeper (envOfC qual scope s.heap.objs.size f cd)) (leaving (envOfC qual scope s.heap.objs.size f cd) e) (fun _ s'' => CX outer H s E e s'') (fun e' s'' => CX outer H s E e' s'') s'

theorem cell_has {sc : Scope} {n : Nat} {x : Str} (h : sc.names.lookup x = some .cell) : ∃ c, (cellsFrom n sc.names []).lookup x = some c := by
  have q := PySem.W.cellsFrom_some sc.names n [] (.inl h)
  exact Option.isSome_iff_exists.mp q

theorem inv_start {CX : CXT} {P : Program} {w : World} {K : PySem.W.Frag} {mg : Str → Option Value} {base : Heap} {N ps : List Str} {qual : Str} {scope : Scope} {f : Addr} {cd : Value} {A : Around} {outer : List Env} {s s1 : Shared} {H : Hp} {E : XK} {us : List Value} {vs : List V}
    (S : FnScope N ps scope) (hd : A.handled = none) (e0 : Env0 P w K mg base A outer s H) (hl : vs.length = ps.length) (r : Vals vs us)
    (x : InCallC s s.heap.objs.size (bindL (envOfC qual scope s.heap.objs.size f cd).kindOf (ps.zip us) fun _ => none) (cellsFrom (s.heap.objs.size + 1) scope.names []) (bindC (envOfC qual scope s.heap.objs.size f cd).kindOf (ps.zip us) fun _ => none) s1) :
    Inv (cxOf CX P w K mg base N qual scope f cd A outer s H E) [] (start N vs) H s1 := by
  have hpl : ps.length ≤ N.length := by have := congrArg List.length S.pre; rw [List.length_take] at this; omega
  obtain ⟨h1, tk, rfl, hk⟩ := x.done
  have noA : ∀ b : Addr, b ∉ (cxOf CX P w K mg base N qual scope f cd A outer s H E).ex := fun b z => absurd (show b ∈ ([] : List Addr) from z) (by simp)
  refine ⟨⟨e0.mod, S.kind, rfl, rfl, Nat.le_refl _, fun y z c h1 h2 => ?_, fun y hy => ?_, fun y c _ h => ?_, fun _ => hd, Around.frames_deeper e0.frames, .inr ⟨rfl, rfl⟩, fun b z => absurd z (noA b), e0.bs, e0.bsz, fun b _ _ => noA b, fun b z => absurd z (noA b), e0.funs, e0.frf⟩,
    rfl, e0.bare, Un.kept hk, ⟨_, x.toInCall.ns, fun i y v h1 h2 h3 => ?_⟩, fun y c h => ⟨_, x.cell y c h⟩, e0.hok.fresh (Nat.le_refl _), fun y c h => ?_, fun p hp => absurd (show p ∈ ([] : List (Addr × Obj)) from hp) (by simp), e0.hok.kept hk, ?_⟩
  · exact name_of_addr x.apart (PySem.mem_of_lookup h1) (PySem.mem_of_lookup h2)
  · have hy : scope.names.lookup y = some .cell ∨ scope.names.lookup y = some .free := hy
    rcases hy with hy | hy
    · exact cell_has hy
    · exact absurd rfl (S.nofree _ (PySem.mem_of_lookup hy))
  · exact Nat.le_of_lt (x.above y c (PySem.mem_of_lookup h))
  · have hi : i < vs.length := by
      unfold start at h2
      by_cases hi : i < vs.length
      · exact hi
      · rw [List.getElem?_append_right (by simpa using hi)] at h2
        rw [List.getElem?_replicate] at h2
        split at h2 <;> cases h2
    have ha : vs[i]? = some v := by
      unfold start at h2
      rw [List.getElem?_append_left (by simpa using hi), List.getElem?_map] at h2
      cases e : vs[i]? with
      | none => rw [e] at h2; cases h2
      | some a => rw [e] at h2; cases h2; rfl
    obtain ⟨u, hu, rv⟩ := r.get ha
    have hp : ps[i]? = some y := by
      rw [← S.pre, List.getElem?_take_of_lt (by omega)]; exact h1
    have ndP : ps.Nodup := by rw [← S.pre]; exact S.nd.sublist (List.take_sublist _ _)
    refine ⟨u, rv, ?_⟩
    rcases S.par y (List.mem_of_getElem? hp) with k | k
    · exact .inl ⟨k, bindL_get ndP hp hu k⟩
    · obtain ⟨c, e⟩ := cell_has (n := s.heap.objs.size + 1) k
      refine .inr ⟨.inl k, c, e, ?_⟩
      have q := x.cell y c e
      rw [bindC_get ndP hp hu (by show scope.names.lookup y ≠ _; rw [k]; decide)] at q
      exact q
  · exact e0.hok.fresh (Nat.le_of_lt (x.above y c (PySem.mem_of_lookup h)))
  · unfold start
    show _ = N.length
    rw [List.length_append, List.length_map, List.length_replicate]
    omega

/-- THE RULE: a def (or a method) of the text, by its body. The body's reading t is chosen for each entry; it is run at the parameters' values -/
theorem fn_of {CX : CXT} {P : Program} {w : World} {K : PySem.W.Frag} {mg : Str → Option Value} {base : Heap} {k : Nat} {f : Addr} {name qual : Str} {params : Arguments} {body : List Stmt} {scope : Scope} {dV kV doc pm cdv ct oc : Value} {an od : Option Addr}
    {osl : Array (Option Value)} {N ps : List Str} {sp : Sp} (lk : K.lookup f = some ⟨oc, od, .func (PySem.W.fnOf name qual params body scope dV kV doc pm an cdv ct), osl⟩) (hcd : PySem.W.codeIn K cdv qual = true) (S : FnScope N ps scope)
    (len : ∀ vs H Q E, sp vs H Q E → vs.length = ps.length)
    (hbody : ∀ (A : Around) (outer : List Env) (s : Shared) (H : Hp) (vs : List V) (Q : VK) (E : XK), Room k (A.deeper (envOfC qual scope s.heap.objs.size f cdv)) → sp vs H Q E →
      ∃ t, PSs (cxOf CX P w K mg base N qual scope f cdv A outer s H E) body t ∧ t { nx := fun _ H' => Q .non H', rt := Q } (start N vs) H) :
    FnOk P w K mg base CX (k + 1) f (PySem.W.fnOf name qual params body scope dV kV doc pm an cdv ct) ps sp := by
  refine ⟨len, fun A outer s H args us vs Q E hr e0 hb r hsp => ?_⟩
  have hl := len _ _ _ _ hsp
  have KX : K.In s.heap := e0.mod.kin.keeps fun b o e => (e0.bs b o e).1
  have lim : s.heap.NoLimit := e0.mod.nolimit.keeps fun b o e => (e0.bs b o e).1
  have hkind : ∀ y ∈ ps.zip us, scope.names.lookup y.1 = some .local ∨ (scope.names.lookup y.1 = some .cell ∧ ((cellsFrom (s.heap.objs.size + 1) scope.names []).lookup y.1).isSome = true) := fun ⟨n, v⟩ hy => by
    rcases S.par n (List.of_mem_zip hy).1 with q | q
    · exact .inl q
    · exact .inr ⟨q, PySem.W.cellsFrom_some _ _ _ (.inl q)⟩
  refine codeAny_call_function hr.depth (KX _ _ lk) rfl S.co S.gen rfl (PySem.W.codeRec_of KX hcd) (hb _ _ _ _ ?_)
  refine wpAny_newFunctionEnv_cells S.kind hkind fun env he s1 x => ?_
  subst he
  refine ⟨lim.keeps x.toInCall.keep, codeAny_func ?_⟩
  obtain ⟨t, ht, hq⟩ := hbody A outer s H vs Q E (hr.deeper _) hsp
  have I : Inv (cxOf CX P w K mg base N qual scope f cdv A outer s H E) [] (start N vs) H s1 := inv_start S hr.hd e0 hl r x
  refine wpAny_mono (ht [] s1 (start N vs) H _ I hq) (fun fl s' hs => ?_) fun e s' hs => hs
  have fin : ∀ {σ' : St} {H' : Hp} {v : V} {u : Value}, Inv (cxOf CX P w K mg base N qual scope f cdv A outer s H E) [] σ' H' s' → RelV v u → Q v H' → CE outer P w H s Q u s' :=
    fun {σ' H' v u} J rv q => ⟨v, H', J.os, J.bare, J.base, J.hok, rv, q⟩
  cases fl with
  | ret u =>
    obtain ⟨v, σ', H', J, rv, q⟩ := hs
    exact fin J rv q
  | next =>
    obtain ⟨σ', H', J, q⟩ := hs
    exact fin (v := V.non) (u := Value.none) J rfl q
  | brk =>
    obtain ⟨_, _, _, q⟩ := hs
    exact False.elim q
  | cont =>
    obtain ⟨_, _, _, q⟩ := hs
    exact False.elim q
end L2

namespace L2
open PySem PySem.Spec PyProof.Rows
section
variable {X : Cx} {x : Str} {p pos : Pos} {e : Expr} {es : List Expr} {t : TA} {id T : String} {r : List V → Hp → VK → Prop}

def tCB (r : List V → Hp → VK → Prop) (t : TA) : TE := fun σ H Q => t σ H fun vs H1 => r vs H1 Q
/-- f(e, ..), f a built-in function -/
theorem pe_callB (hc : CallR X (.builtin id) r) (hg : Gl X x) (hm : X.mg x = none) (hv : bootBuiltins x = some (.builtin id)) (ha : PA X (e :: es) t) (hn : x ≠ "__name__" := by decide) (hdb : (x == ("__debug__" : Str)) = false := by decide)
    (he : starEach (e :: es) X.env = (false, eval e X.env) :: starEach es X.env := by rfl) (hpl : (backTo pos (starEach es X.env)).any (·.1) = false := by rfl) : PE X (.Call (.Name x p) (e :: es) [] pos) (tCB r t) := by
  intro pins s σ H Q I h
  refine wpAny_Call_Name_kw (ld_blt I hg hm hv ?_ hn hdb)
  exact PyProof.Rows.callWith_builtin1 (thn (ha pos pins s σ H _ I h) fun us s1 ⟨vs, H1, I1, r1, q1⟩ => hc pins s1 σ H1 vs us Q I1 r1 q1) he hpl
/-- T(e, ..), T a built-in type -/
theorem pe_callTy (hc : CallR X (.type T) r) (hg : Gl X x) (hm : X.mg x = none) (hv : bootBuiltins x = some (.type T)) (ha : PA X (e :: es) t) (hn : x ≠ "__name__" := by decide) (hdb : (x == ("__debug__" : Str)) = false := by decide)
    (he : starEach (e :: es) X.env = (false, eval e X.env) :: starEach es X.env := by rfl) (hpl : (backTo pos (starEach es X.env)).any (·.1) = false := by rfl) : PE X (.Call (.Name x p) (e :: es) [] pos) (tCB r t) := by
  intro pins s σ H Q I h
  refine wpAny_Call_Name_kw (ld_blt I hg hm hv ?_ hn hdb)
  exact PyProof.Rows.callWith_type1 (thn (ha pos pins s σ H _ I h) fun us s1 ⟨vs, H1, I1, r1, q1⟩ => hc pins s1 σ H1 vs us Q I1 r1 q1) he hpl
end
end L2

namespace HT
open PySem PyProof.Rows

section
open PySem.SeqAt
open PySem.AutoSeq1 (wpAny_loadPart')
open PySem.MeetsSeq PySem.MeetsSeq2 PySem.MeetsSeq3

end

section
variable {prog : Program} {w : World} {A : Around} {E : Value → Shared → Prop} {s : Shared}

/-- a slice's bound as a place among n (d where it is left out) -/
def sIx (n d : Nat) : Option Int → Nat
  | none => d
  | some v => if v < 0 then (v + (n : Int)).toNat else min v.toNat n
end
end HT

namespace L2
open PySem PySem.Spec PyProof.Rows

abbrev TO := St → Hp → (Option Int → Hp → Prop) → Prop
def tNoPart : TO := fun _ H Q => Q none H
def tPart (t : TE) : TO := fun σ H Q => t σ H fun x H1 => ∃ i, x = .int i ∧ Q (some i) H1

section
variable {X : Cx} {e : Expr} {te : TE} {lo hi : Option Expr} {tl th : TO} {pos p2 : Pos}

/-- what a slice of a value is, by values: the slice object stands at sl -/
def SlR (X : Cx) (r : V → Option Int → Option Int → Hp → VK → Prop) : Prop :=
  ∀ (pins : List (Addr × Obj)) (s : Shared) (σ : St) (H : Hp) (x : V) (v vl vu : Value) (lo hi : Option Int) (sl : Addr) (Q : VK), Inv X pins σ H s → RelV x v → s.heap.IsSliceOf sl vl vu .none → IsPart vl lo → IsPart vu hi → r x lo hi H Q →
    ∃ T id, typeLookup (.type T) "__getitem__" = pure (some (.builtin id)) ∧ s.TypeIs v T ∧ wpAny (model X.prog X.w) X.A (getItem v (.ref sl)) (EP X pins σ Q) X.xe s
def tSl (r : V → Option Int → Option Int → Hp → VK → Prop) (te : TE) (tl th : TO) : TE := fun σ H Q => te σ H fun x H1 => tl σ H1 fun l H2 => th σ H2 fun u H3 => r x l u H3 Q
/-- the items of xs[lo:hi] -/
def cutV (xs : List V) (lo hi : Option Int) : List V := (xs.drop (HT.sIx xs.length 0 lo)).take (HT.sIx xs.length xs.length hi - HT.sIx xs.length 0 lo)
theorem cutV_length (xs : List V) (lo hi : Option Int) : (cutV xs lo hi).length ≤ xs.length := by
  unfold cutV
  rw [List.length_take, List.length_drop]
  omega
/-- t[lo:hi], not the whole of it (the whole would be t itself) -/
def rSlT (K : PySem.W.Frag) : V → Option Int → Option Int → Hp → VK → Prop := fun x lo hi H Q => ∃ a xs, x = .ref a ∧ SqT K H a xs ∧
  ¬ (HT.sIx xs.length 0 lo = 0 ∧ HT.sIx xs.length xs.length hi = xs.length) ∧ ∀ p, H p = none → Q (.ref p) (upd H p (.tup (cutV xs lo hi)))
end
end L2

namespace L2
open PySem PySem.Spec PyProof.Rows

/-- the place that an index of any sign means -/
def ixN (n : Nat) (i : Int) : Option Nat := if 0 ≤ i then (if i < n then some i.toNat else none) else if -(n : Int) ≤ i then some (i + n).toNat else none
def atI {α : Type} (xs : List α) (i : Int) : Option α := (ixN xs.length i).bind fun j => xs[j]?
theorem ixN_seq {n : Nat} {i : Int} {j : Nat} (h : ixN n i = some j) : seqIndex? i n = some j ∧ j < n ∧ -(n : Int) ≤ i ∧ i < n := by
  unfold ixN at h
  by_cases h0 : 0 ≤ i
  · rw [if_pos h0] at h
    by_cases h1 : i < n
    · rw [if_pos h1] at h
      have e : i.toNat = j := Option.some.inj h
      exact ⟨by rw [seqIndex_of h0 h1, e], by omega, by omega, h1⟩
    · rw [if_neg h1] at h; cases h
  · rw [if_neg h0] at h
    by_cases h1 : -(n : Int) ≤ i
    · rw [if_pos h1] at h
      have e : (i + n).toNat = j := Option.some.inj h
      exact ⟨by rw [seqIndex_neg (by omega) h1, e], by omega, h1, by omega⟩
    · rw [if_neg h1] at h; cases h
theorem atI_get {α : Type} {xs : List α} {i : Int} {v : α} (h : atI xs i = some v) : ∃ j, seqIndex? i xs.length = some j ∧ xs[j]? = some v ∧ j < xs.length ∧ -(xs.length : Int) ≤ i ∧ i < xs.length := by
  unfold atI at h
  cases e : ixN xs.length i with
  | none => rw [e] at h; cases h
  | some j =>
    rw [e] at h
    obtain ⟨h1, h2, h3, h4⟩ := ixN_seq e
    exact ⟨j, h1, h, h2, h3, h4⟩
theorem atI_nat {α : Type} {xs : List α} {j : Nat} {v : α} (h : xs[j]? = some v) : atI xs (j : Int) = some v := by
  have hj : j < xs.length := (List.getElem?_eq_some_iff.mp h).1
  have e : ixN xs.length (j : Int) = some j := by
    unfold ixN
    rw [if_pos (by omega), if_pos (by omega)]; simp
  unfold atI; rw [e]; exact h
/-- what stands as an index of a plain subscript -/
def PlainIx (b : Expr) : Prop := ∀ o i, subscripted b false o i = operate [o, i] (getItem o i)
/-- a subscript by values -/
def IxR (X : Cx) (r : R2) : Prop :=
  ∀ (value slice : Expr) (pins : List (Addr × Obj)) (s : Shared) (σ : St) (H : Hp) (x y : V) (v u : Value) (Q : VK), Inv X pins σ H s → RelV x v → RelV y u → r x y H Q →
    subscripted slice false v u = operate [v, u] (getItem v u) → wpAny (model X.prog X.w) X.A (subscriptTail value slice v u) (EP X pins σ Q) X.xe s
/-- a call of a builtin's method by values: the receiver, the arguments -/
def MtR (X : Cx) (id : String) (r : V → List V → Hp → VK → Prop) : Prop :=
  ∀ (pins : List (Addr × Obj)) (s : Shared) (σ : St) (H : Hp) (x : V) (xs : List V) (v : Value) (us : List Value) (Q : VK), Inv X pins σ H s → RelV x v → Vals xs us → r x xs H Q →
    wpAny (model X.prog X.w) X.A (call (.builtin id) (v :: us)) (EP X pins σ Q) X.xe s
section
variable {X : Cx} {a b : Expr} {ta tb : TE} {pos : Pos}
/-- a[b] -/
theorem pe_ix {r : R2} (hr : IxR X r) (ha : PE X a ta) (hb : PE X b tb) (hs : PlainIx b) : PE X (.Subscript a b pos) (tOp r ta tb) := by
  intro pins s σ H Q I h
  exact Subscript_ (binT ha hb I h fun v u s2 x y H2 I2 rx ry q => hr a b pins s2 σ H2 x y v u Q I2 rx ry q (hs _ _))

def rIxL (K : PySem.W.Frag) : R2 := fun x y H Q => ∃ p xs i v, x = .ref p ∧ y = .int i ∧ SqL K H p xs ∧ atI xs i = some v ∧ Q v H
def rIxT (K : PySem.W.Frag) : R2 := fun x y H Q => ∃ p xs i v, x = .ref p ∧ y = .int i ∧ SqT K H p xs ∧ atI xs i = some v ∧ Q v H
theorem ix_list : IxR X (rIxL X.K) := by
  intro value slice pins s σ H x y v u Q I rx ry h hs
  obtain ⟨p, xs, i, z, rfl, rfl, hq, he, q⟩ := h
  cases rx
  obtain ⟨t, rfl⟩ := ry
  obtain ⟨its, r, pl, hz⟩ := I.list hq
  obtain ⟨j, h1, h2, h3, h4, h5⟩ := atI_get he
  obtain ⟨w, ew, rw'⟩ := r.get h2
  have hl := r.length
  have hn := line63
  have fin : EP X pins σ Q w s := ⟨z, H, I, rw', q⟩
  by_cases h0 : 0 ≤ i
  · have hj : i.toNat = j := by
      rw [seqIndex_of h0 h5] at h1
      exact Option.some.inj h1
    exact item_listR pl.isList h0 (by omega) (by rw [hj]; simpa using ew) fin hs
  · have hj : (i + (its.toArray.size : Int)).toNat = j := by
      rw [seqIndex_neg (by omega) h4] at h1
      rw [List.size_toArray, ← hl]
      exact Option.some.inj h1
    exact subscriptTail_builtinR (x := w) pl.isList.typeIs slot_list_getitem.lookup
      (wpAny_getItem_list_neg (Q := fun r s' => r = w ∧ EP X pins σ Q r s') pl.isList (by omega) (by rw [List.size_toArray] <;> omega) (by omega) (by rw [hj]; simpa using ew) ⟨rfl, fin⟩) hs
theorem ix_tup : IxR X (rIxT X.K) := by
  intro value slice pins s σ H x y v u Q I rx ry h hs
  obtain ⟨p, xs, i, z, rfl, rfl, hq, he, q⟩ := h
  cases rx
  obtain ⟨t, rfl⟩ := ry
  obtain ⟨its, r, pl, hz⟩ := I.tuple hq
  obtain ⟨j, h1, h2, h3, h4, h5⟩ := atI_get he
  obtain ⟨w, ew, rw'⟩ := r.get h2
  have hl := r.length
  have hn := line63
  have fin : EP X pins σ Q w s := ⟨z, H, I, rw', q⟩
  exact subscriptTail_builtinR (x := w) pl.typeIs slot_tuple_getitem.lookup
    (getItem_tuple (j := j) (Q := fun r s' => r = w ∧ EP X pins σ Q r s') pl (by omega) (by omega) (by rw [List.size_toArray, ← hl]; exact h1) (by simpa using ew) ⟨rfl, fin⟩) hs
/-- the list's object behind a store -/
theorem mapSeq_set (its : List Value) (n j : Nat) (u : Value) : Obj.mapSeq (·.setIfInBounds j u) { cls := .type "list", data := .seq its.toArray n } = { cls := .type "list", data := .seq (its.set j u).toArray n } := by
  simp [Obj.mapSeq]
theorem Inv.lst {pins : List (Addr × Obj)} {σ : St} {H : Hp} {s : Shared} {p : Addr} {xs : List V} (I : Inv X pins σ H s) (h : H p = some (.lst xs)) :
    ∃ (its : List Value) (n : Nat), Vals xs its ∧ s.heap.get? p = some { cls := .type "list", data := .seq its.toArray n } ∧ xs.length ≤ sizeLine := by
  obtain ⟨z, its, n, r, e⟩ := I.hok p _ h
  exact ⟨its, n, r, e, z⟩
/-- the list at p is written by an update of its object -/
theorem Inv.lstUpd {pins : List (Addr × Obj)} {σ : St} {H : Hp} {s : Shared} {p : Addr} {xs ys : List V} {its its' : List Value} {n n' : Nat} {f : Obj → Obj} (I : Inv X pins σ H s) (h : H p = some (.lst xs))
    (ho : s.heap.get? p = some { cls := .type "list", data := .seq its.toArray n }) (hf : f { cls := .type "list", data := .seq its.toArray n } = { cls := .type "list", data := .seq its'.toArray n' }) (r : Vals ys its') (hz : ys.length ≤ sizeLine) (t : Nat) :
    Inv X pins σ (upd H p (.lst ys)) { s with heap := s.heap.update p f, toks := t } := by
  have e : (s.heap.update p f).get? p = some { cls := .type "list", data := .seq its'.toArray n' } := by
    rw [Heap.get?_update_self f ho (by rw [hf] <;> rfl), hf]
  refine I.write (x := p) (e := p) (by rw [h]; trivial) (.inl rfl) (fun b u hb q => (Heap.get?_update_other _ _ (Ne.symm hb)).trans q) ⟨_, e⟩ ?_
  exact ⟨hz, its', n', r, e⟩
def rSetL : V → V → V → Hp → (Hp → Prop) → Prop := fun o i v H Q => ∃ p xs k j, o = .ref p ∧ i = .int k ∧ H p = some (.lst xs) ∧ ixN xs.length k = some j ∧ Q (upd H p (.lst (xs.set j v)))
theorem set_list : PSet X rSetL := by
  intro pins s σ H o i v ov iv u Q I ro ri rv h
  obtain ⟨p, xs, k, j, rfl, rfl, hp, hj, q⟩ := h
  cases ro
  obtain ⟨t, rfl⟩ := ri
  obtain ⟨its, n, r, ho, hz⟩ := I.lst hp
  obtain ⟨h1, h2, h3, h4⟩ := ixN_seq hj
  have hl := r.length
  have hn := line63
  have I' : Inv X pins σ (upd H p (.lst (xs.set j v))) { s with heap := s.heap.update p (Obj.mapSeq (·.setIfInBounds j u)) } :=
    I.lstUpd hp ho (mapSeq_set its n j u) (r.set rv j) (by rw [List.length_set]; exact hz) s.toks
  by_cases h0 : 0 ≤ k
  · have hk : k.toNat = j := by
      rw [seqIndex_of h0 h4] at h1
      exact Option.some.inj h1
    exact PySem.W.ki_setAt ho h0 (by omega) (by rw [List.size_toArray, ← hl]; exact h4) (by rw [hk]; exact ⟨_, I', q⟩)
  · have hk : (k + (its.toArray.size : Int)).toNat = j := by
      rw [seqIndex_neg (by omega) h3] at h1
      rw [List.size_toArray, ← hl]
      exact Option.some.inj h1
    exact PySem.W.ki_setBack ho (by omega) (by rw [List.size_toArray, ← hl]; exact h3) (by omega) (by rw [hk]; exact ⟨_, I', q⟩)

theorem slice_bounds (lo hi : Option Int) (n : Nat) : (sliceBounds lo hi none n).1 = ((HT.sIx n 0 lo : Nat) : Int) ∧ (sliceBounds lo hi none n).2.1 = ((HT.sIx n n hi : Nat) : Int) ∧ (sliceBounds lo hi none n).2.2 = 1 := by
  refine ⟨?_, ?_, rfl⟩
  · cases lo with
    | none => simp [sliceBounds, HT.sIx]
    | some i =>
      simp only [sliceBounds, HT.sIx, Option.getD_none, show (1 : Int) > 0 by decide, if_true]
      by_cases h : i < 0
      · simp only [h, if_true] <;> omega
      · simp only [h, if_false] <;> omega
  · cases hi with
    | none => simp [sliceBounds, HT.sIx]
    | some i =>
      simp only [sliceBounds, HT.sIx, Option.getD_none, show (1 : Int) > 0 by decide, if_true]
      by_cases h : i < 0
      · simp only [h, if_true] <;> omega
      · simp only [h, if_false] <;> omega
theorem slicePick_cut (its : List Value) (lo hi : Option Int) : slicePick its.toArray lo hi none = ((its.drop (HT.sIx its.length 0 lo)).take (HT.sIx its.length its.length hi - HT.sIx its.length 0 lo)).toArray := by
  obtain ⟨h1, h2, h3⟩ := slice_bounds lo hi its.toArray.size
  unfold slicePick
  rw [h1, h2, h3]
  simp only [sliceRange_one, pick_run, List.size_toArray] <;> rfl
/-- xs[lo:hi] of a list: a new list -/
def rSlL (K : PySem.W.Frag) : V → Option Int → Option Int → Hp → VK → Prop := fun x lo hi H Q => ∃ a xs, x = .ref a ∧ SqL K H a xs ∧ ∀ p, H p = none → Q (.ref p) (upd H p (.lst (cutV xs lo hi)))
theorem sl_list : SlR X (rSlL X.K) := by
  intro pins s σ H x v vl vu lo hi sl Q I rx hs pl pu h
  obtain ⟨a, xs, rfl, hx, q⟩ := h
  cases rx
  obtain ⟨its, r, ht, hz⟩ := I.list hx
  have hlen := r.length
  refine ⟨"list", _, slot_list_getitem.lookup, ht.isList.typeIs, ?_⟩
  refine wpAny_getItem_list_slice ht.isList hs pl pu .none (by simp) ?_ (by rw [List.size_toArray] <;> omega)
  rw [slicePick_cut, ← hlen]
  refine ⟨.ref s.heap.objs.size, _, I.laid (t' := s.toks) (o := .lst (cutV xs lo hi)) (fun b ob q => Heap.get?_push_of_some _ q) (Nat.le_refl _) ?_, rfl, q _ (I.hok.fresh (Nat.le_refl _))⟩
  exact ⟨Nat.le_trans (cutV_length xs lo hi) hz, _, 0, (r.drop (HT.sIx xs.length 0 lo)).take (HT.sIx xs.length xs.length hi - HT.sIx xs.length 0 lo), Heap.get?_push_size _ rfl⟩

def flatV : V → Bool
  | .non => true
  | .bl _ => true
  | .int _ => true
  | .str _ => true
  | _ => false
/-- == of flat values -/
def eqV : V → V → Bool
  | .non, .non => true
  | .bl a, .bl b => a == b
  | .bl a, .int b => (if a then 1 else 0) == b
  | .int a, .bl b => a == (if b then 1 else 0)
  | .int a, .int b => a == b
  | .str a, .str b => a == b
  | _, _ => false
theorem eqAt_V {A : Around} {s : Shared} {y x : V} {u v : Value} (ry : RelV y u) (rx : RelV x v) (fy : flatV y = true) (fx : flatV x = true) : SeqAt.EqAt A s u v (eqV y x) := by
  cases y with
  | non =>
    cases ry
    cases x with
    | non => cases rx; exact SeqAt.EqAt.same _
    | bl b => cases rx; exact SeqAt.EqAt.none_bool b
    | int b => obtain ⟨t, rfl⟩ := rx; exact SeqAt.EqAt.none_int b t
    | str b => obtain ⟨t, rfl⟩ := rx; exact SeqAt.EqAt.none_str b t
    | _ => exact absurd (show false = true from fx) Bool.false_ne_true
  | bl a =>
    cases ry
    cases x with
    | non => cases rx; exact SeqAt.EqAt.bool_none a
    | bl b => cases rx; exact SeqAt.EqAt.bool_bool a b
    | int b => obtain ⟨t, rfl⟩ := rx; exact SeqAt.EqAt.bool_int a b t
    | str b => obtain ⟨t, rfl⟩ := rx; exact SeqAt.EqAt.bool_str a b t
    | _ => exact absurd (show false = true from fx) Bool.false_ne_true
  | int a =>
    obtain ⟨t', rfl⟩ := ry
    cases x with
    | non => cases rx; exact SeqAt.EqAt.int_none a t'
    | bl b => cases rx; exact SeqAt.EqAt.int_bool a t' b
    | int b => obtain ⟨t, rfl⟩ := rx; exact SeqAt.EqAt.int_int a t' b t
    | str b => obtain ⟨t, rfl⟩ := rx; exact SeqAt.EqAt.int_str a t' b t
    | _ => exact absurd (show false = true from fx) Bool.false_ne_true
  | str a =>
    obtain ⟨t', rfl⟩ := ry
    cases x with
    | non => cases rx; exact SeqAt.EqAt.str_none a t'
    | bl b => cases rx; exact SeqAt.EqAt.str_bool a t' b
    | int b => obtain ⟨t, rfl⟩ := rx; exact SeqAt.EqAt.str_int a t' b t
    | str b => obtain ⟨t, rfl⟩ := rx; exact SeqAt.EqAt.str_str a t' b t
    | _ => exact absurd (show false = true from fx) Bool.false_ne_true
  | _ => exact absurd (show false = true from fy) Bool.false_ne_true
/-- the items' answers, read off the values (a value's own answer does not lean on its token) -/
def eqU (x : V) (u : Value) : Bool := match u with
  | .none => eqV .non x
  | .bool b => eqV (.bl b) x
  | .int i _ => eqV (.int i) x
  | .str z _ => eqV (.str z) x
  | _ => false
theorem eqU_of {x y : V} {u : Value} (r : RelV y u) (f : flatV y = true) : eqU x u = eqV y x := by
  cases y with
  | non => cases r; rfl
  | bl b => cases r; rfl
  | int i => obtain ⟨t, rfl⟩ := r; rfl
  | str z => obtain ⟨t, rfl⟩ := r; rfl
  | _ => exact absurd (show false = true from f) Bool.false_ne_true
theorem any_eqU {x : V} : ∀ {xs : List V} {us : List Value}, Vals xs us → xs.all flatV = true → us.any (eqU x) = xs.any fun y => eqV y x
  | _, _, .nil, _ => rfl
  | y :: xs, u :: us, .cons r t, f => by
    rw [List.all_cons, Bool.and_eq_true] at f
    rw [List.any_cons, List.any_cons, eqU_of r f.1, any_eqU t f.2]
theorem mem_eqAt {A : Around} {s : Shared} {x : V} {v : Value} (rx : RelV x v) (fx : flatV x = true) : ∀ {xs : List V} {us : List Value}, Vals xs us → xs.all flatV = true → ∀ u ∈ us, SeqAt.EqAt A s u v (eqU x u)
  | _, _, .nil, _ => fun u hu => by cases hu
  | y :: xs, u :: us, .cons r t, f => fun u' hu => by
    rw [List.all_cons, Bool.and_eq_true] at f
    rcases List.mem_cons.mp hu with rfl | hu
    · rw [eqU_of r f.1]; exact eqAt_V r rx f.1 fx
    · exact mem_eqAt rx fx t f.2 u' hu
def inV (x : V) (xs : List V) : Bool := xs.any fun y => eqV y x
/-- x in a list or tuple of flat items -/
def rIn (K : PySem.W.Frag) (neg : Bool) : R2 := fun x y H Q => ∃ p xs, y = .ref p ∧ (SqL K H p xs ∨ SqT K H p xs) ∧ flatV x = true ∧ xs.all flatV = true ∧ Q (.bl (if neg then !inV x xs else inV x xs)) H
theorem op_notIn_seq : OpR X (compareOp .NotIn) (rIn X.K true) := by
  intro pins s σ H x y v u Q I rx ry h
  obtain ⟨p, xs, rfl, hq, fx, fs, q⟩ := h
  cases ry
  rcases hq with hq | hq
  · obtain ⟨its, r, pl, hz⟩ := I.list hq
    refine SeqAt.notIn_listAt (eqU x) pl.isList (fun w hw => mem_eqAt rx fx r fs w (by simpa using hw)) ⟨.bl _, H, I, rfl, ?_⟩
    rw [show its.toArray.any (eqU x) = its.any (eqU x) by simp, any_eqU r fs]
    exact q
  · obtain ⟨its, r, pl, hz⟩ := I.tuple hq
    refine SeqAt.notIn_tupleAt (eqU x) pl (fun w hw => mem_eqAt rx fx r fs w (by simpa using hw)) ⟨.bl _, H, I, rfl, ?_⟩
    rw [show its.toArray.any (eqU x) = its.any (eqU x) by simp, any_eqU r fs]
    exact q
theorem call_len_seq : CallR X (.builtin "len") (fun xs H Q => ∃ p ys, xs = [.ref p] ∧ (SqL X.K H p ys ∨ SqT X.K H p ys) ∧ Q (.int ys.length) H) := by
  intro pins s σ H xs us Q I r h
  obtain ⟨p, ys, rfl, hq, q⟩ := h
  obtain ⟨u, rfl, rx⟩ := vals1 r
  cases rx
  have hn := line63
  rcases hq with hq | hq
  · obtain ⟨its, r', pl, hz⟩ := I.list hq
    have hlen := r'.length
    exact Calls.call_len_list pl.isList (by simp only [List.size_toArray] <;> omega) ⟨.int ys.length, H, I.tok _, ⟨s.toks + 1, by rw [List.size_toArray, hlen]⟩, q⟩
  · obtain ⟨its, r', pl, hz⟩ := I.tuple hq
    have hlen := r'.length
    exact len_tuple pl (by simp only [List.size_toArray] <;> omega) ⟨.int ys.length, H, I.tok _, ⟨s.toks + 1, by rw [List.size_toArray, hlen]⟩, q⟩
theorem call_list_of : CallR X (.type "list") (fun xs H Q => ∃ p ys, xs = [.ref p] ∧ (SqL X.K H p ys ∨ SqT X.K H p ys) ∧ ∀ l, H l = none → Q (.ref l) (upd H l (.lst ys))) := by
  intro pins s σ H xs us Q I r h
  obtain ⟨p, ys, rfl, hq, q⟩ := h
  obtain ⟨u, rfl, rx⟩ := vals1 r
  cases rx
  have fin : ∀ (its : List Value), Vals ys its → ys.length ≤ sizeLine → ∀ (h' : Heap) (c' : Nat), (∀ b o', s.heap.get? b = some o' → h'.get? b = some o') →
      h'.get? s.heap.objs.size = some { cls := .type "list", dict := none, data := .seq its.toArray c', slots := #[] } → EP X pins σ Q (.ref s.heap.objs.size) { s with heap := h' } := fun its r' hz h' c' kp e =>
    ⟨.ref s.heap.objs.size, _, I.laid (t' := s.toks) kp (Nat.le_refl _) (show ObjOk X.prog X.w _ h' _ (.lst ys) from ⟨hz, its, c', r', e⟩), rfl, q _ (I.hok.fresh (Nat.le_refl _))⟩
  rcases hq with hq | hq
  · obtain ⟨its, r', pl, hz⟩ := I.list hq
    have hlen := r'.length
    obtain ⟨o, ho, hc, n, hd⟩ := pl.isList
    exact call_list_seq p (.inl rfl) ho hc hd (fun h' c' kp e => fin its r' hz h' c' kp e) (by simp only [List.size_toArray] <;> omega)
  · obtain ⟨its, r', pl, hz⟩ := I.tuple hq
    have hlen := r'.length
    obtain ⟨o, ho, hc, n, hd⟩ := pl
    exact call_list_seq p (.inr rfl) ho hc hd (fun h' c' kp e => fin its r' hz h' c' kp e) (by simp only [List.size_toArray] <;> omega)
theorem call_tuple_of : CallR X (.type "tuple") (fun xs H Q => ∃ p ys, xs = [.ref p] ∧ ((SqL X.K H p ys ∧ ∀ l, H l = none → Q (.ref l) (upd H l (.tup ys))) ∨ (SqT X.K H p ys ∧ Q (.ref p) H))) := by
  intro pins s σ H xs us Q I r h
  obtain ⟨p, ys, rfl, h⟩ := h
  obtain ⟨u, rfl, rx⟩ := vals1 r
  cases rx
  rcases h with ⟨hq, q⟩ | ⟨hq, q⟩
  · obtain ⟨its, r', pl, hz⟩ := I.list hq
    have hlen := r'.length
    refine call_tuple_list pl.isList (fun h' kp => ?_) (by simp only [List.size_toArray] <;> omega)
    have I1 : Inv X pins σ H { s with heap := h' } := I.kept (t' := s.toks) kp
    have I2 : Inv X pins σ (upd H h'.objs.size (.tup ys)) { s with heap := h'.push { cls := .type "tuple", data := .seq its.toArray } } :=
      I1.laid (t' := s.toks) (fun b o e => Heap.get?_push_of_some _ e) (Nat.le_refl _) (show ObjOk X.prog X.w _ _ _ (.tup ys) from ⟨hz, its, r', IsTup.new _ _⟩)
    exact ⟨.ref h'.objs.size, _, I2, rfl, q _ (I1.hok.fresh (Nat.le_refl _))⟩
  · obtain ⟨its, r', pl, hz⟩ := I.tuple hq
    exact call_tuple_same pl ⟨.ref p, H, I, rfl, q⟩

/-- the value is of that builtin type -/
def tyV (K : PySem.W.Frag) (T : String) (x : V) (H : Hp) : Prop := match x with
  | .str _ => T = "str"
  | .int _ => T = "int"
  | .ref p => (T = "list" ∧ ∃ xs, SqL K H p xs) ∨ (T = "tuple" ∧ ∃ o, K.lookup p = some o ∧ o.cls = .type "tuple" ∧ o.dict = none) ∨
      (T = "dict" ∧ ((∃ kvs, H p = some (.dK kvs)) ∨ ∃ kvs, H p = some (.dT kvs))) ∨ (T = "set" ∧ ∃ S n, H p = some (.set S n))
  | _ => False
theorem tyV_is {pins : List (Addr × Obj)} {σ : St} {H : Hp} {s : Shared} {T : String} {x : V} {v : Value} (I : Inv X pins σ H s) (r : RelV x v) (ty : tyV X.K T x H) :
    s.TypeIs v T ∧ ∀ a, v = .ref a → ∃ ob, s.heap.get? a = some ob ∧ ob.dict = none := by
  cases x with
  | str z =>
    obtain ⟨t, rfl⟩ := r
    cases (show T = "str" from ty)
    exact ⟨typeIs_str s z t, fun _ e => nomatch e⟩
  | int i =>
    obtain ⟨t, rfl⟩ := r
    cases (show T = "int" from ty)
    exact ⟨typeIs_int s i t, fun _ e => nomatch e⟩
  | ref p =>
    cases r
    rcases ty with ⟨rfl, xs, hq⟩ | ⟨rfl, o, hk, hc, hd⟩ | ⟨rfl, hk⟩ | ⟨rfl, S, n, hk⟩
    · obtain ⟨its, _, pl, _⟩ := I.list hq
      refine ⟨pl.isList.typeIs, fun a e => ?_⟩
      cases e
      obtain ⟨o, n, e, c, hd, _⟩ := pl
      exact ⟨o, e, hd⟩
    · refine ⟨⟨o, I.kIn p o hk, hc⟩, fun a e => ?_⟩
      cases e
      exact ⟨o, I.kIn _ o hk, hd⟩
    · have z : ∃ o, s.heap.get? p = some o ∧ o.ExactDict := by
        rcases hk with ⟨kvs, hk⟩ | ⟨kvs, hk⟩
        · obtain ⟨_, _, _, _, o, _, _, e, ex, _⟩ := I.hok p _ hk
          exact ⟨o, e, ex⟩
        · obtain ⟨_, _, _, _, o, _, _, e, ex, _⟩ := I.hok p _ hk
          exact ⟨o, e, ex⟩
      obtain ⟨o, e, ex⟩ := z
      refine ⟨⟨o, e, ex.1⟩, fun a e2 => ?_⟩
      cases e2
      exact ⟨o, e, ex.2.1⟩
    · obtain ⟨o, _, _, _, e, ex, _⟩ := I.hok p _ hk
      refine ⟨⟨o, e, ex.1⟩, fun a e2 => ?_⟩
      cases e2
      exact ⟨o, e, ex.2.1⟩
  | _ => exact False.elim ty
def tBM0 (K : PySem.W.Frag) (T : String) (r : V → List V → Hp → VK → Prop) (to : TE) : TE := fun σ H Q => to σ H fun x H1 => tyV K T x H1 ∧ r x [] H1 Q
def tBM (K : PySem.W.Frag) (T : String) (r : V → List V → Hp → VK → Prop) (to : TE) (t : TA) : TE := fun σ H Q => to σ H fun x H1 => tyV K T x H1 ∧ t σ H1 fun xs H2 => r x xs H2 Q
variable {o e : Expr} {es : List Expr} {to : TE} {t : TA} {name : Str} {apos cpos : Pos} {T id : String} {r : V → List V → Hp → VK → Prop}
theorem pe_bm0 (pa : PlainAttrs T) (slot : Slot T name id) (hty : typeOf (.builtin id) = pure (.type "method_descriptor")) (hm : MtR X id r) (ho : PE X o to)
    (hbase : attributeBase o name X.env (eval o X.env) = eval o X.env := by rfl) (hline : (apos.endLine == cpos.line) = true := by rfl) : PE X (.Call (.Attribute o name apos) [] [] cpos) (tBM0 X.K T r to) := by
  intro pins s σ H Q I h
  refine wpAny_Call_method0_late hbase hline (thn (ho pins s σ H _ I h) fun v s1 ⟨x, H1, I1, r1, ty, q1⟩ => ?_)
  obtain ⟨h1, h2⟩ := tyV_is I1 r1 ty
  exact ⟨T, id, pa, slot, hty, h1, h2, Calls.callWith_builtin rfl (PySem.evalArgs_none (hm pins s1 σ H1 x [] v [] Q I1 r1 .nil q1))⟩
theorem pe_bm (pa : PlainAttrs T) (slot : Slot T name id) (hty : typeOf (.builtin id) = pure (.type "method_descriptor")) (hm : MtR X id r) (ho : PE X o to) (ha : PA X (e :: es) t)
    (hbase : attributeBase o name X.env (eval o X.env) = eval o X.env := by rfl)
    (hfew : ((backTo cpos (starEach (e :: es) X.env)).all (fun x => !x.1) && (backToKw cpos (keywordEach [] X.env)).all (fun x => x.1.isSome)
      && decide ((e :: es).length + ([] : List Keyword).length + (if ([] : List Keyword).isEmpty then 0 else 1) < 30)) = true := by rfl)
    (hline : (apos.endLine == cpos.line) = true := by rfl) (hs : starEach (e :: es) X.env = (false, eval e X.env) :: starEach es X.env := by rfl) (hplain : (backTo cpos (starEach es X.env)).any (·.1) = false := by rfl) :
    PE X (.Call (.Attribute o name apos) (e :: es) [] cpos) (tBM X.K T r to t) := by
  intro pins s σ H Q I h
  refine wpAny_Call_method_late hbase hfew hline rfl (thn (ho pins s σ H _ I h) fun v s1 ⟨x, H1, I1, r1, ty, q1⟩ => ?_)
  obtain ⟨h1, h2⟩ := tyV_is I1 r1 ty
  refine ⟨T, id, pa, slot, hty, h1, h2, ?_⟩
  have hA := ha cpos pins s1 σ H1 _ I1 q1
  rw [hs] at hA ⊢
  refine Calls.callWith_builtin (by show (false || (backTo cpos (starEach es X.env)).any (·.1)) = false; rw [hplain] <;> rfl) (Calls.evalArgs_plain ?_)
  exact thn hA fun us s2 ⟨vs, H2, I2, r2, q2⟩ => hm pins s2 σ H2 x vs v us Q I2 r1 r2 q2
/- xs.append(e), list.index on a module's tuple .. are MtR facts of 06m -/
end
end L2

namespace L2
open PySem PySem.Spec PyProof.Rows

def MtM (X : Cx) (id : String) (r : V → List V → Hp → VK → Prop) : Prop :=
  ∀ (pins : List (Addr × Obj)) (s : Shared) (σ : St) (H : Hp) (x : V) (xs : List V) (v : Value) (us : List Value) (Q : VK), Inv X pins σ H s → RelV x v → Vals xs us → r x xs H Q →
    wpAny (model X.prog X.w) X.A (call (.builtin id) (v :: us)) (EP X pins σ Q) X.xe s

theorem Vals.one : ∀ {x : V} {us : List Value}, Vals [x] us → ∃ u, us = [u] ∧ RelV x u
  | _, _, .cons r .nil => ⟨_, rfl, r⟩
theorem Vals.two : ∀ {x y : V} {us : List Value}, Vals [x, y] us → ∃ u v, us = [u, v] ∧ RelV x u ∧ RelV y v
  | _, _, _, .cons r (.cons q .nil) => ⟨_, _, rfl, r, q⟩
theorem Vals.zero : ∀ {us : List Value}, Vals [] us → us = []
  | _, .nil => rfl
theorem Vals.dropLast {xs : List V} {us : List Value} (h : Vals xs us) : Vals xs.dropLast us.dropLast := by
  induction h with
  | nil => exact .nil
  | cons r t ih =>
    cases t with
    | nil => exact .nil
    | cons q t' => exact .cons r ih
theorem Vals.eraseIdx : ∀ {xs : List V} {us : List Value} (i : Nat), Vals xs us → Vals (xs.eraseIdx i) (us.eraseIdx i)
  | _, _, _, .nil => .nil
  | _, _, 0, .cons _ t => t
  | _, _, i + 1, .cons r t => .cons r (Vals.eraseIdx i t)
theorem erase_last {α : Type} (l : List α) : l.eraseIdx (l.length - 1) = l.dropLast := by
  induction l with
  | nil => rfl
  | cons a r ih =>
    cases r with
    | nil => rfl
    | cons b r =>
      have e : (a :: b :: r).length - 1 = ((b :: r).length - 1) + 1 := by
        have h1 : (a :: b :: r).length = r.length + 2 := rfl
        have h2 : (b :: r).length = r.length + 1 := rfl
        omega
      rw [e, List.eraseIdx_cons_succ, ih]
      all_goals rfl
theorem len_erase {α : Type} : ∀ (l : List α) (i : Nat), (l.eraseIdx i).length ≤ l.length
  | [], _ => Nat.le_refl _
  | _ :: _, 0 => Nat.le_succ _
  | _ :: r, i + 1 => Nat.succ_le_succ (len_erase r i)
section
variable {X : Cx} {pins : List (Addr × Obj)} {σ : St} {H : Hp} {s : Shared} {l b : Addr} {xs ys zs : List V}

theorem Inv.lset {its its' : List Value} {n : Nat} {f : Array Value → Array Value} {t' : Nat} (I : Inv X pins σ H s) (hH : H l = some (.lst xs))
    (e : s.heap.get? l = some { cls := .type "list", data := .seq its.toArray n }) (hf : f its.toArray = its'.toArray) (hv : Vals ys its') (hz : ys.length ≤ sizeLine) :
    Inv X pins σ (upd H l (.lst ys)) { s with heap := s.heap.update l (Obj.mapSeq f), toks := t' } := by
  have q := PySem.IsL.update e f
  rw [hf] at q
  refine I.write (x := l) (e := l) (by rw [hH]; exact trivial) (.inl rfl) (fun b' u hb hu => (Heap.get?_update_other s.heap (Obj.mapSeq f) (Ne.symm hb)).trans hu) ⟨_, q⟩ ?_
  exact ⟨hz, its', _, hv, q⟩
theorem Inv.lnew {its : List Value} {t' : Nat} (I : Inv X pins σ H s) (hv : Vals ys its) (hz : ys.length ≤ sizeLine) :
    Inv X pins σ (upd H s.heap.objs.size (.lst ys)) { s with heap := s.heap.push { cls := .type "list", data := .seq its.toArray }, toks := t' } :=
  I.laid (fun _ _ q => Heap.get?_push_of_some _ q) (Nat.le_refl _) ⟨hz, its, 0, hv, Heap.get?_push_size _ rfl⟩
theorem Inv.fresh (I : Inv X pins σ H s) : H s.heap.objs.size = none := I.hok.fresh (Nat.le_refl _)
theorem Inv.lstM (I : Inv X pins σ H s) (hH : H l = some (.lst xs)) : xs.length ≤ sizeLine ∧ ∃ (its : List Value) (n : Nat), Vals xs its ∧ xs.length = its.length ∧ s.heap.get? l = some { cls := .type "list", data := .seq its.toArray n } := by
  obtain ⟨z, its, n, r, e⟩ := I.hok l _ hH
  exact ⟨z, its, n, r, r.length, e⟩

theorem notLongL {n : Nat} (h : n ≤ sizeLine) : Builtin.List.listTooLong n = false := by
  unfold Builtin.List.listTooLong
  exact decide_eq_false (by omega)
end

section
variable {X : Cx}

def rAppend : V → List V → Hp → VK → Prop := fun x vs H Q => ∃ l xs y, x = .ref l ∧ vs = [y] ∧ H l = some (.lst xs) ∧ xs.length < sizeLine ∧ Q .non (upd H l (.lst (xs ++ [y])))
theorem mt_append : MtM X "list.append" rAppend := by
  intro pins s σ H x vs v us Q I rx rv h
  obtain ⟨l, xs, y, rfl, rfl, hH, hz, q⟩ := h
  cases rx
  obtain ⟨u, rfl, ru⟩ := rv.one
  obtain ⟨z, its, n, r, hl, e⟩ := I.lstM hH
  refine call_meets F.slot_list_append ⟨_, e, rfl⟩ F.entry_list_append (F.args_list_append_2 _ _) (PySem.list_append l its.toArray n u (by rw [List.size_toArray]; omega)) ⟨e, ?_⟩
  refine ⟨.non, _, I.lset (its' := its ++ [u]) hH e (by simp) (r.append (.cons ru .nil)) ?_, rfl, q⟩
  rw [List.length_append, List.length_singleton]
  omega

def rExtend : V → List V → Hp → VK → Prop := fun x vs H Q => ∃ l b xs zs, x = .ref l ∧ vs = [.ref b] ∧ H l = some (.lst xs) ∧ H b = some (.lst zs) ∧ xs.length + zs.length ≤ sizeLine ∧ Q .non (upd H l (.lst (xs ++ zs)))
theorem mt_extend : MtM X "list.extend" rExtend := by
  intro pins s σ H x vs v us Q I rx rv h
  obtain ⟨l, b, xs, zs, rfl, rfl, hH, hB, hz, q⟩ := h
  cases rx
  obtain ⟨u, rfl, ru⟩ := rv.one
  cases ru
  obtain ⟨z, its, n, r, hl, e⟩ := I.lstM hH
  obtain ⟨z2, its2, n2, r2, hl2, e2⟩ := I.lstM hB
  have hsz : its.toArray.size + its2.toArray.size ≤ sizeLine := by rw [List.size_toArray, List.size_toArray]; omega
  have hlong : ¬ (!its.toArray.isEmpty && Builtin.List.listTooLong (its.toArray.size + its2.toArray.size)) = true := by
    rw [notLongL hsz, Bool.and_false]
    exact Bool.false_ne_true
  refine call_meets F.slot_list_extend ⟨_, e, rfl⟩ F.entry_list_extend (F.args_list_extend_2 _ _)
    (AutoSeq1.list_extend_list_list_0 l its.toArray n b its2.toArray n2 hlong (by rw [List.size_toArray]; omega) (by omega)) ⟨e, e2, ?_⟩
  refine ⟨.non, _, I.lset (its' := its ++ its2) hH e (by simp) (r.append r2) ?_, rfl, q⟩
  rw [List.length_append]
  omega

def rPop : V → List V → Hp → VK → Prop := fun x vs H Q => ∃ l xs y, x = .ref l ∧ vs = [] ∧ H l = some (.lst xs) ∧ xs[xs.length - 1]? = some y ∧ Q y (upd H l (.lst xs.dropLast))
theorem mt_pop : MtM X "list.pop" rPop := by
  intro pins s σ H x vs v us Q I rx rv h
  obtain ⟨l, xs, y, rfl, rfl, hH, hy, q⟩ := h
  cases rx
  have hus := rv.zero
  subst hus
  obtain ⟨z, its, n, r, hl, e⟩ := I.lstM hH
  obtain ⟨u, hu, ru⟩ := r.get hy
  have hy' : its.toArray[its.toArray.size - 1]? = some u := by
    show its.toArray[its.length - 1]? = some u
    rw [← Array.getElem?_toList, ← hl]
    exact hu
  refine call_meets F.slot_list_pop ⟨_, e, rfl⟩ F.entry_list_pop (F.args_list_pop_1 _) (MeetsSeq.list_pop_last l its.toArray n u hy' (by rw [List.size_toArray]; omega)) ⟨e, ?_⟩
  refine ⟨y, _, I.lset (its' := its.dropLast) hH e ?_ r.dropLast ?_, ru, q⟩
  · show its.toArray.eraseIdxIfInBounds (its.toArray.size - 1) = its.dropLast.toArray
    rw [List.size_toArray, List.eraseIdxIfInBounds_toArray, erase_last]
  · rw [List.length_dropLast]
    omega

def rPopAt : V → List V → Hp → VK → Prop := fun x vs H Q => ∃ l xs i k y, x = .ref l ∧ vs = [.int i] ∧ H l = some (.lst xs) ∧ -(2 ^ 63) ≤ i ∧ i < 2 ^ 63 ∧ seqIndex? i xs.length = some k ∧ xs[k]? = some y ∧ Q y (upd H l (.lst (xs.eraseIdx k)))
theorem mt_popAt : MtM X "list.pop" rPopAt := by
  intro pins s σ H x vs v us Q I rx rv h
  obtain ⟨l, xs, i, k, y, rfl, rfl, hH, h1, h2, hk, hy, q⟩ := h
  cases rx
  obtain ⟨u, rfl, ru⟩ := rv.one
  obtain ⟨t, rfl⟩ := ru
  obtain ⟨z, its, n, r, hl, e⟩ := I.lstM hH
  obtain ⟨w, hw, rw'⟩ := r.get hy
  refine call_meets F.slot_list_pop ⟨_, e, rfl⟩ F.entry_list_pop (F.args_list_pop_2 _ _)
    (MeetsSeq.list_pop_at l its.toArray n i t k w (fitsIndex_both h1 h2) (by rw [List.size_toArray, ← hl]; exact hk) (by rw [← Array.getElem?_toList]; exact hw) (by rw [List.size_toArray]; omega)) ⟨e, ?_⟩
  refine ⟨y, _, I.lset (its' := its.eraseIdx k) hH e ?_ (r.eraseIdx k) ?_, rw', q⟩
  · show its.toArray.eraseIdxIfInBounds k = (its.eraseIdx k).toArray
    rw [List.eraseIdxIfInBounds_toArray]
  · have := len_erase xs k
    omega

def rClear : V → List V → Hp → VK → Prop := fun x vs H Q => ∃ l xs, x = .ref l ∧ vs = [] ∧ H l = some (.lst xs) ∧ Q .non (upd H l (.lst []))
theorem mt_clear : MtM X "list.clear" rClear := by
  intro pins s σ H x vs v us Q I rx rv h
  obtain ⟨l, xs, rfl, rfl, hH, q⟩ := h
  cases rx
  have hus := rv.zero
  subst hus
  obtain ⟨z, its, n, r, hl, e⟩ := I.lstM hH
  refine call_meets F.slot_list_clear ⟨_, e, rfl⟩ F.entry_list_clear (F.args_list_clear_1 _) (AutoSeq1.list_clear_list_0 l its.toArray n (by rw [List.size_toArray]; omega)) ⟨e, ?_⟩
  exact ⟨.non, _, I.lset (its' := []) (ys := []) hH e rfl .nil (Nat.zero_le _), rfl, q⟩

def rCat : R2 := fun x y H Q => ∃ l b xs zs, x = .ref l ∧ y = .ref b ∧ H l = some (.lst xs) ∧ H b = some (.lst zs) ∧ xs.length + zs.length ≤ sizeLine ∧ ∀ p, H p = none → Q (.ref p) (upd H p (.lst (xs ++ zs)))
/-- a list times an int (a negative one is nothing) -/
def rRep : R2 := fun x y H Q => ∃ l k xs, x = .ref l ∧ y = .int k ∧ H l = some (.lst xs) ∧ -(2 ^ 63) ≤ k ∧ k < 2 ^ 63 ∧ xs.length * k.toNat ≤ sizeLine ∧
  ∀ p, H p = none → Q (.ref p) (upd H p (.lst (List.replicate k.toNat xs).flatten))
end

section
variable {prog : Program} {w : World} {A : Around} {E : Value → Shared → Prop} {s : Shared}
end

section
variable {X : Cx}
end
end L2

namespace Att
open PySem PySem.W PySem.Calls PyProof.Rows

theorem ints_of_wellAll {P : Params} {h : Heap} : ∀ (ns : List Int) (vs : List Value), WellAll P h vs (ns.map WData.int) → IntsAre vs ns := by
  intro ns
  induction ns with
  | nil =>
    intro vs w
    rw [List.map_nil] at w
    cases w
    exact .nil
  | cons n ns ih =>
    intro vs w
    rw [List.map_cons] at w
    cases w with
    | cons a b =>
      cases a
      exact .cons _ _ (ih _ b)

theorem script_of {l : OpenLaw} {n : Nat} (hn : l.most = some n) {P : Params} {h : Heap} {args : List WData} {vals : List Value}
    (hpre : l.row.toRowW.claim.pre args = true) (hwl : WellAll P h vals args) :
    ∃ a vs ns, vals = [Value.ref a] ∧ args = [WData.list (ns.map WData.int)] ∧ h.get? a = some { cls := .type "list", data := .seq vs.toArray } ∧ IntsAre vs ns ∧ ns.length ≤ n := by
  have hsh : WShape.hasAll [] args [.list .int] = true := (pre_splitW hpre).1
  have hc : l.pre.holds [] { args := args } = true := (pre_splitW hpre).2
  obtain ⟨d, r, rfl, h1, h2⟩ := hasAllW_cons hsh
  obtain rfl := hasAllW_nil h2
  obtain ⟨xs, rfl, h3⟩ := hasW_list h1
  obtain ⟨ns, rfl⟩ := items_int h3
  have hlen : ns.length ≤ n := by
    unfold OpenLaw.pre at hc
    have h4 : (WTm.not (.lt (.lit (.int (n : Int))) (.len (.arg 0)))).holds [] { args := [.list (ns.map .int)] } = true := by
      have h4 := (holds_andW hc).1
      rw [hn] at h4
      exact h4
    have h5 := condW_of h4 (w_not (w_lt w_lit (w_len_list (w_arg rfl))))
    rw [List.length_map] at h5
    refine Nat.le_of_not_lt fun q => ?_
    have q' : (n : Int) < ((ns.length : Nat) : Int) := by omega
    first
      | (rw [decide_eq_true q'] at h5; exact absurd h5 (by decide))
      | (simp at h5; omega)
  cases hwl with
  | cons w1 w2 =>
    cases w2
    cases w1 with
    | list ho hall => exact ⟨_, _, ns, rfl, rfl, ho, ints_of_wellAll ns _ hall, hlen⟩

theorem post_true (l : OpenLaw) (args : List WData) : l.row.toRowW.claim.post args (.bool true) args = true :=
  postW_of (r := l.row.toRowW) (X := (true == true))
    (show WShape.has [] (.bool true) .bool = true by first | rfl | decide | simp [WShape.has, WShape.arms, WShape.armsAll])
    (show (WTm.eq .res (.lit (.bool true))).value [] { args := args, res := some (.bool true), after := args } = some (.bool (true == true)) from w_eq_bool (w_res rfl) w_lit) rfl

/-- the same from a codeAny of the CALL (for a layer whose function contracts speak of calls) -/
theorem attach_call {l : OpenLaw} {n : Nat} {q : Program} {loose : List Str} {XP : (Str → Option Value) → Heap → Prop} {YP : World → Heap → Prop} {d : DefRec}
    (hn : l.most = some n) (hdf : d.params.defaults = [])
    (call : ∀ (w : World) (s₀ s₁ : Shared) (mg mb : Str → Option Value) (fa : Addr) (o : Obj) (pm cd doc : Value) (a : Addr) (vs : List Value) (ns : List Int),
      Ground q loose [] XP w s₀ mg mb s₁.heap → YP w s₁.heap →
      s₁.heap.get? fa = some o → o.data = .func (docDef d.name d.params d.body d.scope pm cd doc) → s₁.heap.CodeRec cd d.name → mg d.name = some (.ref fa) →
      s₁.heap.get? a = some { cls := .type "list", data := .seq vs.toArray } → IntsAre vs ns → ns.length ≤ n → s₁.gens = #[] →
      codeAny (model l.prog w) callerA (.call (.ref fa) ⟨[.ref a], []⟩) (fun r s' => r = .ok (.ret (.bool true)) ∧ OldK s₁.heap s'.heap ∧ s'.os = s₁.os ∧ AllBare s'.gens) s₁) :
    WalkO q loose XP YP l.row.toRowW d [] (fun f vs => PySem.call f vs) := by
  intro w s₀ s₁ mg mb G Y fa o pm cd doc dV kV ho hd hcd hD hmg hg args vals as hpre hlay hrd hwl hlo
  obtain rfl : dV = .none := Dflts.none hD hdf
  obtain rfl : kV = .none := Dflts.noKw hD
  obtain ⟨a, vs, ns, rfl, rfl, hobj, hints, hlen⟩ := script_of hn hpre hwl
  refine enter_call (codeAny_mono (call w s₀ s₁ mg mb fa o pm cd doc a vs ns G Y ho (fd_plain hd) hcd hmg hobj hints hlen hg) fun r s' hq => ?_)
  obtain ⟨rfl, h2, h3, h4⟩ := hq
  exact ⟨.inl ⟨.bool true, .bool true, [], rfl, fun _ => rfl, .bool true, post_true l _, fun _ => ⟨List.Pairwise.nil, fun _ hm => (nomatch hm)⟩⟩, h2, h3, h4⟩

section
variable {prog : Program} {w : World} {A : Around} {E : Value → Shared → Prop} {s : Shared} {K : Frag}

end
end Att

namespace L2
open PySem PySem.Spec PyProof.Rows

theorem vals_ints : ∀ {vs : List Value} {ns : List Int}, IntsAre vs ns → Vals (ns.map V.int) vs
  | _, _, .nil => .nil
  | _, _, .cons n t h => .cons ⟨t, rfl⟩ (vals_ints h)

/-- nothing is tracked but the script, known to the object (or it is an object of the module) -/
def Only (H : Hp) : Prop := ∀ b, H b = none ∨ ∃ o xs, H b = some (.frz o (.lst xs))

/-- THE HEAD: the law's promise, at the heap behind the top. F, the promise of the law's def, may use that base is part of the heap (so K.In base, base.Ns mainGlobals mg stand in Mod) -/
theorem law_call {P : Program} {w : World} {K : PySem.W.Frag} {mg mb : Str → Option Value} {CX : CXT} {k : Nat} {fa a : Addr} {fd : FuncData} {x : Str} {sp : Sp} {s₁ : Shared} {vs : List Value} {ns : List Int}
    (KX : K.In s₁.heap) (hns : s₁.heap.Ns mainGlobals mg) (hb : s₁.heap.Ns builtinsNs mb) (hbb : ∀ x : Str, x ≠ "__name__" → mb x = bootBuiltins x) (hlim : s₁.heap.NoLimit) (hg : s₁.gens = #[])
    (ha : s₁.heap.get? a = some { cls := .type "list", data := .seq vs.toArray }) (hi : IntsAre vs ns) (hl : ns.length ≤ sizeLine) (hr : Room k callerA)
    (F : ∀ base : Heap, K.In base → base.Ns mainGlobals mg → FnOk P w K mg base CX k fa fd [x] sp) (hbind : ∀ (s : Shared) (u : Value), BindsTo s fd ⟨[u], []⟩ [(x, u)])
    (hsp : ∀ H : Hp, Only H → SqL K H a (ns.map V.int) → sp [.ref a] H (fun v _ => v = .bl true) fun _ _ _ => False)
    (hCX : ∀ H e s', CX [] H s₁ (fun _ _ _ => False) e s' → False) :
    codeAny (model P w) callerA (.call (.ref fa) ⟨[.ref a], []⟩) (fun r s' => r = .ok (.ret (.bool true)) ∧ OldK s₁.heap s'.heap ∧ s'.os = s₁.os ∧ AllBare s'.gens) s₁ := by
  have rv := vals_ints hi
  have lenV := hi.length
  -- from an abstract heap in which nothing but the script may be tracked
  have core : ∀ H : Hp, Only H → SqL K H a (ns.map V.int) → HOk P w H s₁.heap → (∀ b, H b ≠ none → b = a) → (H a ≠ none → K.lookup a = none) →
      codeAny (model P w) callerA (.call (.ref fa) ⟨[.ref a], []⟩) (fun r s' => r = .ok (.ret (.bool true)) ∧ OldK s₁.heap s'.heap ∧ s'.os = s₁.os ∧ AllBare s'.gens) s₁ := by
    intro H hO hS hok hA hK
    have base_of : ∀ {b : Addr} {o : Obj}, s₁.heap.get? b = some o → H b = none → (hidT s₁.heap H).get? b = some o := fun e n => hidT_get e n
    have noA : ∀ {b : Addr} {o : Obj} {es : Array DictEntry} {ep : Nat}, s₁.heap.get? b = some o → o.data = .dict es ep → H b = none := fun {b o es ep} e d => by
      cases q : H b with
      | none => rfl
      | some u =>
        have e' : b = a := hA b (by rw [q]; simp)
        subst e'
        rw [ha] at e; cases e
        have d' : Data.seq vs.toArray _ = Data.dict es ep := d
        cases d'
    have nsK : ∀ {b : Addr} {m : Str → Option Value}, s₁.heap.Ns b m → (hidT s₁.heap H).Ns b m := fun {b m} ⟨o, es, ep, e, d, r⟩ => ⟨o, es, ep, base_of e (noA e d), d, r⟩
    have hKb : K.In (hidT s₁.heap H) := fun b o e => base_of (KX b o e) (by
      cases q : H b with
      | none => rfl
      | some u =>
        have e' : b = a := hA b (by rw [q]; simp)
        subst e'
        rw [hK (by rw [q]; simp)] at e; cases e)
    have hM : Mod K mg (hidT s₁.heap H) := ⟨hKb, nsK hns, ⟨mb, nsK hb, hbb⟩, let ⟨mc, h1, h2⟩ := hlim; ⟨mc, nsK h1, h2⟩⟩
    have e0 : Env0 P w K mg (hidT s₁.heap H) callerA [] s₁ H := ⟨rfl, hM, fun b o e => of_hidT e, Nat.le_of_eq (hidT_size _ _), trivial, fun b hb => absurd (show b ∈ ([] : List Addr) from hb) (by simp), hok, .of_eq hg⟩
    refine codeAny_mono ((F _ hKb (nsK hns)).run callerA [] s₁ H ⟨[.ref a], []⟩ [.ref a] [.ref a] _ _ hr e0 (hbind s₁ (.ref a)) (.cons rfl .nil) (hsp H hO hS)) fun r s' h => ?_
    cases r with
    | error e => exact (hCX H e s' h).elim
    | ok fl =>
      cases fl with
      | next => exact False.elim h
      | brk => exact False.elim h
      | cont => exact False.elim h
      | ret u =>
        obtain ⟨v, H', os, bare, un, hok', r', q⟩ := h
        have q' : v = .bl true := q
        subst q'
        obtain rfl : u = Value.bool true := r'
        refine ⟨rfl, OldK.of_keep fun b o e => ?_, os, bare⟩
        cases q : H b with
        | none => exact un.keep b o e q (by intro z; exact absurd (show b ∈ ([] : List Addr) from z) (by simp)) (by simp)
        | some u =>
          rcases hO b with z | ⟨ob, xs, z⟩
          · rw [q] at z; cases z
          · have z2 := un.frzs b ob _ z
            obtain ⟨e1, _⟩ := hok b _ z
            obtain ⟨e2, _⟩ := hok' b _ z2
            rw [e] at e1; cases e1
            exact e2
  cases hk : K.lookup a with
  | some o =>
    -- the script is one of the module's own objects
    have e := KX a o hk
    rw [ha] at e
    cases e
    refine core (fun _ => none) (fun _ => .inl rfl) (.inr ⟨_, vs.toArray, _, hk, rfl, rfl, rfl, by rw [List.size_toArray, lenV]; exact hl, by simpa using rv⟩) (fun b u z => by have z' : (none : Option HO) = some u := z; cases z') (fun b z => absurd rfl z) fun z => absurd rfl z
  | none =>
    refine core (fun b => if b = a then some (.frz { cls := .type "list", data := .seq vs.toArray } (.lst (ns.map V.int))) else none) (fun b => ?_) (.inl (.inr ⟨{ cls := .type "list", data := .seq vs.toArray }, if_pos rfl⟩)) (fun b u z => ?_) (fun b z => ?_) fun _ => hk
    · by_cases hb : b = a
      · exact .inr ⟨_, _, if_pos hb⟩
      · exact .inl (if_neg hb)
    · by_cases hb : b = a
      · have z' := (if_pos hb).symm.trans z
        cases z'
        subst hb
        exact ⟨ha, by rw [List.length_map]; exact hl, vs, _, rv, ha⟩
      · have z' := (if_neg hb).symm.trans z
        cases z'
    · by_cases hb : b = a
      · exact hb
      · exact absurd (if_neg hb) z
end L2

namespace L2
open PySem PySem.Spec PyProof.Rows

/-- the goal that k_head leaves (case hc), from the law's promise. F gives the function object fd (K's own) once, then the promise over every base -/
theorem walk_of {l : PySem.W.OpenLaw} {n k : Nat} {q : Program} {loose : List Str} {XP : (Str → Option Value) → Heap → Prop} {YP : World → Heap → Prop} {d : DefRec} {K : Params → PySem.W.Frag} {CX : World → CXT} {sp : World → Sp} {x : Str}
    (hn : l.most = some n) (hn2 : n ≤ sizeLine) (hdf : d.params.defaults = []) (hr : Room k callerA)
    (hY : ∀ (w : World) (h : Heap), YP w h → (K w.params).In h)
    (F : ∀ (w : World) (mg : Str → Option Value) (fa : Addr) (h : Heap), (K w.params).In h → h.Ns mainGlobals mg → mg d.name = some (.ref fa) →
      ∃ fd : FuncData, (∀ (s : Shared) (u : Value), BindsTo s fd ⟨[u], []⟩ [(x, u)]) ∧
        ∀ base : Heap, (K w.params).In base → base.Ns mainGlobals mg → FnOk l.prog w (K w.params) mg base (CX w) k fa fd [x] (sp w))
    (hsp : ∀ (w : World) (H : Hp) (a : Addr) (ns : List Int), ns.length ≤ n → Only H → SqL (K w.params) H a (ns.map V.int) → sp w [.ref a] H (fun v _ => v = .bl true) fun _ _ _ => False)
    (hCX : ∀ (w : World) (H : Hp) (s : Shared) (e : Value) (s' : Shared), CX w [] H s (fun _ _ _ => False) e s' → False) :
    PySem.W.WalkO q loose XP YP l.row.toRowW d [] (fun f vs => PySem.call f vs) := by
  refine Att.attach_call hn hdf fun w s₀ s₁ mg mb fa o pm cd doc a vs ns G Y ho hd hcd hmg hobj hints hlen hg => ?_
  have KX := hY w _ Y
  obtain ⟨fd, hb, hF⟩ := F w mg fa _ KX G.T.g hmg
  exact law_call KX G.T.g G.T.b G.T.builtins G.T.nolimit hg hobj hints (Nat.le_trans hlen hn2) hr hF hb (fun H hO hS => hsp w H a ns hlen hO hS) fun H e s' => hCX w H s₁ e s'
end L2

/- THE LAST THEOREM (shape; LID, My.* are yours):
   My.Adr: a structure of the addresses that your layer names (classes, functions); My.Txt K t: a structure (Prop) of the equations over K;
   My.txt_mk : {K} {implicit addresses ..} (e1 : nsIn K mainGlobals "law" = some (some (.ref f))) (e2 : K.lookup f = some ⟨oc, od, .func (fnOf "law" "law" params body scope dV kV doc pm an cdv ct), sl⟩) (e3 : codeIn K cdv "law" = true) .. : ∃ t, My.Txt K t

(the tactic k_is has no namespace: write k_is) -/

namespace L2
open PySem PySem.Spec PyProof.Rows

/-- the j-th statement of a class's body -/
def inClass (s : Stmt) (j : Nat) : Stmt := match s with
  | .ClassDef _ _ _ body _ _ _ _ _ _ _ => body.getD j (.Pass ⟨0, 0, 0, 0⟩)
  | _ => .Pass ⟨0, 0, 0, 0⟩
def defArgs (s : Stmt) : Arguments := match s with
  | .FunctionDef _ a _ _ _ _ _ _ _ _ => a
  | _ => { posonlyargs := [], args := [], vararg := none, kwonlyargs := [], kw_defaults := [], kwarg := none, defaults := [] }
def defBody (s : Stmt) : List Stmt := match s with
  | .FunctionDef _ _ b _ _ _ _ _ _ _ => b
  | _ => []
def defScope (s : Stmt) : Scope := match s with
  | .FunctionDef _ _ _ _ _ _ sc _ _ _ => sc
  | _ => { kind := .function, names := [], isGenerator := false, isCoroutine := false }

abbrev CX0 : CXT := fun _ _ _ _ _ _ => False
abbrev E0 : XK := fun _ _ _ => False
theorem pass0 {X : Cx} : Passes CX0 X E0 := fun _ _ _ _ _ _ _ h => h.elim

structure Fun (K : PySem.W.Frag) (x qual : Str) (st : Stmt) (f : Addr) (fd : FuncData) : Prop where
  ex : ∃ (oc : Value) (od : Option Addr) (kV doc pm : Value) (an : Option Addr) (cdv ct : Value) (osl : Array (Option Value)),
    fd = PySem.W.fnOf x qual (defArgs st) (defBody st) (defScope st) .none kV doc pm an cdv ct ∧ K.lookup f = some ⟨oc, od, .func fd, osl⟩ ∧ PySem.W.codeIn K cdv qual = true
  kp : PySem.W.keepIn K (.ref f) = true
section
variable {P : Program} {w : World} {K : PySem.W.Frag} {mg : Str → Option Value} {base : Heap}
/-- THE RULE for a def: its body as a term of rules, and the reading of that term -/
theorem Fun.ok {x qual : Str} {st : Stmt} {f : Addr} {fd : FuncData} {N ps : List Str} {k : Nat} {sp : Sp} (F : Fun K x qual st f fd) (S : FnScope N ps (defScope st)) (len : ∀ vs H Q E, sp vs H Q E → vs.length = ps.length)
    (hbody : ∀ (cdv : Value) (A : Around) (outer : List Env) (s : Shared) (H : Hp) (vs : List V) (Q : VK) (E : XK), Room k (A.deeper (envOfC qual (defScope st) s.heap.objs.size f cdv)) → sp vs H Q E →
      ∃ t, PSs (cxOf CX0 P w K mg base N qual (defScope st) f cdv A outer s H E).nox (defBody st) t ∧ t { nx := fun _ H' => Q .non H', rt := Q } (start N vs) H) : FnOk P w K mg base CX0 (k + 1) f fd ps sp := by
  obtain ⟨oc, od, kV, doc, pm, an, cdv, ct, osl, rfl, lk, hcd⟩ := F.ex
  refine fn_of lk hcd S len fun A outer s H vs Q E hr hsp => ?_
  obtain ⟨t, h, q⟩ := hbody cdv A outer s H vs Q E hr hsp
  exact ⟨t, h.nox, q⟩
/-- how its arguments bind (no defaults): h is «fun _ _ _ _ _ _ us hl => match us, hl with | [_, _], _ => rfl», one _ a parameter -/
theorem Fun.binds {x qual : Str} {st : Stmt} {f : Addr} {fd : FuncData} {ps : List Str} (F : Fun K x qual st f fd)
    (h : ∀ (kV doc pm : Value) (an : Option Addr) (cdv ct : Value) (us : List Value), us.length = ps.length → bindArgs (PySem.W.fnOf x qual (defArgs st) (defBody st) (defScope st) .none kV doc pm an cdv ct) ⟨us, []⟩ = pure (ps.zip us)) : Binds K fd ps [] := by
  obtain ⟨oc, od, kV, doc, pm, an, cdv, ct, osl, rfl, lk, hcd⟩ := F.ex
  exact .all (h kV doc pm an cdv ct)
theorem fun_mk {x qual : Str} {st : Stmt} {f : Addr} {oc : Value} {od an : Option Addr} {osl : Array (Option Value)} {kV doc pm cdv ct : Value} (l : K.lookup f = some ⟨oc, od, .func (PySem.W.fnOf x qual (defArgs st) (defBody st) (defScope st) .none kV doc pm an cdv ct), osl⟩)
    (c : PySem.W.codeIn K cdv qual = true) (k : PySem.W.keepIn K (.ref f) = true) : Fun K x qual st f (PySem.W.fnOf x qual (defArgs st) (defBody st) (defScope st) .none kV doc pm an cdv ct) := ⟨⟨oc, od, kV, doc, pm, an, cdv, ct, osl, rfl, l, c⟩, k⟩
end
theorem hu_of {A : Around} {k : Nat} (hr : Room k A) : A.units + 1 < cLine := Nat.lt_of_le_of_lt (Nat.add_le_add_left (by decide : 1 ≤ 64) _) hr.units
theorem small1000 {n : Nat} (h : n ≤ 1000) : n < sizeLine := Nat.lt_of_le_of_lt h (by decide)

section
variable {X : Cx}
theorem pv (i : Nat) {x : Str} {pos : Pos} (hN : X.N[i]? = some x := by rfl) (hv : Vis X.env.scope x := by first | exact Or.inl rfl | exact Or.inr (Or.inl rfl) | exact Or.inr (Or.inr rfl)) (hd : (x == ("__debug__" : Str)) = false := by decide)
    (hcd : (x == ("__classdict__" : Str)) = false := by decide) : PE X (.Name x pos) (tVar i) := pe_var hN hv hd hcd
end

/-- all that was tracked is as it was -/
def Same (H H' : Hp) : Prop := ∀ b o, H b = some o → H' b = some o
theorem Same.refl (H : Hp) : Same H H := fun _ _ h => h
theorem Same.trans {H H1 H2 : Hp} (a : Same H H1) (b : Same H1 H2) : Same H H2 := fun c o h => b c o (a c o h)
theorem Same.free {H H' : Hp} (e : Same H H') {l : Addr} (h : H' l = Option.none) : H l = Option.none := by
  cases q : H l with
  | none => rfl
  | some o =>
    rw [e l o q] at h
    cases h
theorem Same.seq {K : PySem.W.Frag} {H H' : Hp} {a : Addr} {xs : List V} (e : Same H H') (h : SqL K H a xs) : SqL K H' a xs := by
  rcases h with (h | ⟨o, h⟩) | h
  · exact .inl (.inl (e _ _ h))
  · exact .inl (.inr ⟨o, e _ _ h⟩)
  · exact .inr h

end L2

set_option Elab.async false
set_option linter.all false
set_option maxRecDepth 100000
set_option maxHeartbeats 4000000
namespace L2
open PySem PySem.Spec PyProof.Rows
structure Cal (P : Program) (w : World) (K : PySem.W.Frag) (mg : Str → Option Value) (base : Heap) (x : Str) (ps : List Str) (k : Nat) (sp : Sp) : Prop where
  ex : ∃ (f : Addr) (fd : FuncData), FnOk P w K mg base CX0 k f fd ps sp ∧ Binds K fd ps [] ∧ PySem.W.keepIn K (.ref f) = true ∧ mg x = some (.ref f)
theorem pe_cal {X : Cx} {x : Str} {ps : List Str} {k : Nat} {sp : Sp} {e : Expr} {es : List Expr} {t : TA} {p pos : Pos} (C : Cal X.prog X.w X.K X.mg X.base x ps k sp) (hr : Room k X.A) (hg : Gl X x) (ha : PA X (e :: es) t)
    (hdb : (x == ("__debug__" : Str)) = false := by decide) (he : starEach (e :: es) X.env = (false, eval e X.env) :: starEach es X.env := by rfl) (hpl : (backTo pos (starEach es X.env)).any (·.1) = false := by rfl) :
    PE X (.Call (.Name x p) (e :: es) [] pos) (tCall sp [] E0 t) := by
  obtain ⟨f, fd, F, b, hk, hm⟩ := C.ex
  exact pe_call F hr hg hm hk b .nil pass0 ha hdb he hpl
def subN (n T : String) : Bool := n == T || (n == "bool" && T == "int")
def tyN (H : Hp) (x : V) (n : String) : Prop := match x with
  | .bl _ => n = "bool"
  | .int _ => n = "int"
  | .str _ => n = "str"
  | .ref a => (n = "list" ∧ ∃ xs, H a = some (.lst xs)) ∨ (n = "tuple" ∧ ∃ xs, H a = some (.tup xs))
  | _ => False
theorem tyN_int {H : Hp} {i : Int} {n : String} : tyN H (.int i) n = (n = "int") := rfl
theorem tyN_bl {H : Hp} {i : Bool} {n : String} : tyN H (.bl i) n = (n = "bool") := rfl
theorem tyN_str {H : Hp} {i : Str} {n : String} : tyN H (.str i) n = (n = "str") := rfl
theorem tyN_ref {H : Hp} {a : Addr} {n : String} : tyN H (.ref a) n = ((n = "list" ∧ ∃ xs, H a = some (.lst xs)) ∨ (n = "tuple" ∧ ∃ xs, H a = some (.tup xs))) := rfl
def okT (T : String) : Prop := T = "int" ∨ T = "bool" ∨ T = "str" ∨ T = "list" ∨ T = "tuple"
theorem kit_sub {K : PySem.W.Frag} {n T : String} (hn : okT n) (hT : okT T) : PySem.W.kitOne K (.type n) (.type T) = some (subN n T) := by
  rcases hn with rfl | rfl | rfl | rfl | rfl <;> rcases hT with rfl | rfl | rfl | rfl | rfl <;> rfl
theorem tyN_of {K : PySem.W.Frag} {H : Hp} {x : V} {n : String} (h : tyN H x n) : TyOf K H x (.type n) ∧ okT n := by
  cases x with
  | bl b => cases (show n = "bool" from h); exact ⟨.bl b, by simp [okT]⟩
  | int i => cases (show n = "int" from h); exact ⟨.int i, by simp [okT]⟩
  | str i => cases (show n = "str" from h); exact ⟨.str i, by simp [okT]⟩
  | ref a =>
    rcases (show (n = "list" ∧ ∃ xs, H a = some (.lst xs)) ∨ (n = "tuple" ∧ ∃ xs, H a = some (.tup xs)) from h) with ⟨rfl, xs, e⟩ | ⟨rfl, xs, e⟩
    · exact ⟨.lst e, by simp [okT]⟩
    · exact ⟨.tup e, by simp [okT]⟩
  | _ => exact False.elim h
theorem okT_int : okT "int" := by simp [okT]
theorem okT_bool : okT "bool" := by simp [okT]
theorem okT_str : okT "str" := by simp [okT]
theorem okT_list : okT "list" := by simp [okT]
theorem okT_tuple : okT "tuple" := by simp [okT]
theorem subN_ii : subN "int" "int" = true := rfl
theorem subN_ib : subN "int" "bool" = false := rfl
theorem subN_bb : subN "bool" "bool" = true := rfl
theorem subN_bi : subN "bool" "int" = true := rfl
theorem subN_ss : subN "str" "str" = true := rfl
theorem subN_ll : subN "list" "list" = true := rfl
theorem subN_tt : subN "tuple" "tuple" = true := rfl
def rIsi : List V → Hp → VK → Prop := fun xs H Q => ∃ x T n, xs = [x, .ty T] ∧ okT T ∧ tyN H x n ∧ Q (.bl (subN n T)) H
theorem call_isi {X : Cx} : CallR X (.builtin "isinstance") rIsi := by
  intro pins s σ H xs us Q I r h
  obtain ⟨x, T, n, rfl, hT, ty, q⟩ := h
  obtain ⟨u, u', rfl, rx, rT⟩ := vals2 r
  obtain rfl : u' = Value.type T := rT
  obtain ⟨ty', hn⟩ := tyN_of (K := X.K) ty
  exact isinst_ok I rx ty' (kit_sub hn hT) fun tk => ⟨.bl _, H, I.tok _, rfl, q⟩
theorem op_is {X : Cx} : OpR X (compareOp .Is) (fun x y H Q => ∃ a b, x = .bl a ∧ y = .bl b ∧ Q (.bl (a == b)) H) := by
  intro pins s σ H x y v u Q I rx ry h
  obtain ⟨a, b, rfl, rfl, q⟩ := h
  cases rx; cases ry
  exact is_bool (fin_bl I q rfl)
theorem scal_ii {i j : Int} : scal (.int i) (.int j) = true := rfl
theorem scal_bb {i j : Bool} : scal (.bl i) (.bl j) = true := rfl
theorem scal_ss {i j : Str} : scal (.str i) (.str j) = true := rfl
theorem tEqI' {i j : Int} : decide (V.int i = V.int j) = decide (i = j) := by
  by_cases h : i = j
  · subst h; simp
  · have : ¬ V.int i = V.int j := fun e => h (V.int.inj e)
    simp [h, this]
def tCut (t u : TS) : TS := fun D σ H => ∃ R : St → Hp → Prop, t { D with nx := R } σ H ∧ ∀ σ' H', R σ' H' → u D σ' H'
theorem pss_cut {X : Cx} {st : Stmt} {rest : List Stmt} {t u : TS} (h1 : PS X st t) (h2 : PSs X rest u) : PSs X (st :: rest) (tCut t u) := by
  intro pins s σ H D I h
  obtain ⟨R, ha, hb⟩ := h
  refine wpAny_execs_cons (thn (h1 pins s σ H { D with nx := R } I ha) fun f s1 q => ?_)
  cases f with
  | next =>
    obtain ⟨σ', H', I', q⟩ := q
    exact h2 pins s1 σ' H' D I' (hb σ' H' q)
  | ret v => exact q
  | brk => exact q
  | cont => exact q
theorem cut_of {t u : TS} {D : Ends} {σ : St} {H : Hp} (R : St → Hp → Prop) (h1 : t { D with nx := R } σ H) (h2 : ∀ σ' H', R σ' H' → u D σ' H') : tCut t u D σ H := ⟨R, h1, h2⟩
theorem for_rangeW {lo : Int} {n : Nat} {σ : St} {H : Hp} {DN : St → Hp → Prop} {B : (St → Hp → Prop) → V → St → Hp → Prop} (Pv : Nat → St → Hp → Prop) (h0 : Pv 0 σ H)
    (hs : ∀ i σ H, i < n → Pv i σ H → B (Pv (i + 1)) (.int (lo + i)) σ H) (hd : ∀ σ H, Pv n σ H → DN σ H) :
    ∃ W : Nat → Nat → St → Hp → Prop, (∃ m, W 0 m σ H) ∧ ∀ i m σ H, W i m σ H →
      ((Itr lo n).stop i H ∧ DN σ H) ∨ ((Itr lo n).go i H ∧ ∃ N : St → Hp → Prop, (∀ σ' H', N σ' H' → ∃ m', m' < m ∧ W (i + 1) m' σ' H') ∧ ∀ x H', (Itr lo n).yld i H x H' → B N x σ H') := by
  refine ⟨fun i m σ H => m = n - i ∧ i ≤ n ∧ Pv i σ H, ⟨n, by simp, Nat.zero_le _, h0⟩, ?_⟩
  rintro i m σ H ⟨rfl, hi, p⟩
  by_cases hlt : i < n
  · refine .inr ⟨hlt, Pv (i + 1), fun σ' H' p' => ⟨n - (i + 1), by omega, rfl, hlt, p'⟩, fun x H' y => ?_⟩
    obtain ⟨e, y⟩ := y
    subst e y
    exact hs i σ _ hlt p
  · have e : i = n := by omega
    subst e
    exact .inl ⟨Nat.le_refl _, hd σ H p⟩
theorem for_listW {K : PySem.W.Frag} {a : Addr} {xs : List V} {σ : St} {H : Hp} {DN : St → Hp → Prop} {B : (St → Hp → Prop) → V → St → Hp → Prop} (Pv : Nat → St → Hp → Prop) (h0 : Pv 0 σ H)
    (hl : ∀ i σ H, i ≤ xs.length → Pv i σ H → SqL K H a xs)
    (hs : ∀ i x σ H, xs[i]? = some x → Pv i σ H → B (Pv (i + 1)) x σ H) (hd : ∀ σ H, Pv xs.length σ H → DN σ H) :
    ∃ W : Nat → Nat → St → Hp → Prop, (∃ m, W 0 m σ H) ∧ ∀ i m σ H, W i m σ H →
      ((Itl K a).stop i H ∧ DN σ H) ∨ ((Itl K a).go i H ∧ ∃ N : St → Hp → Prop, (∀ σ' H', N σ' H' → ∃ m', m' < m ∧ W (i + 1) m' σ' H') ∧ ∀ x H', (Itl K a).yld i H x H' → B N x σ H') := by
  refine ⟨fun i m σ H => m = xs.length - i ∧ i ≤ xs.length ∧ Pv i σ H, ⟨xs.length, by simp, Nat.zero_le _, h0⟩, ?_⟩
  rintro i m σ H ⟨rfl, hi, p⟩
  have q := hl i σ H hi p
  by_cases hlt : i < xs.length
  · refine .inr ⟨⟨xs, xs[i], q, by simp [hlt]⟩, Pv (i + 1), fun σ' H' p' => ⟨xs.length - (i + 1), by omega, rfl, hlt, p'⟩, fun x H' y => ?_⟩
    obtain ⟨e, y⟩ := y
    subst e
    exact hs i x σ _ (y xs q) p
  · have e : i = xs.length := by omega
    subst e
    exact .inl ⟨⟨xs, q, Nat.le_refl _⟩, hd σ H p⟩
theorem for_tupW {K : PySem.W.Frag} {a : Addr} {xs : List V} {σ : St} {H : Hp} {DN : St → Hp → Prop} {B : (St → Hp → Prop) → V → St → Hp → Prop} (Pv : Nat → St → Hp → Prop) (h0 : Pv 0 σ H)
    (hl : ∀ i σ H, i ≤ xs.length → Pv i σ H → SqT K H a xs)
    (hs : ∀ i x σ H, xs[i]? = some x → Pv i σ H → B (Pv (i + 1)) x σ H) (hd : ∀ σ H, Pv xs.length σ H → DN σ H) :
    ∃ W : Nat → Nat → St → Hp → Prop, (∃ m, W 0 m σ H) ∧ ∀ i m σ H, W i m σ H →
      ((Itt K a).stop i H ∧ DN σ H) ∨ ((Itt K a).go i H ∧ ∃ N : St → Hp → Prop, (∀ σ' H', N σ' H' → ∃ m', m' < m ∧ W (i + 1) m' σ' H') ∧ ∀ x H', (Itt K a).yld i H x H' → B N x σ H') := by
  refine ⟨fun i m σ H => m = xs.length - i ∧ i ≤ xs.length ∧ Pv i σ H, ⟨xs.length, by simp, Nat.zero_le _, h0⟩, ?_⟩
  rintro i m σ H ⟨rfl, hi, p⟩
  have q := hl i σ H hi p
  by_cases hlt : i < xs.length
  · refine .inr ⟨⟨xs, xs[i], q, by simp [hlt]⟩, Pv (i + 1), fun σ' H' p' => ⟨xs.length - (i + 1), by omega, rfl, hlt, p'⟩, fun x H' y => ?_⟩
    obtain ⟨e, y⟩ := y
    subst e
    exact hs i x σ _ (y xs q) p
  · have e : i = xs.length := by omega
    subst e
    exact .inl ⟨⟨xs, q, Nat.le_refl _⟩, hd σ H p⟩
end L2

set_option Elab.async false
set_option linter.all false
set_option maxRecDepth 100000
set_option maxHeartbeats 4000000
namespace L2
open PySem PySem.Spec PyProof.Rows
def clStep (env : Env) (cs : List (Str × Addr)) (y : Str × NameKind) : List (Str × Addr) := if y.2 == .free then (y.1, (env.cells.lookup y.1).getD 0) :: cs else cs
def clOf (names : List (Str × NameKind)) (env : Env) : List (Str × Addr) := names.foldl (clStep env) []
theorem closure_go {env : Env} : ∀ (names : List (Str × NameKind)) (acc : List (Str × Addr)), (∀ y ∈ names, y.2 = .free → ∃ c, env.cells.lookup y.1 = some c) →
    (forIn names acc fun (x : Str × NameKind) (cs : List (Str × Addr)) => if (x.2 == NameKind.free) = true then (do let a ← cellOf env x.1; pure (ForInStep.yield ((x.1, a) :: cs))) else (pure (ForInStep.yield cs) : Sem (ForInStep (List (Str × Addr))))) = pure (names.foldl (clStep env) acc)
  | [], _, _ => rfl
  | y :: r, acc, h => by
    have ih := closure_go (env := env) r
    rw [List.forIn_cons]
    by_cases hk : y.2 = .free
    · obtain ⟨c, hc⟩ := h y List.mem_cons_self hk
      have hb : (y.2 == NameKind.free) = true := by rw [hk]; rfl
      have e : cellOf env y.1 = pure c := by unfold cellOf; rw [hc]
      rw [if_pos hb, e]
      show (forIn r ((y.1, c) :: acc) _ : Sem _) = _
      rw [ih _ fun z hz => h z (List.mem_cons_of_mem _ hz), List.foldl_cons]
      show _ = pure (r.foldl (clStep env) (if (y.2 == NameKind.free) = true then (y.1, (env.cells.lookup y.1).getD 0) :: acc else acc))
      rw [if_pos hb, hc]; rfl
    · have hb : ¬ (y.2 == NameKind.free) = true := by simpa using hk
      rw [if_neg hb]
      show (forIn r acc _ : Sem _) = _
      rw [ih _ fun z hz => h z (List.mem_cons_of_mem _ hz), List.foldl_cons]
      show _ = pure (r.foldl (clStep env) (if (y.2 == NameKind.free) = true then (y.1, (env.cells.lookup y.1).getD 0) :: acc else acc))
      rw [if_neg hb]
theorem closure_is {scope : Scope} {env : Env} (h : ∀ y ∈ scope.names, y.2 = .free → ∃ c, env.cells.lookup y.1 = some c) : closureFor scope env = pure (clOf scope.names env) := by
  have e := closure_go scope.names [] h
  unfold closureFor clOf
  refine Eq.trans ?_ (congrArg (fun t => t >>= fun (r : List (Str × Addr)) => (pure r : Sem (List (Str × Addr)))) e)
  rfl
theorem mem_cl {env : Env} : ∀ {names : List (Str × NameKind)} {acc : List (Str × Addr)} {p : Str × Addr}, p ∈ names.foldl (clStep env) acc → p ∈ acc ∨ ((p.1, NameKind.free) ∈ names ∧ p.2 = (env.cells.lookup p.1).getD 0)
  | [], _, _, h => .inl h
  | y :: r, acc, p, h => by
    rw [List.foldl_cons] at h
    rcases mem_cl h with h | ⟨h, e⟩
    · unfold clStep at h
      split at h
      · rename_i hk
        rcases List.mem_cons.mp h with rfl | h
        · have : y.2 = .free := by simpa using hk
          exact .inr ⟨by rw [← this]; exact List.mem_cons_self, rfl⟩
        · exact .inl h
      · exact .inl h
    · exact .inr ⟨List.mem_cons_of_mem _ h, e⟩
theorem cl_mem {env : Env} {x : Str} : ∀ {names : List (Str × NameKind)} {acc : List (Str × Addr)}, ((∃ c, (x, c) ∈ acc) ∨ (x, NameKind.free) ∈ names) → ∃ c, (x, c) ∈ names.foldl (clStep env) acc
  | [], _, h => by
    rcases h with h | h
    · exact h
    · cases h
  | y :: r, acc, h => by
    rw [List.foldl_cons]
    refine cl_mem ?_
    rcases h with ⟨c, h⟩ | h
    · refine .inl ⟨c, ?_⟩
      unfold clStep
      split
      · exact List.mem_cons_of_mem _ h
      · exact h
    · rcases List.mem_cons.mp h with rfl | h
      · refine .inl ⟨(env.cells.lookup x).getD 0, ?_⟩
        unfold clStep
        exact List.mem_cons_self
      · exact .inr h
theorem lookup_some_of_mem {x : Str} {c : Addr} : ∀ {l : List (Str × Addr)}, (x, c) ∈ l → ∃ c', l.lookup x = some c'
  | [], h => by cases h
  | (y, d) :: r, h => by
    rw [List.lookup_cons]
    by_cases e : x == y
    · rw [e]; exact ⟨d, rfl⟩
    · have e' : (x == y) = false := by simpa using e
      rw [e']
      rcases List.mem_cons.mp h with z | z
      · cases z; simp at e
      · exact lookup_some_of_mem z

def Cx.comp (X : Cx) (scope : Scope) (N' : List Str) (s₀ : Shared) (H₀ : Hp) (fp : List Addr) (C : Addr) : Cx where
  prog := X.prog
  w := X.w
  K := X.K
  mg := X.mg
  base := X.base
  A := X.A
  N := N'
  s₀ := s₀
  H₀ := H₀
  env := compEnvC scope (clOf scope.names X.env) C X.env
  outer := X.stack
  stack := X.stack
  ex := fp
  fn := fun _ => false
  calm := X.calm
  pn := []
  xe := fun _ _ => False
/-- what is asked of the scopes (all by rfl) -/
structure CompSc (X : Cx) (scope : Scope) (N' own fnames : List Str) (fr : List Nat) : Prop where
  kind : scope.kind = .function
  nocell : (scope.names.all fun y => y.2 != .cell) = true
  free : (scope.names.all fun y => y.2 != .free || X.env.kindOf y.1 == some .cell) = true
  loc : (scope.names.all fun y => y.2 != .local || scope.names.lookup y.1 == some .local) = true
  fn : (fnames.all fun x => X.env.kindOf x == some .cell && (relabel scope X.env).names.lookup x == some .cell) = true
  N : N' = own ++ fnames
  fr : fr.map (fun j => X.N[j]?) = fnames.map some
/-- the block's first names: its own are unset, the free ones as they stand -/
def compSt (k : Nat) (fr : List Nat) (σ : St) : St := List.replicate k none ++ fr.map fun j => (σ[j]?).getD none

/-- the tests of a comprehension -/
def PTs (X : Cx) (ifs : List Expr) (t : TT) : Prop :=
  ∀ (pins : List (Addr × Obj)) (s : Shared) (σ : St) (H : Hp) (Q : Bool → Hp → Prop), Inv X pins σ H s → t σ H Q →
    wpAny (model X.prog X.w) X.A (forIn ifs true fun c r => if r = true then do let ok ← isTrue c X.env (eval c X.env); pure (ForInStep.yield ok) else pure (ForInStep.yield r)) (TP X pins σ Q) X.xe s
def tTrue : TT := fun _ H Q => Q true H
theorem pts_nil {X : Cx} : PTs X [] tTrue := fun pins s σ H Q I h => wpAny_pure ⟨H, I, h⟩
theorem pts_one {X : Cx} {c : Expr} {t : TT} (hc : PT X c t) : PTs X [c] t := by
  intro pins s σ H Q I h
  rw [List.forIn_cons]
  refine wpAny_bind ?_
  rw [if_pos rfl]
  refine wpAny_bind (thn (hc pins s σ H Q I h) fun b s1 q => wpAny_pure ?_)
  exact wpAny_pure q

section
variable {X : Cx} {scope : Scope} {N' own fnames : List Str} {fr : List Nat} {pins : List (Addr × Obj)} {σ : St} {H : Hp} {s₃ : Shared} {fp : List Addr}
theorem CompSc.has (S : CompSc X scope N' own fnames fr) (ok : X.Ok) : ∀ y ∈ scope.names, y.2 = .free → ∃ c, X.env.cells.lookup y.1 = some c := fun y hy hf => by
  have h := List.all_eq_true.mp S.free y hy
  rw [hf] at h
  exact ok.has _ (.inl (by simpa using h))
theorem CompSc.cell (S : CompSc X scope N' own fnames fr) (ok : X.Ok) {y : Str} {c : Addr} (h : (clOf scope.names X.env).lookup y = some c) : X.env.cells.lookup y = some c := by
  rcases mem_cl (PySem.mem_of_lookup h) with z | ⟨z, e⟩
  · cases z
  · obtain ⟨d, hd⟩ := S.has ok _ z rfl
    have hd' : X.env.cells.lookup y = some d := hd
    have e' : c = (X.env.cells.lookup y).getD 0 := e
    rw [hd'] at e'
    rw [hd', e']; rfl
theorem mem_of_lookupK {x : Str} {k : NameKind} : ∀ {l : List (Str × NameKind)}, l.lookup x = some k → (x, k) ∈ l
  | [], h => by simp at h
  | (y, d) :: r, h => by
    rw [List.lookup_cons] at h
    by_cases e : x == y
    · rw [e] at h
      have e1 : x = y := by simpa using e
      cases h; subst e1
      exact List.mem_cons_self
    · have e' : (x == y) = false := by simpa using e
      rw [e'] at h
      exact List.mem_cons_of_mem _ (mem_of_lookupK h)
theorem CompSc.names (S : CompSc X scope N' own fnames fr) {y : Str} {k : NameKind} (h : (relabel scope X.env).names.lookup y = some k) (hk : k = .cell ∨ k = .free) : (y, NameKind.free) ∈ scope.names := by
  have hm := mem_of_lookupK h
  unfold relabel at hm
  obtain ⟨⟨n, k0⟩, hn, e⟩ := List.mem_map.mp hm
  dsimp only at e
  split at e
  · rename_i hc
    have : k0 = .free := by
      simp only [Bool.and_eq_true, beq_iff_eq] at hc
      exact hc.1.1
    cases e; subst this; exact hn
  · cases e
    rcases hk with rfl | rfl
    · have := List.all_eq_true.mp S.nocell _ hn
      simp at this
    · exact hn
/-- the block's context is in order -/
theorem comp_ok {C : Addr} (S : CompSc X scope N' own fnames fr) (I : Inv X pins σ H s₃) (hC : s₃.heap.objs.size ≤ C) (hf : ∀ b ∈ fp, FpOk X pins H b) (hlt : ∀ b ∈ fp, b < s₃.heap.objs.size) : (X.comp scope N' s₃ H fp C).Ok := by
  have cellI : ∀ y c, (clOf scope.names X.env).lookup y = some c → X.env.cells.lookup y = some c := fun y c h => S.cell I.ok h
  refine ⟨I.ok.mod, S.kind, I.ok.glob, I.ok.blt, hC, fun x y c h1 h2 => I.ok.inj x y c (cellI x c h1) (cellI y c h2), fun x hx => ?_, fun x c h => (by cases h), I.ok.hd, I.ok.frames, .inl rfl, fun b hb => ⟨?_, fun x c h => (hf b hb).2.2.2.2.1 x c (cellI x c h)⟩, fun b o e => I.bs b o e, Nat.le_trans I.ok.bsz I.sz, fun b o e hb => ?_, fun b hb hb' => ?_, I.stack, I.stkFree⟩
  · have hm : (x, NameKind.free) ∈ scope.names := by
      rcases hx with h | h
      · exact S.names (show (relabel scope X.env).names.lookup x = some .cell from h) (.inl rfl)
      · exact S.names (show (relabel scope X.env).names.lookup x = some .free from h) (.inr rfl)
    obtain ⟨c, hc⟩ := cl_mem (env := X.env) (acc := []) (.inr hm)
    exact lookup_some_of_mem hc
  · intro z
    have h1 := hlt b hb
    have z' : b = C := z
    rw [z'] at h1
    exact absurd (Nat.lt_of_lt_of_le h1 hC) (Nat.lt_irrefl _)
  · obtain ⟨_, _, _, h3, _⟩ := hf b hb
    rcases h3 with h3 | h3
    · exact I.ok.noex b o e h3
    · exact absurd (Nat.lt_of_lt_of_le (Heap.lt_size e) (Nat.le_trans I.ok.bsz h3)) (Nat.lt_irrefl _)
  · obtain ⟨_, h1, h2, _⟩ := hf b hb
    rcases List.mem_cons.mp (I.stkSub b hb') with z | z
    · exact h1 z
    · exact h2 z
theorem comp_start {h₄ : Heap} {t₄ : Nat} {m : Str → Option Value} (S : CompSc X scope N' own fnames fr) (I : Inv X pins σ H s₃) (hf : ∀ b ∈ fp, FpOk X pins H b) (hlt : ∀ b ∈ fp, b < s₃.heap.objs.size)
    (k : ∀ b o, s₃.heap.get? b = some o → h₄.get? b = some o) (hn : h₄.Ns s₃.heap.objs.size m) :
    Inv (X.comp scope N' s₃ H fp s₃.heap.objs.size) [] (compSt own.length fr σ) H { s₃ with heap := h₄, toks := t₄ } := by
  have hlen : fr.length = fnames.length := by simpa using congrArg List.length S.fr
  refine ⟨comp_ok S I (Nat.le_refl _) hf hlt, rfl, I.bare, Un.kept k, ⟨m, hn, fun i x v e1 e2 e3 => ?_⟩, fun y c h => ?_, I.hok.fresh (Nat.le_refl _), fun y c h => I.freeC y c (S.cell I.ok h), fun p hp => absurd (show p ∈ ([] : List (Addr × Obj)) from hp) (by simp), I.hok.kept k, ?_⟩
  · have e1' : (own ++ fnames)[i]? = some x := by rw [← S.N]; exact e1
    have hi : own.length ≤ i := by
      refine Nat.le_of_not_lt fun z => ?_
      unfold compSt at e2
      rw [List.getElem?_append_left (by simpa using z), List.getElem?_replicate, if_pos z] at e2
      cases e2
    unfold compSt at e2
    rw [List.getElem?_append_right (by simpa using hi), List.length_replicate, List.getElem?_map] at e2
    rw [List.getElem?_append_right hi] at e1'
    cases q : fr[i - own.length]? with
    | none => rw [q] at e2; cases e2
    | some t =>
      rw [q] at e2
      have e2' : (σ[t]?).getD none = some v := Option.some.inj e2
      have hσ : σ[t]? = some (some v) := by
        cases z : σ[t]? with
        | none => rw [z] at e2'; cases e2'
        | some o => rw [z] at e2'; exact congrArg some e2'
      have hN : X.N[t]? = some x := by
        have z := congrArg (fun l => l[i - own.length]?) S.fr
        simp only [List.getElem?_map, q, e1', Option.map_some] at z
        exact Option.some.inj z
      have hx : x ∈ fnames := List.mem_of_getElem? e1'
      have hk := List.all_eq_true.mp S.fn x hx
      simp only [Bool.and_eq_true, beq_iff_eq] at hk
      obtain ⟨mX, _, hl⟩ := I.loc
      obtain ⟨u, r, l⟩ := hl t x v hN hσ (.inr (.inl hk.1))
      refine ⟨u, r, ?_⟩
      rcases l with ⟨kl, _⟩ | ⟨_, c, hc, o, ho, hd⟩
      · rw [hk.1] at kl; cases kl
      · obtain ⟨d, hd'⟩ := cl_mem (env := X.env) (acc := []) (.inr (S.names hk.2 (.inl rfl)))
        obtain ⟨c', hc'⟩ := lookup_some_of_mem hd'
        have z := S.cell I.ok hc'
        rw [hc] at z
        cases z
        exact .inr ⟨.inl hk.2, c, hc', o, k c o ho, hd⟩
  · obtain ⟨v, o, ho, hd⟩ := I.cell y c (S.cell I.ok h)
    exact ⟨v, o, k c o ho, hd⟩
  · unfold compSt
    show _ = N'.length
    rw [S.N, List.length_append, List.length_append, List.length_replicate, List.length_map, hlen]

/-- the block: what is wanted of its turns -/
def tBlk (k : Nat) (fr : List Nat) (g : TG) (tt : TT) (te : TE) (J : It) (σ : St) (H1 : Hp) (Q : VK) : Prop :=
  ∀ D, H1 D = none → ∃ W : Nat → Nat → St → Hp → Prop, (∃ m, W 0 m (compSt k fr σ) (upd H1 D (.lst []))) ∧ ∀ i m σ' H', W i m σ' H' →
    (J.stop i H' ∧ Q (.ref D) H') ∨ (J.go i H' ∧ ∃ N : St → Hp → Prop, (∀ σ2 H2, N σ2 H2 → ∃ m', m' < m ∧ W (i + 1) m' σ2 H2) ∧ ∀ x H2, J.yld i H' x H2 →
      g x σ' H2 fun σ2 H3 => tt σ2 H3 fun b H4 => if b = true then te σ2 H4 fun v H5 => ∃ xs, H5 D = some (.lst xs) ∧ xs.length < sizeLine ∧ N σ2 (upd H5 D (.lst (xs ++ [v]))) else N σ2 H4)
def tComp (wi : TI) (k : Nat) (fr : List Nat) (g : TG) (tt : TT) (te : TE) : TE := fun σ H Q => wi σ H fun J H1 => tBlk k fr g tt te J σ H1 Q

theorem comp_run {elt tg iter : Expr} {ifs : List Expr} {pos : Pos} {g : TG} {tt : TT} {te : TE} {s₂ : Shared} {H2 : Hp} {J : It} {it : Addr} {tn : Nat → Heap → Prop} {RR : Value → Addr → Result → Shared → Prop} {E : Value → Shared → Prop} {Q : VK}
    (S : CompSc X scope N' own fnames fr) (hc : X.calm = true)
    (hb : ∀ (s₀ : Shared) (H₀ : Hp) (fp : List Addr) (C : Addr), PG (X.comp scope N' s₀ H₀ fp C) tg g ∧ PTs (X.comp scope N' s₀ H₀ fp C) ifs tt ∧ PE (X.comp scope N' s₀ H₀ fp C) elt te)
    (I2 : Inv X pins σ H2 s₂) (T : Turn X.prog X.w X.K tg J fp it tn) (st2 : tn 0 s₂.heap) (f2 : ∀ b ∈ fp, FpOk X pins H2 b) (hq : tBlk own.length fr g tt te J σ H2 Q)
    (hRR : ∀ D C H' s', Inv X pins σ H' s' → (∃ m, s'.heap.Ns C m) → FpOk X pins H' C → Q (.ref D) H' → RR (.ref D) C (.ok .next) s') :
    wpAny (model X.prog X.w) X.A (newList []) (fun acc s₃ => wpAny (model X.prog X.w) X.A (newFunctionEnv scope X.env.globals (clOf scope.names X.env) [] X.env.qual none .none (some X.env)) (fun cenv s₄ =>
      codeAny (model X.prog X.w) X.A (.compStart (.ListComp elt [⟨tg, iter, ifs, 0⟩] scope pos) 0 (.ref it) acc { cenv with scope := relabel scope X.env }) (RR acc cenv.locals) s₄) E s₃) E s₂ := by
  have nocell : ∀ y ∈ scope.names, y.2 ≠ .cell := fun y hy z => by
    have := List.all_eq_true.mp S.nocell y hy
    rw [z] at this
    simp at this
  refine wpAny_newObj_type (wpAny_newFunctionEnv nocell (by intro y hy; simp at hy) (fun h₁ hns₁ hsb₁ => ?_) S.kind)
  have hlt2 : ∀ b ∈ fp, b < s₂.heap.objs.size := fun b hb' => by
    obtain ⟨o, e, _⟩ := T.obj _ _ st2 b hb'
    exact Heap.lt_size e
  have I3 : Inv X pins σ (upd H2 s₂.heap.objs.size (.lst [])) { s₂ with heap := s₂.heap.push { cls := .type "list", data := .seq ([] : List Value).toArray }, toks := s₂.toks } := I2.lnew (its := []) (ys := []) .nil (Nat.zero_le _)
  have hD : H2 s₂.heap.objs.size = none := I2.fresh
  obtain ⟨W, ⟨m0, w0⟩, turn⟩ := hq _ hD
  generalize hs3 : ({ s₂ with heap := s₂.heap.push { cls := .type "list", data := .seq ([] : List Value).toArray }, toks := s₂.toks } : Shared) = s₃ at I3
  have eh : s₃.heap = s₂.heap.push { cls := .type "list", data := .seq ([] : List Value).toArray } := by rw [← hs3]
  have hsz : s₃.heap.objs.size = s₂.heap.objs.size + 1 := by rw [eh, Heap.size_push]
  have f3 : ∀ b ∈ fp, FpOk X pins (upd H2 s₂.heap.objs.size (.lst [])) b := fun b hb' => by
    refine ⟨?_, (f2 b hb').2⟩
    rw [upd_ne (Nat.ne_of_lt (hlt2 b hb'))]
    exact (f2 b hb').1
  have hlt3 : ∀ b ∈ fp, b < s₃.heap.objs.size := fun b hb' => by rw [hsz]; exact Nat.lt_succ_of_lt (hlt2 b hb')
  have old : ∀ b o, s₃.heap.get? b = some o → h₁.get? b = some o := fun b o e => by
    have hb1 : b ≠ s₃.heap.objs.size := Nat.ne_of_lt (Heap.lt_size e)
    refine hsb₁.extBut b o ?_ ?_
    · show b ≠ (s₂.heap.push _).objs.size
      rw [← eh]; exact hb1
    · show (Heap.push (s₂.heap.push _) _).get? b = some o
      rw [← eh]
      exact Heap.get?_push_of_some _ e
  have hns : ∃ m, h₁.Ns s₃.heap.objs.size m := ⟨_, by rw [eh]; exact hns₁⟩
  obtain ⟨m1, hns⟩ := hns
  have I4 : Inv (X.comp scope N' s₃ (upd H2 s₂.heap.objs.size (.lst [])) fp s₃.heap.objs.size) [] (compSt own.length fr σ) (upd H2 s₂.heap.objs.size (.lst [])) { s₃ with heap := h₁, toks := s₂.toks + ([] : List (Str × Value)).length } :=
    comp_start S I3 f3 hlt3 old hns
  have st4 : tn 0 h₁ := T.keep _ _ _ st2 fun b hb' o e => old b o (by rw [eh]; exact Heap.get?_push_of_some _ e)
  obtain ⟨hpg, hpt, hpe⟩ := hb s₃ (upd H2 s₂.heap.objs.size (.lst [])) fp s₃.heap.objs.size
  have fpok : ∀ {H' : Hp}, (∀ b ∈ fp, H' b = none) → ∀ b ∈ fp, FpOk (X.comp scope N' s₃ (upd H2 s₂.heap.objs.size (.lst [])) fp s₃.heap.objs.size) [] H' b := fun hn b hb' =>
    ⟨hn b hb', fun z => by
        have h1 := hlt3 b hb'
        have z' : b = s₃.heap.objs.size := z
        rw [z'] at h1
        exact absurd h1 (Nat.lt_irrefl _), fun z => I4.ok.exfs b hb' z, .inl hb', fun x c e => (I4.ok.exf b hb').2 x c e, fun p hp => absurd (show p ∈ ([] : List (Addr × Obj)) from hp) (by simp)⟩
  have loop : ∀ s4 : Shared, s4 = { s₃ with heap := h₁, toks := s₂.toks + ([] : List (Str × Value)).length } →
      codeAny (model X.prog X.w) X.A (.compLoop (.ListComp elt [⟨tg, iter, ifs, 0⟩] scope pos) 0 (.ref it) (.ref s₂.heap.objs.size) (compEnvC scope (clOf scope.names X.env) s₃.heap.objs.size X.env)) (RR (.ref s₂.heap.objs.size) s₃.heap.objs.size) s4 := by
    rintro s4 rfl
    refine codeAny_loop rfl (fun n s => ∃ i σ' H', Inv (X.comp scope N' s₃ (upd H2 s₂.heap.objs.size (.lst [])) fp s₃.heap.objs.size) [] σ' H' s ∧ tn i s.heap ∧ (∀ b ∈ fp, H' b = none) ∧ W i n σ' H') ?_ m0
      ⟨0, _, _, I4, st4, fun b hb' => (f3 b hb').1, w0⟩
    rintro n s5 ⟨i, σ5, H5, I5, st5, fr5, w5⟩
    show wpAny _ X.A ((compTurn (.ListComp elt [⟨tg, iter, ifs, 0⟩] scope pos) 0 (.ref it) (.ref s₂.heap.objs.size) (compEnvC scope (clOf scope.names X.env) s₃.heap.objs.size X.env)).onRaise (fun x => do noteFrame x (compEnvC scope (clOf scope.names X.env) s₃.heap.objs.size X.env); theTreesLotGoes x)) _ _ s5
    refine wpAny_noted ?_
    rw [compTurn_list]
    refine wpAny_bind (wpAny_standAt (wpAny_bind ?_))
    rcases turn i n σ5 H5 w5 with ⟨stop, q⟩ | ⟨go, N, hN, step⟩
    · refine wpAny_mono (T.done (X.comp scope N' s₃ (upd H2 s₂.heap.objs.size (.lst [])) fp s₃.heap.objs.size) rfl rfl rfl hc i [] s5 σ5 H5 (fun _ _ => False) I5 (fpok fr5) st5 stop) (fun r s6 hr => ?_) fun _ _ z => z.elim
      obtain ⟨rfl, I6⟩ := hr
      refine wpAny_pure ?_
      obtain ⟨m6, hn6, _⟩ := id I6.loc
      have I7 : Inv X pins σ H5 s6 := I3.call' (ch := fp) I6.os I6.base I6.hok I6.bare fun b hb' => by
        obtain ⟨_, h1, _, h3, h4, h5⟩ := f3 b hb'
        exact ⟨h3, h1, h4, h5⟩
      exact hRR _ _ H5 s6 I7 ⟨m6, hn6⟩ (I3.fpOk (Nat.le_refl _) I6.free) q
    · refine wpAny_mono (T.item (X.comp scope N' s₃ (upd H2 s₂.heap.objs.size (.lst [])) fp s₃.heap.objs.size) rfl rfl rfl hc i [] s5 σ5 H5 (fun _ _ => False) I5 (fpok fr5) st5 go) (fun r s6 hr => ?_) fun _ _ z => z.elim
      obtain ⟨u, rfl, h6⟩ := hr
      refine wpAny_bind (wpAny_mono h6 (fun _ s7 h7 => ?_) fun _ _ z => z.elim)
      obtain ⟨x, H7, I7, r7, y7, st7, fr7⟩ := h7
      have I7' := I7.pinned (fpok fr7) (T.obj _ _ st7)
      refine wpAny_bind (wpAny_mono (hpg _ s7 σ5 H7 x u _ I7' r7 (step x H7 y7)) (fun _ s8 h8 => ?_) fun _ _ z => z.elim)
      obtain ⟨σ8, H8, I8, q8⟩ := h8
      have again' : ∀ {σ9 : St} {H9 : Hp} {s9 : Shared}, Inv (X.comp scope N' s₃ (upd H2 s₂.heap.objs.size (.lst [])) fp s₃.heap.objs.size) ([] ++ pinsAt fp s7.heap) σ9 H9 s9 → N σ9 H9 →
          ∃ m, m < n ∧ ∃ i σ' H', Inv (X.comp scope N' s₃ (upd H2 s₂.heap.objs.size (.lst [])) fp s₃.heap.objs.size) [] σ' H' s9 ∧ tn i s9.heap ∧ (∀ b ∈ fp, H' b = none) ∧ W i m σ' H' := fun {σ9 H9 s9} I9 n9 => by
        obtain ⟨m', hm, w9⟩ := hN σ9 H9 n9
        refine ⟨m', hm, i + 1, σ9, H9, I9.unpinned, T.keep _ _ _ st7 fun b hb' o e => (I9.pin (b, o) (List.mem_append_right _ (List.mem_append_right _ (mem_pinsAt hb' e)))).1, fun b hb' => ?_, w9⟩
        obtain ⟨o, e, d⟩ := T.obj _ _ st7 b hb'
        exact (I9.pin (b, o) (List.mem_append_right _ (List.mem_append_right _ (mem_pinsAt hb' e)))).2.1
      refine wpAny_bind (wpAny_mono (hpt _ s8 σ8 H8 _ I8 q8) (fun b s9 h9 => ?_) fun _ _ z => z.elim)
      obtain ⟨H9, I9, q9⟩ := h9
      cases b with
      | false =>
        rw [if_neg Bool.false_ne_true] at q9
        exact wpAny_pure ⟨rfl, again' I9 q9⟩
      | true =>
        rw [if_pos rfl] at q9
        refine wpAny_bind (wpAny_bind (wpAny_mono (hpe _ s9 σ8 H9 _ I9 q9) (fun v s10 h10 => ?_) fun _ _ z => z.elim))
        obtain ⟨y, H10, I10, r10, xs, hx, hz, q10⟩ := h10
        refine wpAny_bind (wpAny_mono (mt_append (X := X.comp scope N' s₃ (upd H2 s₂.heap.objs.size (.lst [])) fp s₃.heap.objs.size) _ s10 σ8 H10 (.ref s₂.heap.objs.size) [y] (.ref s₂.heap.objs.size) [v] (fun _ H' => N σ8 H') I10 rfl (.cons r10 .nil) ⟨_, xs, y, rfl, rfl, hx, hz, q10⟩) (fun r s11 h11 => ?_) fun _ _ z => z.elim)
        obtain ⟨_, H11, I11, _, q11⟩ := h11
        exact wpAny_pure (wpAny_pure ⟨rfl, again' I11 q11⟩)
  have e3 : ({ s₂ with heap := s₂.heap.push { cls := .type "list", data := .seq ([] : List Value).toArray } } : Shared) = s₃ := hs3
  have go4 := codeAny_compStart_list (loop _ rfl) (T.self X.A 0 _ _ _ st4 (loop _ rfl))
  subst hs3
  exact go4
theorem pe_comp {elt tg iter : Expr} {ifs : List Expr} {pos : Pos} {wi : TI} {g : TG} {tt : TT} {te : TE} (S : CompSc X scope N' own fnames fr) (hc : X.calm = true) (hi : PI X tg iter wi)
    (hb : ∀ (s₀ : Shared) (H₀ : Hp) (fp : List Addr) (C : Addr), PG (X.comp scope N' s₀ H₀ fp C) tg g ∧ PTs (X.comp scope N' s₀ H₀ fp C) ifs tt ∧ PE (X.comp scope N' s₀ H₀ fp C) elt te)
    (hs : ∀ x, foldedSetIterable iter X.env x = pure x := by intro _; rfl) : PE X (.ListComp elt [⟨tg, iter, ifs, 0⟩] scope pos) (tComp wi own.length fr g tt te) := by
  intro pins s σ H Q I h
  rw [eval_ListComp]
  refine wpAny_comprehension_free (use := none) rfl hs (closure_is (S.has I.ok)) S.kind (fun y hy hl => ?_) (wpAny_mono (hi pins s σ H _ I h) (fun xv s₁ h₁ => wpAny_mono h₁ (fun itv s₂ h₂ => ?_) fun _ _ e => e) fun _ _ e => e)
  · have := List.all_eq_true.mp S.loc y hy
    rw [hl] at this
    simpa using this
  · obtain ⟨it, fp, tn, J, H2, rfl, I2, T, st2, f2, q2⟩ := h₂
    refine comp_run S hc hb I2 T st2 f2 q2 (RR := fun acc C => compPost (model X.prog X.w) X.A X.xe none (EP X pins σ Q) acc C) fun D C H' s' I' hn fC q => ?_
    obtain ⟨m, hn⟩ := hn
    obtain ⟨f0, f1, f2', f3, f4, f5⟩ := fC
    exact ⟨m, hn, fun h' hs' => ⟨.ref D, H', I'.turned (t' := s'.toks) (fun b o hb' e => (hs'.2 b hb').trans e) f0 f1 f3 f4 f5, rfl, q⟩⟩
/-- x = [..]: the name is stored ahead of the block's end -/
theorem ps_comp {i : Nat} {x : Str} {pos' spos : Pos} {elt tg iter : Expr} {ifs : List Expr} {pos : Pos} {wi : TI} {g : TG} {tt : TT} {te : TE} (hN : X.N.Nodup) (hi' : X.N[i]? = some x) (hx : X.env.scope.names.lookup x = some .local) (S : CompSc X scope N' own fnames fr) (hc : X.calm = true) (hi : PI X tg iter wi)
    (hb : ∀ (s₀ : Shared) (H₀ : Hp) (fp : List Addr) (C : Addr), PG (X.comp scope N' s₀ H₀ fp C) tg g ∧ PTs (X.comp scope N' s₀ H₀ fp C) ifs tt ∧ PE (X.comp scope N' s₀ H₀ fp C) elt te)
    (hsw : swapsWith (.ListComp elt [⟨tg, iter, ifs, 0⟩] scope pos) (some (.Name x pos')) spos.line X.env = pure true := by rfl)
    (hs : ∀ x, foldedSetIterable iter X.env x = pure x := by intro _; rfl) : PS X (.Assign [.Name x pos'] (.ListComp elt [⟨tg, iter, ifs, 0⟩] scope pos) spos) (tAsg (tComp wi own.length fr g tt te) (gName i)) := by
  intro pins s σ H D I h
  rw [exec_Assign_Name_used _ _ _ _ hsw]
  refine wpAny_bind (wpAny_standAt (wpAny_bind ?_))
  show wpAny _ X.A (do let _ ← comprehension (.ListComp elt [⟨tg, iter, ifs, 0⟩] scope pos) scope X.env _ (newList []) false (eval iter X.env) (some (assign (.Name x pos') X.env))) _ _ s
  refine wpAny_bind (wpAny_mono (wpAny_comprehension_free (use := some (assign (.Name x pos') X.env)) (Q := fun _ s' => SP X pins D .next s') rfl hs (closure_is (S.has I.ok)) S.kind (fun y hy hl => ?_)
    (wpAny_mono (hi pins s σ H _ I h) (fun xv s₁ h₁ => wpAny_mono h₁ (fun itv s₂ h₂ => ?_) fun _ _ e => e) fun _ _ e => e)) (fun _ s' hq => wpAny_pure (wpAny_pure hq)) fun _ _ e => e)
  · have := List.all_eq_true.mp S.loc y hy
    rw [hl] at this
    simpa using this
  · obtain ⟨it, fp, tn, J, H2, rfl, I2, T, st2, f2, q2⟩ := h₂
    refine comp_run S hc hb I2 T st2 f2 q2 (RR := fun acc C => compPost (model X.prog X.w) X.A X.xe (some (assign (.Name x pos') X.env)) (fun _ s' => SP X pins D .next s') acc C) fun D' C H' s' I' hn fC q => ?_
    obtain ⟨m, hn⟩ := hn
    obtain ⟨f0, f1, f2', f3, f4, f5⟩ := fC
    show wpAny _ X.A (assign (.Name x pos') X.env (.ref D')) _ _ _
    refine wpAny_assign_Name (store_ok2 I' hN hi' (.inl hx) (v := .ref D') rfl (fun s'' I'' hch => ?_) (.inr hx))
    obtain ⟨a, hsa, hca⟩ := hch
    have hCa : C ≠ a := by
      rcases hca with z | z
      · rw [z]; exact f1
      · exact fun e => f4 x a z e.symm
    refine ⟨m, hn.sameBut hsa hCa, fun h' hs' => ⟨_, H', I''.turned (t' := s''.toks) (fun b o hb' e => (hs'.2 b hb').trans e) f0 f1 f3 f4 f5, q⟩⟩
end
end L2

set_option Elab.async false
set_option linter.all false
set_option maxRecDepth 100000
set_option maxHeartbeats 4000000
namespace L2
open PySem PySem.Spec PyProof.Rows
inductive DV where
  | int (i : Int) | bl (b : Bool) | str (x : Str) | non | lst (xs : List DV) | tup (xs : List DV)
def Den (K : PySem.W.Frag) (H : Hp) : Nat → V → DV → Prop
  | _, .int i, .int j => i = j
  | _, .bl i, .bl j => i = j
  | _, .str i, .str j => i = j
  | _, .non, .non => True
  | n + 1, .ref a, .lst ds => ∃ xs, SqL K H a xs ∧ Paired (Den K H n) xs ds
  | n + 1, .ref a, .tup ds => ∃ xs, SqT K H a xs ∧ Paired (Den K H n) xs ds
  | _, _, _ => False
/-- two data that are compared place by place -/
def Like : Nat → DV → DV → Prop
  | _, .int _, .int _ => True
  | _, .bl _, .bl _ => True
  | _, .str _, .str _ => True
  | _, .non, .non => True
  | n + 1, .lst ds, .lst es => ds.length = es.length → ∀ (i : Nat) d e, ds[i]? = some d → es[i]? = some e → Like n d e
  | n + 1, .tup ds, .tup es => ∀ (i : Nat) d e, ds[i]? = some d → es[i]? = some e → Like n d e
  | _, _, _ => False
theorem Paired.get' {α β : Type} {F : α → β → Prop} : ∀ {xs : List α} {ys : List β} {i : Nat} {x : α}, Paired F xs ys → xs[i]? = some x → ∃ y, ys[i]? = some y ∧ F x y
  | _, _, _, _, .nil, e => by simp at e
  | _, _, 0, _, .cons r _, e => by simp at e; subst e; exact ⟨_, rfl, r⟩
  | _, _, i + 1, x, .cons _ t, e => by
    obtain ⟨u, h1, h2⟩ := Paired.get' (i := i) (x := x) t (by simpa using e)
    exact ⟨u, by simpa using h1, h2⟩
section
variable {X : Cx} {pins : List (Addr × Obj)} {σ : St} {H : Hp} {s : Shared}
theorem paired_inj {α β : Type} {F : α → β → Prop} (hF : ∀ x d e, F x d → F x e → d = e) : ∀ {xs : List α} {ds es : List β}, Paired F xs ds → Paired F xs es → ds = es
  | _, _, _, .nil, .nil => rfl
  | _, _, _, .cons a b, .cons c d => by rw [hF _ _ _ a c, paired_inj hF b d]
theorem not_both (I : Inv X pins σ H s) {a : Addr} {xs ys : List V} (h : SqL X.K H a xs) (h' : SqT X.K H a ys) : False := by
  obtain ⟨its, _, ⟨o, n, e, c, _⟩, _⟩ := I.list h
  obtain ⟨its', _, ⟨o', e', c', _⟩, _⟩ := I.tuple h'
  rw [e] at e'; cases e'
  rw [c] at c'
  exact absurd c' (by decide)
theorem den_inj (I : Inv X pins σ H s) : ∀ (n : Nat) (x : V) (d e : DV), Den X.K H n x d → Den X.K H n x e → d = e := by
  intro n
  induction n with
  | zero =>
    intro x d e h1 h2
    cases x <;> cases d <;> simp only [Den] at h1 <;> cases e <;> simp only [Den] at h2 <;> first | rfl | (subst h1; subst h2; rfl)
  | succ n ih =>
    intro x d e h1 h2
    cases x with
    | ref a =>
      cases d with
      | lst ds =>
        obtain ⟨xs, hs, hp⟩ : ∃ xs, SqL X.K H a xs ∧ Paired (Den X.K H n) xs ds := h1
        cases e with
        | lst es =>
          obtain ⟨ys, hs', hp'⟩ : ∃ xs, SqL X.K H a xs ∧ Paired (Den X.K H n) xs es := h2
          rw [I.list_inj hs' hs] at hp'
          rw [paired_inj ih hp hp']
        | tup es =>
          obtain ⟨ys, hs', hp'⟩ : ∃ xs, SqT X.K H a xs ∧ Paired (Den X.K H n) xs es := h2
          exact (not_both I hs hs').elim
        | _ => exact False.elim h2
      | tup ds =>
        obtain ⟨xs, hs, hp⟩ : ∃ xs, SqT X.K H a xs ∧ Paired (Den X.K H n) xs ds := h1
        cases e with
        | tup es =>
          obtain ⟨ys, hs', hp'⟩ : ∃ xs, SqT X.K H a xs ∧ Paired (Den X.K H n) xs es := h2
          rw [I.tuple_inj hs' hs] at hp'
          rw [paired_inj ih hp hp']
        | lst es =>
          obtain ⟨ys, hs', hp'⟩ : ∃ xs, SqL X.K H a xs ∧ Paired (Den X.K H n) xs es := h2
          exact (not_both I hs' hs).elim
        | _ => exact False.elim h2
      | _ => exact False.elim h1
    | int i => cases d <;> simp only [Den] at h1 <;> cases e <;> simp only [Den] at h2 <;> (subst h1; subst h2; rfl)
    | bl i => cases d <;> simp only [Den] at h1 <;> cases e <;> simp only [Den] at h2 <;> (subst h1; subst h2; rfl)
    | str i => cases d <;> simp only [Den] at h1 <;> cases e <;> simp only [Den] at h2 <;> (subst h1; subst h2; rfl)
    | non => cases d <;> simp only [Den] at h1 <;> cases e <;> simp only [Den] at h2 <;> rfl
    | _ => cases d <;> exact False.elim h1
open Classical in
/-- the answer of == -/
noncomputable def eqD (d e : DV) : Bool := decide (d = e)
theorem eqD_same (d : DV) : eqD d d = true := by simp [eqD]
theorem all_places {ds es : List DV} (h : ds.length = es.length) : ((List.range ds.length).all fun j => eqD (ds[j]?.getD (.int 0)) (es[j]?.getD (.int 0))) = eqD (.lst ds) (.lst es) := by
  rw [Bool.eq_iff_iff]
  simp only [List.all_eq_true, List.mem_range, eqD, decide_eq_true_eq, DV.lst.injEq]
  constructor
  · intro hj
    refine List.ext_getElem? fun i => ?_
    by_cases hi : i < ds.length
    · have := hj i hi
      rw [List.getElem?_eq_getElem hi, List.getElem?_eq_getElem (by omega : i < es.length)] at this ⊢
      simpa using this
    · rw [List.getElem?_eq_none (by omega), List.getElem?_eq_none (by omega)]
  · rintro rfl j _
    rfl
theorem all_placesT {ds es : List DV} : (((List.range (min ds.length es.length)).all fun j => eqD (ds[j]?.getD (.int 0)) (es[j]?.getD (.int 0))) && ds.length == es.length) = eqD (.tup ds) (.tup es) := by
  by_cases h : ds.length = es.length
  · have e : eqD (.tup ds) (.tup es) = eqD (.lst ds) (.lst es) := by simp [eqD]
    rw [e, ← all_places h, h]
    simp [h]
  · have : ¬ ds = es := fun e => h (congrArg List.length e)
    have e : eqD (.tup ds) (.tup es) = false := by simp [eqD, this]
    rw [e]
    simp [h]
theorem eqAt_D (I : Inv X pins σ H s) : ∀ (n : Nat) (A : Around) (x y : V) (d e : DV) (u v : Value), Den X.K H n x d → Den X.K H n y e → Like n d e → RelV x u → RelV y v → A.units + n < cLine → SeqAt.EqAt A s u v (eqD d e) := by
  intro n
  have leaf : ∀ (n : Nat) (A : Around) (x y : V) (d e : DV) (u v : Value), (∀ a, x ≠ .ref a) → Den X.K H n x d → Den X.K H n y e → Like n d e → RelV x u → RelV y v → SeqAt.EqAt A s u v (eqD d e) := by
    intro n A x y d e u v hx h1 h2 hl r1 r2
    cases x with
    | ref a => exact absurd rfl (hx a)
    | non =>
      cases d <;> simp only [Den] at h1
      cases e <;> simp only [Like] at hl
      cases y <;> simp only [Den] at h2
      cases r1
      cases r2
      rw [eqD_same]
      exact SeqAt.EqAt.same _
    | int i =>
      cases d <;> simp only [Den] at h1
      subst h1
      cases e <;> simp only [Like] at hl
      cases y <;> simp only [Den] at h2
      subst h2
      obtain ⟨t, rfl⟩ := r1
      obtain ⟨t', rfl⟩ := r2
      rename_i j
      have e1 : eqD (.int i) (.int j) = (i == j) := by
        rw [Bool.eq_iff_iff]; simp [eqD]
      rw [e1]
      exact SeqAt.EqAt.int_int i t j t'
    | bl i =>
      cases d <;> simp only [Den] at h1
      subst h1
      cases e <;> simp only [Like] at hl
      cases y <;> simp only [Den] at h2
      subst h2
      cases r1
      cases r2
      rename_i j
      have e1 : eqD (.bl i) (.bl j) = (i == j) := by
        rw [Bool.eq_iff_iff]; simp [eqD]
      rw [e1]
      exact SeqAt.EqAt.bool_bool i j
    | str i =>
      cases d <;> simp only [Den] at h1
      subst h1
      cases e <;> simp only [Like] at hl
      cases y <;> simp only [Den] at h2
      subst h2
      obtain ⟨t, rfl⟩ := r1
      obtain ⟨t', rfl⟩ := r2
      rename_i j
      have e1 : eqD (.str i) (.str j) = (i == j) := by
        rw [Bool.eq_iff_iff]; simp [eqD]
      rw [e1]
      exact SeqAt.EqAt.str_str i t j t'
    | _ => cases n <;> cases d <;> exact False.elim h1
  induction n with
  | zero =>
    intro A x y d e u v h1 h2 hl r1 r2 hu
    refine leaf 0 A x y d e u v (fun a z => ?_) h1 h2 hl r1 r2
    subst z
    cases d <;> exact False.elim h1
  | succ n ih =>
    intro A x y d e u v h1 h2 hl r1 r2 hu
    cases x with
    | ref a =>
      cases r1
      cases d with
      | lst ds =>
        obtain ⟨xs, hs, hp⟩ : ∃ xs, SqL X.K H a xs ∧ Paired (Den X.K H n) xs ds := h1
        cases e with
        | lst es =>
          cases y with
          | ref b =>
            cases r2
            obtain ⟨ys, hs', hp'⟩ : ∃ xs, SqL X.K H b xs ∧ Paired (Den X.K H n) xs es := h2
            by_cases hab : a = b
            · subst hab
              rw [I.list_inj hs' hs] at hp'
              rw [paired_inj (den_inj I n) hp hp', eqD_same]
              exact SeqAt.EqAt.same _
            · refine SeqAt.EqAt.of_refs hab ?_
              obtain ⟨its, ri, pl, _⟩ := I.list hs
              obtain ⟨its', ri', pl', _⟩ := I.list hs'
              have l1 := ri.length
              have l2 := ri'.length
              have l3 : xs.length = ds.length := Paired.length hp
              have l4 : ys.length = es.length := Paired.length hp'
              by_cases hlen : ds.length = es.length
              · rw [← all_places hlen]
                have hsz : its.toArray.size = its'.toArray.size := by rw [List.size_toArray, List.size_toArray]; omega
                have := SeqAt.RcAt.lists (e := fun j => eqD (ds[j]?.getD (.int 0)) (es[j]?.getD (.int 0))) pl.isList pl'.isList hsz (by omega : A.units < cLine) (fun j h1' h2' => ?_)
                · rw [List.size_toArray, ← l1, l3] at this
                  exact this
                · rw [List.size_toArray] at h1' h2'
                  have hj1 : xs[j]? = some xs[j] := List.getElem?_eq_getElem (by omega)
                  have hj2 : ys[j]? = some ys[j] := List.getElem?_eq_getElem (by omega)
                  obtain ⟨d', hd, hdd⟩ := Paired.get' hp hj1
                  obtain ⟨e', he, hee⟩ := Paired.get' hp' hj2
                  obtain ⟨u', hu', ru'⟩ := ri.get hj1
                  obtain ⟨v', hv', rv'⟩ := ri'.get hj2
                  have eu : its.toArray[j] = u' := by
                    have : its[j]? = some its[j] := List.getElem?_eq_getElem h1'
                    rw [this] at hu'; simpa using Option.some.inj hu'
                  have ev : its'.toArray[j] = v' := by
                    have : its'[j]? = some its'[j] := List.getElem?_eq_getElem h2'
                    rw [this] at hv'; simpa using Option.some.inj hv'
                  rw [eu, ev, hd, he]
                  exact ih A.in1 _ _ d' e' u' v' hdd hee (hl hlen j d' e' hd he) ru' rv' (by show A.units + 1 + n < cLine; omega)
              · have hne : ¬ ds = es := fun z => hlen (congrArg List.length z)
                have e1 : eqD (.lst ds) (.lst es) = false := by simp [eqD, hne]
                rw [e1]
                exact SeqAt.RcAt.lists_lengths pl.isList pl'.isList (by simp only [List.size_toArray, bne_iff_ne, ne_eq]; omega) (by omega)
          | _ => exact False.elim h2
        | _ => exact False.elim hl
      | tup ds =>
        obtain ⟨xs, hs, hp⟩ : ∃ xs, SqT X.K H a xs ∧ Paired (Den X.K H n) xs ds := h1
        cases e with
        | tup es =>
          cases y with
          | ref b =>
            cases r2
            obtain ⟨ys, hs', hp'⟩ : ∃ xs, SqT X.K H b xs ∧ Paired (Den X.K H n) xs es := h2
            by_cases hab : a = b
            · subst hab
              rw [I.tuple_inj hs' hs] at hp'
              rw [paired_inj (den_inj I n) hp hp', eqD_same]
              exact SeqAt.EqAt.same _
            · refine SeqAt.EqAt.of_refs hab ?_
              obtain ⟨its, ri, pl, _⟩ := I.tuple hs
              obtain ⟨its', ri', pl', _⟩ := I.tuple hs'
              have l1 := ri.length
              have l2 := ri'.length
              have l3 : xs.length = ds.length := Paired.length hp
              have l4 : ys.length = es.length := Paired.length hp'
              rw [← all_placesT]
              have := SeqAt.RcAt.tuples (e := fun j => eqD (ds[j]?.getD (.int 0)) (es[j]?.getD (.int 0))) (show s.heap.IsTuple a its.toArray from pl) (show s.heap.IsTuple b its'.toArray from pl') (by omega : A.units < cLine) (fun j h1' h2' => ?_)
              · rw [List.size_toArray, List.size_toArray, ← l1, l3, ← l2, l4] at this
                exact this
              · rw [List.size_toArray] at h1' h2'
                have hj1 : xs[j]? = some xs[j] := List.getElem?_eq_getElem (by omega)
                have hj2 : ys[j]? = some ys[j] := List.getElem?_eq_getElem (by omega)
                obtain ⟨d', hd, hdd⟩ := Paired.get' hp hj1
                obtain ⟨e', he, hee⟩ := Paired.get' hp' hj2
                obtain ⟨u', hu', ru'⟩ := ri.get hj1
                obtain ⟨v', hv', rv'⟩ := ri'.get hj2
                have eu : its.toArray[j] = u' := by
                  have : its[j]? = some its[j] := List.getElem?_eq_getElem h1'
                  rw [this] at hu'; simpa using Option.some.inj hu'
                have ev : its'.toArray[j] = v' := by
                  have : its'[j]? = some its'[j] := List.getElem?_eq_getElem h2'
                  rw [this] at hv'; simpa using Option.some.inj hv'
                rw [eu, ev, hd, he]
                exact ih A.in1 _ _ d' e' u' v' hdd hee (hl j d' e' hd he) ru' rv' (by show A.units + 1 + n < cLine; omega)
          | _ => exact False.elim h2
        | _ => exact False.elim hl
      | _ => exact False.elim h1
    | int i => exact leaf (n + 1) A (.int i) y d e u v (fun _ z => nomatch z) h1 h2 hl r1 r2
    | bl i => exact leaf (n + 1) A (.bl i) y d e u v (fun _ z => nomatch z) h1 h2 hl r1 r2
    | str i => exact leaf (n + 1) A (.str i) y d e u v (fun _ z => nomatch z) h1 h2 hl r1 r2
    | non => exact leaf (n + 1) A .non y d e u v (fun _ z => nomatch z) h1 h2 hl r1 r2
    | _ => cases d <;> exact False.elim h1
end
section
variable {X : Cx} {pins : List (Addr × Obj)} {σ : St} {H : Hp} {s : Shared}
theorem rc_lists (I : Inv X pins σ H s) {n : Nat} {A : Around} {a b : Addr} {ds es : List DV} (h1 : Den X.K H (n + 1) (.ref a) (.lst ds)) (h2 : Den X.K H (n + 1) (.ref b) (.lst es)) (hl : Like (n + 1) (.lst ds) (.lst es)) (hu : A.units + n + 1 < cLine) :
    SeqAt.RcAt A s (.ref a) (.ref b) (eqD (.lst ds) (.lst es)) ∧ SeqAt.RcNeAt A s (.ref a) (.ref b) (!eqD (.lst ds) (.lst es)) := by
  obtain ⟨xs, hs, hp⟩ : ∃ xs, SqL X.K H a xs ∧ Paired (Den X.K H n) xs ds := h1
  obtain ⟨ys, hs', hp'⟩ : ∃ xs, SqL X.K H b xs ∧ Paired (Den X.K H n) xs es := h2
  obtain ⟨its, ri, pl, _⟩ := I.list hs
  obtain ⟨its', ri', pl', _⟩ := I.list hs'
  have l1 := ri.length
  have l2 := ri'.length
  have l3 : xs.length = ds.length := Paired.length hp
  have l4 : ys.length = es.length := Paired.length hp'
  have go : ∀ j (h1' : j < its.toArray.size) (h2' : j < its'.toArray.size), ds.length = es.length → SeqAt.EqAt A.in1 s its.toArray[j] its'.toArray[j] (eqD (ds[j]?.getD (.int 0)) (es[j]?.getD (.int 0))) := fun j h1' h2' hlen => by
    rw [List.size_toArray] at h1' h2'
    have hj1 : xs[j]? = some xs[j] := List.getElem?_eq_getElem (by omega)
    have hj2 : ys[j]? = some ys[j] := List.getElem?_eq_getElem (by omega)
    obtain ⟨d', hd, hdd⟩ := Paired.get' hp hj1
    obtain ⟨e', he, hee⟩ := Paired.get' hp' hj2
    obtain ⟨u', hu', ru'⟩ := ri.get hj1
    obtain ⟨v', hv', rv'⟩ := ri'.get hj2
    have eu : its.toArray[j] = u' := by
      have : its[j]? = some its[j] := List.getElem?_eq_getElem h1'
      rw [this] at hu'; simpa using Option.some.inj hu'
    have ev : its'.toArray[j] = v' := by
      have : its'[j]? = some its'[j] := List.getElem?_eq_getElem h2'
      rw [this] at hv'; simpa using Option.some.inj hv'
    rw [eu, ev, hd, he]
    exact eqAt_D I n A.in1 _ _ d' e' u' v' hdd hee (hl hlen j d' e' hd he) ru' rv' (by show A.units + 1 + n < cLine; omega)
  by_cases hlen : ds.length = es.length
  · rw [← all_places hlen]
    have hsz : its.toArray.size = its'.toArray.size := by rw [List.size_toArray, List.size_toArray]; omega
    have r1 := SeqAt.RcAt.lists (e := fun j => eqD (ds[j]?.getD (.int 0)) (es[j]?.getD (.int 0))) pl.isList pl'.isList hsz (by omega : A.units < cLine) (fun j h1' h2' => go j h1' h2' hlen)
    have r2 := SeqAt.RcNeAt.lists (e := fun j => eqD (ds[j]?.getD (.int 0)) (es[j]?.getD (.int 0))) pl.isList pl'.isList hsz (by omega : A.units < cLine) (fun j h1' h2' => go j h1' h2' hlen)
    rw [List.size_toArray, ← l1, l3] at r1 r2
    exact ⟨r1, r2⟩
  · have hne : ¬ ds = es := fun z => hlen (congrArg List.length z)
    have e1 : eqD (.lst ds) (.lst es) = false := by simp [eqD, hne]
    rw [e1]
    exact ⟨SeqAt.RcAt.lists_lengths pl.isList pl'.isList (by simp only [List.size_toArray, bne_iff_ne, ne_eq]; omega) (by omega), SeqAt.RcNeAt.lists_lengths pl.isList pl'.isList (by simp only [List.size_toArray, bne_iff_ne, ne_eq]; omega) (by omega)⟩
theorem rc_tuples (I : Inv X pins σ H s) {n : Nat} {A : Around} {a b : Addr} {ds es : List DV} (h1 : Den X.K H (n + 1) (.ref a) (.tup ds)) (h2 : Den X.K H (n + 1) (.ref b) (.tup es)) (hl : Like (n + 1) (.tup ds) (.tup es)) (hu : A.units + n + 1 < cLine) :
    SeqAt.RcAt A s (.ref a) (.ref b) (eqD (.tup ds) (.tup es)) ∧ SeqAt.RcNeAt A s (.ref a) (.ref b) (!eqD (.tup ds) (.tup es)) := by
  obtain ⟨xs, hs, hp⟩ : ∃ xs, SqT X.K H a xs ∧ Paired (Den X.K H n) xs ds := h1
  obtain ⟨ys, hs', hp'⟩ : ∃ xs, SqT X.K H b xs ∧ Paired (Den X.K H n) xs es := h2
  obtain ⟨its, ri, pl, _⟩ := I.tuple hs
  obtain ⟨its', ri', pl', _⟩ := I.tuple hs'
  have l1 := ri.length
  have l2 := ri'.length
  have l3 : xs.length = ds.length := Paired.length hp
  have l4 : ys.length = es.length := Paired.length hp'
  have go : ∀ j (h1' : j < its.toArray.size) (h2' : j < its'.toArray.size), SeqAt.EqAt A.in1 s its.toArray[j] its'.toArray[j] (eqD (ds[j]?.getD (.int 0)) (es[j]?.getD (.int 0))) := fun j h1' h2' => by
    rw [List.size_toArray] at h1' h2'
    have hj1 : xs[j]? = some xs[j] := List.getElem?_eq_getElem (by omega)
    have hj2 : ys[j]? = some ys[j] := List.getElem?_eq_getElem (by omega)
    obtain ⟨d', hd, hdd⟩ := Paired.get' hp hj1
    obtain ⟨e', he, hee⟩ := Paired.get' hp' hj2
    obtain ⟨u', hu', ru'⟩ := ri.get hj1
    obtain ⟨v', hv', rv'⟩ := ri'.get hj2
    have eu : its.toArray[j] = u' := by
      have : its[j]? = some its[j] := List.getElem?_eq_getElem h1'
      rw [this] at hu'; simpa using Option.some.inj hu'
    have ev : its'.toArray[j] = v' := by
      have : its'[j]? = some its'[j] := List.getElem?_eq_getElem h2'
      rw [this] at hv'; simpa using Option.some.inj hv'
    rw [eu, ev, hd, he]
    exact eqAt_D I n A.in1 _ _ d' e' u' v' hdd hee (hl j d' e' hd he) ru' rv' (by show A.units + 1 + n < cLine; omega)
  rw [← all_placesT]
  have r1 := SeqAt.RcAt.tuples (e := fun j => eqD (ds[j]?.getD (.int 0)) (es[j]?.getD (.int 0))) (show s.heap.IsTuple a its.toArray from pl) (show s.heap.IsTuple b its'.toArray from pl') (by omega : A.units < cLine) go
  have r2 := SeqAt.RcNeAt.tuples (e := fun j => eqD (ds[j]?.getD (.int 0)) (es[j]?.getD (.int 0))) (show s.heap.IsTuple a its.toArray from pl) (show s.heap.IsTuple b its'.toArray from pl') (by omega : A.units < cLine) go
  rw [List.size_toArray, List.size_toArray, ← l1, l3, ← l2, l4] at r1 r2
  exact ⟨r1, r2⟩
end
/-- == of two lists, two tuples by what they hold -/
def rEqD (K : PySem.W.Frag) (n : Nat) : R2 := fun x y H Q => ∃ a b d e, x = .ref a ∧ y = .ref b ∧ Den K H (n + 1) (.ref a) d ∧ Den K H (n + 1) (.ref b) e ∧ Like (n + 1) d e ∧ Q (.bl (eqD d e)) H
def rNeD (K : PySem.W.Frag) (n : Nat) : R2 := fun x y H Q => ∃ a b d e, x = .ref a ∧ y = .ref b ∧ Den K H (n + 1) (.ref a) d ∧ Den K H (n + 1) (.ref b) e ∧ Like (n + 1) d e ∧ Q (.bl (!eqD d e)) H
theorem op_eqD {X : Cx} {k : Nat} (n : Nat) (hr : Room k X.A) (hn : n ≤ 9 := by decide) : OpR X (compareOp .Eq) (rEqD X.K n) := by
  intro pins s σ H x y v u Q I rx ry h
  obtain ⟨a, b, d, e, rfl, rfl, hd, he, hl, q⟩ := h
  cases rx; cases ry
  have hu := hr.units
  cases d with
  | lst ds =>
    cases e with
    | lst es => exact (rc_lists I (A := X.A) hd he hl (by omega)).1 _ _ _ _ ⟨.bl _, H, I, rfl, q⟩
    | _ => exact False.elim hl
  | tup ds =>
    cases e with
    | tup es => exact (rc_tuples I (A := X.A) hd he hl (by omega)).1 _ _ _ _ ⟨.bl _, H, I, rfl, q⟩
    | _ => exact False.elim hl
  | _ => exact False.elim hd
theorem op_neD {X : Cx} {k : Nat} (n : Nat) (hr : Room k X.A) (hn : n ≤ 9 := by decide) : OpR X (compareOp .NotEq) (rNeD X.K n) := by
  intro pins s σ H x y v u Q I rx ry h
  obtain ⟨a, b, d, e, rfl, rfl, hd, he, hl, q⟩ := h
  cases rx; cases ry
  have hu := hr.units
  cases d with
  | lst ds =>
    cases e with
    | lst es => exact (rc_lists I (A := X.A) hd he hl (by omega)).2 _ _ _ _ ⟨.bl _, H, I, rfl, q⟩
    | _ => exact False.elim hl
  | tup ds =>
    cases e with
    | tup es => exact (rc_tuples I (A := X.A) hd he hl (by omega)).2 _ _ _ _ ⟨.bl _, H, I, rfl, q⟩
    | _ => exact False.elim hl
  | _ => exact False.elim hd
theorem paired_ints {F : V → DV → Prop} (hF : ∀ i : Int, F (.int i) (.int i)) : ∀ ns : List Int, Paired F (ns.map V.int) (ns.map DV.int)
  | [] => .nil
  | i :: r => .cons (hF i) (paired_ints hF r)
theorem den_int {K : PySem.W.Frag} {H : Hp} {n : Nat} {i : Int} : Den K H n (.int i) (.int i) := by cases n <;> rfl
theorem den_ints {K : PySem.W.Frag} {H : Hp} {n : Nat} {a : Addr} {ns : List Int} (h : SqL K H a (ns.map V.int)) : Den K H (n + 1) (.ref a) (.lst (ns.map DV.int)) := ⟨_, h, paired_ints (fun _ => den_int) ns⟩
end L2

set_option Elab.async false
set_option linter.all false
set_option maxRecDepth 100000
set_option maxHeartbeats 4000000
namespace L2
open PySem PySem.Spec PyProof.Rows
section
variable {X : Cx}
theorem call_all (hc : X.calm = true) : CallR X (.builtin "all") (fun xs H Q => ∃ (p : Addr) (bs : List Bool), xs = [.ref p] ∧ SqL X.K H p (bs.map V.bl) ∧ Q (.bl (bs.all id)) H) := by
  intro pins s σ H xs us Q I r h
  obtain ⟨p, bs, rfl, hp, q⟩ := h
  obtain ⟨u, rfl, ru⟩ := vals1 r
  cases ru
  obtain ⟨its, ri, pl, hz⟩ := I.list hp
  have hl := ri.length
  rw [List.length_map] at hl
  refine call_all_walk (wpAny_pyIter_list pl.isList ?_)
  have hlt : p < s.heap.objs.size := by obtain ⟨o, e, _⟩ := pl.isList; exact Heap.lt_size e
  refine ⟨s.heap.objs.size, _, _, _, _, _, fun i => bs[i]?.getD true, rfl, Walks.list (A := X.A.in1) (I.ok.hd hc) s.heap.objs.size p (Nat.ne_of_lt hlt) its.toArray, ⟨⟨_, Heap.get?_push_size _ rfl, rfl, rfl⟩, pl.isList.at fun o e => Heap.get?_push_of_some _ e⟩, ?_, ?_⟩
  · intro i v s' Q' E' hv hq
    have hv' : its[i]? = some v := by simpa using hv
    have hi : i < its.length := (List.getElem?_eq_some_iff.mp hv').1
    have hb : (bs.map V.bl)[i]? = some (.bl (bs[i]'(by omega))) := by rw [List.getElem?_map, List.getElem?_eq_getElem (by omega)]; rfl
    obtain ⟨w', e, rw'⟩ := ri.get hb
    rw [hv'] at e
    cases e
    obtain rfl : v = Value.bool _ := rw'
    dsimp only at hq
    rw [List.getElem?_eq_getElem (by omega)] at hq
    exact wpAny_truthy_bool hq
  · intro h' tk hk
    have e : (List.range its.toArray.size).all (fun i => bs[i]?.getD true) = bs.all id := by
      rw [List.size_toArray, ← hl, Bool.eq_iff_iff]
      simp only [List.all_eq_true, List.mem_range, id]
      constructor
      · intro h x hx
        obtain ⟨i, hi, e⟩ := List.getElem_of_mem hx
        have := h i hi
        rw [List.getElem?_eq_getElem hi] at this
        rw [← e]; exact this
      · intro h i hi
        rw [List.getElem?_eq_getElem hi]
        exact h _ (List.getElem_mem hi)
    rw [e]
    refine ⟨.bl _, H, I.kept fun b o e => hk b o ?_ (Heap.get?_push_of_some _ e), rfl, q⟩
    intro z
    have z' : b = s.heap.objs.size := by simpa using z
    exact absurd (Heap.lt_size e) (by rw [z']; exact Nat.lt_irrefl _)
end
end L2

set_option Elab.async false
set_option linter.all false
set_option maxRecDepth 100000
set_option maxHeartbeats 4000000
namespace L2
open PySem PySem.Spec PyProof.Rows
section
variable {prog : Program} {w : World} {A : Around} {E : Value → Shared → Prop} {s : Shared}
theorem nextOf_tup {it tp : Addr} {j : Nat} {vs : Array Value} {y : Value} {R : Value → Shared → Prop} (hi : s.heap.IsTupleIter it tp j) (ht : s.heap.IsTuple tp vs) (hy : vs[j]? = some y)
    (k : ∀ g, g.IsTupleIter it tp (j + 1) → Heap.SameBut it s.heap g → R y { s with heap := g }) : wpAny (model prog w) A (Builtin.SmallTypes.nextOf (.ref it)) R E s := by
  obtain ⟨oi, ei, ci, di⟩ := id hi
  obtain ⟨ot, et, _, nt, dt⟩ := ht
  unfold Builtin.SmallTypes.nextOf
  refine wpAny_bind (wpAny_callSpecial?_slot (name := Str.ofString "__next__") hi.typeIs F.slot_tuple_iterator_next (wpAny_call_entry F.slot_tuple_iterator_next hi.typeIs F.entry_tuple_iterator_next ?_ (F.args_tuple_iterator_next_1 _)))
  show wpAny (model prog w) A.in1 (field (.ref it) 0 >>= _) _ _ s
  refine wpAny_bind (wpAny_field ei di (x := .ref tp) rfl ?_)
  show wpAny (model prog w) A.in1 (if (Value.ref tp == Value.none) = true then _ else _) _ _ s
  rw [if_neg (show ¬ (Value.ref tp == Value.none) = true from Bool.false_ne_true)]
  show wpAny (model prog w) A.in1 (field (.ref it) 1 >>= _) _ _ s
  refine wpAny_bind (wpAny_field ei di (x := .int j 0) rfl ?_)
  show wpAny (model prog w) A.in1 (seqItems? (.ref tp) >>= _) _ _ s
  refine wpAny_bind (wpAny_seqItems et dt ?_)
  simp only [Int.toNat_natCast, hy]
  refine wpAny_bind (wpAny_setField ei di (by simp) (wpAny_pure ⟨y, rfl, wpAny_pure (k _ ⟨_, Heap.get?_update_self _ ei (Obj.isFreed_of_fields (Obj.data_mapFields di _)), (Obj.cls_mapFields ..).trans ci, ?_⟩ (Heap.SameBut.update ..))⟩))
  rw [Obj.data_mapFields di]
  simp [rawInt]
theorem nextOf_tup_end {it tp : Addr} {j : Nat} {vs : Array Value} {R : Value → Shared → Prop} (hh : A.handled = none) (hi : s.heap.IsTupleIter it tp j) (ht : s.heap.IsTuple tp vs) (hy : vs[j]? = none)
    (k : ∀ g x, Heap.ExtBut it s.heap g → (∃ o, g.get? x = some o ∧ o.cls = .type "StopIteration") → E (.ref x) { s with heap := g }) : wpAny (model prog w) A (Builtin.SmallTypes.nextOf (.ref it)) R E s := by
  obtain ⟨oi, ei, ci, di⟩ := id hi
  obtain ⟨ot, et, _, nt, dt⟩ := ht
  unfold Builtin.SmallTypes.nextOf
  refine wpAny_bind (wpAny_callSpecial?_slot (name := Str.ofString "__next__") hi.typeIs F.slot_tuple_iterator_next (wpAny_call_entry F.slot_tuple_iterator_next hi.typeIs F.entry_tuple_iterator_next ?_ (F.args_tuple_iterator_next_1 _)))
  show wpAny (model prog w) A.in1 (field (.ref it) 0 >>= _) _ _ s
  refine wpAny_bind (wpAny_field ei di (x := .ref tp) rfl ?_)
  show wpAny (model prog w) A.in1 (if (Value.ref tp == Value.none) = true then _ else _) _ _ s
  rw [if_neg (show ¬ (Value.ref tp == Value.none) = true from Bool.false_ne_true)]
  show wpAny (model prog w) A.in1 (field (.ref it) 1 >>= _) _ _ s
  refine wpAny_bind (wpAny_field ei di (x := .int j 0) rfl ?_)
  show wpAny (model prog w) A.in1 (seqItems? (.ref tp) >>= _) _ _ s
  refine wpAny_bind (wpAny_seqItems et dt ?_)
  simp only [Int.toNat_natCast, hy]
  refine wpAny_bind (wpAny_rule (wpAny_bind (wpAny_setField ei di (by simp) ?_)))
  show wpAny (model prog w) A.in1 (newExc (.type "StopIteration") [] >>= _) _ _ _
  refine wpAny_bind ?_
  simp only [newExc, newTuple]
  refine wpAny_bind (wpAny_newObj_type (wpAny_bind (m := firstArgMember _ _) (wpAny_of_eq (a := Value.none) (by first | rfl | (simp only [firstArgMember]; rfl)) (wpAny_newObj_type ?_ (by size_fits)))) (by size_fits))
  simp only [raiseNew]
  refine wpAny_bind (wpAny_handled ?_)
  rw [show A.in1.handled = none from hh]
  refine wpAny_bind (wpAny_pure (wpAny_throw (k _ _ (((Heap.SameBut.update ..).extBut.push _).push _) ⟨_, Heap.get?_push_size _ rfl, rfl⟩)))
end
set_option maxHeartbeats 4000000 in
theorem enum_newL (l : Addr) (vs : Array Value) (t : Tok) :
    Meets (Builtin.«enumerate.__new__» ⟨[.type "enumerate", .ref l], [("start", .int 1 t)]⟩) (fun _ R s => s.heap.IsList l vs ∧
      R (.ok (.ret (.ref (s.heap.push { cls := .type "list_iterator", data := .fields #[.ref l, .int 0 0] }).objs.size)))
        { s with heap := (s.heap.push { cls := .type "list_iterator", data := .fields #[.ref l, .int 0 0] }).push { cls := .type "enumerate", data := .fields #[.none, .bool false, .ref s.heap.objs.size, rawInt 1, .none, .none] } }) :=
  .of_wp fun prog w A R s h => by
    obtain ⟨hp, g, d, tk, os⟩ := s; obtain ⟨hL, h⟩ := h
    obtain ⟨⟨c, dc, dt, sl⟩, hl, hc, n, hd⟩ := id hL
    replace hc : c = .type "list" := hc
    replace hd : dt = .seq vs n := hd
    subst hc hd
    have hsub := sub_enumerate
    wp_walk using PySem.AutoSeq1.wpAny_loadPart' hl
    refine wpAny_stack_any fun st => wpAny_pure ?_
    dsimp only
    split
    · split
      all_goals
        refine wpAny_bind (wpAny_of_eq (a := (Value.ref l, some (Value.int 1 t))) ?e ?_)
        case e => rfl
        show wpAny _ _ (Builtin.SmallTypes.indexObject _ (Value.int 1 t) >>= _) _ _ _
        wp_walk using wpAny_pyIter_list hL
        exact ⟨_, rfl, h⟩
    · rw [if_neg Bool.false_ne_true]
      refine wpAny_bind (wpAny_of_eq (a := (Value.ref l, some (Value.int 1 t))) ?e ?_)
      case e => rfl
      show wpAny _ _ (Builtin.SmallTypes.indexObject _ (Value.int 1 t) >>= _) _ _ _
      wp_walk using wpAny_pyIter_list hL
      exact ⟨_, rfl, h⟩
section
variable {prog : Program} {w : World} {A : Around} {E : Value → Shared → Prop} {s : Shared}
/-- T(a, .., k=v) of a built-in type that has a __new__ of its own and object's __init__ -/
theorem callTyK {T newId : String} {Bn : Builtin} {a : Value} {args : List Value} {kw : List (Str × Value)} {S : PySem.Spec} {R : Value → Shared → Prop} (ft : TypeCalled T newId "object.__init__") (hne : (some newId != some "object.__new__") = true)
    (hct : checkTypeCall T ⟨a :: args, kw⟩ = pure ()) (hcn : checkBuiltinCall newId ⟨.type T :: a :: args, kw⟩ = pure ()) (hok : ∀ obj, argsOk "object.__init__" ⟨obj :: a :: args, kw⟩) (eN : entryFor table newId = some Bn) (gN : Meets (Bn ⟨.type T :: a :: args, kw⟩) S)
    (h : S A.in1 (wants (fun obj s1 => s1.TypeIs obj T ∧ R obj s1) E) s) : wpAny (model prog w) A (call (.type T) (a :: args) kw) R E s := by
  obtain ⟨c, tl, hmro⟩ := ft.mro
  have hmade := ft.made
  have hsub := ft.sub
  refine wpAny_call (codeAny_of_tree ?_)
  show wpAny (model prog w) _ (callAny (.type T) _) _ _ _
  refine wpAny_pure ⟨Code.quiet_builtin _ (by decide +kernel), codeAny_builtin F.entry_type_call ?_⟩
  rw [Around.under_plain (weight_type_call_type T (a :: args) kw) (units_type_call_type T (a :: args) kw)]
  have h1 := ft.notType
  have h2 := ft.canCreate
  repeat (any_goals (first | assumption | wp_step))
  refine codeAny_mono (codeAny_call_builtin ft.plain eN (wpAny_of_eq hcn (gN prog w A.in1 _ s h))) fun r s1 hr => ?_
  cases r with
  | error e => exact hr
  | ok fl =>
    cases fl with
    | ret obj =>
      obtain ⟨hT, hq⟩ := hr
      have hli := ft.init.lookup
      have hbi := ft.init.bind obj
      repeat (any_goals (first | assumption | wp_step))
      have gi : Meets (Builtin.«object.__init__» ⟨obj :: a :: args, kw⟩) (fun _ R s => s.TypeIs obj T ∧ R (.ok (.ret .none)) s) := by
        refine Meets.of_wp fun prog w A R s hs => ?_
        obtain ⟨hT, hq⟩ := hs
        have hm := ft.made
        have hl := ft.init.lookup
        repeat (any_goals (first | assumption | wp_step))
        exact ⟨_, rfl, hq⟩
      refine codeAny_mono (codeAny_call_builtin ft.init.plain F.entry_object_init (ft.init.check _ _ _ _ _ _ _ _ hT (hok obj) (gi prog w A.in1 (wants (fun r s2 => r = .none ∧ R obj s2) E) s1 ⟨hT, rfl, hq⟩))) fun r2 s2 hr2 => ?_
      cases r2 with
      | error e => exact hr2
      | ok fl2 =>
        cases fl2 with
        | ret r =>
          obtain ⟨rfl, hq⟩ := hr2
          repeat (any_goals (first | assumption | wp_step))
        | _ => exact hr2.elim
    | _ => exact hr.elim
theorem ck_enum (a v : Value) : checkTypeCall "enumerate" ⟨[a], [("start", v)]⟩ = pure () := by kernel_rfl
theorem cn_enum (a v : Value) : checkBuiltinCall "enumerate.__new__" ⟨[.type "enumerate", a], [("start", v)]⟩ = pure () := by kernel_rfl
theorem ci_enum (o a v : Value) : argsOk "object.__init__" ⟨[o, a], [("start", v)]⟩ := by unfold argsOk; kernel_rfl
theorem call_enumL {l : Addr} {vs : Array Value} {t : Tok} {R : Value → Shared → Prop} (hL : s.heap.IsList l vs)
    (k : ∀ g, IsEnum g (s.heap.objs.size + 1) s.heap.objs.size 1 .none → g.IsListIter s.heap.objs.size l 0 → (∀ b o, s.heap.get? b = some o → g.get? b = some o) → R (.ref (s.heap.objs.size + 1)) { s with heap := g }) :
    wpAny (model prog w) A (call (.type "enumerate") [.ref l] [("start", .int 1 t)]) R E s := by
  refine callTyK F.called_enumerate (by decide) (ck_enum _ _) (cn_enum _ _) (fun o => ci_enum o _ _) F.entry_enumerate_new (enum_newL l vs t) ⟨hL, ?_⟩
  have hz : (s.heap.push { cls := .type "list_iterator", data := .fields #[.ref l, .int 0 0] }).objs.size = s.heap.objs.size + 1 := Heap.size_push ..
  have he := Heap.get?_push_size (s.heap.push { cls := .type "list_iterator", data := .fields #[.ref l, .int 0 0] }) (o := { cls := .type "enumerate", data := .fields #[.none, .bool false, .ref s.heap.objs.size, rawInt 1, .none, .none] }) rfl
  show _ ∧ _
  rw [hz] at he ⊢
  exact ⟨⟨_, he, rfl⟩, k _ he ⟨_, Heap.get?_push_of_some _ (Heap.get?_push_size _ rfl), rfl, rfl⟩ fun b o q => Heap.get?_push_of_some _ (Heap.get?_push_of_some _ q)⟩
end
end L2

set_option Elab.async false
set_option linter.all false
set_option maxRecDepth 100000
set_option maxHeartbeats 400000
namespace L2
open PySem PySem.Spec PyProof.Rows
def Iten (S : Hp → Addr → List V → Prop) (a : Addr) (k : Nat) : It :=
  ⟨fun i H => ∃ xs x, S H a xs ∧ xs[i]? = some x, fun i H x H' => ∃ t y, x = .ref t ∧ H t = none ∧ H' = upd H t (.tup [.int (((k + i : Nat)) : Int), y]) ∧ ∀ xs, S H a xs → xs[i]? = some y, fun i H => ∃ xs, S H a xs ∧ xs.length = i⟩
section
variable {X : Cx} {pins : List (Addr × Obj)} {σ : St} {H : Hp} {s : Shared}
/-- two records turn, a pair is laid -/
theorem Inv.pair {e it t : Addr} {g : Heap} {tk : Nat} {o : HO} (I : Inv X pins σ H s) (fe : FpOk X pins H e) (fi : FpOk X pins H it) (ht : s.heap.objs.size ≤ t)
    (k : ∀ b o, b ≠ e → b ≠ it → s.heap.get? b = some o → g.get? b = some o) (new : ObjOk X.prog X.w (upd H t o) g t o) : Inv X pins σ (upd H t o) { s with heap := g, toks := tk } := by
  have hn : H t = none := I.hok.fresh ht
  obtain ⟨e0, e1, e2, e3, e4, e5⟩ := fe
  obtain ⟨i0, i1, i2, i3, i4, i5⟩ := fi
  have nt : ∀ b o, s.heap.get? b = some o → b ≠ t := fun b o q z => by
    subst z
    exact absurd (Nat.lt_of_lt_of_le (Heap.lt_size q) ht) (Nat.lt_irrefl _)
  have nch : ∀ b, b ∉ [e, it] → b ≠ e ∧ b ≠ it := fun b hb => ⟨fun z => hb (by simp [z]), fun z => hb (by simp [z])⟩
  have ne : ∀ b u, H b = some u → b ≠ e ∧ b ≠ it := fun b u q => ⟨ne_of_none q e0, ne_of_none q i0⟩
  refine I.step (g' := s.gens) (d' := s.drawn) (ch := [e, it]) (fun b hb => ?_) (fun b o _ _ hc q _ => k b o (nch b hc).1 (nch b hc).2 q) (fun b o _ _ hc q _ => ⟨o.slots, k b o (nch b hc).1 (nch b hc).2 q⟩) (fun b o _ q n => by rw [upd_ne (nt b o q)]; exact n)
    (fun b o hc q => ⟨o, k b o (nch b hc).1 (nch b hc).2 q⟩) (fun b xs q => by rw [upd_ne (ne_of_none q hn)]; exact q) (fun b o u q => by rw [upd_ne (ne_of_none q hn)]; exact q) (fun b ps q => ⟨#[], by rw [upd_ne (ne_of_none q hn), q]; simp⟩) (fun m hm => ?_) (fun b u q => ?_) I.bare
  · rcases List.mem_cons.mp hb with z | z
    · subst z; exact ⟨e3, e1, e4, e5⟩
    · have z' : b = it := by simpa using z
      subst z'; exact ⟨i3, i1, i4, i5⟩
  · obtain ⟨ol, es, ep, ho, r⟩ := hm
    exact ⟨ol, es, ep, k _ ol (Ne.symm e1) (Ne.symm i1) ho, r⟩
  · by_cases hb : b = t
    · subst hb; rw [upd_same] at q; cases q; exact new
    · rw [upd_ne hb] at q
      refine (I.hok b u q).stay (fun c v hc z => k c v ?_ ?_ z) (fun c z => by rw [upd_ne (ne_of_none z hn)]; exact z) fun c xs z => by rw [upd_ne (ne_of_none z hn)]; exact z
      · rcases hc with z' | z'
        · rw [z']; exact (ne b u q).1
        · exact (ne c _ z').1
      · rcases hc with z' | z'
        · rw [z']; exact (ne b u q).2
        · exact (ne c _ z').2
end
/-- what draws from the sequence at a by the iterator at it -/
structure SrcOk (P : Program) (w : World) (K : PySem.W.Frag) (S : Hp → Addr → List V → Prop) (a it : Addr) (sq : Heap → Array Value → Prop) (ti : Nat → Heap → Prop) : Prop where
  obj : ∀ i h, ti i h → ∃ o, h.get? it = some o ∧ ∀ v, o.data ≠ .cell v
  keep : ∀ i h h', ti i h → (∀ o, h.get? it = some o → h'.get? it = some o) → ti i h'
  sk : ∀ h h' vs, sq h vs → (∀ o, h.get? a = some o → h'.get? a = some o) → sq h' vs
  ne : ∀ h vs i, sq h vs → ti i h → a ≠ it
  nee : ∀ h vs e j old, sq h vs → IsEnum h e it j old → a ≠ e
  abs : ∀ (X : Cx) (pins : List (Addr × Obj)) (σ : St) (H : Hp) (s : Shared) (xs : List V), X.K = K → Inv X pins σ H s → S H a xs → ∃ its : List Value, Vals xs its ∧ sq s.heap its.toArray
  one : ∀ (X : Cx) (pins : List (Addr × Obj)) (σ : St) (H : Hp) (s : Shared) (xs ys : List V), X.K = K → Inv X pins σ H s → S H a xs → S H a ys → xs = ys
  item : ∀ (A : Around) (i : Nat) (s : Shared) (vs : Array Value) (u : Value) (Q : Value → Shared → Prop) (E : Value → Shared → Prop), ti i s.heap → sq s.heap vs → vs[i]? = some u →
    (∀ g, ti (i + 1) g → Heap.SameBut it s.heap g → Q u { s with heap := g }) → wpAny (model P w) A (Builtin.SmallTypes.nextOf (.ref it)) Q E s
  done : ∀ (A : Around) (i : Nat) (s : Shared) (vs : Array Value) (Q : Value → Shared → Prop) (E : Value → Shared → Prop), A.handled = none → ti i s.heap → sq s.heap vs → vs[i]? = none →
    (∀ g e, Heap.ExtBut it s.heap g → (∃ o, g.get? e = some o ∧ o.cls = .type "StopIteration") → E (.ref e) { s with heap := g }) → wpAny (model P w) A (Builtin.SmallTypes.nextOf (.ref it)) Q E s
theorem src_list {P : Program} {w : World} {K : PySem.W.Frag} (a it : Addr) : SrcOk P w K (SqL K) a it (fun h vs => h.IsList a vs) (fun i h => h.IsListIter it a i) where
  obj := fun i h st => by
    obtain ⟨o, e, c, d⟩ := st
    exact ⟨o, e, fun v z => by rw [d] at z; cases z⟩
  keep := fun i h h' st k => st.at k
  sk := fun h h' vs q k => q.at k
  ne := fun h vs i q st z => by
    obtain ⟨o, e, c, _⟩ := q
    obtain ⟨o', e', c', _⟩ := st
    rw [z, e'] at e
    cases e
    rw [c'] at c
    exact absurd (Value.type.inj c) (by decide)
  nee := fun h vs e j old q en z => by
    obtain ⟨o, q, c, _⟩ := q
    subst z
    rw [show h.get? a = _ from en] at q
    cases q
    exact absurd (Value.type.inj c) (by decide)
  abs := fun X pins σ H s xs hK I hq => by
    subst hK
    obtain ⟨its, rv, p, hz⟩ := I.list hq
    exact ⟨its, rv, p.isList⟩
  one := fun X pins σ H s xs ys hK I h1 h2 => by subst hK; exact I.list_inj h1 h2
  item := fun A i s vs u Q E st q hx k => wpAny_nextOf_list_item st q hx k
  done := fun A i s vs Q E hh st q hx k => wpAny_nextOf_list_end hh st q hx k
theorem src_tup {P : Program} {w : World} {K : PySem.W.Frag} (a it : Addr) : SrcOk P w K (SqT K) a it (fun h vs => h.IsTuple a vs) (fun i h => h.IsTupleIter it a i) where
  obj := fun i h st => by
    obtain ⟨o, e, c, d⟩ := st
    exact ⟨o, e, fun v z => by rw [d] at z; cases z⟩
  keep := fun i h h' st k => by
    obtain ⟨o, e, r⟩ := st
    exact ⟨o, k o e, r⟩
  sk := fun h h' vs q k => by
    obtain ⟨o, e, r⟩ := q
    exact ⟨o, k o e, r⟩
  ne := fun h vs i q st z => by
    obtain ⟨o, e, c, _⟩ := q
    obtain ⟨o', e', c', _⟩ := st
    rw [z, e'] at e
    cases e
    rw [c'] at c
    exact absurd (Value.type.inj c) (by decide)
  nee := fun h vs e j old q en z => by
    obtain ⟨o, q, c, _⟩ := q
    subst z
    rw [show h.get? a = _ from en] at q
    cases q
    exact absurd (Value.type.inj c) (by decide)
  abs := fun X pins σ H s xs hK I hq => by
    subst hK
    obtain ⟨its, rv, p, hz⟩ := I.tuple hq
    exact ⟨its, rv, p⟩
  one := fun X pins σ H s xs ys hK I h1 h2 => by subst hK; exact I.tuple_inj h1 h2
  item := fun A i s vs u Q E st q hx k => nextOf_tup st q hx k
  done := fun A i s vs Q E hh st q hx k => nextOf_tup_end hh st q hx k
theorem SrcOk.draws {P : Program} {w : World} {K : PySem.W.Frag} {S : Hp → Addr → List V → Prop} {a it : Addr} {sq : Heap → Array Value → Prop} {ti : Nat → Heap → Prop} (O : SrcOk P w K S a it sq ti) {A : Around} (hh : A.handled = none) (k : Nat) (vs : Array Value) :
    Draws P w A it [it, a] (k + vs.size) (fun j y => ∃ i, j = k + i ∧ vs[i]? = some y) (fun j h => ∃ i, j = k + i ∧ ti i h ∧ sq h vs) where
  live := fun j h q => by
    obtain ⟨i, _, st, _⟩ := q
    obtain ⟨o, e, _⟩ := O.obj i h st
    exact ⟨o, e⟩
  frame := fun j h h' q kk => by
    obtain ⟨i, e, st, sv⟩ := q
    exact ⟨i, e, O.keep i h h' st fun o z => kk it (by simp) o z, O.sk h h' vs sv fun o z => kk a (by simp) o z⟩
  item := fun j s Q E hj q kq => by
    obtain ⟨i, rfl, st, sv⟩ := q
    have hi : i < vs.size := by omega
    refine O.item A i s vs vs[i] Q E st sv (by simp [hi]) fun g st' sb => ?_
    exact kq _ g s.toks ⟨i, rfl, by simp [hi]⟩ ⟨i + 1, by omega, st', O.sk _ _ vs sv fun o z => (sb.2 a (O.ne _ vs i sv st)).trans z⟩ sb
  done := fun s Q E q kq => by
    obtain ⟨i, hi, st, sv⟩ := q
    have : i = vs.size := by omega
    subst this
    exact O.done A _ s vs Q E hh st sv (by simp) kq
theorem turn_enum {P : Program} {w : World} {K : PySem.W.Frag} {S : Hp → Addr → List V → Prop} {elts : List Expr} {x1 : Nat} {tp : Pos} (a e it : Addr) (k : Nat) (hei : e ≠ it) {sq : Heap → Array Value → Prop} {ti : Nat → Heap → Prop} (O : SrcOk P w K S a it sq ti) :
    Turn P w K (.Tuple elts x1 tp) (Iten S a k) [e, it] e (fun i h => (∃ old, IsEnum h e it (((k + i : Nat)) : Int) old) ∧ ti i h) where
  mem := by simp
  obj := fun i h st b hb => by
    obtain ⟨⟨old, he⟩, st⟩ := st
    rcases List.mem_cons.mp hb with z | z
    · subst z
      exact ⟨_, he, fun v z => by
        have z' : Data.fields _ = Data.cell v := z
        cases z'⟩
    · have z' : b = it := by simpa using z
      subst z'
      exact O.obj i h st
  keep := fun i h h' st kk => by
    obtain ⟨⟨old, he⟩, st⟩ := st
    exact ⟨⟨old, kk e (by simp) _ he⟩, O.keep i h h' st fun o q => kk it (by simp) o q⟩
  item := by
    intro X hP hw hK hc i pins s σ H E I hf st hg
    obtain ⟨⟨old, he⟩, st⟩ := st
    obtain ⟨xs, x, hq, hx⟩ := hg
    have fe := hf e (by simp)
    have fi := hf it (by simp)
    obtain ⟨its, rv, sv⟩ := O.abs X pins σ H s xs hK I hq
    obtain ⟨u, hu, ru⟩ := rv.get hx
    have hlt : i < its.toArray.size := by
      rw [List.size_toArray]
      exact (List.getElem?_eq_some_iff.mp hu).1
    have hef : e ∉ [it, a] := fun z => by
      rcases List.mem_cons.mp z with z | z
      · exact hei z
      · exact O.nee _ _ _ _ _ sv he (by simpa using z : e = a).symm
    have hel : e < s.heap.objs.size := Heap.lt_size he
    have hil : it < s.heap.objs.size := by obtain ⟨o, q, _⟩ := O.obj i _ st; exact Heap.lt_size q
    refine wpAny_pyNext_enum_itemD (O.draws (A := X.A.in1) (I.ok.hd hc) k its.toArray) he ⟨i, rfl, st, sv⟩ (by omega) hei hef fun y g tk hy ho hst hT hsz hk => ?_
    obtain ⟨i', e1, hy⟩ := hy
    have e2 : i' = i := by omega
    subst e2
    have e3 : y = u := by
      have hu' : its.toArray[i']? = some u := by simpa using hu
      rw [hu'] at hy
      exact (Option.some.inj hy).symm
    subst e3
    refine ⟨_, rfl, wpAny_letOwnedTupleGo_enum ho fun g2 he2 hs2 => ?_⟩
    have nse : s.heap.objs.size ≠ e := Nat.ne_of_gt hel
    have hT2 : g2.get? s.heap.objs.size = some { cls := .type "tuple", data := .seq #[.int ((k + i' : Nat) : Int) tk, y] } := (hs2.2 _ nse).trans hT
    have I2 : Inv X pins σ (upd H s.heap.objs.size (.tup [.int (((k + i' : Nat)) : Int), x])) { s with heap := g2, toks := tk + 1 } := by
      refine I.pair fe fi (Nat.le_refl _) (fun b o h1 h2 q => (hs2.2 b h1).trans (hk b o h1 h2 q)) ?_
      exact ⟨by show 2 ≤ sizeLine; decide, [.int ((k + i' : Nat) : Int) tk, y], .cons ⟨tk, rfl⟩ (.cons ru .nil), ⟨_, hT2, rfl, 0, rfl⟩⟩
    obtain ⟨i2, e4, st2, _⟩ := hst
    have e5 : i2 = i' + 1 := by omega
    subst e5
    refine ⟨.ref s.heap.objs.size, _, I2, rfl, ⟨_, x, rfl, I.fresh, rfl, fun ys hys => ?_⟩, ⟨⟨y, ?_⟩, O.keep _ _ _ st2 fun o q => (hs2.2 it (Ne.symm hei)).trans q⟩, fun b hb => ?_⟩
    · rw [O.one X pins σ H s ys xs hK I hys hq]
      exact hx
    · have : (((k + (i' + 1) : Nat)) : Int) = ((k + i' : Nat) : Int) + 1 := by omega
      rw [this]
      exact he2
    · rcases List.mem_cons.mp hb with z | z
      · subst z
        rw [upd_ne (Ne.symm nse)]
        exact fe.1
      · have z' : b = it := by simpa using z
        subst z'
        rw [upd_ne (Nat.ne_of_lt hil)]
        exact fi.1
  done := by
    intro X hP hw hK hc i pins s σ H E I hf st hg
    obtain ⟨⟨old, he⟩, st⟩ := st
    obtain ⟨xs, hq, hx⟩ := hg
    obtain ⟨its, rv, sv⟩ := O.abs X pins σ H s xs hK I hq
    have hl := rv.length
    obtain ⟨f0, f1, f2, f3, f4, f5⟩ := hf it (by simp)
    exact wpAny_pyNext_enum_endD (O.draws (A := X.A.in1) (I.ok.hd hc) k its.toArray) he ⟨i, by simp; omega, st, sv⟩ fun g eb => ⟨rfl, I.turned (t' := s.toks) (fun b o hb q => eb b o hb q) f0 f1 f3 f4 f5⟩
  self := fun A i s Q E st h => by
    obtain ⟨⟨old, he⟩, st⟩ := st
    exact wpAny_pyIter_enum he h
theorem for_enumW {S : Hp → Addr → List V → Prop} {a : Addr} {k : Nat} {xs : List V} {σ : St} {H : Hp} {DN : St → Hp → Prop} {B : (St → Hp → Prop) → V → St → Hp → Prop} (Pv : Nat → St → Hp → Prop) (h0 : Pv 0 σ H)
    (hl : ∀ i σ H, i ≤ xs.length → Pv i σ H → S H a xs)
    (hs : ∀ i x σ H t, xs[i]? = some x → Pv i σ H → H t = none → B (Pv (i + 1)) (.ref t) σ (upd H t (.tup [.int (((k + i : Nat)) : Int), x]))) (hd : ∀ σ H, Pv xs.length σ H → DN σ H) :
    ∃ W : Nat → Nat → St → Hp → Prop, (∃ m, W 0 m σ H) ∧ ∀ i m σ H, W i m σ H →
      ((Iten S a k).stop i H ∧ DN σ H) ∨ ((Iten S a k).go i H ∧ ∃ N : St → Hp → Prop, (∀ σ' H', N σ' H' → ∃ m', m' < m ∧ W (i + 1) m' σ' H') ∧ ∀ x H', (Iten S a k).yld i H x H' → B N x σ H') := by
  refine ⟨fun i m σ H => m = xs.length - i ∧ i ≤ xs.length ∧ Pv i σ H, ⟨xs.length, by simp, Nat.zero_le _, h0⟩, ?_⟩
  rintro i m σ H ⟨rfl, hi, p⟩
  have q := hl i σ H hi p
  by_cases hlt : i < xs.length
  · refine .inr ⟨⟨xs, xs[i], q, by simp [hlt]⟩, Pv (i + 1), fun σ' H' p' => ⟨xs.length - (i + 1), by omega, rfl, hlt, p'⟩, fun x H' y => ?_⟩
    obtain ⟨t, y, e, ht, e', hy⟩ := y
    subst e e'
    exact hs i y σ _ t (hy xs q) p ht
  · have e : i = xs.length := by omega
    subst e
    exact .inl ⟨⟨xs, q, rfl⟩, hd σ H p⟩
def iEnL (K : PySem.W.Frag) (k : Nat) (te : TE) : TI := fun σ H R => te σ H fun x H1 => ∃ a, x = .ref a ∧ (∃ xs, SqL K H1 a xs) ∧ R (Iten (SqL K) a k) H1
def iEnT (K : PySem.W.Frag) (k : Nat) (te : TE) : TI := fun σ H R => te σ H fun x H1 => ∃ a, x = .ref a ∧ (∃ xs, SqT K H1 a xs) ∧ R (Iten (SqT K) a k) H1
section
variable {X : Cx} {elts : List Expr} {x1 : Nat} {tp : Pos}
/-- an enumerate object has come, over the iterator at it -/
theorem enum_pie {S : Hp → Addr → List V → Prop} {sq : Heap → Array Value → Prop} {ti : Nat → Heap → Prop} {pins : List (Addr × Obj)} {σ : St} {H : Hp} {s : Shared} {R : It → Hp → Prop} {E : Value → Shared → Prop} {a : Addr} {k : Nat} {g : Heap} {c : Int} (I : Inv X pins σ H s)
    (O : SrcOk X.prog X.w X.K S a s.heap.objs.size sq ti) (hc : c = (k : Int)) (he : IsEnum g (s.heap.objs.size + 1) s.heap.objs.size c .none) (hi : ti 0 g) (hk : ∀ b o, s.heap.get? b = some o → g.get? b = some o) (q : R (Iten S a k) H) :
    wpAny (model X.prog X.w) X.A (pyIter (.ref (s.heap.objs.size + 1))) (PIE X pins σ (.Tuple elts x1 tp) R) E { s with heap := g } := by
  subst hc
  refine wpAny_pyIter_enum he ⟨s.heap.objs.size + 1, [s.heap.objs.size + 1, s.heap.objs.size], _, _, H, rfl, I.kept (t' := s.toks) hk, turn_enum a _ _ k (Nat.succ_ne_self _) O, ⟨⟨_, he⟩, hi⟩, fun b hb => ?_, q⟩
  rcases List.mem_cons.mp hb with z | z
  · subst z
    exact I.fpOk (Nat.le_succ _) (I.hok.fresh (Nat.le_succ _))
  · have z' : b = s.heap.objs.size := by simpa using z
    subst z'
    exact I.fpOk (Nat.le_refl _) (I.hok.fresh (Nat.le_refl _))
theorem pi_enum_list {e : Expr} {te : TE} {p pos : Pos} (hg : Gl X "enumerate") (hm : X.mg "enumerate" = none) (he : PE X e te) (hs : starEach [e] X.env = [(false, eval e X.env)] := by rfl) : PI X (.Tuple elts x1 tp) (.Call (.Name "enumerate" p) [e] [] pos) (iEnL X.K 0 te) := by
  intro pins s σ H R I h
  refine Call_ (ld_blt I hg hm boot_enumerate (PyProof.Rows.callWith_type1 ?_ hs rfl))
  rw [hs]
  refine Calls.spliced_cons (thn (he pins s σ H _ I h) fun v s1 ⟨x, H1, I1, rx, q1⟩ => Calls.spliced_nil ?_)
  obtain ⟨a, rfl, ⟨xs, hq⟩, q⟩ := q1
  cases rx
  obtain ⟨its, rv, pl, _⟩ := I1.list hq
  exact call_enumerate_list pl.isList fun g e1 e2 _ hk => enum_pie I1 (src_list a _) rfl e1 e2 hk q
/-- T(e, k=v ..) -/
theorem callWith_tyK {M : Model} {A : Around} {E : Value → Shared → Prop} {s : Shared} {env : Env} {pos : Pos} {T : String} {x : Sem Value} {rest : List (Bool × Sem Value)} {kws : List (Option Str × Sem Value)} {Q : Value → Shared → Prop} (h1 : rest.any (·.1) = false) (h2 : kws.all (·.1.isSome) = true) (h3 : kws.any (·.1.isNone) = false)
    (h : wpAny M A (spliced ((false, x) :: rest)) (fun vs s1 => wpAny M A (evalAll (kws.map (·.2))) (fun ks s2 => wpAny M A (call (.type T) vs ((kws.filterMap (·.1)).zip ks)) Q E s2) E s1) E s) : wpAny M A (callWith pos (.type T) [] ((false, x) :: rest) kws) Q E s := by
  unfold callWith
  refine wpAny_bind (wpAny_holding (wpAny_mono (evalArgs_kwB h2 (Q := fun a s1 => wpAny M A (call (.type T) ([] ++ a.pos) a.kw) Q E s1) h) (fun a s1 z => wpAny_bind (wpAny_standAt ?_)) fun _ _ z => z))
  simp only [List.any_cons, h1, h3, Bool.or_false, Bool.false_or]
  exact wpAny_bind (wpAny_pure (wpAny_bind (wpAny_mono z (fun r s2 hr => wpAny_bind (wpAny_holding (wpAny_point (wpAny_pure hr)))) fun _ _ z => z)))
theorem enum1_call {e : Expr} {te : TE} {p pos kp ip : Pos} {j : Nat} {pins : List (Addr × Obj)} {s : Shared} {σ : St} {H : Hp} {Q : VK} {R : Value → Shared → Prop} (hg : Gl X "enumerate") (hm : X.mg "enumerate" = none) (he : PE X e te) (hs : starEach [e] X.env = [(false, eval e X.env)])
    (I : Inv X pins σ H s) (h : te σ H Q) (k : ∀ x v H1 s1 t, Inv X pins σ H1 s1 → RelV x v → Q x H1 → wpAny (model X.prog X.w) X.A (call (.type "enumerate") [v] [("start", .int 1 t)]) R X.xe s1) :
    wpAny (model X.prog X.w) X.A (eval (.Call (.Name "enumerate" p) [e] [⟨some "start", .Constant (.int 1) j ip, kp⟩] pos) X.env) R X.xe s := by
  refine wpAny_Call_Name_kw (ld_blt I hg hm boot_enumerate ?_)
  rw [hs]
  refine callWith_tyK (env := X.env) (rest := []) rfl rfl rfl ?_
  refine Calls.spliced_cons (thn (he pins s σ H Q I h) fun v s1 ⟨x, H1, I1, rx, q⟩ => Calls.spliced_nil ?_)
  refine kws_cons (wpAny_Constant_int (kws_nil ?_))
  exact k x v H1 _ _ (I1.tok _) rx q
theorem pi_enum1_list {e : Expr} {te : TE} {p pos kp ip : Pos} {j : Nat} (hg : Gl X "enumerate") (hm : X.mg "enumerate" = none) (he : PE X e te) (hs : starEach [e] X.env = [(false, eval e X.env)] := by rfl) : PI X (.Tuple elts x1 tp) (.Call (.Name "enumerate" p) [e] [⟨some "start", .Constant (.int 1) j ip, kp⟩] pos) (iEnL X.K 1 te) := by
  intro pins s σ H R I h
  refine enum1_call hg hm he hs I h fun x v H1 s1 t I1 rx q1 => ?_
  obtain ⟨a, rfl, ⟨xs, hq⟩, q⟩ := q1
  cases rx
  obtain ⟨its, rv, pl, _⟩ := I1.list hq
  exact call_enumL pl.isList fun g e1 e2 hk => enum_pie I1 (src_list a _) rfl e1 e2 hk q
end
structure CalI (P : Program) (w : World) (K : PySem.W.Frag) (mg : Str → Option Value) (base : Heap) (x : Str) (C : Addr) (ps : List Str) (k : Nat) (sp : Sp) : Prop where
  ex : ∃ (f : Addr) (fd : FuncData), FnOk P w K mg base CX0 k f fd ps sp ∧ Binds K fd ps [] ∧ Mk K C f ∧ mg x = some (.ref C)
structure CalM (P : Program) (w : World) (K : PySem.W.Frag) (mg : Str → Option Value) (base : Heap) (C : Addr) (m : Str) (ps : List Str) (k : Nat) (sp : Sp) : Prop where
  ex : ∃ (f : Addr) (fd : FuncData), FnOk P w K mg base CX0 k f fd ps sp ∧ Binds K fd ps [] ∧ Meth K C m f ∧ Cls K C
theorem pe_makeC {X : Cx} {x : Str} {C : Addr} {ps : List Str} {k : Nat} {sp : Sp} {e : Expr} {es : List Expr} {t : TA} {p pos : Pos} (c : CalI X.prog X.w X.K X.mg X.base x C ps k sp) (hr : Room (k + 1) X.A) (hg : Gl X x) (ha : PA X (e :: es) t)
    (hdb : (x == ("__debug__" : Str)) = false := by decide) (he : starEach (e :: es) X.env = (false, eval e X.env) :: starEach es X.env := by rfl) (hpl : (backTo pos (starEach es X.env)).any (·.1) = false := by rfl) :
    PE X (.Call (.Name x p) (e :: es) [] pos) (tMake C sp [] E0 t) := by
  obtain ⟨f, fd, F, b, m, hm⟩ := c.ex
  exact pe_make m F hr hg hm b .nil pass0 ha hdb he hpl
theorem pe_methC {X : Cx} {m : Str} {C : Addr} {ps : List Str} {k : Nat} {sp : Sp} {o e : Expr} {es : List Expr} {ta : TE} {t : TA} {apos pos : Pos} {pl : Sem Bool} (c : CalM X.prog X.w X.K X.mg X.base C m ps k sp) (hr : Room k X.A) (ho : PE X o ta) (ha : PA X (e :: es) t)
    (he : starEach (e :: es) X.env = (false, eval e X.env) :: starEach es X.env := by rfl) (hpl : (backTo pos (starEach es X.env)).any (·.1) = false := by rfl)
    (ht : eval (.Call (.Attribute o m apos) (e :: es) [] pos) X.env = (do
      let v ← eval o X.env
      standAt apos.atName
      let (g, first) ← holding [v] (getMethod v m pl)
      callWith pos g first (backTo pos (starEach (e :: es) X.env)) (backToKw pos (keywordEach [] X.env))) := by rfl) : PE X (.Call (.Attribute o m apos) (e :: es) [] pos) (tMeth C m sp [] E0 ta t) := by
  obtain ⟨f, fd, F, b, hm, cl⟩ := c.ex
  exact pe_meth ho cl hm F hr b .nil pass0 ha he hpl ht
theorem pe_methC0 {X : Cx} {m : Str} {C : Addr} {ps : List Str} {k : Nat} {sp : Sp} {o : Expr} {ta : TE} {apos pos : Pos} {pl : Sem Bool} (c : CalM X.prog X.w X.K X.mg X.base C m ps k sp) (hr : Room k X.A) (ho : PE X o ta)
    (ht : eval (.Call (.Attribute o m apos) [] [] pos) X.env = (do
      let v ← eval o X.env
      standAt apos.atName
      let (g, first) ← holding [v] (getMethod v m pl)
      callWith pos g first (backTo pos (starEach [] X.env)) (backToKw pos (keywordEach [] X.env))) := by rfl) : PE X (.Call (.Attribute o m apos) [] [] pos) (tMeth C m sp [] E0 ta tNil) := by
  obtain ⟨f, fd, F, b, hm, cl⟩ := c.ex
  exact pe_meth0 ho cl hm F hr b .nil pass0 ht
/-- a number of the module -/
theorem pe_globI {X : Cx} {x : Str} {n : Int} {pos : Pos} (hg : Gl X x) (hm : ∃ tk, X.mg x = some (.int n tk)) (hd : (x == ("__debug__" : Str)) = false := by decide) : PE X (.Name x pos) (tC (.int n)) := by
  obtain ⟨tk, hm⟩ := hm
  exact pe_glob hg hm ⟨tk, rfl⟩ hd
def rInsert : V → List V → Hp → VK → Prop := fun x vs H Q => ∃ l xs i y, x = .ref l ∧ vs = [.int i, y] ∧ H l = some (.lst xs) ∧ 0 ≤ i ∧ i ≤ xs.length ∧ xs.length < sizeLine ∧ Q .non (upd H l (.lst (xs.take i.toNat ++ y :: xs.drop i.toNat)))
theorem fits_line {i : Int} (h0 : 0 ≤ i) (h1 : i ≤ (sizeLine : Nat)) : Builtin.List.listFitsIndex i = true := by
  have := line63
  have e : ((2 ^ 63 : Nat) : Int) = 9223372036854775808 := by decide
  refine fitsIndex_both ?_ ?_ <;> omega
theorem mt_insert {X : Cx} : MtM X "list.insert" rInsert := by
  intro pins s σ H x vs v us Q I rx rv h
  obtain ⟨l, xs, i, y, rfl, rfl, hH, i0, i1, hz, q⟩ := h
  cases rx
  obtain ⟨u, u', rfl, ru, ru'⟩ := rv.two
  obtain ⟨t, rfl⟩ := ru
  obtain ⟨z, its, n, r, hl, e⟩ := I.lstM hH
  refine call_meets F.slot_list_insert ⟨_, e, rfl⟩ F.entry_list_insert (F.args_list_insert_3 _ _ _) (AutoSeq1.list_insert_list_int_val_1 l its.toArray n i t u' (by rw [fits_line i0 (by omega)]; decide) (by rw [List.size_toArray]; omega)) ⟨e, ?_⟩
  refine ⟨.non, _, I.lset (its' := its.take i.toNat ++ u' :: its.drop i.toNat) hH e ?_ ((r.take i.toNat).append (.cons ru' (r.drop i.toNat))) ?_, rfl, q⟩
  · have e1 : ¬ i < 0 := by omega
    have e2 : min i.toNat its.toArray.size = i.toNat := by rw [List.size_toArray]; omega
    simp only [if_neg e1, e2]
    apply Array.toList_inj.mp
    simp
    exact List.take_of_length_le (by rw [List.length_drop]; omega)
  · rw [List.length_append, List.length_cons, List.length_take, List.length_drop]
    omega
end L2
namespace L2
open PySem PySem.Spec PyProof.Rows
section
variable {X : Cx} {K : PySem.W.Frag}
theorem ix_listK (hK : X.K = K) : IxR X (rIxL K) := by subst hK; exact ix_list
theorem pg_tupK {es : List Expr} {k : Nat} {t : TGs} {n : Nat} {pos : Pos} (hK : X.K = K) (hc : X.calm = true) (h : PGs X es t) (hn : (assignEach es X.env).length = n := by rfl) (hst : (assignEach es X.env).findIdx? (·.1) = none := by rfl) : PG X (.Tuple es k pos) (gTup K n t) := by
  subst hK; exact pg_tup hc h hn hst
def rLen (K : PySem.W.Frag) : List V → Hp → VK → Prop := fun xs H Q => ∃ p ys, xs = [.ref p] ∧ (SqL K H p ys ∨ SqT K H p ys) ∧ Q (.int ys.length) H
theorem call_lenK (hK : X.K = K) : CallR X (.builtin "len") (rLen K) := by subst hK; exact call_len_seq
def rListOf (K : PySem.W.Frag) : List V → Hp → VK → Prop := fun xs H Q => ∃ p ys, xs = [.ref p] ∧ (SqL K H p ys ∨ SqT K H p ys) ∧ ∀ l, H l = none → Q (.ref l) (upd H l (.lst ys))
theorem call_listK (hK : X.K = K) : CallR X (.type "list") (rListOf K) := by subst hK; exact call_list_of
def rTupL (K : PySem.W.Frag) : List V → Hp → VK → Prop := fun xs H Q => ∃ p ys, xs = [.ref p] ∧ SqL K H p ys ∧ ∀ l, H l = none → Q (.ref l) (upd H l (.tup ys))
/-- tuple(x) of a list -/
theorem call_tuple_L (hK : X.K = K) : CallR X (.type "tuple") (rTupL K) := by
  subst hK
  intro pins s σ H xs us Q I r h
  obtain ⟨p, ys, e, hs, q⟩ := h
  exact call_tuple_of pins s σ H xs us Q I r ⟨p, ys, e, .inl ⟨hs, q⟩⟩
end
theorem SqL.off {K : PySem.W.Frag} {H : Hp} {a x : Addr} {xs : List V} {o : HO} (h : SqL K H a xs) (h1 : ∀ ys, H x ≠ some (.lst ys)) (h2 : ∀ v u, H x ≠ some (.frz v u)) : SqL K (upd H x o) a xs := by
  rcases h with (h | ⟨v, h⟩) | h
  · have ne : a ≠ x := fun z => h1 _ (z ▸ h)
    exact .inl (.inl (by rw [upd_ne ne]; exact h))
  · have ne : a ≠ x := fun z => h2 _ _ (z ▸ h)
    exact .inl (.inr ⟨v, by rw [upd_ne ne]; exact h⟩)
  · exact .inr h
end L2
namespace L2
/-- one statement of a block; the rest waits under a name -/
theorem seq_of {t u : TS} {D : Ends} {σ : St} {H : Hp} (h : ∀ U : TS, U = u → t { D with nx := U D } σ H) : tSeq t u D σ H := h u rfl
end L2

set_option Elab.async false
set_option linter.all false
set_option maxRecDepth 100000
set_option maxHeartbeats 4000000
namespace My
open PySem L2
/-- a new list r, all else as it was -/
def New (H H' : Hp) (r : Addr) (xs : List V) : Prop := Same H H' ∧ H r = none ∧ H' r = some (.lst xs)
theorem same_new {H : Hp} {p : Addr} (h : H p = none) (o : HO) : Same H (upd H p o) := fun b u q => by rw [upd_ne (ne_of_none q h)]; exact q
theorem same_upd {H H' : Hp} {p : Addr} (h : H p = none) (g : Same H H') (o : HO) : Same H (upd H' p o) := fun b u q => by rw [upd_ne (ne_of_none q h)]; exact g b u q
theorem item_of {ns : List Int} {k : Int} (h0 : 0 ≤ k) (h : k < (ns.length : Int)) : ∃ v : Int, atI (ns.map V.int) k = some (.int v) := by
  have hk : k.toNat < ns.length := by omega
  have q : atI (ns.map V.int) ((k.toNat : Nat) : Int) = some (.int ns[k.toNat]) := atI_nat (by rw [List.getElem?_map, List.getElem?_eq_getElem hk] <;> rfl)
  rw [show ((k.toNat : Nat) : Int) = k by omega] at q
  exact ⟨_, q⟩
theorem small1000' {n : Nat} (h : n ≤ 1000) : n ≤ sizeLine := Nat.le_of_lt (small1000 h)
abbrev Pst := Int × Int × Int
def PostV (H : Hp) (v : V) (q : Pst) : Prop := ∃ t, v = .ref t ∧ H t = some (.tup [.int q.1, .int q.2.1, .int q.2.2])
def okH (h : Int) : Prop := 0 ≤ h ∧ h < 1073741824
def okP (q : Pst) : Prop := (0 ≤ q.1 ∧ q.1 < 1073741824) ∧ (0 ≤ q.2.1 ∧ q.2.1 ≤ 1000000000) ∧ (0 ≤ q.2.2 ∧ q.2.2 ≤ 1)
structure Ok (d : Int) (hs : List Int) (ps : List Pst) : Prop where
  d1 : 1 ≤ d
  d2 : d ≤ 31
  h : ∀ x ∈ hs, okH x
  hl : hs.length ≤ 8
  p : ∀ q ∈ ps, okP q
  pl : ps.length ≤ 6
theorem PostV.mono {H H' : Hp} {v : V} {q : Pst} (g : Same H H') (h : PostV H v q) : PostV H' v q := by
  obtain ⟨t, e, h⟩ := h
  exact ⟨t, e, g _ _ h⟩
abbrev Posts (H : Hp) : List V → List Pst → Prop := Paired (PostV H)
theorem Posts.mono {H H' : Hp} (g : Same H H') {ts : List V} {ps : List Pst} (h : Posts H ts ps) : Posts H' ts ps := Paired.mapP h fun _ _ => PostV.mono g
theorem Posts.at' {H : Hp} {ts : List V} {ps : List Pst} (h : Posts H ts ps) {i : Nat} {v : V} (e : ts[i]? = some v) : ∃ q, ps[i]? = some q ∧ PostV H v q := Paired.get' h e
theorem Posts.len {H : Hp} {ts : List V} {ps : List Pst} (h : Posts H ts ps) : ts.length = ps.length := Paired.length h
theorem n1 : ¬ (("days" : Str) = "hands") := by decide +kernel
theorem n2 : ¬ (("days" : Str) = "posts") := by decide +kernel
theorem n3 : ¬ (("hands" : Str) = "posts") := by decide +kernel
def wf (d : Int) (h p : Addr) : List (Str × V) := putF "posts" (.ref p) (putF "hands" (.ref h) (putF "days" (.int d) []))
theorem wf_days (d : Int) (h p : Addr) : (wf d h p).lookup ("days" : Str) = some (.int d) := by
  unfold wf
  rw [lookup_putF, if_neg n2, lookup_putF, if_neg n1, lookup_putF, if_pos rfl]
theorem wf_hands (d : Int) (h p : Addr) : (wf d h p).lookup ("hands" : Str) = some (.ref h) := by
  unfold wf
  rw [lookup_putF, if_neg n3, lookup_putF, if_pos rfl]
theorem wf_posts (d : Int) (h p : Addr) : (wf d h p).lookup ("posts" : Str) = some (.ref p) := by
  unfold wf
  rw [lookup_putF, if_pos rfl]
/-- a ward stands at x -/
structure WardAt (C : Addr) (H : Hp) (x : Addr) (d : Int) (hs : List Int) (ps : List Pst) : Prop where
  ex : ∃ dx ha pa ts, H x = some (.ins C dx (wf d ha pa)) ∧ H ha = some (.tup (hs.map V.int)) ∧ H pa = some (.tup ts) ∧ Posts H ts ps
theorem WardAt.mono {C : Addr} {H H' : Hp} {x : Addr} {d : Int} {hs : List Int} {ps : List Pst} (g : Same H H') (w : WardAt C H x d hs ps) : WardAt C H' x d hs ps := by
  obtain ⟨dx, ha, pa, ts, h1, h2, h3, h4⟩ := w.ex
  exact ⟨dx, ha, pa, ts, g _ _ h1, g _ _ h2, g _ _ h3, h4.mono g⟩
def cv (h n : Int) : Bool := decide (Builtin.bitAnd h n = n)
def post0 : Pst := (0, 0, 0)
def chI (h : Int) (ps : List Pst) (i : Nat) : List Int := ((List.range i).filter fun j => cv h (ps[j]?.getD post0).1).map fun j : Nat => (j : Int) + 1
def ch (h : Int) (ps : List Pst) : List Int := 0 :: chI h ps ps.length
def ngt (ps : List Pst) : Nat → Bool
  | 0 => false
  | k + 1 => decide ((ps[k]?.getD post0).2.2 = 1)
def tb (d : Int) (hs : List Int) (ps : List Pst) : Nat → Int
  | 0 => 1
  | i + 1 => tb d hs ps i * ((ch (hs[i]?.getD 0) ps).length : Int) ^ d.toNat
theorem Paired.getR {α β : Type} {F : α → β → Prop} : ∀ {xs : List α} {ys : List β} {i : Nat} {y : β}, Paired F xs ys → ys[i]? = some y → ∃ x, xs[i]? = some x ∧ F x y
  | _, _, _, _, .nil, e => by simp at e
  | _, _, 0, _, .cons r _, e => by simp at e; subst e; exact ⟨_, rfl, r⟩
  | _, _, i + 1, y, .cons _ t, e => by
    obtain ⟨u, h1, h2⟩ := Paired.getR (i := i) (y := y) t (by simpa using e)
    exact ⟨u, by simpa using h1, h2⟩
theorem like_den {K : PySem.W.Frag} {H : Hp} : ∀ (n : Nat) (x : V) (d : DV), Den K H n x d → Like n d d := by
  intro n
  induction n with
  | zero =>
    intro x d h
    cases d with
    | lst ds => cases x <;> exact False.elim h
    | tup ds => cases x <;> exact False.elim h
    | _ => exact True.intro
  | succ n ih =>
    intro x d h
    cases d with
    | lst ds =>
      cases x with
      | ref a =>
        obtain ⟨xs, _, hp⟩ : ∃ xs, SqL K H a xs ∧ Paired (Den K H n) xs ds := h
        intro _ i d e h1 h2
        rw [h1] at h2
        cases h2
        obtain ⟨y, _, hy⟩ := Paired.getR hp h1
        exact ih y d hy
      | _ => exact False.elim h
    | tup ds =>
      cases x with
      | ref a =>
        obtain ⟨xs, _, hp⟩ : ∃ xs, SqT K H a xs ∧ Paired (Den K H n) xs ds := h
        intro i d e h1 h2
        rw [h1] at h2
        cases h2
        obtain ⟨y, _, hy⟩ := Paired.getR hp h1
        exact ih y d hy
      | _ => exact False.elim h
    | _ => exact True.intro
end My

set_option Elab.async false
set_option linter.all false
set_option maxRecDepth 100000
set_option maxHeartbeats 1000000
namespace My
open PySem L2
def RowV (H : Hp) (v : V) (row : List Int) : Prop := ∃ t, v = .ref t ∧ H t = some (.lst (row.map V.int))
abbrev Rows (H : Hp) : List V → List (List Int) → Prop := Paired (RowV H)
theorem Rows.mono {H H' : Hp} (g : Same H H') {ts : List V} {rows : List (List Int)} (h : Rows H ts rows) : Rows H' ts rows := Paired.mapP h fun _ _ ⟨t, e, q⟩ => ⟨t, e, g _ _ q⟩
theorem Rows.len {H : Hp} {ts : List V} {rows : List (List Int)} (h : Rows H ts rows) : ts.length = rows.length := Paired.length h
theorem Rows.at' {H : Hp} {ts : List V} {rows : List (List Int)} (h : Rows H ts rows) {i : Nat} {v : V} (e : ts[i]? = some v) : ∃ row, rows[i]? = some row ∧ RowV H v row := Paired.get' h e
theorem Rows.get {H : Hp} {ts : List V} {rows : List (List Int)} (h : Rows H ts rows) {i : Nat} {row : List Int} (e : rows[i]? = some row) : ∃ t, ts[i]? = some (.ref t) ∧ H t = some (.lst (row.map V.int)) := by
  obtain ⟨v, e1, t, rfl, q⟩ := Paired.getR h e
  exact ⟨t, e1, q⟩
theorem Rows.snoc {H : Hp} {ts : List V} {rows : List (List Int)} {v : V} {row : List Int} (h : Rows H ts rows) (hv : RowV H v row) : Rows H (ts ++ [v]) (rows ++ [row]) := by
  induction h with
  | nil => exact .cons hv .nil
  | cons a _ ih => exact .cons a ih
theorem Rows.off {H : Hp} {ts : List V} {rows : List (List Int)} {l : Addr} {o : HO} (h : Rows H ts rows) (hl : V.ref l ∉ ts) : Rows (upd H l o) ts rows := by
  induction h with
  | nil => exact .nil
  | cons a _ ih =>
    obtain ⟨t, rfl, q⟩ := a
    have ne : t ≠ l := fun z => hl (by rw [z]; exact List.mem_cons_self)
    exact .cons ⟨t, rfl, by rw [upd_ne ne]; exact q⟩ (ih fun z => hl (List.mem_cons_of_mem _ z))
theorem Rows.tracked {H : Hp} {ts : List V} {rows : List (List Int)} (h : Rows H ts rows) {l : Addr} (hl : V.ref l ∈ ts) : ∃ row : List Int, H l = some (.lst (row.map V.int)) := by
  induction h with
  | nil => cases hl
  | cons a _ ih =>
    obtain ⟨t, rfl, q⟩ := a
    rcases List.mem_cons.mp hl with z | z
    · cases z
      exact ⟨_, q⟩
    · exact ih z
theorem Rows.notin {H : Hp} {ts : List V} {rows : List (List Int)} (h : Rows H ts rows) {l : Addr} (hl : H l = none) : V.ref l ∉ ts := fun z => by
  obtain ⟨row, q⟩ := h.tracked z
  rw [hl] at q
  cases q
/-- row i's list is changed -/
theorem Rows.put {H : Hp} : ∀ {ts : List V} {rows : List (List Int)} {i : Nat} {t : Addr} {row : List Int}, Rows H ts rows → ts.Nodup → ts[i]? = some (.ref t) → Rows (upd H t (.lst (row.map V.int))) ts (rows.set i row)
  | _, _, _, _, _, .nil, _, e => by simp at e
  | _, _, 0, t, row, .cons a r, nd, e => by
    simp at e
    subst e
    have hn := (List.nodup_cons.mp nd).1
    exact .cons ⟨t, rfl, upd_same⟩ (Rows.off r hn)
  | v :: ts, _ :: rows, i + 1, t, row, .cons a r, nd, e => by
    have hn := (List.nodup_cons.mp nd)
    obtain ⟨t', rfl, q⟩ := a
    have e' : ts[i]? = some (.ref t) := by simpa using e
    have ne : t' ≠ t := fun z => hn.1 (by rw [z]; exact List.mem_of_getElem? e')
    exact .cons ⟨t', rfl, by rw [upd_ne ne]; exact q⟩ (Rows.put r hn.2 e')
def rD (row : List Int) : DV := .lst (row.map DV.int)
def tD (rows : List (List Int)) : DV := .lst (rows.map rD)
theorem den_rows {K : PySem.W.Frag} {H : Hp} {n : Nat} {a : Addr} {ts : List V} {rows : List (List Int)} (h : SqL K H a ts) (hT : Rows H ts rows) : Den K H (n + 2) (.ref a) (tD rows) := by
  refine ⟨_, h, ?_⟩
  clear h
  induction hT with
  | nil => exact .nil
  | cons a _ ih =>
    obtain ⟨t, rfl, q⟩ := a
    exact .cons (den_ints (SqL.of q)) ih
theorem like_nil {n : Nat} {ds : List DV} : Like (n + 1) (.lst ds) (.lst []) := fun _ i d e _ h2 => by simp at h2
structure RotaOk (d : Int) (n m : Nat) (rows : List (List Int)) : Prop where
  len : rows.length = n
  rl : ∀ r ∈ rows, (r.length : Int) = d
  v : ∀ r ∈ rows, ∀ x ∈ r, 0 ≤ x ∧ x ≤ (m : Int)
def val (rows : List (List Int)) (j day : Nat) : Int := ((rows[j]?.getD [])[day]?).getD 0
def held (rows : List (List Int)) (day : Nat) (post : Int) (i : Nat) : List Int := ((List.range i).filter fun j => decide (val rows j day = post)).map fun j : Nat => (j : Int)
theorem val_of {rows : List (List Int)} {j day : Nat} {row : List Int} (h : rows[j]? = some row) (hd : day < row.length) : val rows j day = row[day] := by
  unfold val
  rw [h, Option.getD_some, List.getElem?_eq_getElem hd, Option.getD_some]
structure CopyI (H : Hp) (D : Addr) (rows : List (List Int)) (i : Nat) (H' : Hp) : Prop where
  ex : ∃ us' : List V, us'.length = i ∧ Same H H' ∧ H' D = some (.lst us') ∧ Rows H' us' (rows.take i) ∧ us'.Nodup ∧ ∀ t, V.ref t ∈ us' → t ≠ D ∧ H t = none
theorem CopyI.start {H : Hp} {D : Addr} {rows : List (List Int)} (hD : H D = none) : CopyI H D rows 0 (upd H D (.lst [])) :=
  ⟨[], rfl, same_new hD _, upd_same, by rw [List.take_zero]; exact .nil, List.nodup_nil, fun t z => by cases z⟩
theorem CopyI.same {H H' : Hp} {D : Addr} {rows : List (List Int)} {i : Nat} (h : CopyI H D rows i H') : Same H H' := by
  obtain ⟨_, _, g, _⟩ := h.ex
  exact g
theorem CopyI.step {H H' : Hp} {D l : Addr} {rows : List (List Int)} {i : Nat} {row : List Int} (h : CopyI H D rows i H') (hD : H D = none) (hrow : rows[i]? = some row) (hl : H' l = none) (hi : i ≤ 900) :
    ∃ xs, upd H' l (.lst (row.map V.int)) D = some (.lst xs) ∧ xs.length < sizeLine ∧ CopyI H D rows (i + 1) (upd (upd H' l (.lst (row.map V.int))) D (.lst (xs ++ [.ref l]))) := by
  obtain ⟨us', hu, g, e, hR, nd, fr⟩ := h.ex
  have g2 := same_new hl (.lst (row.map V.int))
  have ne : D ≠ l := ne_of_none e hl
  have hlu : V.ref l ∉ us' := hR.notin hl
  refine ⟨us', g2 _ _ e, small1000 (by omega), us' ++ [.ref l], by rw [List.length_append, hu]; rfl, same_upd hD (g.trans g2) _, upd_same, ?_, ?_, fun t ht => ?_⟩
  · refine Rows.off ?_ ?_
    · rw [List.take_add_one, hrow]
      exact Rows.snoc (hR.mono g2) ⟨l, rfl, upd_same⟩
    · intro z
      rcases List.mem_append.mp z with z | z
      · exact (fr D z).1 rfl
      · exact ne (V.ref.inj (List.mem_singleton.mp z))
  · rw [List.nodup_append]
    refine ⟨nd, by simp, fun a ha b hb => ?_⟩
    rw [List.mem_singleton.mp hb]
    exact fun z => hlu (z ▸ ha)
  · rcases List.mem_append.mp ht with z | z
    · exact fr t z
    · have : t = l := V.ref.inj (List.mem_singleton.mp z)
      subst this
      exact ⟨ne.symm, g.free hl⟩
theorem CopyI.done {H H' : Hp} {D : Addr} {rows : List (List Int)} {i : Nat} (h : CopyI H D rows i H') (hi : i = rows.length) :
    ∃ us' : List V, Same H H' ∧ H' D = some (.lst us') ∧ Rows H' us' rows ∧ us'.Nodup ∧ ∀ t, V.ref t ∈ us' → t ≠ D ∧ H t = none := by
  obtain ⟨us', hu, g, e, hR, nd, fr⟩ := h.ex
  rw [hi, List.take_length] at hR
  exact ⟨us', g, e, hR, nd, fr⟩
end My

set_option Elab.async false
set_option linter.all false
set_option maxRecDepth 100000
set_option maxHeartbeats 400000
namespace L2
open PySem PySem.Spec PyProof.Rows
theorem ObjOk.there {P : Program} {w : World} {H : Hp} {h : Heap} {a : Addr} {o : HO} (x : ObjOk P w H h a o) : ∃ ob, h.get? a = some ob := by
  cases o with
  | lst xs => obtain ⟨_, _, _, _, e⟩ := x; exact ⟨_, e⟩
  | tup xs => obtain ⟨_, _, _, ob, e, _⟩ := x; exact ⟨_, e⟩
  | dK kvs => obtain ⟨_, _, _, _, o, _, _, e, _⟩ := x; exact ⟨_, e⟩
  | dT kvs => obtain ⟨_, _, _, _, o, _, _, e, _⟩ := x; exact ⟨_, e⟩
  | set S n => obtain ⟨o, _, _, _, e, _⟩ := x; exact ⟨_, e⟩
  | ins C dx fs => obtain ⟨_, _, _, e, _⟩ := x; exact ⟨_, e⟩
  | own y => exact x
  | xd fs => obtain ⟨_, ⟨o, _, _, e, _⟩, _⟩ := x; exact ⟨_, e⟩
  | rng lo hi => obtain ⟨_, _, _, e⟩ := x; exact ⟨_, e⟩
  | frz ob u => exact ⟨_, x.1⟩
  | tbl ps => exact ⟨_, x⟩
  | met f y => exact ⟨_, x⟩
  | ext φ => exact x.2.1
section
variable {P : Program} {w : World} {l : List Env} {H H' : Hp} {s s' : Shared} {B h'' : Heap} {a : Addr} {cls a0 : Value}
end
section
variable {X : Cx} {pins : List (Addr × Obj)} {σ : St} {H H' : Hp} {s s' : Shared} {B : Heap} {a : Addr} {cls a0 : Value}
end
section
variable {P : Program} {w : World} {K : PySem.W.Frag} {mg : Str → Option Value} {base : Heap} {N : List Str} {qual : Str} {scope : Scope} {f : Addr} {cd : Value} {A : Around} {outer : List Env} {s₀ : Shared} {H₀ : Hp} {E : XK}
end
def tRaise (E : XK) (C : Addr) (ta : TA) : TS := fun _ σ H => ta σ H fun vs H1 => vs.length ≤ sizeLine ∧ E (.ref C) none H1
def tCallX (sp : Sp) (t : TA) : St → Hp → VK → XK → Prop := fun σ H Q E => t σ H fun vs H1 => sp (vs ++ []) H1 Q E
def tDropX (te : St → Hp → VK → XK → Prop) : Ends → St → Hp → XK → Prop := fun D σ H E => te σ H (fun _ H1 => D.nx σ H1) E
def tSetX (i : Nat) (te : St → Hp → VK → XK → Prop) : Ends → St → Hp → XK → Prop := fun D σ H E => te σ H (fun v H1 => D.nx (σ.set i (some v)) H1) E
def tTry0 (C : Addr) (tb : Ends → St → Hp → XK → Prop) (ts to : TS) : TS := fun D σ H => tb { D with nx := to D } σ H fun cls _ H' => cls = .ref C ∧ ts D σ H'
end L2

set_option Elab.async false
set_option linter.all false
set_option maxRecDepth 100000
set_option maxHeartbeats 1000000
namespace My
open PySem L2
theorem flat_ints (ps : List Int) : (ps.map V.int).all flatV = true := by simp [List.all_eq_true, flatV]
end My

set_option Elab.async false
set_option linter.all false
set_option maxRecDepth 100000
set_option maxHeartbeats 400000
namespace L2
open PySem PySem.Spec PySem.Calls PyProof.Rows
/-- what of an own exception class is looked at -/
structure ExcG (K : PySem.W.Frag) (C : Addr) : Prop where
  ga : PySem.W.findIn K (.ref C) "__getattribute__" = some (some (.builtin "BaseException.__getattribute__"))
  cl : PySem.W.findIn K (.ref C) "__class__" = some (some (.builtin "object.__class__"))
  no : PySem.W.findIn K (.ref C) "__getattr__" = some none
  be : PySem.W.mroIn K C (.type "BaseException") = some true
  ob : PySem.W.mroIn K C (.type "object") = some true
section
variable {K : PySem.W.Frag} {prog : Program} {w : World} {A : Around} {E : Value → Shared → Prop} {h : Heap} {g : Array GenState} {d : Drawn} {t : Nat} {os : OsState} {a C : Addr} {o : Obj}
end

theorem ExcG.cls {K : PySem.W.Frag} {C : Addr} (Z : ExcG K C) : ∃ c' d' cd sl, K.lookup C = some ⟨c', d', .cls cd, sl⟩ := by
  have e := Z.be
  unfold PySem.W.mroIn PySem.W.clsIn at e
  split at e
  · rename_i c' d' cd' sl' ho
    exact ⟨_, _, _, _, ho⟩
  · cases e
abbrev IsExc (a C : Addr) (h : Heap) : Prop := ∃ o, h.get? a = some o ∧ o.cls = .ref C
abbrev excO (a C : Addr) : HO := .ext (IsExc a C)
def vO : V → Value
  | .ref a => .ref a
  | .ty n => .type n
  | _ => .none
def rIsx (K : PySem.W.Frag) : List V → Hp → VK → Prop := fun xs H Q => ∃ a D c b, xs = [.ref a, c] ∧ H a = some (excO a D) ∧ ExcG K D ∧ PySem.W.kitOne K (.ref D) (vO c) = some b ∧ Q (.bl b) H
def rExc (C : Addr) : List V → Hp → VK → Prop := fun xs H Q => xs.length ≤ sizeLine ∧ ∀ a, H a = none → Q (.ref a) (upd H a (excO a C))
end L2

set_option Elab.async false
set_option linter.all false
set_option maxRecDepth 100000
set_option maxHeartbeats 1000000
namespace My
open PySem L2 PySem.Spec PyProof.Rows
structure InsG (K : PySem.W.Frag) (C : Addr) : Prop where
  ha : PySem.W.findIn K (.ref C) "__class__" = some (some (.builtin "object.__class__"))
  hn : PySem.W.specialIn K (.builtin "object.__class__") "__get__" = some (some (.builtin "getset_descriptor.__get__"))
  htk : PySem.W.takesIn K (.builtin "object.__class__") = some true
  hm : PySem.W.mroIn K C (.type "object") = some true
def rIsK (K : PySem.W.Frag) : List V → Hp → VK → Prop := fun xs H Q => ∃ a C dx fs c b, xs = [.ref a, c] ∧ H a = some (.ins C dx fs) ∧ Cls K C ∧ InsG K C ∧ PySem.W.kitOne K (.ref C) (vO c) = some b ∧ Q (.bl b) H
theorem call_isK {X : Cx} {K : PySem.W.Frag} (hK : X.K = K) : CallR X (.builtin "isinstance") (rIsK K) := by
  subst hK
  intro pins s σ H xs us Q I r h
  obtain ⟨a, C, dx, fs, c, b, rfl, ea, cl, G, hk, q⟩ := h
  obtain ⟨u, u', rfl, rx, rT⟩ := vals2 r
  have hc : u' = vO c := by
    cases c with
    | ref c => exact rT
    | ty n => exact rT
    | _ => exact absurd hk (by unfold PySem.W.kitOne PySem.W.kitCls vO; simp)
  subst hc
  exact isinst_ok I rx (.ins ea cl G.ha G.hn G.htk G.hm) hk fun tk => ⟨.bl _, H, I.tok _, rfl, q⟩
section
variable {X : Cx}
def rRng2 : List V → Hp → VK → Prop := fun xs H Q => ∃ i j : Int, xs = [.int i, .int j] ∧ ∀ p, H p = none → Q (.ref p) (upd H p (.rng i j))
theorem call_range_obj2 : CallR X (.type "range") rRng2 := by
  intro pins s σ H xs us Q I r h
  obtain ⟨i, j, rfl, q⟩ := h
  obtain ⟨u, u', rfl, ⟨t, rfl⟩, ⟨t', rfl⟩⟩ := vals2 r
  refine call_range_2 ⟨.ref s.heap.objs.size, _, I.laid (fun b o e => Heap.get?_push_of_some _ e) (Nat.le_refl _) ?_, rfl, q _ I.fresh⟩
  exact ⟨_, _, _, Heap.get?_push_size _ rfl⟩
def upto (i : Int) (n : Nat) : List Int := (List.range n).map fun k : Nat => i + (k : Int)
def rListR : List V → Hp → VK → Prop := fun xs H Q => ∃ p, ∃ i j : Int, xs = [.ref p] ∧ H p = some (.rng i j) ∧ -1000 ≤ i ∧ i ≤ 1000 ∧ j ≤ 1000 ∧ -1000 ≤ j ∧ ∀ l, H l = none → Q (.ref l) (upd H l (.lst ((upto i (j - i).toNat).map V.int)))
theorem call_list_rng2 (hc : X.calm = true) : CallR X (.type "list") rListR := by
  intro pins s σ H xs us Q I r h
  obtain ⟨p, i, j, rfl, hp, i0, i1, j1, j0, q⟩ := h
  obtain ⟨u, rfl, ru⟩ := vals1 r
  cases ru
  obtain ⟨t, u', v, e⟩ := I.hok p _ hp
  have hn : Builtin.Range.rangeSize i j 1 = ((j - i).toNat : Int) := by rw [rangeSize_one]; split <;> omega
  refine call_list_range (I.ok.hd hc) (a := i) (b := j) (c := 1) e (small_one (by omega) (by omega) (by omega) (by omega)) hn (by omega) fun h' tk acc' c' hk hS hacc => ?_
  refine ⟨.ref s.heap.objs.size, _, I.laid hk (Nat.le_refl _) (o := .lst ((upto i (j - i).toNat).map V.int)) ?_, rfl, q _ I.fresh⟩
  refine ⟨by unfold upto; simp only [List.length_map, List.length_range]; rw [sizeLine_eq]; omega, acc'.toList, c', ?_, by simpa using hS⟩
  have go : ∀ (n k : Nat) (l : List Value), l.length = n → (∀ (m : Nat) (v : Value), l[m]? = some v → ∃ t, v = Value.int (i + ((m + k : Nat) : Int) * 1) t) → Vals (((List.range' k n).map fun m : Nat => i + (m : Int)).map V.int) l := by
    intro n
    induction n with
    | zero =>
      intro k l hl _
      cases l with
      | nil => exact .nil
      | cons a b => simp at hl
    | succ n ih =>
      intro k l hl hv
      cases l with
      | nil => simp at hl
      | cons a b =>
        rw [List.range'_succ, List.map_cons, List.map_cons]
        refine .cons ?_ (ih (k + 1) b (by simpa using hl) fun m v hm => ?_)
        · obtain ⟨t, e⟩ := hv 0 a (by simp)
          exact ⟨t, by rw [e]; congr 1; omega⟩
        · obtain ⟨t, e⟩ := hv (m + 1) v (by simpa using hm)
          exact ⟨t, by rw [e]; congr 1; omega⟩
  have := go (j - i).toNat 0 acc'.toList (by simp [hacc.1]) fun m v hm => hacc.2 m v (by simpa using hm)
  rw [← List.range_eq_range'] at this
  exact this
def rStr : List V → Hp → VK → Prop := fun xs H Q => (∃ i : Int, xs = [.int i] ∧ i.natAbs.log2 < 1920 ∧ Q (.str (toString i)) H) ∨ ∃ z, xs = [.str z] ∧ Q (.str z) H
def Its (lo c : Int) (n : Nat) : It := ⟨fun i _ => i < n, fun i H x H' => H' = H ∧ x = .int (lo + i * c), fun i _ => n ≤ i⟩
def iRng3 (ta : TA) : TI := fun σ H R => ta σ H fun vs H1 => ∃ i j : Int, vs = [.int i, .int j, .int 2] ∧ (-1000 ≤ i ∧ i ≤ 1000 ∧ -1000 ≤ j ∧ j ≤ 1000) ∧ R (Its i 2 ((j - i + 1) / 2).toNat) H1
end
end My
namespace My
open PySem L2
end My

set_option Elab.async false
set_option linter.all false
set_option maxRecDepth 100000
set_option maxHeartbeats 400000
namespace L2
open PySem PySem.Spec PySem.Calls PyProof.Rows
/-- what an except looks at: the class W of the text, the class C that flies -/
structure ExcM (K : PySem.W.Frag) (mg : Str → Option Value) (x : Str) (W C : Addr) : Prop where
  at_ : mg x = some (.ref W)
  ty : PySem.W.typeIn K (.ref W) = some (.type "type")
  be : PySem.W.mroIn K W (.type "BaseException") = some true
  sub : PySem.W.mroIn K C (.ref W) = some true
section
variable {X : Cx} {pins : List (Addr × Obj)} {σ : St} {H H' : Hp} {s s' : Shared} {B : Heap} {a : Addr} {cls a0 : Value}
end
/-- the name of an except is gone behind it -/
def Ends.gone (D : Ends) (i : Nat) : Ends := { nx := fun σ H => D.nx (σ.set i none) H, rt := D.rt, bk := fun σ H => D.bk (σ.set i none) H, ct := fun σ H => D.ct (σ.set i none) H }
def tTryA (i : Nat) (K : PySem.W.Frag) (mg : Str → Option Value) (x : Str) (W : Addr) (tb : Ends → St → Hp → XK → Prop) (ts to : TS) : TS := fun D σ H =>
  tb { D with nx := to D } σ H fun cls _ H' => ∃ C, cls = .ref C ∧ ExcM K mg x W C ∧ ∀ a, H' a = none → ts (D.gone i) (σ.set i (some (.ref a))) (upd H' a (excO a C))
theorem pe_fldK {X : Cx} {K : PySem.W.Frag} {e : Expr} {ta : TE} {f : Str} {pos : Pos} (hK : X.K = K) (he : PE X e ta) (hb : attributeBase e f X.env (eval e X.env) = eval e X.env) : PE X (.Attribute e f pos) (tFld K ta f) := by subst hK; exact pe_fld he hb
end L2

set_option Elab.async false
set_option linter.all false
set_option maxRecDepth 100000
set_option maxHeartbeats 1000000
namespace My
open PySem L2
section
variable {d : Int} {hs : List Int} {ps : List Pst} {i : Nat} {rows : List (List Int)} {row : List Int} {x : Int}
end
section
variable {H : Hp} {us : List V} {rows : List (List Int)} {v : V} {row : List Int}
theorem Rows.ins : ∀ (k : Nat) {us : List V} {rows : List (List Int)}, Rows H us rows → RowV H v row → Rows H (us.take k ++ v :: us.drop k) (rows.take k ++ row :: rows.drop k)
  | 0, _, _, h, hv => .cons hv h
  | _ + 1, _, _, .nil, hv => .cons hv .nil
  | k + 1, _, _, .cons a r, hv => .cons a (Rows.ins k r hv)
theorem mem_ins {α : Type} {us : List α} {v x : α} {k : Nat} (h : x ∈ us.take k ++ v :: us.drop k) : x = v ∨ x ∈ us := by
  rcases List.mem_append.mp h with z | z
  · exact .inr (List.mem_of_mem_take z)
  · rcases List.mem_cons.mp z with z | z
    · exact .inl z
    · exact .inr (List.mem_of_mem_drop z)
theorem len_ins {α : Type} {us : List α} {v : α} {k : Nat} : (us.take k ++ v :: us.drop k).length = us.length + 1 := by
  rw [List.length_append, List.length_cons, List.length_take, List.length_drop]
  omega
end
def cl (n k : Nat) : List (Int × Int) := (List.range k).map fun j => (((j % n : Nat) : Int), ((j / n : Nat) : Int))
section
variable {H H' H'' : Hp} {r : Addr} {us us' : List V} {rows rows' : List (List Int)} {n L : Nat}
end
end My

set_option Elab.async false
set_option linter.all false
set_option maxRecDepth 100000
set_option maxHeartbeats 1000000
namespace My
open PySem L2
theorem paired_snoc {α β : Type} {F : α → β → Prop} {xs : List α} {ys : List β} {x : α} {y : β} (h : Paired F xs ys) (hx : F x y) : Paired F (xs ++ [x]) (ys ++ [y]) := by
  induction h with
  | nil => exact .cons hx .nil
  | cons a _ ih => exact .cons a ih
theorem paired_app {α β : Type} {F : α → β → Prop} {xs xs' : List α} {ys ys' : List β} (h : Paired F xs ys) (h' : Paired F xs' ys') : Paired F (xs ++ xs') (ys ++ ys') := by
  induction h with
  | nil => exact h'
  | cons a _ ih => exact .cons a ih
theorem take_one {α : Type} {xs : List α} {i : Nat} {x : α} (h : xs[i]? = some x) : xs.take (i + 1) = xs.take i ++ [x] := by
  rw [List.take_succ, h]
  rfl
def Tups (H H' : Hp) : Prop := ∀ a xs, H a = some (.tup xs) → H' a = some (.tup xs)
theorem tups_same {H H' : Hp} (g : Same H H') : Tups H H' := fun a xs e => g _ _ e
theorem Tups.trans {H H' H'' : Hp} (g : Tups H H') (g' : Tups H' H'') : Tups H H'' := fun a xs e => g' _ _ (g _ _ e)
theorem tups_upd {H : Hp} {l : Addr} {o : HO} (h : ∀ xs, H l ≠ some (.tup xs)) : Tups H (upd H l o) := fun a xs e => by
  have ne : a ≠ l := fun z => h xs (by rw [← z]; exact e)
  rw [upd_ne ne]; exact e
theorem tups_lst {H : Hp} {l : Addr} {ys : List V} {o : HO} (h : H l = some (.lst ys)) : Tups H (upd H l o) := tups_upd fun xs z => by rw [h] at z; cases z
structure Prt where
  h : Int
  d : Int
  p : Int
  n : Int
def PrtV (H : Hp) (v : V) (q : Prt) : Prop := ∃ t, v = .ref t ∧ H t = some (.tup [.int q.h, .int q.d, .int q.p, .int q.n])
abbrev Prts (H : Hp) : List V → List Prt → Prop := Paired (PrtV H)
theorem Prts.mono {H H' : Hp} (g : Tups H H') {ts : List V} {qs : List Prt} (h : Prts H ts qs) : Prts H' ts qs := Paired.mapP h fun _ _ ⟨t, e, q⟩ => ⟨t, e, g _ _ q⟩
structure Lin where
  ps : List Prt
  b : Int
def LinV (H : Hp) (v : V) (l : Lin) : Prop := ∃ t u ts, v = .ref t ∧ H t = some (.tup [.ref u, .int l.b]) ∧ H u = some (.tup ts) ∧ Prts H ts l.ps
abbrev Lins (H : Hp) : List V → List Lin → Prop := Paired (LinV H)
def tot (rows : List (List Int)) (qs : List Prt) : Int := (qs.map fun q => if val rows q.h.toNat q.d.toNat = q.p then q.n else 0).sum
theorem tot_app (rows : List (List Int)) (a b : List Prt) : tot rows (a ++ b) = tot rows a + tot rows b := by
  unfold tot
  rw [List.map_append, List.sum_append]
theorem tot_one (rows : List (List Int)) (q : Prt) : tot rows [q] = if val rows q.h.toNat q.d.toNat = q.p then q.n else 0 := by
  unfold tot
  rw [List.map_singleton, List.sum_singleton]
def spr (h : Int) (ds ps : List Int) (n : Int) : List Prt := ds.flatMap fun d => ps.map fun p => ⟨h, d, p, n⟩
theorem spr_snoc (h : Int) (ds : List Int) (d : Int) (ps : List Int) (n : Int) : spr h (ds ++ [d]) ps n = spr h ds ps n ++ ps.map fun p => ⟨h, d, p, n⟩ := by
  unfold spr
  rw [List.flatMap_append, List.flatMap_singleton]
theorem spr_len (h : Int) (ps : List Int) (n : Int) : ∀ ds : List Int, (spr h ds ps n).length = ds.length * ps.length
  | [] => by simp [spr]
  | d :: ds => by
    have ih := spr_len h ps n ds
    unfold spr at ih ⊢
    rw [List.flatMap_cons, List.length_append, ih, List.length_map, List.length_cons, Nat.succ_mul]
    omega
def hit (rows : List (List Int)) (h : Int) (ps : List Int) (d : Int) : Bool := decide (val rows h.toNat d.toNat ∈ ps)
def allP (ps : List Pst) : List Int := upto 1 ps.length
def npI (ps : List Pst) (i : Nat) : List Int := ((List.range i).filter fun j => ngt ps (j + 1)).map fun j : Nat => 1 + (j : Int)
def np (ps : List Pst) : List Int := npI ps ps.length
end My
namespace My
open PySem L2
def hm (h m : Int) : List (Str × V) := putF "many" (.int m) (putF "hand" (.int h) [])
end My
namespace My
open PySem L2
end My
namespace My
open PySem L2
end My

set_option Elab.async false
set_option linter.all false
set_option maxRecDepth 100000
set_option maxHeartbeats 1000000
namespace My
open PySem L2
def at_ (bs : List Bool) (j : Nat) : Bool := bs[j]?.getD false
end My
namespace My
open PySem L2
theorem RotaOk.setv {d : Int} {n m : Nat} {rows : List (List Int)} (h : RotaOk d n m rows) {i j : Nat} {row : List Int} {v : Int} (hr : rows[i]? = some row) (v0 : 0 ≤ v) (v1 : v ≤ (m : Int)) : RotaOk d n m (rows.set i (row.set j v)) := by
  refine ⟨by rw [List.length_set]; exact h.len, fun r hr' => ?_, fun r hr' x hx => ?_⟩
  · rcases List.mem_or_eq_of_mem_set hr' with z | z
    · exact h.rl r z
    · rw [z, List.length_set]
      exact h.rl row (List.mem_of_getElem? hr)
  · rcases List.mem_or_eq_of_mem_set hr' with z | z
    · exact h.v r z x hx
    · rw [z] at hx
      rcases List.mem_or_eq_of_mem_set hx with y | y
      · exact h.v row (List.mem_of_getElem? hr) x y
      · rw [y]
        exact ⟨v0, v1⟩
theorem ixN_lt {n e : Nat} (h : e < n) : ixN n (e : Int) = some e := by
  unfold ixN
  rw [if_pos (by omega), if_pos (by omega), Int.toNat_natCast]
end My
namespace My
open PySem L2
end My
namespace My
open PySem L2
theorem for_of {wi : TI} {g : TG} {tb : TS} {D : Ends} {σ : St} {H : Hp} (h : ∀ B : TS, B = tb → tFor wi g B D σ H) : tFor wi g tb D σ H := h tb rfl
end My

set_option Elab.async false
set_option linter.all false
set_option maxRecDepth 100000
set_option maxHeartbeats 1000000
namespace My
open PySem L2
def dpI (ps : List Pst) (i : Nat) : List Int := ((List.range i).filter fun j => !ngt ps (j + 1)).map fun j : Nat => 1 + (j : Int)
def dp (ps : List Pst) : List Int := dpI ps ps.length
end My

set_option Elab.async false
set_option linter.all false
set_option maxRecDepth 100000
set_option maxHeartbeats 1000000
namespace L2
open PySem PySem.Spec PyProof.Rows
section
variable {prog : Program} {w : World} {A : Around} {E : Value → Shared → Prop} {s : Shared}
end
section
variable {X : Cx}
/-- t + u of any two tuples -/
def rCatA : R2 := fun x y H Q => ∃ a b xs ys, x = .ref a ∧ y = .ref b ∧ H a = some (.tup xs) ∧ H b = some (.tup ys) ∧ xs.length + ys.length ≤ sizeLine ∧ ∀ t H', L2.Same H H' → H' t = some (.tup (xs ++ ys)) → Q (.ref t) H'
end
end L2
namespace My
open PySem L2
end My

set_option Elab.async false
set_option linter.all false
set_option maxRecDepth 100000
namespace L2
open PySem PySem.Spec PyProof.Rows

section
variable {κ : Type} [DecidableEq κ]
def valV (kvs : List (κ × V)) (k : κ) : Option V := (kvs.find? fun kv => decide (kv.1 = k)).map (·.2)
/-- in its place, or at the end -/
def putK (kvs : List (κ × V)) (k : κ) (v : V) : List (κ × V) :=
  if (kvs.any fun kv => decide (kv.1 = k)) = true then kvs.map (fun kv => if kv.1 = k then (kv.1, v) else kv) else kvs ++ [(k, v)]
def dropK (kvs : List (κ × V)) (k : κ) : List (κ × V) := kvs.filter fun kv => decide (kv.1 ≠ k)

theorem valV_pos {p : κ × V} {r : List (κ × V)} {k : κ} (e : p.1 = k) : valV (p :: r) k = some p.2 := by simp [valV, List.find?_cons, e]
theorem valV_neg {p : κ × V} {r : List (κ × V)} {k : κ} (e : ¬ p.1 = k) : valV (p :: r) k = valV r k := by simp [valV, List.find?_cons, e]
theorem valV_any (k : κ) : ∀ kvs : List (κ × V), (kvs.any fun kv => decide (kv.1 = k)) = (valV kvs k).isSome
  | [] => rfl
  | p :: r => by
    rw [List.any_cons]
    by_cases e : p.1 = k
    · simp only [valV_pos e, decide_eq_true e, Bool.true_or, Option.isSome_some]
    · rw [valV_neg e, decide_eq_false e, Bool.false_or]; exact valV_any k r
theorem valV_map (k j : κ) (y : V) : ∀ kvs : List (κ × V), valV (kvs.map fun kv => if kv.1 = k then (kv.1, y) else kv) j = (valV kvs j).map fun x => if j = k then y else x
  | [] => rfl
  | p :: r => by
    have ih := valV_map k j y r
    rw [List.map_cons]
    by_cases h : p.1 = k
    · rw [if_pos h]
      by_cases e : p.1 = j
      · rw [valV_pos (p := (p.1, y)) e, valV_pos e, Option.map_some, if_pos (e.symm.trans h)]
      · rw [valV_neg (p := (p.1, y)) e, valV_neg e, ih]
    · rw [if_neg h]
      by_cases e : p.1 = j
      · rw [valV_pos (p := p) e, valV_pos e, Option.map_some, if_neg (fun z => h (e.trans z))]
      · rw [valV_neg (p := p) e, valV_neg e, ih]
theorem valV_snoc (k j : κ) (y : V) : ∀ kvs : List (κ × V), valV kvs k = none → valV (kvs ++ [(k, y)]) j = if j = k then some y else valV kvs j
  | [], _ => by
    by_cases e : k = j
    · rw [if_pos e.symm]; exact valV_pos (p := (k, y)) e
    · rw [if_neg (fun z => e z.symm)]; exact valV_neg (p := (k, y)) e
  | p :: r, hn => by
    rw [List.cons_append]
    have hk : ¬ p.1 = k := fun z => by rw [valV_pos z] at hn; cases hn
    rw [valV_neg hk] at hn
    have ih := valV_snoc k j y r hn
    by_cases e : p.1 = j
    · rw [valV_pos e, valV_pos e, if_neg (fun z => hk (e.trans z))]
    · rw [valV_neg e, valV_neg e, ih]
theorem valV_put (kvs : List (κ × V)) (k j : κ) (y : V) : valV (putK kvs k y) j = if j = k then some y else valV kvs j := by
  unfold putK
  by_cases a : (kvs.any fun kv => decide (kv.1 = k)) = true
  · rw [if_pos a, valV_map]
    rw [valV_any] at a
    by_cases e : j = k
    · obtain ⟨x, hx⟩ := Option.isSome_iff_exists.mp a
      rw [if_pos e, e, hx, Option.map_some, if_pos rfl]
    · rw [if_neg e]
      cases valV kvs j with
      | none => rfl
      | some x => rw [Option.map_some, if_neg e]
  · rw [if_neg a]
    refine valV_snoc k j y kvs ?_
    rw [valV_any] at a
    cases q : valV kvs k with
    | none => rfl
    | some x => rw [q] at a; exact (a rfl).elim
theorem length_putK (kvs : List (κ × V)) (k : κ) (v : V) : (putK kvs k v).length ≤ kvs.length + 1 := by
  unfold putK
  split
  · rw [List.length_map]; omega
  · rw [List.length_append, List.length_cons, List.length_nil]; omega
theorem RelO.isSome_eq {o : Option V} {u : Option Value} (r : RelO o u) : o.isSome = u.isSome := by
  cases o with
  | none => cases u with
    | none => rfl
    | some _ => exact (show False from r).elim
  | some _ => cases u with
    | none => exact (show False from r).elim
    | some _ => rfl
theorem RelO.getD {o : Option V} {u : Option Value} {d : V} {d' : Value} (r : RelO o u) (rd : RelV d d') : RelV (o.getD d) (u.getD d') := by
  cases o with
  | none => cases u with
    | none => exact rd
    | some _ => exact (show False from r).elim
  | some _ => cases u with
    | none => exact (show False from r).elim
    | some _ => exact r

/-- raw tables of the same keys -/
theorem KV.val {kvs : List (κ × V)} {vs : List (κ × Value)} (r : KV kvs vs) (k : κ) : RelO (valV kvs k) (valueAt vs k) := by
  unfold KV at r
  induction r with
  | nil => exact True.intro
  | @cons p q ps qs h t ih =>
    obtain ⟨h1, h2⟩ := h
    by_cases e : p.1 = k
    · have e' : q.1 = k := h1.symm.trans e
      have b : valueAt (q :: qs) k = some q.2 := by simp [valueAt, List.find?_cons, e']
      rw [valV_pos e, b]; exact h2
    · have e' : ¬ q.1 = k := fun z => e (h1.trans z)
      have b : valueAt (q :: qs) k = valueAt qs k := by simp [valueAt, List.find?_cons, e']
      rw [valV_neg e, b]; exact ih
theorem KV.any {kvs : List (κ × V)} {vs : List (κ × Value)} (r : KV kvs vs) (k : κ) : (kvs.any fun kv => decide (kv.1 = k)) = vs.any fun kv => decide (kv.1 = k) := by
  unfold KV at r
  induction r with
  | nil => rfl
  | cons h t ih => rw [List.any_cons, List.any_cons, ih, h.1]
theorem KV.repl {kvs : List (κ × V)} {vs : List (κ × Value)} (r : KV kvs vs) (k : κ) {y : V} {u : Value} (ry : RelV y u) :
    KV (kvs.map fun kv => if kv.1 = k then (kv.1, y) else kv) (vs.map fun kv => if kv.1 = k then (kv.1, u) else kv) := by
  unfold KV at r ⊢
  induction r with
  | nil => exact .nil
  | @cons p q ps qs h t ih =>
    rw [List.map_cons, List.map_cons]
    refine .cons ?_ ih
    obtain ⟨h1, h2⟩ := h
    by_cases e : p.1 = k
    · rw [if_pos e, if_pos (h1.symm.trans e)]; exact ⟨h1, ry⟩
    · rw [if_neg e, if_neg (fun z => e (h1.trans z))]; exact ⟨h1, h2⟩
theorem KV.put {kvs : List (κ × V)} {vs : List (κ × Value)} (r : KV kvs vs) (k : κ) {y : V} {u : Value} (ry : RelV y u) : KV (putK kvs k y) (stored vs k u) := by
  unfold putK stored
  rw [r.any k]
  by_cases e : (vs.any fun kv => decide (kv.1 = k)) = true
  · rw [if_pos e, if_pos e]; exact r.repl k ry
  · rw [if_neg e, if_neg e]; exact Paired.snoc r ⟨rfl, ry⟩
theorem KV.drop {kvs : List (κ × V)} {vs : List (κ × Value)} (r : KV kvs vs) (k : κ) : KV (dropK kvs k) (without vs k) := by
  unfold KV at r ⊢
  unfold dropK without
  induction r with
  | nil => exact .nil
  | @cons p q ps qs h t ih =>
    obtain ⟨h1, h2⟩ := h
    rw [List.filter_cons, List.filter_cons]
    by_cases e : p.1 = k
    · have a : ¬ decide (p.1 ≠ k) = true := by simp [e]
      have b : ¬ decide (q.1 ≠ k) = true := by simp [h1.symm.trans e]
      rw [if_neg a, if_neg b]; exact ih
    · have e' : ¬ q.1 = k := fun z => e (h1.trans z)
      have a : decide (p.1 ≠ k) = true := by simp [e]
      have b : decide (q.1 ≠ k) = true := by simp [e']
      rw [if_pos a, if_pos b]; exact .cons ⟨h1, h2⟩ ih
theorem KV.length {kvs : List (κ × V)} {vs : List (κ × Value)} (r : KV kvs vs) : kvs.length = vs.length := Paired.length r
end


theorem kV_is {P : Program} {w : World} {k : Key} {u : Value} (r : RelV (kV k) u) : (mixKind P w).is k u = true := by
  cases k with
  | inl i => obtain ⟨t, e⟩ := (show ∃ t, u = Value.int i t from r); subst e; exact mixKind_int P w i t
  | inr x => obtain ⟨t, e⟩ := (show ∃ t, u = Value.str x t from r); subst e; exact mixKind_str P w x t
theorem items_are {P : Program} {w : World} : ∀ {ks : List Key} {us : List Value}, Vals (ks.map kV) us → ItemsAre (mixKind P w) ks us
  | [], _, r => by rw [List.map_nil] at r; cases r; exact .nil
  | k :: ks, _, r => by
    rw [List.map_cons] at r
    cases r with
    | cons h t => exact .cons (kV_is h) (items_are t)

/-- raw entries of a dict with tuple keys -/
abbrev KT (H : Hp) : List (List Key × V) → List (List Key × Addr × Value) → Prop := Paired fun p q => p.1 = q.1 ∧ H q.2.1 = some (.tup (p.1.map kV)) ∧ RelV p.2 q.2.2
theorem KT.val {H : Hp} {kvs : List (List Key × V)} {xs : List (List Key × Addr × Value)} (r : KT H kvs xs) (k : List Key) : RelO (valV kvs k) ((atKey xs k).map (·.2)) := by
  induction r with
  | nil => exact True.intro
  | @cons p q ps qs h t ih =>
    obtain ⟨h1, _, h2⟩ := h
    by_cases e : p.1 = k
    · have e' : q.1 = k := h1.symm.trans e
      have b : atKey (q :: qs) k = some q.2 := by simp [atKey, List.find?_cons, e']
      rw [valV_pos e, b]; exact h2
    · have e' : ¬ q.1 = k := fun z => e (h1.trans z)
      have b : atKey (q :: qs) k = atKey qs k := by simp [atKey, List.find?_cons, e']
      rw [valV_neg e, b]; exact ih
theorem KT.repl {H : Hp} {kvs : List (List Key × V)} {xs : List (List Key × Addr × Value)} (r : KT H kvs xs) (k : List Key) {y : V} {u : Value} (ry : RelV y u) :
    KT H (kvs.map fun kv => if kv.1 = k then (kv.1, y) else kv) (xs.map (putAt k u)) := by
  induction r with
  | nil => exact .nil
  | @cons p q ps qs h t ih =>
    rw [List.map_cons, List.map_cons]
    refine .cons ?_ ih
    obtain ⟨h1, h2, h3⟩ := h
    unfold putAt
    by_cases e : p.1 = k
    · rw [if_pos e, if_pos (h1.symm.trans e)]; exact ⟨h1, h2, ry⟩
    · rw [if_neg e, if_neg (fun z => e (h1.trans z))]; exact ⟨h1, h2, h3⟩
theorem KT.put {H : Hp} {kvs : List (List Key × V)} {xs : List (List Key × Addr × Value)} (r : KT H kvs xs) (k : List Key) {b : Addr} {y : V} {u : Value} (hb : H b = some (.tup (k.map kV))) (ry : RelV y u) :
    KT H (putK kvs k y) (storedH xs k b u) := by
  have e : (kvs.any fun kv => decide (kv.1 = k)) = (atKey xs k).isSome := by
    rw [valV_any, (r.val k).isSome_eq, Option.isSome_map]
  unfold putK storedH
  rw [e]
  by_cases q : (atKey xs k).isSome = true
  · rw [if_pos q, if_pos q]; exact r.repl k ry
  · rw [if_neg q, if_neg q]; exact Paired.snoc r ⟨rfl, hb, ry⟩
theorem KT.keeps {H H' : Hp} {kvs : List (List Key × V)} {xs : List (List Key × Addr × Value)} (r : KT H kvs xs) (ht : ∀ b ys, H b = some (.tup ys) → H' b = some (.tup ys)) : KT H' kvs xs :=
  Paired.mapP r fun _ _ z => ⟨z.1, ht _ _ z.2.1, z.2.2⟩

section
variable {P : Program} {w : World} {H : Hp} {h : Heap} {a : Addr}
theorem rd_of {u : HO} (ok : HOk P w H h) (e : Rd H a u) : ObjOk P w H h a u := e.ok ok
theorem dk_rd {kvs : List (Key × V)} (ok : HOk P w H h) (e : Rd H a (.dK kvs)) : kvs.length ≤ sizeLine ∧ (a == sysModules) = false ∧ ∃ vs, KV kvs vs ∧ h.DictOf (mixKind P w) a vs :=
  show ObjOk P w H h a (.dK kvs) from rd_of ok e
theorem dk_of {kvs : List (Key × V)} (ok : HOk P w H h) (e : H a = some (.dK kvs)) : kvs.length ≤ sizeLine ∧ (a == sysModules) = false ∧ ∃ vs, KV kvs vs ∧ h.DictOf (mixKind P w) a vs := dk_rd ok (.inl e)
/-- a tracked tuple of ints and texts is a key -/
theorem key_of {ks : List Key} (ok : HOk P w H h) (e : H a = some (.tup (ks.map kV))) : (tupleKind (mixKind P w)).is h ks a := by
  obtain ⟨_, its, r, o, h1, h2, n, h3⟩ := (show ObjOk P w H h a (.tup (ks.map kV)) from ok a _ e)
  exact ⟨o, its.toArray, n, h1, h2, h3, by simpa using items_are r⟩
theorem dt_rd {kvs : List (List Key × V)} (ok : HOk P w H h) (e : Rd H a (.dT kvs)) : kvs.length ≤ sizeLine ∧ (a == sysModules) = false ∧
    ∃ xs, KT H kvs xs ∧ h.DictOfH (tupleKind (mixKind P w)) a xs := by
  obtain ⟨z, y, xs, r, o, es, ep, h1, h2, h3, h4, h5⟩ := (show ObjOk P w H h a (.dT kvs) from rd_of ok e)
  refine ⟨z, y, xs, r, o, es, ep, h1, h2, h3, h4, fun x hx => ?_, h5⟩
  have all : ∀ {l : List (List Key × V)} {m : List (List Key × Addr × Value)}, KT H l m → ∀ x ∈ m, (tupleKind (mixKind P w)).is h x.1 x.2.1 := by
    intro l m q
    induction q with
    | nil => intro x hx; exact nomatch hx
    | @cons p q ps qs hq t ih =>
      intro x hx
      rcases List.mem_cons.mp hx with e | hx
      · subst e
        exact key_of ok (by rw [← hq.1]; exact hq.2.1)
      · exact ih x hx
  exact all r x hx
theorem dt_of {kvs : List (List Key × V)} (ok : HOk P w H h) (e : H a = some (.dT kvs)) : kvs.length ≤ sizeLine ∧ (a == sysModules) = false ∧
    ∃ xs, KT H kvs xs ∧ h.DictOfH (tupleKind (mixKind P w)) a xs := dt_rd ok (.inl e)
end

/-- what the dict at a holds at the key y -/
def DGet (H : Hp) (a : Addr) (y : V) (r : Option V) : Prop :=
  (∃ kvs k, Rd H a (.dK kvs) ∧ y = kV k ∧ r = valV kvs k) ∨ ∃ kvs k b, Rd H a (.dT kvs) ∧ y = .ref b ∧ H b = some (.tup (k.map kV)) ∧ r = valV kvs k
/-- the heap behind a[y] = v -/
def DPut (H : Hp) (a : Addr) (y v : V) (H' : Hp) : Prop :=
  (∃ kvs k, H a = some (.dK kvs) ∧ y = kV k ∧ kvs.length < sizeLine ∧ H' = upd H a (.dK (putK kvs k v))) ∨
  ∃ kvs k b, H a = some (.dT kvs) ∧ y = .ref b ∧ H b = some (.tup (k.map kV)) ∧ kvs.length < sizeLine ∧ H' = upd H a (.dT (putK kvs k v))
theorem DGet.t {H : Hp} {a b : Addr} {kvs : List (List Key × V)} {k : List Key} (e : H a = some (.dT kvs)) (eb : H b = some (.tup (k.map kV))) : DGet H a (.ref b) (valV kvs k) := .inr ⟨kvs, k, b, .inl e, rfl, eb, rfl⟩
theorem DPut.t {H : Hp} {a b : Addr} {kvs : List (List Key × V)} {k : List Key} {v : V} (e : H a = some (.dT kvs)) (eb : H b = some (.tup (k.map kV))) (hl : kvs.length < sizeLine) :
    DPut H a (.ref b) v (upd H a (.dT (putK kvs k v))) := .inr ⟨kvs, k, b, e, rfl, eb, hl, rfl⟩


section
variable {X : Cx} {pins : List (Addr × Obj)} {σ : St} {H : Hp} {s : Shared} {a : Addr} {y v : V} {u r : Value} {o : Option V} {A : Around} {E : Value → Shared → Prop}

theorem Inv.big (I : Inv X pins σ H s) : sysModules < s.heap.objs.size := by
  have h : mainGlobals < s.heap.objs.size := (I.mod.glob.keeps I.bk).lt
  exact Nat.lt_trans (by decide) h

/-- a dict's object is replaced -/
theorem d_write {h' : Heap} {t' : Nat} {ob : HO} (I : Inv X pins σ H s) (mu : Mut (H a)) (hs : Heap.SameBut a s.heap h') (he : ∃ q, h'.get? a = some q) (new : ObjOk X.prog X.w (upd H a ob) h' a ob) :
    Inv X pins σ (upd H a ob) { s with heap := h', toks := t' } :=
  I.write (x := a) (e := a) mu (.inl rfl) (fun b q hb z => (hs.2 b hb).trans z) he new
theorem dk_new {P : Program} {w : World} {H' : Hp} {h' : Heap} {kvs : List (Key × V)} {vs : List (Key × Value)} (z : kvs.length ≤ sizeLine) (hd : (a == sysModules) = false) (rel : KV kvs vs) (dd : h'.DictOf (mixKind P w) a vs) :
    ObjOk P w H' h' a (.dK kvs) := ⟨z, hd, vs, rel, dd⟩
/-- d[y] = v -/
theorem d_setItem {H' : Hp} {Q : Unit → Shared → Prop} (hu : A.units + 1 < cLine) (I : Inv X pins σ H s) (g : DPut H a y v H') (ry : RelV y u) (rv : RelV v r) (h : ∀ s', Inv X pins σ H' s' → Q () s') :
    wpAny (model X.prog X.w) A (setItem (.ref a) u r) Q E s := by
  rcases g with ⟨kvs, k, e, ey, l, eH⟩ | ⟨kvs, k, b, e, ey, eb, l, eH⟩
  · subst ey eH
    obtain ⟨z, hd, vs, rel, dd⟩ := dk_of I.hok e
    have hz : vs.length ≤ sizeLine := by rw [← rel.length]; exact z
    have hl : (putK kvs k v).length ≤ sizeLine := by have := length_putK kvs k v; omega
    refine wpAny_setItem_pairs (hsz := hz) (kV_is ry) dd fun h' dd' hs => h _ ?_
    have he : ∃ q, h'.get? a = some q := let ⟨q, _, _, hq, _⟩ := dd'; ⟨q, hq⟩
    exact d_write I (by rw [e]; exact True.intro) hs he (dk_new hl hd (rel.put k rv) dd')
  · subst ey eH
    cases (show u = Value.ref b from ry)
    obtain ⟨z, hd, xs, rel, dd⟩ := dt_of I.hok e
    have hz : xs.length ≤ sizeLine := by rw [← Paired.length rel]; exact z
    have hl : (putK kvs k v).length ≤ sizeLine := by have := length_putK kvs k v; omega
    refine wpAny_setItem_heap (hsz := hz) (tupleKind_room_in1 hu) (key_of I.hok eb) dd fun h' dd' hs => h _ ?_
    obtain ⟨q, es, ep, hq, h2, h3, h4, _, h5⟩ := dd'
    refine d_write I (by rw [e]; exact True.intro) hs ⟨q, hq⟩ ⟨hl, hd, _, (rel.put k eb rv).keeps fun c ys ec => ?_, q, es, ep, hq, h2, h3, h4, h5⟩
    rw [upd_ne (ne_of ec e (fun z => nomatch z))]
    exact ec
end

section
variable {X : Cx} {pins : List (Addr × Obj)} {σ : St} {H : Hp} {s : Shared} {a : Addr} {kvs : List (Key × V)} {k : Key} {u : Value} {A : Around} {E : Value → Shared → Prop}
end


/-- d[y] -/
def tDGet (td ty : TE) : TE := fun σ H Q => td σ H fun x H1 => ty σ H1 fun y H2 => ∃ a v, x = .ref a ∧ DGet H2 a y (some v) ∧ Q v H2
/-- y in d, y not in d -/
def tDIn (ty td : TE) : TE := fun σ H Q => ty σ H fun y H1 => td σ H1 fun x H2 => ∃ a o, x = .ref a ∧ DGet H2 a y o ∧ Q (.bl o.isSome) H2
def tDNotIn (ty td : TE) : TE := fun σ H Q => ty σ H fun y H1 => td σ H1 fun x H2 => ∃ a o, x = .ref a ∧ DGet H2 a y o ∧ Q (.bl (!o.isSome)) H2
/-- d[y] = v -/
def sDPut (td ty tv : TE) : TS := fun D σ H => tv σ H fun v H1 => td σ H1 fun x H2 => ty σ H2 fun y H3 => ∃ a H4, x = .ref a ∧ DPut H3 a y v H4 ∧ D.nx σ H4
section
variable {X : Cx} {o i e value : Expr} {pos pos' tpos : Pos} {td ty tv : TE}
theorem ps_dput (hu : X.A.units + 1 < cLine) (ho : PE X o td) (hi : PE X i ty) (hv : PE X value tv) (hs : swapsWith value (some (.Subscript o i pos')) pos.line X.env = pure false) :
    PS X (.Assign [.Subscript o i pos'] value pos) (sDPut td ty tv) := by
  intro pins s σ H D I h
  refine wpAny_Assign_Subscript (thn (hv pins s σ H _ I h) fun r s1 ⟨v, H1, I1, rv, q1⟩ => thn (ho pins s1 σ H1 _ I1 q1) fun u s2 ⟨x, H2, I2, rx, q2⟩ => thn (hi pins s2 σ H2 _ I2 q2) fun iv s3 ⟨y, H3, I3, ry, a, H4, ex, g, q3⟩ => ?_) hs
  subst ex
  obtain rfl : u = Value.ref a := rx
  exact d_setItem hu I3 g ry rv fun s4 I4 => ⟨σ, H4, I4, q3⟩
end


theorem dt_empty {P : Program} {w : World} {H : Hp} (h : Heap) (hb : sysModules < h.objs.size) : ObjOk P w H (h.push { cls := .type "dict", data := .dict #[] }) h.objs.size (.dT []) :=
  ⟨Nat.zero_le _, beq_eq_false_iff_ne.mpr (Ne.symm (Nat.ne_of_lt hb)), [], .nil, _, #[], 0, Heap.get?_push_size _ rfl, ⟨rfl, rfl, rfl⟩, rfl, rfl, List.nodup_nil⟩
def tDNewT : TE := fun _ H Q => ∀ p, H p = none → Q (.ref p) (upd H p (.dT []))
section
variable {X : Cx} {pos : Pos}
theorem pe_dnewT : PE X (.Dict [] [] pos) tDNewT := fun pins s σ H Q I h =>
  wpAny_Dict_empty ⟨.ref s.heap.objs.size, _, I.laid (a := s.heap.objs.size) (o := .dT []) (t' := s.toks) (fun _ _ q => Heap.get?_push_of_some _ q) (Nat.le_refl _) (dt_empty s.heap I.big), rfl, h _ (I.hok.fresh (Nat.le_refl _))⟩
end

structure M2 (X : Cx) (o : Expr) (m : Str) (apos : Pos) (e f : Expr) (cpos : Pos) : Prop where
  base : attributeBase o m X.env (eval o X.env) = eval o X.env
  few : ((backTo cpos (starEach [e, f] X.env)).all (fun x => !x.1) && (backToKw cpos (keywordEach [] X.env)).all (fun x => x.1.isSome)
    && decide (([e, f] : List Expr).length + ([] : List Keyword).length + (if ([] : List Keyword).isEmpty then 0 else 1) < 30)) = true
  line : (apos.endLine == cpos.line) = true
  trees : backTo cpos (starEach [e, f] X.env) = [(false, eval e X.env), (false, eval f X.env)]

/-- a is a dict, whatever its keys -/
def IsD (H : Hp) (a : Addr) : Prop := (∃ kvs, Rd H a (.dK kvs)) ∨ ∃ kvs, Rd H a (.dT kvs)
theorem isD_at {X : Cx} {pins : List (Addr × Obj)} {σ : St} {H : Hp} {s : Shared} {a : Addr} (I : Inv X pins σ H s) (d : IsD H a) :
    s.TypeIs (.ref a) "dict" ∧ (∀ b, Value.ref a = .ref b → ∃ ob, s.heap.get? b = some ob ∧ ob.dict = none) ∧ (a == sysModules) = false := by
  rcases d with ⟨kvs, e⟩ | ⟨kvs, e⟩
  · obtain ⟨_, hd, vs, _, dd⟩ := dk_rd I.hok e
    refine ⟨dd.typeIs, fun b q => ?_, hd⟩
    cases q
    obtain ⟨ob, _, _, h1, h2, _⟩ := dd
    exact ⟨ob, h1, h2.2.1⟩
  · obtain ⟨_, hd, xs, _, dd⟩ := dt_rd I.hok e
    refine ⟨dd.typeIs, fun b q => ?_, hd⟩
    cases q
    obtain ⟨ob, _, _, h1, h2, _⟩ := dd
    exact ⟨ob, h1, h2.2.1⟩

section
variable {X : Cx} {pins : List (Addr × Obj)} {σ : St} {H : Hp} {s : Shared} {a : Addr} {y d : V} {u r : Value} {o : Option V} {A : Around} {E : Value → Shared → Prop}
/-- d.get(y, x) -/
theorem d_get2 {Q : Value → Shared → Prop} (hu : A.units + 1 < cLine) (I : Inv X pins σ H s) (g : DGet H a y o) (ry : RelV y u) (rd : RelV d r) (h : ∀ w' s', Inv X pins σ H s' → RelV (o.getD d) w' → Q w' s') :
    wpAny (model X.prog X.w) A (call (.builtin "dict.get") [.ref a, u, r]) Q E s := by
  rcases g with ⟨kvs, k, e, ey, l⟩ | ⟨kvs, k, b, e, ey, eb, l⟩
  · subst ey
    obtain ⟨z, hd, vs, rel, dd⟩ := dk_rd I.hok e
    refine call_meetsIn PySem.F.slot_dict_get dd.typeIs PySem.F.entry_dict_get (PySem.F.args_dict_get_3 _ _ _) (meets_dict_get_default (mixKind X.prog X.w) a (kV_is ry) hd r) ⟨_, dd.mapOf, h _ _ (I.tok _) ?_⟩
    rw [l]
    exact (rel.val k).getD rd
  · subst ey
    cases (show u = Value.ref b from ry)
    obtain ⟨z, hd, xs, rel, dd⟩ := dt_rd I.hok e
    refine call_meetsIn PySem.F.slot_dict_get dd.typeIs PySem.F.entry_dict_get (PySem.F.args_dict_get_3 _ _ _) (meetsH_dict_get_default (tupleKind (mixKind X.prog X.w)) a b hd r) ⟨tupleKind_room_in1 hu, k, xs, key_of I.hok eb, dd, h _ _ (I.tok _) ?_⟩
    rw [l]
    exact (rel.val k).getD rd
end

def tDGet2 (td ty tx : TE) : TE := fun σ H Q => td σ H fun x H1 => ∃ a, x = .ref a ∧ IsD H1 a ∧ ty σ H1 fun y H2 => tx σ H2 fun z H3 => ∃ o, DGet H3 a y o ∧ Q (o.getD z) H3
section
variable {X : Cx} {o e f : Expr} {apos cpos : Pos} {td ty tx : TE}
theorem pe_dget2 (hu : X.A.units + 1 < cLine) (ho : PE X o td) (he : PE X e ty) (hf : PE X f tx) (m : M2 X o "get" apos e f cpos) : PE X (.Call (.Attribute o "get" apos) [e, f] [] cpos) (tDGet2 td ty tx) := by
  intro pins s σ H Q I h
  refine wpAny_Call_method m.base m.few m.line PySem.F.plainAttrs_dict PySem.F.slot_dict_get PySem.F.type_dict_get (thn (ho pins s σ H _ I h) fun u s1 ⟨x, H1, I1, rx, a, ex, d, q1⟩ => ?_)
  subst ex
  obtain rfl : u = Value.ref a := rx
  obtain ⟨t1, t2, _⟩ := isD_at I1 d
  refine ⟨t1, t2, ?_⟩
  rw [m.trees]
  refine Calls.callWith_builtin rfl (Calls.evalArgs_plain (Calls.spliced_cons (thn (he pins s1 σ H1 _ I1 q1) fun iv s2 ⟨y, H2, I2, ry, q2⟩ =>
    Calls.spliced_cons (thn (hf pins s2 σ H2 _ I2 q2) fun fv s3 ⟨z, H3, I3, rz, ov, g, q3⟩ => Calls.spliced_nil ?_))))
  exact d_get2 hu I3 g ry rz fun w' s4 I4 rw' => ⟨_, H3, I4, rw', q3⟩
end

section
variable {X : Cx} {pins : List (Addr × Obj)} {σ : St} {H : Hp} {s : Shared} {a : Addr} {kvs : List (Key × V)} {A : Around} {E : Value → Shared → Prop}
end


section
variable {X : Cx} {pins : List (Addr × Obj)} {σ : St} {H : Hp} {s : Shared} {a : Addr} {y : V} {u : Value} {A : Around} {E : Value → Shared → Prop}
end
end L2

set_option Elab.async false
set_option linter.all false
set_option maxRecDepth 100000
set_option maxHeartbeats 1000000
namespace L2
open PySem PySem.Spec PyProof.Rows
section
variable {prog : Program} {w : World} {A : Around} {E : Value → Shared → Prop} {s : Shared} {it d : Addr} {i ep : Nat} {es : Array DictEntry} {o : Obj}
end
/-- the keys of the dict at d, which stays the very object ob -/
def Itd (d : Addr) (ob : Obj) (kvs : List (List Key × V)) : It :=
  ⟨fun i H => H d = some (.frz ob (.dT kvs)) ∧ i < kvs.length, fun i H x H' => H' = H ∧ ∃ b k v, kvs[i]? = some (k, v) ∧ x = .ref b ∧ H b = some (.tup (k.map kV)), fun i H => H d = some (.frz ob (.dT kvs)) ∧ kvs.length ≤ i⟩
section
variable {X : Cx} {pins : List (Addr × Obj)} {σ : St} {H : Hp} {s : Shared} {d : Addr} {kvs : List (List Key × V)}
end
def iDT (te : TE) : TI := fun σ H R => te σ H fun x H1 => ∃ d kvs, x = .ref d ∧ H1 d = some (.dT kvs) ∧ ∀ ob, R (Itd d ob kvs) (upd H1 d (.frz ob (.dT kvs)))
/-- behind the loop the dict is as it was -/
def tThaw (H0 : Hp) (t : TS) : TS := fun D σ H => ∃ d ob kvs, H d = some (.frz ob (.dT kvs)) ∧ (∀ o u, H0 d ≠ some (.frz o u)) ∧ t D σ (upd H d (.dT kvs))
end L2
namespace My
open PySem L2
end My

set_option Elab.async false
set_option linter.all false
set_option maxRecDepth 100000
set_option maxHeartbeats 1000000
namespace L2
open PySem PySem.Spec PyProof.Rows
variable {X : Cx}
def rIsd : List V → Hp → VK → Prop := fun xs H Q => ∃ a kvs, xs = [.ref a, .ty "dict"] ∧ H a = some (.dT kvs) ∧ Q (.bl true) H
theorem call_isd : CallR X (.builtin "isinstance") rIsd := by
  intro pins s σ H xs us Q I r h
  obtain ⟨a, kvs, rfl, e, q⟩ := h
  obtain ⟨u, u', rfl, rx, rT⟩ := vals2 r
  obtain rfl : u' = Value.type "dict" := rT
  exact isinst_ok I rx (.dT e) rfl fun tk => ⟨.bl _, H, I.tok _, rfl, q⟩
def rClearT : V → List V → Hp → VK → Prop := fun x vs H Q => ∃ a kvs, x = .ref a ∧ vs = [] ∧ H a = some (.dT kvs) ∧ Q .non (upd H a (.dT []))
theorem mt_dclearT : MtM X "dict.clear" rClearT := by
  intro pins s σ H x vs v us Q I rx rv h
  obtain ⟨a, kvs, rfl, rfl, hH, q⟩ := h
  cases rx
  have hus := rv.zero
  subst hus
  obtain ⟨hz, hsm, xs, rel, o, es, ep, g1, g2, g3, g4, g5⟩ := id (show ObjOk X.prog X.w H s.heap a (.dT kvs) from I.hok a _ hH)
  have hes : es.size ≤ sizeLine := by
    rw [← Array.length_toList, g4, List.length_map, ← Paired.length rel]; exact hz
  have hty : s.TypeIs (.ref a) "dict" := ⟨o, g1, g2.1⟩
  have hnew : (s.heap.update a (Obj.mapDictKeys fun _ => #[])).get? a = some (o.mapDictKeys fun _ => #[]) := Heap.get?_update_self _ g1 (Obj.isFreed_of_dict (Obj.data_mapDictKeys g3 _))
  have J := I.write (t' := s.toks) (x := a) (e := a) (o := .dT []) (h' := s.heap.update a (Obj.mapDictKeys fun _ => #[])) (by rw [hH]; exact True.intro) (.inl rfl) (fun b u hb e => by rw [Heap.get?_update_other _ _ hb.symm]; exact e) ⟨_, hnew⟩
    ⟨Nat.zero_le _, hsm, [], .nil, _, _, ep + 1, hnew, g2.mapDictKeys _, Obj.data_mapDictKeys g3 _, rfl, List.nodup_nil⟩
  refine wpAny_call_entry PySem.F.slot_dict_clear hty PySem.F.entry_dict_clear ?_ (PySem.F.args_dict_clear_1 _)
  unfold Builtin.«dict.clear» Builtin.Dict.noArgs
  refine wpAny_bind (wpAny_bind (wpAny_notOrdered_dict hty (wpAny_pure ?_)))
  refine wpAny_bind (wpAny_dictEntries g1 g3 ?_)
  unfold bearsInstanceDictMark
  refine wpAny_bind (wpAny_bind (wpAny_load g1 (wpAny_pure ?_)))
  refine wpAny_bind (wpAny_updateDictKeys (hz := hes) g1 g3 ?_)
  have fin : EP X pins σ Q .none { s with heap := s.heap.update a (Obj.mapDictKeys fun _ => #[]) } := ⟨.non, _, J, rfl, q⟩
  split
  · exact wpAny_bind (wpAny_letGo (wpAny_pure ⟨.none, rfl, fin⟩))
  · exact wpAny_bind (wpAny_pure (wpAny_pure ⟨.none, rfl, fin⟩))
end L2

set_option Elab.async false
set_option linter.all false
set_option maxRecDepth 100000
set_option maxHeartbeats 1000000
namespace My
open PySem L2
end My

set_option Elab.async false
set_option linter.all false
set_option maxRecDepth 100000
set_option maxHeartbeats 1000000
namespace L2
open PySem PySem.Spec PyProof.Rows
def Itz (K : PySem.W.Frag) (a b : Addr) : It :=
  ⟨fun i H => ∃ xs ys x y, SqL K H a xs ∧ SqL K H b ys ∧ xs[i]? = some x ∧ ys[i]? = some y,
   fun i H v H' => ∃ t x y, v = .ref t ∧ H t = none ∧ H' = upd H t (.tup [x, y]) ∧ (∀ xs, SqL K H a xs → xs[i]? = some x) ∧ (∀ ys, SqL K H b ys → ys[i]? = some y),
   fun i H => ∃ xs ys, SqL K H a xs ∧ SqL K H b ys ∧ (xs[i]? = none ∨ ys[i]? = none)⟩
section
variable {X : Cx} {pins : List (Addr × Obj)} {σ : St} {H : Hp} {s : Shared}
end
def iZip (K : PySem.W.Frag) (ta : TA) : TI := fun σ H R => ta σ H fun vs H1 => ∃ a b, vs = [.ref a, .ref b] ∧ (∃ xs, SqL K H1 a xs) ∧ (∃ ys, SqL K H1 b ys) ∧ R (Itz K a b) H1
end L2

set_option Elab.async false
set_option linter.all false
set_option maxRecDepth 100000
set_option maxHeartbeats 1000000
namespace My
open PySem L2
def ho (h o : Int) : List (Str × V) := putF "other" (.int o) (putF "hand" (.int h) [])
end My
namespace My
open PySem L2
end My

set_option Elab.async false
set_option linter.all false
namespace My
open PySem L2
end My

set_option Elab.async false
set_option linter.all false
set_option maxRecDepth 100000
set_option maxHeartbeats 1000000
namespace My
open PySem L2
def kk (h d p : Int) : List Key := [Sum.inl h, Sum.inl d, Sum.inl p]
def iv : Option V → Int
  | some (.int i) => i
  | _ => 0
end My

set_option Elab.async false
set_option linter.all false
set_option maxRecDepth 100000
set_option maxHeartbeats 1000000
namespace L2
open PySem PySem.Spec PyProof.Rows
section
variable {prog : Program} {w : World} {A : Around} {E : Value → Shared → Prop} {s : Shared}
end
end L2

set_option Elab.async false
set_option linter.all false
set_option maxRecDepth 100000
set_option maxHeartbeats 1000000
namespace L2
open PySem
end L2
namespace L2
open PySem
end L2
namespace My
open PySem L2
theorem map_item {ns : List Int} {i : Nat} {v : V} (h : (ns.map V.int)[i]? = some v) : ∃ x, ns[i]? = some x ∧ v = .int x := by
  rw [List.getElem?_map] at h
  cases hz : ns[i]? with
  | none => rw [hz] at h; cases h
  | some x => rw [hz] at h; exact ⟨x, rfl, (Option.some.inj h).symm⟩
end My
namespace My
open PySem L2
end My

set_option Elab.async false
set_option linter.all false
set_option maxRecDepth 100000
set_option maxHeartbeats 1000000
namespace My
open PySem L2
theorem Rows.keep {H H' : Hp} {ts : List V} {rows : List (List Int)} (h : Rows H ts rows) : (∀ t o, V.ref t ∈ ts → H t = some o → H' t = some o) → Rows H' ts rows := by
  induction h with
  | nil => exact fun _ => .nil
  | cons a _ ih =>
    obtain ⟨t, rfl, q⟩ := a
    exact fun k => .cons ⟨t, rfl, k t _ (List.mem_cons_self ..) q⟩ (ih fun t o ht => k t o (List.mem_cons_of_mem _ ht))
end My

set_option Elab.async false
set_option linter.all false
set_option maxRecDepth 100000
set_option maxHeartbeats 1000000
namespace L2
open PySem PySem.Spec PyProof.Rows
section
variable {X : Cx}
end
end L2
namespace My
end My
namespace My
open PySem L2
end My

set_option Elab.async false
set_option linter.all false
set_option maxRecDepth 100000
set_option maxHeartbeats 1000000
namespace My
open PySem L2
end My
namespace My
open PySem L2
end My
namespace My
open PySem L2
end My
namespace L2
open PySem PySem.Spec PyProof.Rows
end L2
namespace My
open PySem L2
end My
namespace My
open PySem L2
end My
namespace My
open PySem L2
end My
namespace My
open PySem L2
def oD : Option Int → DV
  | none => .non
  | some i => .int i
end My

set_option Elab.async false
set_option linter.all false
set_option maxRecDepth 100000
set_option maxHeartbeats 1000000
namespace My
open PySem L2
end My
namespace L2
open PySem PySem.Spec PyProof.Rows
end L2
namespace My
open PySem L2
end My
namespace My
open PySem L2
end My

set_option Elab.async false
set_option linter.all false
set_option maxRecDepth 100000
set_option maxHeartbeats 1000000
namespace L2
open PySem PySem.Spec PyProof.Rows
set_option maxHeartbeats 4000000 in
theorem enum_newT0 (l : Addr) (vs : Array Value) :
    Meets (Builtin.«enumerate.__new__» ⟨[.type "enumerate", .ref l], []⟩) (fun _ R s => s.heap.IsTuple l vs ∧
      R (.ok (.ret (.ref (s.heap.push { cls := .type "tuple_iterator", data := .fields #[.ref l, .int 0 0] }).objs.size)))
        { s with heap := (s.heap.push { cls := .type "tuple_iterator", data := .fields #[.ref l, .int 0 0] }).push { cls := .type "enumerate", data := .fields #[.none, .bool false, .ref s.heap.objs.size, rawInt 0, .none, .none] } }) :=
  .of_wp fun prog w A R s h => by
    obtain ⟨hp, g, d, tk, os⟩ := s; obtain ⟨hL, h⟩ := h
    obtain ⟨⟨c, dc, dt, sl⟩, hl, hc, n, hd⟩ := id hL
    replace hc : c = .type "tuple" := hc
    replace hd : dt = .seq vs n := hd
    subst hc hd
    have hsub := sub_enumerate
    wp_walk using PySem.AutoSeq1.wpAny_loadPart' hl
    refine wpAny_stack_any fun st => wpAny_pure ?_
    split
    · rename_i c _ _ _ _ _
      cases (c == Value.type "enumerate")
      · wp_walk using PySem.AutoSeq1.wpAny_loadPart' hl, wpAny_pyIter_tuple hL
        exact ⟨_, rfl, h⟩
      · wp_walk using PySem.AutoSeq1.wpAny_loadPart' hl, wpAny_pyIter_tuple hL
        exact ⟨_, rfl, h⟩
    · wp_walk using PySem.AutoSeq1.wpAny_loadPart' hl, wpAny_pyIter_tuple hL
      exact ⟨_, rfl, h⟩
theorem call_enumT0 {prog : Program} {w : World} {A : Around} {E : Value → Shared → Prop} {s : Shared} {l : Addr} {vs : Array Value} {R : Value → Shared → Prop} (hL : s.heap.IsTuple l vs)
    (k : ∀ g, IsEnum g (s.heap.objs.size + 1) s.heap.objs.size 0 .none → g.IsTupleIter s.heap.objs.size l 0 → (∀ b o, s.heap.get? b = some o → g.get? b = some o) → R (.ref (s.heap.objs.size + 1)) { s with heap := g }) :
    wpAny (model prog w) A (call (.type "enumerate") [.ref l]) R E s := by
  refine callType_new F.called_enumerate (by decide) (F.typeCall_enumerate_1 _) (F.newCall_enumerate_1 _) (fun obj => F.args_object_init_2 obj _) F.entry_enumerate_new (enum_newT0 l vs) ⟨hL, ?_⟩
  have hz : (s.heap.push { cls := .type "tuple_iterator", data := .fields #[.ref l, .int 0 0] }).objs.size = s.heap.objs.size + 1 := Heap.size_push ..
  have he := Heap.get?_push_size (s.heap.push { cls := .type "tuple_iterator", data := .fields #[.ref l, .int 0 0] }) (o := { cls := .type "enumerate", data := .fields #[.none, .bool false, .ref s.heap.objs.size, rawInt 0, .none, .none] }) rfl
  show _ ∧ _
  rw [hz] at he ⊢
  exact ⟨⟨_, he, rfl⟩, k _ he ⟨_, Heap.get?_push_of_some _ (Heap.get?_push_size _ rfl), rfl, rfl⟩ fun b o q => Heap.get?_push_of_some _ (Heap.get?_push_of_some _ q)⟩
theorem pi_enum_tup {X : Cx} {elts : List Expr} {x1 : Nat} {tp : Pos} {e : Expr} {te : TE} {p pos : Pos} (hg : Gl X "enumerate") (hm : X.mg "enumerate" = none) (he : PE X e te) (hs : starEach [e] X.env = [(false, eval e X.env)] := by rfl) : PI X (.Tuple elts x1 tp) (.Call (.Name "enumerate" p) [e] [] pos) (iEnT X.K 0 te) := by
  intro pins s σ H R I h
  refine Call_ (ld_blt I hg hm boot_enumerate (PyProof.Rows.callWith_type1 ?_ hs rfl))
  rw [hs]
  refine Calls.spliced_cons (thn (he pins s σ H _ I h) fun v s1 ⟨x, H1, I1, rx, q1⟩ => Calls.spliced_nil ?_)
  obtain ⟨a, rfl, ⟨xs, hq⟩, q⟩ := q1
  cases rx
  obtain ⟨its, rv, pl, _⟩ := I1.tuple hq
  exact call_enumT0 pl fun g e1 e2 hk => enum_pie I1 (src_tup a _) rfl e1 e2 hk q
theorem op_isnotB {X : Cx} : OpR X (compareOp .IsNot) (fun x y H Q => ∃ a b, x = .bl a ∧ y = .bl b ∧ Q (.bl (!(a == b))) H) := by
  intro pins s σ H x y v u Q I rx ry h
  obtain ⟨a, b, rfl, rfl, q⟩ := h
  cases rx; cases ry
  refine wpAny_isNot_plain ?_ (fin_bl I q ?_)
  · cases a <;> cases b <;> rfl
  · cases a <;> cases b <;> rfl
theorem pi_tupK {X : Cx} {K : PySem.W.Frag} {tg l : Expr} {tl : TE} (hK : X.K = K) (hl : PE X l tl) : PI X tg l (iTup K tl) := by subst hK; exact pi_tup hl
end L2

set_option Elab.async false
set_option linter.all false
set_option maxRecDepth 100000
set_option maxHeartbeats 1000000
namespace L2
open PySem PySem.Spec PyProof.Rows
set_option maxHeartbeats 4000000 in
theorem ext_tupG (l b : Addr) (us vs : Array Value) (n : Nat) (c0 : ¬(!us.isEmpty && Builtin.List.listTooLong (us.size + vs.size)) = true) (c1 : us.size ≤ sizeLine) (c2 : us.size + vs.size ≤ sizeLine + 1) :
    Meets (Builtin.«list.extend» ⟨[.ref l, .ref b], []⟩) (fun _ R s => s.heap.get? l = some { cls := .type "list", data := .seq us n } ∧ s.heap.IsTuple b vs ∧
      R (.ok (.ret .none)) { s with heap := s.heap.update l (Obj.mapSeq fun x => x ++ vs) }) :=
  .of_wp fun prog w A R s h => by
    obtain ⟨hp, g, d, tk, os⟩ := s
    obtain ⟨hl, hT, h⟩ := h
    obtain ⟨⟨c, dc, dt, sl⟩, hb, hc, m, hd⟩ := id hT
    replace hc : c = .type "tuple" := hc
    replace hd : dt = .seq vs m := hd
    subst hc hd
    have y1 := AutoSeq1.idx_int
    have y2 := AutoSeq1.sub_tuple_tuple
    have y3 := AutoSeq1.sub_list_list
    have y4 := AutoSeq1.sub_tuple_list
    have y5 := AutoSeq1.sub_list_tuple
    have c3 : (us ++ vs).size ≤ sizeLine + 1 := by rw [Array.size_append]; exact c2
    wp_walk using (wpAny_updateSeq hl rfl (hz := c1) (_hz' := c3)), PySem.AutoSeq1.wpAny_loadPart' hl, PySem.AutoSeq1.wpAny_loadPart' hb
    exact ⟨_, rfl, h⟩
def rExtendT (K : PySem.W.Frag) : V → List V → Hp → VK → Prop := fun x vs H Q => ∃ l b xs zs, x = .ref l ∧ vs = [.ref b] ∧ H l = some (.lst xs) ∧ SqT K H b zs ∧ xs.length + zs.length ≤ sizeLine ∧ Q .non (upd H l (.lst (xs ++ zs)))
theorem mt_extendT {X : Cx} : MtM X "list.extend" (rExtendT X.K) := by
  intro pins s σ H x vs v us Q I rx rv h
  obtain ⟨l, b, xs, zs, rfl, rfl, hH, hB, hz, q⟩ := h
  cases rx
  obtain ⟨u, rfl, ru⟩ := rv.one
  cases ru
  obtain ⟨z, its, n, r, hl, e⟩ := I.lstM hH
  obtain ⟨i2, r2, pl, z2⟩ := I.tuple hB
  have hl2 := r2.length
  have hsz : its.toArray.size + i2.toArray.size ≤ sizeLine := by rw [List.size_toArray, List.size_toArray]; omega
  refine call_meets F.slot_list_extend ⟨_, e, rfl⟩ F.entry_list_extend (F.args_list_extend_2 _ _) (ext_tupG l b its.toArray i2.toArray n (by rw [notLongL hsz, Bool.and_false]; exact Bool.false_ne_true) (by rw [List.size_toArray]; omega) (by omega)) ⟨e, pl, ?_⟩
  refine ⟨.non, _, I.lset (its' := its ++ i2) hH e (by simp) (r.append r2) ?_, rfl, q⟩
  rw [List.length_append]
  omega
end L2

set_option Elab.async false
set_option linter.all false
set_option maxRecDepth 100000
set_option maxHeartbeats 1000000
namespace L2
open PySem
theorem call_allK {X : Cx} {K : PySem.W.Frag} (hK : X.K = K) (hc : X.calm = true) : CallR X (.builtin "all") (fun xs H Q => ∃ (p : Addr) (bs : List Bool), xs = [.ref p] ∧ SqL K H p (bs.map V.bl) ∧ Q (.bl (bs.all id)) H) := by subst hK; exact call_all hc
end L2
namespace My
open PySem L2
def RowT (H : Hp) (v : V) (row : List Int) : Prop := ∃ t, v = .ref t ∧ H t = some (.tup (row.map V.int))
abbrev TRows (H : Hp) : List V → List (List Int) → Prop := Paired (RowT H)
theorem TRows.mono {H H' : Hp} (g : Same H H') {ts : List V} {rows : List (List Int)} (h : TRows H ts rows) : TRows H' ts rows := Paired.mapP h fun _ _ ⟨t, e, q⟩ => ⟨t, e, g _ _ q⟩
def NoL (H H' : Hp) : Prop := ∀ c o, H c = some o → (∀ xs, o ≠ .lst xs) → H' c = some o
theorem TRows.nol {H H' : Hp} (g : NoL H H') {ts : List V} {rows : List (List Int)} (h : TRows H ts rows) : TRows H' ts rows := Paired.mapP h fun _ _ ⟨t, e, q⟩ => ⟨t, e, g _ _ q fun _ z => by cases z⟩
theorem TRows.tmono {H H' : Hp} (g : Tups H H') {ts : List V} {rows : List (List Int)} (h : TRows H ts rows) : TRows H' ts rows := Paired.mapP h fun _ _ ⟨t, e, q⟩ => ⟨t, e, g _ _ q⟩
/-- a list of tuples under way -/
structure TupI (H : Hp) (L : Addr) (tgt : List (List Int)) (i : Nat) (H' : Hp) : Prop where
  ex : ∃ ts : List V, Same H H' ∧ H' L = some (.lst ts) ∧ TRows H' ts (tgt.take i)
theorem TupI.start {H : Hp} {L : Addr} {tgt : List (List Int)} (hL : H L = none) : TupI H L tgt 0 (upd H L (.lst [])) :=
  ⟨[], same_new hL _, upd_same, by rw [List.take_zero]; exact .nil⟩
theorem TupI.same {H H' : Hp} {L : Addr} {tgt : List (List Int)} {i : Nat} (h : TupI H L tgt i H') : Same H H' := by
  obtain ⟨_, g, _⟩ := h.ex
  exact g
theorem TupI.step {H H' : Hp} {L l : Addr} {tgt : List (List Int)} {i : Nat} {row : List Int} (h : TupI H L tgt i H') (hL : H L = none) (hi : i ≤ 900) (hr : tgt[i]? = some row) (hl : H' l = none) :
    ∃ xs, upd H' l (.tup (row.map V.int)) L = some (.lst xs) ∧ xs.length < sizeLine ∧ TupI H L tgt (i + 1) (upd (upd H' l (.tup (row.map V.int))) L (.lst (xs ++ [.ref l]))) := by
  obtain ⟨ts, g, e, hT⟩ := h.ex
  have htl := Paired.length hT
  rw [List.length_take] at htl
  have gl := same_new hl (.tup (row.map V.int))
  refine ⟨ts, gl _ _ e, small1000 (by omega), ts ++ [.ref l], same_upd hL (g.trans gl) _, upd_same, ?_⟩
  rw [take_one hr]
  exact TRows.tmono (tups_lst (gl _ _ e)) (paired_snoc (hT.mono gl) ⟨l, rfl, upd_same⟩)
def nf (o : Addr) (m : Int) : List (Str × V) := putF "many" (.int m) (putF "old" (.ref o) [])
theorem nom : ¬ (("old" : Str) = "many") := by decide +kernel
theorem nf_old (o : Addr) (m : Int) : (nf o m).lookup ("old" : Str) = some (.ref o) := by
  unfold nf
  rw [lookup_putF, if_neg nom, lookup_putF, if_pos rfl]
theorem nf_many (o : Addr) (m : Int) : (nf o m).lookup ("many" : Str) = some (.int m) := by
  unfold nf
  rw [lookup_putF, if_pos rfl]
theorem nf_no (o : Addr) (m : Int) {x : Str} (h1 : ¬ x = "many") (h2 : ¬ x = "old") : (nf o m).lookup x = none := by
  unfold nf
  rw [lookup_putF, if_neg h1, lookup_putF, if_neg h2]
  rfl
structure NearAt (C : Addr) (H : Hp) (x : Addr) (rows : List (List Int)) (m : Int) : Prop where
  ex : ∃ dx o vs, H x = some (.ins C dx (nf o m)) ∧ H o = some (.tup vs) ∧ TRows H vs rows
theorem NearAt.mono {C : Addr} {H H' : Hp} {x : Addr} {rows : List (List Int)} {m : Int} (w : NearAt C H x rows m) (g : Same H H') : NearAt C H' x rows m := by
  obtain ⟨dx, o, vs, h1, h2, h3⟩ := w.ex
  exact ⟨dx, o, vs, g _ _ h1, g _ _ h2, h3.mono g⟩
theorem NearAt.nol {C : Addr} {H H' : Hp} {x : Addr} {rows : List (List Int)} {m : Int} (w : NearAt C H x rows m) (g : NoL H H') : NearAt C H' x rows m := by
  obtain ⟨dx, o, vs, h1, h2, h3⟩ := w.ex
  exact ⟨dx, o, vs, g _ _ h1 (fun _ z => by cases z), g _ _ h2 (fun _ z => by cases z), h3.nol g⟩
theorem WardAt.nol {C : Addr} {H H' : Hp} {x : Addr} {d : Int} {hs : List Int} {ps : List Pst} (w : WardAt C H x d hs ps) (g : NoL H H') : WardAt C H' x d hs ps := by
  obtain ⟨dx, ha, pa, ts, h1, h2, h3, h4⟩ := w.ex
  exact ⟨dx, ha, pa, ts, g _ _ h1 (fun _ z => by cases z), g _ _ h2 (fun _ z => by cases z), g _ _ h3 (fun _ z => by cases z), Paired.mapP h4 fun _ _ ⟨t, e, q⟩ => ⟨t, e, g _ _ q fun _ z => by cases z⟩⟩
abbrev Vc := Int × Int × Int
def VcV (H : Hp) (v : V) (c : Vc) : Prop := ∃ t u, v = .ref t ∧ H t = some (.tup [.ref u, .int c.2.2]) ∧ H u = some (.tup [.int c.1, .int c.2.1])
abbrev Vcs (H : Hp) : List V → List Vc → Prop := Paired (VcV H)
theorem Vcs.mono {H H' : Hp} (g : Tups H H') {ts : List V} {cs : List Vc} (h : Vcs H ts cs) : Vcs H' ts cs := Paired.mapP h fun _ _ ⟨t, u, e, q, r⟩ => ⟨t, u, e, g _ _ q, g _ _ r⟩
/-- a list of cells with their values under way -/
structure VclI (H : Hp) (L : Addr) (cs : List Vc) (H' : Hp) : Prop where
  ex : ∃ ts : List V, Same H H' ∧ H' L = some (.lst ts) ∧ Vcs H' ts cs
theorem VclI.start {H : Hp} {L : Addr} (hL : H L = none) : VclI H L [] (upd H L (.lst [])) := ⟨[], same_new hL _, upd_same, .nil⟩
theorem VclI.same {H H' : Hp} {L : Addr} {cs : List Vc} (h : VclI H L cs H') : Same H H' := by
  obtain ⟨_, g, _⟩ := h.ex
  exact g
theorem VclI.mono {H H' H2 : Hp} {L : Addr} {cs : List Vc} (h : VclI H L cs H') (g : Same H' H2) : VclI H L cs H2 := by
  obtain ⟨ts, g0, e, hT⟩ := h.ex
  exact ⟨ts, g0.trans g, g _ _ e, Vcs.mono (tups_same g) hT⟩
theorem VclI.step {H H' H2 : Hp} {L u t : Addr} {cs : List Vc} {a b v : Int} (h : VclI H L cs H') (hL : H L = none) (hi : cs.length ≤ 900) (g2 : Same H' H2) (eu : H2 u = some (.tup [.int a, .int b])) (ht : H2 t = none) :
    ∃ xs, upd H2 t (.tup [.ref u, .int v]) L = some (.lst xs) ∧ xs.length < sizeLine ∧ VclI H L (cs ++ [(a, b, v)]) (upd (upd H2 t (.tup [.ref u, .int v])) L (.lst (xs ++ [.ref t]))) := by
  obtain ⟨ts, g, e, hT⟩ := h.ex
  have htl := Paired.length hT
  have gt := same_new ht (.tup [.ref u, .int v])
  have gg := g2.trans gt
  refine ⟨ts, gg _ _ e, small1000 (by omega), ts ++ [.ref t], same_upd hL (g.trans gg) _, upd_same, ?_⟩
  exact Vcs.mono (tups_lst (gg _ _ e)) (paired_snoc (Vcs.mono (tups_same gg) hT) ⟨t, u, rfl, upd_same, gt _ _ eu⟩)
theorem VclI.app {H H' H2 : Hp} {L D : Addr} {cs ds : List Vc} (h : VclI H L cs H') (hL : H L = none) (i : VclI H' D ds H2) (hi : cs.length + ds.length ≤ 900) :
    ∃ xs, H2 L = some (.lst xs) ∧ ∃ zs, H2 D = some (.lst zs) ∧ xs.length + zs.length ≤ sizeLine ∧ VclI H L (cs ++ ds) (upd H2 L (.lst (xs ++ zs))) := by
  obtain ⟨ts, g, e, hT⟩ := h.ex
  obtain ⟨zs, g2, e2, hZ⟩ := i.ex
  have h1 := Paired.length hT
  have h2 := Paired.length hZ
  refine ⟨ts, g2 _ _ e, zs, e2, small1000' (by omega), ts ++ zs, same_upd hL (g.trans g2) _, upd_same, ?_⟩
  exact Vcs.mono (tups_lst (g2 _ _ e)) (paired_app (Vcs.mono (tups_same g2) hT) hZ)
def vlR (h : Nat) (row : List Int) (k : Nat) : List Vc := (List.range k).map fun d : Nat => ((h : Int), (d : Int), (row[d]?).getD 0)
def vls (rows : List (List Int)) (n : Nat) : List Vc := (List.range n).flatMap fun h => vlR h (rows[h]?.getD []) (rows[h]?.getD []).length
theorem vlR_succ (h : Nat) (row : List Int) (k : Nat) : vlR h row (k + 1) = vlR h row k ++ [((h : Int), (k : Int), (row[k]?).getD 0)] := by
  unfold vlR
  rw [List.range_succ, List.map_append]
  rfl
theorem vlR_len (h : Nat) (row : List Int) (k : Nat) : (vlR h row k).length = k := by unfold vlR; rw [List.length_map, List.length_range]
theorem vls_succ (rows : List (List Int)) (n : Nat) : vls rows (n + 1) = vls rows n ++ vlR n (rows[n]?.getD []) (rows[n]?.getD []).length := by
  unfold vls
  rw [List.range_succ, List.flatMap_append]
  simp
theorem mem_vlR {h : Nat} {row : List Int} {k : Nat} {c : Vc} (hc : c ∈ vlR h row k) : ∃ d : Nat, d < k ∧ c = ((h : Int), (d : Int), (row[d]?).getD 0) := by
  obtain ⟨d, hd, rfl⟩ := List.mem_map.mp hc
  exact ⟨d, List.mem_range.mp hd, rfl⟩
theorem mem_vls {rows : List (List Int)} {n : Nat} {c : Vc} (hc : c ∈ vls rows n) : ∃ h d : Nat, h < n ∧ d < (rows[h]?.getD []).length ∧ c = ((h : Int), (d : Int), val rows h d) := by
  obtain ⟨h, hh, hc⟩ := List.mem_flatMap.mp hc
  obtain ⟨d, hd, rfl⟩ := mem_vlR hc
  exact ⟨h, d, List.mem_range.mp hh, hd, rfl⟩
theorem in_vls {rows : List (List Int)} {n h d : Nat} (hh : h < n) (hd : d < (rows[h]?.getD []).length) : ((h : Int), (d : Int), val rows h d) ∈ vls rows n :=
  List.mem_flatMap.mpr ⟨h, List.mem_range.mpr hh, List.mem_map.mpr ⟨d, List.mem_range.mpr hd, rfl⟩⟩
theorem vls_len {rows : List (List Int)} {L : Nat} (hr : ∀ r ∈ rows, r.length ≤ L) : ∀ n, (vls rows n).length ≤ n * L
  | 0 => Nat.zero_le _
  | n + 1 => by
    rw [vls_succ, List.length_append, vlR_len, Nat.succ_mul]
    have := vls_len hr n
    cases e : rows[n]? with
    | none => simp; omega
    | some r =>
      have := hr r (List.mem_of_getElem? e)
      rw [Option.getD_some]
      omega
theorem val_ok {d : Int} {n m : Nat} {rows : List (List Int)} (h : RotaOk d n m rows) (i j : Nat) : 0 ≤ val rows i j ∧ val rows i j ≤ (m : Int) := by
  unfold val
  cases e : rows[i]? with
  | none => simp
  | some r =>
    rw [Option.getD_some]
    cases e2 : r[j]? with
    | none => simp
    | some x => exact h.v r (List.mem_of_getElem? e) x (List.mem_of_getElem? e2)
def near1 (P : Nat) (c : Vc) : List Prt := if c.2.2 = 0 then spr c.1 [c.2.1] (upto 1 P) (-1) else [⟨c.1, c.2.1, c.2.2, 1⟩]
def nearP (P : Nat) (cs : List Vc) : List Prt := cs.flatMap (near1 P)
def wrk (cs : List Vc) : Nat := cs.countP fun c => decide (c.2.2 ≠ 0)
def dif (rota : List (List Int)) (cs : List Vc) : Nat := cs.countP fun c => decide (c.2.2 ≠ val rota c.1.toNat c.2.1.toNat)
theorem near_snoc (P : Nat) (cs : List Vc) (c : Vc) : nearP P (cs ++ [c]) = nearP P cs ++ near1 P c := by
  unfold nearP
  rw [List.flatMap_append]
  simp
theorem wrk_snoc (cs : List Vc) (c : Vc) : (wrk (cs ++ [c]) : Int) = wrk cs + if c.2.2 = 0 then 0 else 1 := by
  unfold wrk
  rw [List.countP_append, List.countP_cons, List.countP_nil]
  by_cases h : c.2.2 = 0
  · rw [if_pos h, if_neg (by simp [h])]; simp
  · rw [if_neg h, if_pos (by simp [h])]; simp
theorem dif_app (rota : List (List Int)) (a b : List Vc) : dif rota (a ++ b) = dif rota a + dif rota b := by unfold dif; rw [List.countP_append]
theorem spr_one (h d : Int) (ps : List Int) (n : Int) : spr h [d] ps n = ps.map fun p => ⟨h, d, p, n⟩ := by unfold spr; simp
theorem tot_minus (rota : List (List Int)) (h d : Int) : ∀ P : Nat, tot rota (spr h [d] (upto 1 P) (-1)) = if 1 ≤ val rota h.toNat d.toNat ∧ val rota h.toNat d.toNat ≤ (P : Int) then -1 else 0
  | 0 => by
    rw [if_neg (by omega)]
    rfl
  | P + 1 => by
    have e : spr h [d] (upto 1 (P + 1)) (-1) = spr h [d] (upto 1 P) (-1) ++ [⟨h, d, 1 + (P : Int), -1⟩] := by
      rw [spr_one, spr_one]
      unfold upto
      rw [List.range_succ, List.map_append, List.map_append]
      rfl
    rw [e, tot_app, tot_minus rota h d P, tot_one]
    show (if 1 ≤ val rota h.toNat d.toNat ∧ val rota h.toNat d.toNat ≤ (P : Int) then (-1 : Int) else 0) + (if val rota h.toNat d.toNat = 1 + (P : Int) then -1 else 0) = _
    generalize val rota h.toNat d.toNat = w
    by_cases z : w = 1 + (P : Int)
    · rw [if_pos z, if_neg (by omega), if_pos (by omega)]
      rfl
    · rw [if_neg z]
      by_cases y : 1 ≤ w ∧ w ≤ (P : Int)
      · rw [if_pos y, if_pos (by omega)]
        rfl
      · rw [if_neg y, if_neg (by omega)]
        rfl
theorem tot_near1 {rota : List (List Int)} {P : Nat} {c : Vc} (hv : 0 ≤ val rota c.1.toNat c.2.1.toNat ∧ val rota c.1.toNat c.2.1.toNat ≤ (P : Int)) : tot rota (near1 P c) - wrk [c] = -(dif rota [c] : Int) := by
  have ew : (wrk [c] : Int) = if c.2.2 = 0 then 0 else 1 := by have := wrk_snoc [] c; simpa [wrk] using this
  have ed : (dif rota [c] : Int) = if c.2.2 = val rota c.1.toNat c.2.1.toNat then 0 else 1 := by
    unfold dif
    rw [List.countP_cons, List.countP_nil]
    by_cases h : c.2.2 = val rota c.1.toNat c.2.1.toNat
    · rw [if_pos h, if_neg (by simp [h])]; rfl
    · rw [if_neg h, if_pos (by simp [h])]; rfl
  rw [ew, ed]
  unfold near1
  by_cases z : c.2.2 = 0
  · rw [if_pos z, if_pos z, tot_minus, z]
    generalize val rota c.1.toNat c.2.1.toNat = w at hv
    by_cases y : 0 = w
    · rw [if_pos y, if_neg (by omega)]
      rfl
    · rw [if_neg y, if_pos (by omega)]
      rfl
  · rw [if_neg z, if_neg z, tot_one]
    show (if val rota c.1.toNat c.2.1.toNat = c.2.2 then (1 : Int) else 0) - 1 = _
    by_cases y : c.2.2 = val rota c.1.toNat c.2.1.toNat
    · rw [if_pos y.symm, if_pos y]
      rfl
    · rw [if_neg (fun q => y q.symm), if_neg y]
      rfl
theorem near_tot {rota : List (List Int)} {P : Nat} (hv : ∀ i j, 0 ≤ val rota i j ∧ val rota i j ≤ (P : Int)) : ∀ cs : List Vc, tot rota (nearP P cs) - wrk cs = -(dif rota cs : Int)
  | [] => rfl
  | c :: cs => by
    have h1 := tot_near1 (P := P) (rota := rota) (c := c) (hv _ _)
    have h2 := near_tot hv cs
    have e1 : nearP P (c :: cs) = near1 P c ++ nearP P cs := rfl
    have e2 : wrk (c :: cs) = wrk [c] + wrk cs := by unfold wrk; rw [show c :: cs = [c] ++ cs from rfl, List.countP_append]
    have e3 : dif rota (c :: cs) = dif rota [c] + dif rota cs := dif_app rota [c] cs
    rw [e1, e2, e3, tot_app]
    omega
theorem near1_len (P : Nat) (c : Vc) : (near1 P c).length ≤ P + 1 := by
  unfold near1
  split
  · rw [spr_one, List.length_map]
    unfold upto
    rw [List.length_map, List.length_range]
    omega
  · simp
theorem near_len (P : Nat) : ∀ cs : List Vc, (nearP P cs).length ≤ cs.length * (P + 1)
  | [] => Nat.zero_le _
  | c :: cs => by
    have e1 : nearP P (c :: cs) = near1 P c ++ nearP P cs := rfl
    have := near_len P cs
    have := near1_len P c
    rw [e1, List.length_append, List.length_cons, Nat.succ_mul]
    omega
theorem mem_near {P : Nat} {cs : List Vc} {q : Prt} (hq : q ∈ nearP P cs) : ∃ c ∈ cs, q.h = c.1 ∧ q.d = c.2.1 := by
  obtain ⟨c, hc, hq⟩ := List.mem_flatMap.mp hq
  refine ⟨c, hc, ?_⟩
  unfold near1 at hq
  split at hq
  · rw [spr_one] at hq
    obtain ⟨p, _, rfl⟩ := List.mem_map.mp hq
    exact ⟨rfl, rfl⟩
  · rw [List.mem_singleton.mp hq]
    exact ⟨rfl, rfl⟩
structure Pri (S : Int → Int → Int → Prop) (kvs : List (List Key × V)) : Prop where
  i : ∀ h d o, S h d o → valV kvs (kk h d o) = some (.int 1)
  n : ∀ h d o, ¬ S h d o → valV kvs (kk h d o) = none
theorem kk_inj {a b c a' b' c' : Int} (h : kk a b c = kk a' b' c') : a = a' ∧ b = b' ∧ c = c' := by
  unfold kk at h
  simp at h
  exact h
theorem Pri.nil : Pri (fun _ _ _ => False) [] := ⟨fun _ _ _ h => h.elim, fun _ _ _ _ => rfl⟩
theorem Pri.imp {S T : Int → Int → Int → Prop} {kvs : List (List Key × V)} (p : Pri S kvs) (h : ∀ a b c, S a b c ↔ T a b c) : Pri T kvs :=
  ⟨fun a b c t => p.i a b c ((h a b c).mpr t), fun a b c t => p.n a b c fun s => t ((h a b c).mp s)⟩
theorem Pri.put {S : Int → Int → Int → Prop} {kvs : List (List Key × V)} (p : Pri S kvs) (a b c : Int) : Pri (fun h d o => S h d o ∨ (h = a ∧ d = b ∧ o = c)) (putK kvs (kk a b c) (.int 1)) := by
  refine ⟨fun h d o s => ?_, fun h d o s => ?_⟩
  · rw [valV_put]
    by_cases e : kk h d o = kk a b c
    · rw [if_pos e]
    · rw [if_neg e]
      rcases s with s | ⟨rfl, rfl, rfl⟩
      · exact p.i _ _ _ s
      · exact absurd rfl e
  · rw [valV_put, if_neg fun e => s (.inr (kk_inj e))]
    exact p.n _ _ _ fun z => s (.inl z)
/-- what is paid: o beside the value of a cell -/
def cst (P : Nat) (cs : List Vc) (h d o : Int) : Prop := ∃ c ∈ cs, c.1 = h ∧ c.2.1 = d ∧ o ≠ c.2.2 ∧ 0 ≤ o ∧ o ≤ (P : Int)
theorem cst_snoc (P : Nat) (cs : List Vc) (c : Vc) (h d o : Int) : cst P (cs ++ [c]) h d o ↔ (cst P cs h d o ∨ (h = c.1 ∧ d = c.2.1 ∧ o ≠ c.2.2 ∧ 0 ≤ o ∧ o < ((P + 1 : Nat) : Int))) := by
  constructor
  · rintro ⟨x, hx, e1, e2, e3, e4, e5⟩
    rcases List.mem_append.mp hx with z | z
    · exact .inl ⟨x, z, e1, e2, e3, e4, e5⟩
    · rw [List.mem_singleton.mp z] at e1 e2 e3
      exact .inr ⟨e1.symm, e2.symm, e3, e4, by omega⟩
  · rintro (⟨x, hx, e⟩ | ⟨e1, e2, e3, e4, e5⟩)
    · exact ⟨x, List.mem_append_left _ hx, e⟩
    · exact ⟨c, List.mem_append_right _ (List.mem_singleton.mpr rfl), e1.symm, e2.symm, e3, e4, by omega⟩
theorem cst_vls {P n : Nat} {rows : List (List Int)} {h d : Nat} (hh : h < n) (hd : d < (rows[h]?.getD []).length) {o : Int} (o0 : 0 ≤ o) (o1 : o ≤ (P : Int)) : cst P (vls rows n) h d o ↔ o ≠ val rows h d := by
  constructor
  · rintro ⟨c, hc, e1, e2, e3, _⟩
    obtain ⟨h', d', _, _, rfl⟩ := mem_vls hc
    have e1' : h' = h := by exact Int.ofNat.inj e1
    have e2' : d' = d := by exact Int.ofNat.inj e2
    subst e1'; subst e2'
    exact e3
  · exact fun z => ⟨_, in_vls hh hd, rfl, rfl, z, o0, o1⟩
/-- parts under way -/
structure PrtI (H : Hp) (p : Addr) (qs : List Prt) (H' : Hp) : Prop where
  ex : ∃ ts, H' p = some (.lst ts) ∧ Prts H' ts qs
  fr : ∀ c o, H c = some o → c ≠ p → H' c = some o
theorem PrtI.mono {H H' H2 : Hp} {p : Addr} {qs : List Prt} (h : PrtI H p qs H') (g : Same H' H2) : PrtI H p qs H2 := by
  obtain ⟨ts, e, hP⟩ := h.ex
  exact ⟨⟨ts, g _ _ e, hP.mono (tups_same g)⟩, fun c o e n => g _ _ (h.fr c o e n)⟩
theorem PrtI.app {H H' : Hp} {p : Addr} {qs rs : List Prt} {zs : List V} (h : PrtI H p qs H') (hz : Prts H' zs rs) (hl : qs.length + rs.length ≤ 900) :
    ∃ xs, H' p = some (.lst xs) ∧ xs.length + zs.length ≤ sizeLine ∧ PrtI H p (qs ++ rs) (upd H' p (.lst (xs ++ zs))) := by
  obtain ⟨ts, e, hP⟩ := h.ex
  have h1 := Paired.length hP
  have h2 := Paired.length hz
  refine ⟨ts, e, small1000' (by omega), ⟨ts ++ zs, upd_same, Prts.mono (tups_lst e) (paired_app hP hz)⟩, fun c o ec nc => by rw [upd_ne nc]; exact h.fr c o ec nc⟩
/-- costs under way -/
structure PriI (H : Hp) (p : Addr) (S : Int → Int → Int → Prop) (n : Nat) (H' : Hp) : Prop where
  ex : ∃ kvs, H' p = some (.dT kvs) ∧ Pri S kvs ∧ kvs.length ≤ n
  fr : ∀ c o, H c = some o → c ≠ p → H' c = some o
theorem PriI.mono {H H' H2 : Hp} {p : Addr} {S : Int → Int → Int → Prop} {n : Nat} (h : PriI H p S n H') (g : Same H' H2) : PriI H p S n H2 := by
  obtain ⟨kvs, e, hP⟩ := h.ex
  exact ⟨⟨kvs, g _ _ e, hP⟩, fun c o e n => g _ _ (h.fr c o e n)⟩
theorem PriI.imp {H H' : Hp} {p : Addr} {S T : Int → Int → Int → Prop} {n m : Nat} (h : PriI H p S n H') (hS : ∀ a b c, S a b c ↔ T a b c) (hn : n ≤ m) : PriI H p T m H' := by
  obtain ⟨kvs, e, hP, hl⟩ := h.ex
  exact ⟨⟨kvs, e, hP.imp hS, by omega⟩, h.fr⟩
theorem PriI.put {H H' : Hp} {p t : Addr} {S : Int → Int → Int → Prop} {n : Nat} {a b c : Int} (h : PriI H p S n H') (hn : n ≤ 900) (et : H' t = some (.tup [.int a, .int b, .int c])) :
    ∃ H4, DPut H' p (.ref t) (.int 1) H4 ∧ PriI H p (fun x y z => S x y z ∨ (x = a ∧ y = b ∧ z = c)) (n + 1) H4 := by
  obtain ⟨kvs, e, hP, hl⟩ := h.ex
  refine ⟨_, DPut.t (k := kk a b c) e et (small1000 (by omega)), ⟨_, upd_same, hP.put a b c, ?_⟩, fun x o ex nx => by rw [upd_ne nx]; exact h.fr x o ex nx⟩
  have := length_putK kvs (kk a b c) (.int 1)
  omega
abbrev Spo := Nat × Nat × List Int
def SpoV (H : Hp) (v : V) (sp : Spo) : Prop := ∃ t u l, v = .ref t ∧ H t = some (.tup [.ref u, .ref l]) ∧ H u = some (.tup [.int (sp.1 : Int), .int (sp.2.1 : Int)]) ∧ H l = some (.lst (sp.2.2.map V.int))
abbrev Spos (H : Hp) : List V → List Spo → Prop := Paired (SpoV H)
theorem Spos.mono {H H' : Hp} (g : Same H H') {ts : List V} {ss : List Spo} (h : Spos H ts ss) : Spos H' ts ss := Paired.mapP h fun _ _ ⟨t, u, l, e, q, r, z⟩ => ⟨t, u, l, e, g _ _ q, g _ _ r, g _ _ z⟩
structure SpoOk (n : Nat) (d : Int) (P : Nat) (sp : Spo) : Prop where
  h : sp.1 < n
  d : (sp.2.1 : Int) < d
  ne : 0 < sp.2.2.length
  len : sp.2.2.length ≤ P + 1
  v : ∀ x ∈ sp.2.2, 0 ≤ x ∧ x ≤ (P : Int)
/-- a list of lists under way, each at a place of its own -/
structure GatN (H : Hp) (L : Addr) (Pr : List Int → Prop) (i : Nat) (H' : Hp) : Prop where
  ex : ∃ (us : List V) (rows : List (List Int)), rows.length = i ∧ Same H H' ∧ H' L = some (.lst us) ∧ Rows H' us rows ∧ (∀ row ∈ rows, Pr row) ∧ us.Nodup ∧ ∀ t, V.ref t ∈ us → t ≠ L ∧ H t = none
theorem GatN.start {H : Hp} {L : Addr} {Pr : List Int → Prop} (hL : H L = none) : GatN H L Pr 0 (upd H L (.lst [])) :=
  ⟨[], [], rfl, same_new hL _, upd_same, .nil, (fun r z => by cases z), List.nodup_nil, fun t z => by cases z⟩
theorem GatN.same {H H' : Hp} {L : Addr} {Pr : List Int → Prop} {i : Nat} (h : GatN H L Pr i H') : Same H H' := by
  obtain ⟨_, _, _, g, _⟩ := h.ex
  exact g
theorem nodup_snoc {α : Type} {xs : List α} {x : α} (h : xs.Nodup) (n : x ∉ xs) : (xs ++ [x]).Nodup := by
  rw [List.nodup_append]
  exact ⟨h, by simp, fun a ha b hb => by rw [List.mem_singleton.mp hb]; exact fun z => n (z ▸ ha)⟩
theorem GatN.step {H H' H2 : Hp} {L l : Addr} {Pr : List Int → Prop} {i : Nat} {row : List Int} (h : GatN H L Pr i H') (hL : H L = none) (hi : i ≤ 900) (g2 : Same H' H2) (hl : H' l = none) (hl2 : H2 l = some (.lst (row.map V.int))) (hp : Pr row) :
    ∃ xs, H2 L = some (.lst xs) ∧ xs.length < sizeLine ∧ GatN H L Pr (i + 1) (upd H2 L (.lst (xs ++ [.ref l]))) := by
  obtain ⟨us, rows, hr, g, e, hR, hP, nd, fr⟩ := h.ex
  have hul := hR.len
  have ne : L ≠ l := ne_of_none e hl
  refine ⟨us, g2 _ _ e, small1000 (by lia), us ++ [.ref l], rows ++ [row], by rw [List.length_append, hr]; rfl, same_upd hL (g.trans g2) _, upd_same, ?_, fun r hr' => ?_, nodup_snoc nd (hR.notin hl), fun t ht => ?_⟩
  · refine Rows.off (Rows.snoc (hR.mono g2) ⟨l, rfl, hl2⟩) fun z => ?_
    rcases List.mem_append.mp z with z | z
    · exact (fr L z).1 rfl
    · exact ne (V.ref.inj (List.mem_singleton.mp z))
  · rcases List.mem_append.mp hr' with z | z
    · exact hP r z
    · rw [List.mem_singleton.mp z]; exact hp
  · rcases List.mem_append.mp ht with z | z
    · exact fr t z
    · rw [V.ref.inj (List.mem_singleton.mp z)]
      exact ⟨ne.symm, g.free hl⟩
/-- spots under way -/
def SpoP (p : Addr) (H : Hp) (v : V) (sp : Spo) : Prop := ∃ t u l, v = .ref t ∧ H t = some (.tup [.ref u, .ref l]) ∧ H u = some (.tup [.int (sp.1 : Int), .int (sp.2.1 : Int)]) ∧ H l = some (.lst (sp.2.2.map V.int)) ∧ l ≠ p
structure SpoI (H : Hp) (p : Addr) (n : Nat) (d : Int) (P k : Nat) (H' : Hp) : Prop where
  ex : ∃ (us : List V) (ss : List Spo), Same H H' ∧ H' p = some (.lst us) ∧ Paired (SpoP p H') us ss ∧ (∀ s ∈ ss, SpoOk n d P s) ∧ ss.length = k
theorem SpoI.start {H : Hp} {p : Addr} {n P : Nat} {d : Int} (hp : H p = none) : SpoI H p n d P 0 (upd H p (.lst [])) := ⟨[], [], same_new hp _, upd_same, .nil, (fun s z => by cases z), rfl⟩
theorem SpoI.same {H H' : Hp} {p : Addr} {n P k : Nat} {d : Int} (h : SpoI H p n d P k H') : Same H H' := by
  obtain ⟨_, _, g, _⟩ := h.ex
  exact g
theorem SpoI.step {H H' H2 : Hp} {p u l t : Addr} {n P k : Nat} {d : Int} {sp : Spo} (h : SpoI H p n d P k H') (hp : H p = none) (hk : k ≤ 900) (g2 : Same H' H2) (eu : H2 u = some (.tup [.int (sp.1 : Int), .int (sp.2.1 : Int)])) (el : H2 l = some (.lst (sp.2.2.map V.int))) (fl : H' l = none) (ft : H2 t = none) (ok : SpoOk n d P sp) :
    ∃ xs, upd H2 t (.tup [.ref u, .ref l]) p = some (.lst xs) ∧ xs.length < sizeLine ∧ SpoI H p n d P (k + 1) (upd (upd H2 t (.tup [.ref u, .ref l])) p (.lst (xs ++ [.ref t]))) := by
  obtain ⟨us, ss, g, e, hS, hok, hl⟩ := h.ex
  have hul := Paired.length hS
  have gt := same_new ft (.tup [.ref u, .ref l])
  have gg := g2.trans gt
  have nlp : l ≠ p := (ne_of_none e fl).symm
  have ep := gg _ _ e
  have ntp : ∀ {c : Addr} {xs : List V}, upd H2 t (.tup [.ref u, .ref l]) c = some (.tup xs) → c ≠ p := fun {c xs} z y => by rw [y, ep] at z; cases z
  refine ⟨us, ep, small1000 (by omega), us ++ [.ref t], ss ++ [sp], same_upd hp (g.trans gg) _, upd_same, ?_, fun s hs => ?_, by rw [List.length_append, hl]; rfl⟩
  · refine paired_snoc (Paired.mapP hS fun _ _ ⟨t', u', l', e', q1, q2, q3, q4⟩ => ⟨t', u', l', e', ?_, ?_, ?_, q4⟩) ⟨t, u, l, rfl, ?_, ?_, ?_, nlp⟩
    · rw [upd_ne (ntp (gg _ _ q1))]; exact gg _ _ q1
    · rw [upd_ne (ntp (gg _ _ q2))]; exact gg _ _ q2
    · rw [upd_ne q4]; exact gg _ _ q3
    · rw [upd_ne (ntp upd_same)]; exact upd_same
    · rw [upd_ne (ntp (gt _ _ eu))]; exact gt _ _ eu
    · rw [upd_ne nlp]; exact gt _ _ el
  · rcases List.mem_append.mp hs with z | z
    · exact hok s z
    · rw [List.mem_singleton.mp z]; exact ok
theorem SpoI.done {H H' : Hp} {p : Addr} {n P k : Nat} {d : Int} (h : SpoI H p n d P k H') : ∃ (us : List V) (ss : List Spo), Same H H' ∧ H' p = some (.lst us) ∧ Spos H' us ss ∧ (∀ s ∈ ss, SpoOk n d P s) ∧ ss.length = k := by
  obtain ⟨us, ss, g, e, hS, hok, hl⟩ := h.ex
  exact ⟨us, ss, g, e, Paired.mapP hS fun _ _ ⟨t, u, l, e', q1, q2, q3, _⟩ => ⟨t, u, l, e', q1, q2, q3⟩, hok, hl⟩
/-- a table that is changed in place -/
structure RtI (H : Hp) (q : Addr) (us : List V) (d : Int) (n P : Nat) (H' : Hp) : Prop where
  ex : ∃ rws, H' q = some (.lst us) ∧ Rows H' us rws ∧ RotaOk d n P rws
  fr : Same H H'
  nd : us.Nodup
  fu : ∀ t, V.ref t ∈ us → t ≠ q ∧ H t = none
theorem RtI.set {H H' : Hp} {q : Addr} {us : List V} {d : Int} {n P : Nat} {h j : Nat} {v : Int} (r : RtI H q us d n P H') (hh : h < n) (hj : (j : Int) < d) (v0 : 0 ≤ v) (v1 : v ≤ (P : Int)) :
    ∃ (t : Addr) (row : List Int), H' q = some (.lst us) ∧ us[h]? = some (.ref t) ∧ H' t = some (.lst (row.map V.int)) ∧ j < row.length ∧ (row.length : Int) = d ∧ RtI H q us d n P (upd H' t (.lst ((row.map V.int).set j (.int v)))) := by
  obtain ⟨rws, e, hR, ok⟩ := r.ex
  have hl : h < rws.length := by rw [ok.len]; exact hh
  obtain ⟨t, a, qt⟩ := hR.get (List.getElem?_eq_getElem hl)
  have hrl := ok.rl _ (List.getElem_mem hl)
  have tm := List.mem_of_getElem? a
  obtain ⟨ntq, ht⟩ := r.fu t tm
  refine ⟨t, rws[h], e, a, qt, by omega, hrl, ⟨⟨rws.set h (rws[h].set j v), by rw [upd_ne ntq.symm]; exact e, ?_, ok.setv (List.getElem?_eq_getElem hl) v0 v1⟩, same_upd ht r.fr _, r.nd, r.fu⟩⟩
  rw [show (rws[h].map V.int).set j (.int v) = (rws[h].set j v).map V.int by rw [List.map_set]]
  exact Rows.put hR r.nd a
theorem GatN.rt {H H' : Hp} {L : Addr} {n P : Nat} {d : Int} (h : GatN H L (fun row => (row.length : Int) = d ∧ ∀ x ∈ row, 0 ≤ x ∧ x ≤ (P : Int)) n H') : ∃ us, RtI H L us d n P H' := by
  obtain ⟨us, rows, rl, g, e, hR, hPr, nd, fr⟩ := h.ex
  exact ⟨us, ⟨rows, e, hR, rl, fun r hr => (hPr r hr).1, fun r hr => (hPr r hr).2⟩, g, nd, fr⟩
theorem eraM (l : List Int) (k : Nat) : (l.map V.int).eraseIdx k = (l.eraseIdx k).map V.int := by rw [List.eraseIdx_eq_take_drop_succ, List.eraseIdx_eq_take_drop_succ, List.map_append, List.map_take, List.map_drop]
theorem whil_of {c : TT} {tb : TS} {D : Ends} {σ : St} {H : Hp} (h : ∀ B : TS, B = tb → tWhile c B D σ H) : tWhile c tb D σ H := h tb rfl
/-- posts under way -/
structure PsG (H : Hp) (L : Addr) (i : Nat) (H' : Hp) : Prop where
  ex : ∃ (ts : List V) (ps : List Pst), ps.length = i ∧ Same H H' ∧ H' L = some (.lst ts) ∧ Posts H' ts ps ∧ ∀ q ∈ ps, okP q
theorem PsG.start {H : Hp} {L : Addr} (hL : H L = none) : PsG H L 0 (upd H L (.lst [])) := ⟨[], [], rfl, same_new hL _, upd_same, .nil, fun q z => by cases z⟩
theorem PsG.same {H H' : Hp} {L : Addr} {i : Nat} (h : PsG H L i H') : Same H H' := by
  obtain ⟨_, _, _, g, _⟩ := h.ex
  exact g
theorem PsG.mono {H H' H2 : Hp} {L : Addr} {i : Nat} (h : PsG H L i H') (g : Same H' H2) : PsG H L i H2 := by
  obtain ⟨ts, ps, hl, g0, e, hP, ok⟩ := h.ex
  exact ⟨ts, ps, hl, g0.trans g, g _ _ e, hP.mono g, ok⟩
theorem PsG.step {H H' : Hp} {L t : Addr} {i : Nat} {q : Pst} (h : PsG H L i H') (hL : H L = none) (hi : i ≤ 900) (ht : H' t = none) (hq : okP q) :
    ∃ xs, upd H' t (.tup [.int q.1, .int q.2.1, .int q.2.2]) L = some (.lst xs) ∧ xs.length < sizeLine ∧ PsG H L (i + 1) (upd (upd H' t (.tup [.int q.1, .int q.2.1, .int q.2.2])) L (.lst (xs ++ [.ref t]))) := by
  obtain ⟨ts, ps, hl, g, e, hP, ok⟩ := h.ex
  have htl := hP.len
  have gt := same_new ht (.tup [.int q.1, .int q.2.1, .int q.2.2])
  refine ⟨ts, gt _ _ e, small1000 (by omega), ts ++ [.ref t], ps ++ [q], by rw [List.length_append, hl]; rfl, same_upd hL (g.trans gt) _, upd_same, ?_, fun q' hq' => ?_⟩
  · have h1 : Posts (upd H' t (.tup [.int q.1, .int q.2.1, .int q.2.2])) (ts ++ [.ref t]) (ps ++ [q]) := paired_snoc (hP.mono gt) ⟨t, rfl, upd_same⟩
    exact Paired.mapP h1 fun _ _ ⟨t', e', q'⟩ => ⟨t', e', (tups_lst (gt _ _ e)) _ _ q'⟩
  · rcases List.mem_append.mp hq' with z | z
    · exact ok q' z
    · rw [List.mem_singleton.mp z]; exact hq
theorem Posts.tmono {H H' : Hp} (g : Tups H H') {ts : List V} {ps : List Pst} (h : Posts H ts ps) : Posts H' ts ps := Paired.mapP h fun _ _ ⟨t, e, q⟩ => ⟨t, e, g _ _ q⟩
/-- a ward that is made smaller -/
def WardL (H : Hp) (h0 p0 : Addr) (ts : List V) (ps : List Pst) (f : Int → St) (m : Nat) (σ : St) (H' : Hp) : Prop :=
  ∃ (d : Int) (hs : List Int), m = d.toNat + hs.length ∧ Same H H' ∧ H' h0 = some (.lst (hs.map V.int)) ∧ H' p0 = some (.lst ts) ∧ Posts H' ts ps ∧ 1 ≤ d ∧ d ≤ 6 ∧ hs.length ≤ 4 ∧ (∀ x ∈ hs, okH x) ∧ σ = f d
theorem seven {z : Int} (h0 : 0 ≤ z) (h1 : z < 7) : ∃ w : Int, atI [V.int 7, .int 3, .int 1, .int 6, .int 2, .int 5, .int 0] z = some (.int w) ∧ 0 ≤ w ∧ w ≤ 7 := by
  obtain rfl | rfl | rfl | rfl | rfl | rfl | rfl : z = 0 ∨ z = 1 ∨ z = 2 ∨ z = 3 ∨ z = 4 ∨ z = 5 ∨ z = 6 := by omega
  all_goals exact ⟨_, rfl, by decide, by decide⟩
theorem sixv {z : Int} (h0 : 0 ≤ z) (h1 : z < 6) : ∃ w : Int, atI [V.int 0, .int 1, .int 2, .int 0, .int 4, .int 3] z = some (.int w) ∧ 0 ≤ w ∧ w ≤ 7 := by
  obtain rfl | rfl | rfl | rfl | rfl | rfl : z = 0 ∨ z = 1 ∨ z = 2 ∨ z = 3 ∨ z = 4 ∨ z = 5 := by omega
  all_goals exact ⟨_, rfl, by decide, by decide⟩
theorem fourv {z n : Int} (h0 : 0 ≤ z) (h1 : z < 4) (n0 : 0 ≤ n) (n1 : n ≤ 1000003) : ∃ w : Int, atI [V.int 8, .int 12, .int 0, .int (7 + n)] z = some (.int w) ∧ 0 ≤ w ∧ w ≤ 1000000000 := by
  obtain rfl | rfl | rfl | rfl : z = 0 ∨ z = 1 ∨ z = 2 ∨ z = 3 := by omega
  · exact ⟨_, rfl, by decide, by decide⟩
  · exact ⟨_, rfl, by decide, by decide⟩
  · exact ⟨_, rfl, by decide, by decide⟩
  · exact ⟨_, rfl, by omega, by omega⟩
theorem okH_mul {w pw : Int} (w0 : 0 ≤ w) (w7 : w ≤ 7) (p0 : 0 ≤ pw) (p1 : pw ≤ 134217728) : okH (w * pw) := by
  have h1 := Int.mul_nonneg w0 p0
  have h2 : w * pw ≤ 7 * 134217728 := Int.mul_le_mul w7 p1 p0 (by decide)
  exact ⟨h1, by omega⟩
def isV (ps : List Pst) (v : Int) : Bool := decide (v = 0) || (decide (1 ≤ v) && decide (v ≤ (ps.length : Int)))
def okR (d : Int) (ps : List Pst) (row : List Int) : Bool := decide ((row.length : Int) = d) && row.all (isV ps)
def okO (d : Int) (hs : List Int) (ps : List Pst) (rows : List (List Int)) : Bool := decide (rows.length = hs.length) && rows.all (okR d ps)
theorem okO_ok {d : Int} {hs : List Int} {ps : List Pst} {rows : List (List Int)} (h : RotaOk d hs.length ps.length rows) : okO d hs ps rows = true := by
  unfold okO
  rw [Bool.and_eq_true]
  refine ⟨decide_eq_true h.len, List.all_eq_true.mpr fun row hr => ?_⟩
  unfold okR
  rw [Bool.and_eq_true]
  refine ⟨decide_eq_true (h.rl row hr), List.all_eq_true.mpr fun x hx => ?_⟩
  have := h.v row hr x hx
  unfold isV
  by_cases z : x = 0
  · rw [decide_eq_true z]; rfl
  · rw [decide_eq_false z, decide_eq_true (show 1 ≤ x by omega), decide_eq_true (show x ≤ (ps.length : Int) by omega)]; rfl
theorem okO_row {d : Int} {hs : List Int} {ps : List Pst} {rows : List (List Int)} {row : List Int} (h : row ∈ rows) (hb : okR d ps row = false) : okO d hs ps rows = false := by
  cases e : okO d hs ps rows with
  | false => rfl
  | true =>
    unfold okO at e
    rw [Bool.and_eq_true, List.all_eq_true] at e
    rw [e.2 row h] at hb
    cases hb
theorem okR_len {d : Int} {ps : List Pst} {row : List Int} (h : (row.length : Int) ≠ d) : okR d ps row = false := by
  unfold okR
  rw [decide_eq_false h]
  rfl
theorem okR_val {d : Int} {ps : List Pst} {row : List Int} {x : Int} (hx : x ∈ row) (h : x < 0 ∨ (ps.length : Int) < x) : okR d ps row = false := by
  cases e : okR d ps row with
  | false => rfl
  | true =>
    unfold okR at e
    rw [Bool.and_eq_true, List.all_eq_true] at e
    have := e.2 x hx
    unfold isV at this
    rw [Bool.or_eq_true, Bool.and_eq_true, decide_eq_true_eq, decide_eq_true_eq, decide_eq_true_eq] at this
    omega
end My

set_option Elab.async false
set_option linter.all false
set_option maxRecDepth 100000
set_option maxHeartbeats 4000000
namespace My
open PySem L2
def top (i : Nat) : Stmt := PySem.Challenge.pw_rotaward_k51_near_by_words.main.body.getD i (.Pass ⟨0, 0, 0, 0⟩)
abbrev s_Rule_plain : Stmt := inClass (top 2) 2
abbrev s_Rule_told : Stmt := inClass (top 2) 4
abbrev s_has_post : Stmt := top 3
abbrev s_all_posts : Stmt := top 4
abbrev s_spread : Stmt := top 5
abbrev s_Near___init__ : Stmt := inClass (top 8) 0
abbrev s_Near_fits : Stmt := inClass (top 8) 1
abbrev s_Near_lines : Stmt := inClass (top 8) 2
abbrev s_Near_price : Stmt := inClass (top 8) 3
abbrev s_is_old : Stmt := top 9
abbrev s_is_value : Stmt := top 10
abbrev s_valued : Stmt := top 11
abbrev s_Ward___init__ : Stmt := inClass (top 21) 0
abbrev s_need_month : Stmt := top 22
abbrev s_need_hands : Stmt := top 23
abbrev s_need_posts : Stmt := top 24
abbrev s_is_skills : Stmt := top 25
abbrev s_is_post : Stmt := top 26
abbrev s__law_draw : Stmt := top 28
abbrev s__law_whole : Stmt := top 29
abbrev s__law_choices : Stmt := top 30
abbrev s__law_spots : Stmt := top 31
abbrev s__law_tables : Stmt := top 32
abbrev s__law_ward : Stmt := top 33
abbrev s__law_old : Stmt := top 34
abbrev s__law_changed : Stmt := top 35
abbrev s__law_spoilt : Stmt := top 36
abbrev s__law_sum : Stmt := top 37
abbrev s__law_priced : Stmt := top 38
abbrev s__law_lined : Stmt := top 39
abbrev s__law_prices : Stmt := top 40
abbrev s_law : Stmt := top 41
structure Txt (K : PySem.W.Frag) (mg : Str → Option Value) (C_Ward : Addr) (C_Near : Addr) (C_Rule : Addr) : Prop where
  all : mg "all" = none
  bool : mg "bool" = none
  dict : mg "dict" = none
  enumerate : mg "enumerate" = none
  int : mg "int" = none
  isinstance : mg "isinstance" = none
  len : mg "len" = none
  list : mg "list" = none
  max : mg "max" = none
  range : mg "range" = none
  str : mg "str" = none
  tuple : mg "tuple" = none
  g_MOST_CHANGES : ∃ tk, mg "MOST_CHANGES" = some (.int 999 tk)
  g_MOST_DAYS : ∃ tk, mg "MOST_DAYS" = some (.int 31 tk)
  g_MOST_HANDS : ∃ tk, mg "MOST_HANDS" = some (.int 8 tk)
  g_MOST_POSTS : ∃ tk, mg "MOST_POSTS" = some (.int 6 tk)
  cl_Ward : Cls K C_Ward
  n_Ward_days : NoAttr K C_Ward "days"
  n_Ward_hands : NoAttr K C_Ward "hands"
  n_Ward_posts : NoAttr K C_Ward "posts"
  cl_Near : Cls K C_Near
  n_Near_old : NoAttr K C_Near "old"
  n_Near_many : NoAttr K C_Near "many"
  c_Rule : mg "Rule" = some (.ref C_Rule)
  ic_n : PySem.W.findIn K (.ref C_Near) "__class__" = some (some (.builtin "object.__class__"))
  ig_o : PySem.W.specialIn K (.builtin "object.__class__") "__get__" = some (some (.builtin "getset_descriptor.__get__"))
  it_o : PySem.W.takesIn K (.builtin "object.__class__") = some true
  im_n : PySem.W.mroIn K C_Near (.type "object") = some true
  kt_n : PySem.W.kitOne K (.ref C_Near) (.ref C_Rule) = some true
section
variable {P : Program} {w : World} {K : PySem.W.Frag} {mg : Str → Option Value} {base : Heap}
local macro_rules | `(pv $a)=>`(@pv _ $a _ _ rfl (by first | exact Or.inl rfl | exact Or.inr (Or.inl rfl) | exact Or.inr (Or.inr rfl)) (by decide) (by decide)) | `(pa_cons $a $b)=>`(@pa_cons _ _ _ _ _ $a $b rfl) | `(pss_one $a)=>`(@pss_one _ _ _ $a) | `(pss_cons $a $b)=>`(@pss_cons _ _ _ _ _ $a $b) | `(pe_op $a $b $c)=>`(@pe_op _ _ _ _ _ _ _ _ $a $b $c) | `(pe_ix $a $b $c $d)=>`(@pe_ix _ _ _ _ _ _ _ $a $b $c $d) | `(pg_name (i:=$a) $b $c $d)=>`(@pg_name _ _ $a _ $b $c $d (by first | exact .inl rfl | exact .inr rfl | assumption)) | `(pe_cal $a $b $c $d)=>`(@pe_cal _ _ _ _ _ _ _ _ _ _ $a $b $c $d (by decide) rfl rfl) | `(ps_set (i:=$a) $b $c $d $e)=>`(@ps_set _ _ $a _ _ _ _ $b $c $d $e rfl (by first | exact .inl rfl | exact .inr rfl | assumption)) | `(nomark $a)=>`(@nomark $a _ (by decide) (by decide)) | `(ps_ret $a)=>`(@ps_ret _ _ _ _ $a) | `(pe_callB $a $b $c $d $e)=>`(@pe_callB _ _ _ _ _ _ _ _ _ $a $b $c $d $e (by decide) (by decide) rfl rfl) | `(pt_cmpR $a $b $c $d)=>`(@pt_cmpR _ _ _ _ _ _ _ _ $a $b $c $d) | `(ps_if $a $b $c)=>`(@ps_if _ _ _ _ _ _ _ _ $a $b $c) | `(pgs_cons $a $b)=>`(@pgs_cons _ _ _ _ _ $a $b rfl) | `(call_lenK (K:=$a) $b)=>`(@call_lenK _ $a $b) | `(ps_for $a $b $c $d $e)=>`(@ps_for _ _ _ _ _ _ _ _ $a $b $c $d $e (by intro _; rfl)) | `(ps_expr $a)=>`(@ps_expr _ _ _ _ $a rfl) | `(pe_callTy $a $b $c $d $e)=>`(@pe_callTy _ _ _ _ _ _ _ _ _ $a $b $c $d $e (by decide) (by decide) rfl rfl) | `(pi_range1 $a $b $c)=>`(@pi_range1 _ _ _ _ _ _ $a $b $c rfl) | `(pw_or $a $b)=>`(@pw_or _ _ _ _ _ _ _ $a $b) | `(pe_lst $a)=>`(@pe_lst _ _ _ _ $a) | `(pt_not $a)=>`(@pt_not _ _ _ _ $a) | `(pt_val $a)=>`(@pt_val _ _ _ $a (by intro _; rfl)) | `(pe_tup $a)=>`(@pe_tup _ _ _ _ _ $a) | `(pw_or1 $a)=>`(@pw_or1 _ _ _ _ $a) | `(pi_list $a)=>`(@pi_list _ _ _ _ $a) | `(pe_bm $a $b $c $d $e $f)=>`(@pe_bm _ _ _ _ _ _ _ _ _ _ _ _ $a $b $c $d $e $f rfl rfl rfl rfl rfl) | `(pe_fld $a $b)=>`(@pe_fld _ _ _ _ _ $a $b) | `(pg_tup (n:=$a) $b $c)=>`(@pg_tup _ _ _ _ _ $a $b $c rfl rfl) | `(pe_comp (own:=$a) (fnames:=$b) (fr:=$c) (N':=$d) $e $f $g $h)=>`(@pe_comp _ _ $d $a $b $c _ _ _ _ _ _ _ _ _ $e $f $g $h (by intro _; rfl)) | `(pe_methC $a $b $c $d)=>`(@pe_methC _ _ _ _ _ _ _ _ _ _ _ _ _ _ $a $b $c $d rfl rfl rfl) | `(pe_and $a $b)=>`(@pe_and _ _ _ _ _ _ _ $a $b) | `(call_listK (K:=$a) $b)=>`(@call_listK _ $a $b) | `(pe_one $a)=>`(@pe_one _ _ _ _ _ $a) | `(pe_cmpR $a $b $c $d)=>`(@pe_cmpR _ _ _ _ _ _ _ _ $a $b $c $d) | `(pe_makeC $a $b $c $d)=>`(@pe_makeC _ _ _ _ _ _ _ _ _ _ _ $a $b $c $d (by decide) rfl rfl) | `(call_tuple_L (K:=$a) $b)=>`(@call_tuple_L _ $a $b) | `(ps_asg $a $b)=>`(@ps_asg _ _ _ _ _ _ $a $b rfl rfl rfl) | `(pe_chain $a $b $c $d $e)=>`(@pe_chain _ _ _ _ _ _ _ _ _ _ _ _ $a $b $c $d $e (by with_unfolding_all rfl)) | `(ps_fld $a $b $c)=>`(@ps_fld _ _ _ _ _ _ _ _ $a $b $c) | `(pe_bltn (v:=$a) $b $c $d $e)=>`(@pe_bltn _ _ $a _ _ $b $c $d $e (by decide) (by decide))
local macro_rules | `(tactic| walk_at "rd") => `(tactic| try simp only [tSeq, tRet, tRetN, tIfS, tNext, tDrop, tOp, tUn, tVar, tC, rI0, rI, rU, rEq, rNe, L2.start, tAsg, gName, tTest, tB, tCB, tCons, tNil, rIxL, rIxT, tNot, tAnd, tOr, tNotV, tAndV, tOrV, tCall, rIsi, iRng1, iRng2, tFor, tWhile, tChain, tIf, tTup, tLst, tComp, tBlk, compSt, tTrue, Cx.comp, List.replicate_one, List.replicate_zero, Option.getD_some, tBM, tBM0, rLen, rListOf, rTupL, tRaise, tCallX, tDropX, tSetX, tTry0, tTryA, Ends.gone, rIsx, rExc, vO, tFld, tMeth, tMake, sFld, iEnL, iEnT, gTup, gCons, gNil, gSub, rSetL, rCat, rInsert, tSl, tNoPart, tPart, rSlL, rAppend, rClear, iList, iTup, cxOf, Cx.nox, Cx.wish, List.map_cons, List.map_nil, List.length_cons, List.length_nil, Nat.reduceAdd, Nat.reduceSub, List.reduceReplicate, List.cons_append, List.nil_append, List.append_nil, List.getElem?_cons_zero, List.getElem?_cons_succ, List.set_cons_zero, List.set_cons_succ, Option.some.injEq, V.int.injEq, V.bl.injEq, V.ref.injEq, V.str.injEq, V.ty.injEq, List.cons.injEq, and_true, true_and, and_assoc, exists_eq_left, exists_eq_left', exists_eq_right, exists_eq, exists_eq', exists_and_left, exists_const, decide_eq_true_eq, scal_ii, scal_bb, scal_ss, tEqI', Bool.not_eq_true', Bool.not_eq_true, decide_eq_false_iff_not, if_true, if_false, Bool.false_eq_true, reduceIte, tyN_int, tyN_bl, tyN_str, tyN_ref, okT_int, okT_bool, okT_str, okT_list, okT_tuple, subN_ii, subN_ib, subN_bb, subN_bi, subN_ss, subN_ll, subN_tt, Bool.not_true, Bool.not_false, not_true_eq_false, Bool.true_eq_false, rPop, rPopAt, rExtendT, rSlT, rCatA, iEnL, rExtend, rIsK, rRng2, rListR, rStr, iRng3, iZip, rIn, rRep, tDNewT, tDGet2, tDGet, sDPut, tDNotIn, tDIn, rIsd, rClearT, iDT, tThaw])
def sp_need_month (_ : PySem.W.Frag) (C_Ward C_Near C_Rule : Addr) : Sp := fun vs H Q _ => ∃ d : Int, vs = [.int d] ∧ 1 ≤ d ∧ d ≤ 31 ∧ Q .non H
theorem sc_need_month : FnScope ["days"] ["days"] (defScope s_need_month) := ⟨rfl, rfl, rfl, by decide +kernel, rfl, by decide +kernel, by decide +kernel⟩
theorem ok_need_month {C_Ward : Addr} {C_Near : Addr} {C_Rule : Addr} {f : Addr} {fd : FuncData} (F : Fun K "need_month" "need_month" s_need_month f fd) (T : Txt K mg C_Ward C_Near C_Rule)  : FnOk P w K mg base CX0 1 f fd ["days"] (sp_need_month K C_Ward C_Near C_Rule) := by
  refine F.ok sc_need_month (fun vs H Q E h => ?_) (fun cdv A outer s H vs Q E hr h => ?_)
  · obtain ⟨n, rfl, _⟩ := h
    rfl
  · obtain ⟨n, rfl, n0, n1, q⟩ := h
    refine ⟨_, (pss_one (ps_if (PW.pt (pw_or (pt_cmpR op_lt (pv 0) pe_int (nomark _)) (pw_or1 (pt_cmpR op_gt (pv 0) (pe_globI rfl T.g_MOST_DAYS) (nomark _))))) (pss_one ps_never) pss_nil)), ?_⟩
    walk_at "rd"
    rw [if_neg (by omega), if_neg (by omega)]
    exact q
def sp_is_skills (_ : PySem.W.Frag) (C_Ward C_Near C_Rule : Addr) : Sp := fun vs H Q _ => ∃ n : Int, vs = [.int n] ∧ okH n ∧ Q (.bl true) H
theorem sc_is_skills : FnScope ["number"] ["number"] (defScope s_is_skills) := ⟨rfl, rfl, rfl, by decide +kernel, rfl, by decide +kernel, by decide +kernel⟩
theorem ok_is_skills {C_Ward : Addr} {C_Near : Addr} {C_Rule : Addr} {f : Addr} {fd : FuncData} (F : Fun K "is_skills" "is_skills" s_is_skills f fd) (T : Txt K mg C_Ward C_Near C_Rule)  : FnOk P w K mg base CX0 1 f fd ["number"] (sp_is_skills K C_Ward C_Near C_Rule) := by
  refine F.ok sc_is_skills (fun vs H Q E h => ?_) (fun cdv A outer s H vs Q E hr h => ?_)
  · obtain ⟨n, rfl, _⟩ := h
    rfl
  · obtain ⟨n, rfl, hn, q⟩ := h
    refine ⟨_, (pss_one (ps_ret (pe_chain op_le op_lt pe_int (pv 0) (pe_op op_pow pe_int pe_int)))), ?_⟩
    walk_at "rd"
    rw [if_pos hn.1]
    refine ⟨⟨by decide, by decide, by decide⟩, ?_⟩
    rw [show (2 : Int) ^ Int.toNat 30 = 1073741824 by decide, decide_eq_true hn.2]
    exact q
def sp_need_hands (K : PySem.W.Frag) (C_Ward C_Near C_Rule : Addr) : Sp := fun vs H Q _ => ∃ (a : Addr) (hs : List Int), vs = [.ref a] ∧ SqL K H a (hs.map V.int) ∧ (∀ x ∈ hs, okH x) ∧ hs.length ≤ 8 ∧ ∀ H', Same H H' → Q .non H'
theorem sc_need_hands : FnScope ["hands", "number", "skills"] ["hands"] (defScope s_need_hands) := ⟨rfl, rfl, rfl, by decide +kernel, rfl, by decide +kernel, by decide +kernel⟩
theorem ok_need_hands {C_Ward : Addr} {C_Near : Addr} {C_Rule : Addr} {f : Addr} {fd : FuncData} (F : Fun K "need_hands" "need_hands" s_need_hands f fd) (T : Txt K mg C_Ward C_Near C_Rule) (C_is_skills : Cal P w K mg base "is_skills" ["number"] 1 (sp_is_skills K C_Ward C_Near C_Rule)) : FnOk P w K mg base CX0 2 f fd ["hands"] (sp_need_hands K C_Ward C_Near C_Rule) := by
  refine F.ok sc_need_hands (fun vs H Q E h => ?_) (fun cdv A outer s H vs Q E hr h => ?_)
  · obtain ⟨a, hs, rfl, _⟩ := h
    rfl
  · obtain ⟨a, hs, rfl, hS, hh, hl, q⟩ := h
    refine ⟨_, (pss_one (ps_for PassesOwn.never rfl (pi_enum_list rfl T.enumerate (pv 0)) (pg_tup (n := 2) rfl (pgs_cons (pg_name (i := 1) sc_need_hands.nd rfl (Or.inl rfl)) (pgs_cons (pg_name (i := 2) sc_need_hands.nd rfl (Or.inl rfl)) pgs_nil)))
      (pss_one (ps_if (PW.pt (pw_or (pt_cmpR op_ge (pv 1) (pe_globI rfl T.g_MOST_HANDS) (nomark _)) (pw_or1 (pt_not (pt_val (pe_cal C_is_skills (hr.mono (by decide)) rfl (pa_cons (pv 2) pa_nil))))))) (pss_one ps_never) pss_nil)))), ?_⟩
    walk_at "rd"
    refine ⟨⟨_, hS⟩, for_enumW (xs := hs.map V.int) (fun i σ H' => Same H H' ∧ ∃ v1 v2, σ = [some (.ref a), v1, v2]) ⟨Same.refl H, none, none, rfl⟩ (fun i σ H' _ hh => hh.1.seq hS) ?_ ?_⟩
    · rintro i x σ H' t hx ⟨g, v1, v2, rfl⟩ ht
      rw [List.getElem?_map] at hx
      obtain ⟨p, hpi, rfl⟩ := Option.map_eq_some_iff.mp hx
      have hi : i < hs.length := (List.getElem?_eq_some_iff.mp hpi).1
      walk_at "rd"
      refine ⟨_, SqT.of upd_same, rfl, _, _, rfl, _, _, rfl, rfl, ?_⟩
      walk_at "rd"
      rw [if_neg (by omega)]
      refine ⟨p, rfl, hh p (List.mem_of_getElem? hpi), ?_⟩
      walk_at "rd"
      first | exact ⟨g.trans (same_new ht _), _, _, rfl⟩ | exact ⟨g.trans (same_new ht _), _, rfl⟩ | exact g.trans (same_new ht _)
    · rintro σ H' ⟨g, _⟩
      exact q H' g
def sp_is_post (_ : PySem.W.Frag) (C_Ward C_Near C_Rule : Addr) : Sp := fun vs H Q _ => ∃ (t : Addr) (q : Pst), vs = [.ref t] ∧ H t = some (.tup [.int q.1, .int q.2.1, .int q.2.2]) ∧ okP q ∧ Q (.bl true) H
theorem sc_is_post : FnScope ["post"] ["post"] (defScope s_is_post) := ⟨rfl, rfl, rfl, by decide +kernel, rfl, by decide +kernel, by decide +kernel⟩
theorem ok_is_post {C_Ward : Addr} {C_Near : Addr} {C_Rule : Addr} {f : Addr} {fd : FuncData} (F : Fun K "is_post" "is_post" s_is_post f fd) (T : Txt K mg C_Ward C_Near C_Rule) (C_is_skills : Cal P w K mg base "is_skills" ["number"] 1 (sp_is_skills K C_Ward C_Near C_Rule)) : FnOk P w K mg base CX0 2 f fd ["post"] (sp_is_post K C_Ward C_Near C_Rule) := by
  refine F.ok sc_is_post (fun vs H Q E h => ?_) (fun cdv A outer s H vs Q E hr h => ?_)
  · obtain ⟨t, p, rfl, _⟩ := h
    rfl
  · obtain ⟨t, p, rfl, ht, hp, q⟩ := h
    refine ⟨_, (pss_one (ps_ret (pe_and (pe_cal C_is_skills (hr.mono (by decide)) rfl (pa_cons (pe_ix ix_tup (pv 0) pe_int (fun _ _ => rfl)) pa_nil)) (pe_and (pe_chain op_le op_le pe_int (pe_ix ix_tup (pv 0) pe_int (fun _ _ => rfl)) (pe_op op_pow pe_int pe_int)) (pe_one (pe_chain op_le op_le pe_int (pe_ix ix_tup (pv 0) pe_int (fun _ _ => rfl)) pe_int)))))), ?_⟩
    walk_at "rd"
    refine ⟨_, SqT.of ht, _, rfl, _, rfl, hp.1, ?_⟩
    walk_at "rd"
    refine ⟨_, SqT.of ht, _, rfl, ?_⟩
    walk_at "rd"
    rw [if_pos hp.2.1.1]
    refine ⟨⟨by decide, by decide, by decide⟩, ?_⟩
    rw [show (10 : Int) ^ Int.toNat 9 = 1000000000 by decide, if_pos hp.2.1.2]
    refine ⟨_, SqT.of ht, _, rfl, ?_⟩
    walk_at "rd"
    rw [if_pos hp.2.2.1, decide_eq_true hp.2.2.2]
    exact q
def sp_need_posts (K : PySem.W.Frag) (C_Ward C_Near C_Rule : Addr) : Sp := fun vs H Q _ => ∃ (a : Addr) (ts : List V) (ps : List Pst), vs = [.ref a] ∧ SqL K H a ts ∧ Posts H ts ps ∧ (∀ q ∈ ps, okP q) ∧ ps.length ≤ 6 ∧ ∀ H', Same H H' → Q .non H'
theorem sc_need_posts : FnScope ["posts", "number", "post"] ["posts"] (defScope s_need_posts) := ⟨rfl, rfl, rfl, by decide +kernel, rfl, by decide +kernel, by decide +kernel⟩
theorem ok_need_posts {C_Ward : Addr} {C_Near : Addr} {C_Rule : Addr} {f : Addr} {fd : FuncData} (F : Fun K "need_posts" "need_posts" s_need_posts f fd) (T : Txt K mg C_Ward C_Near C_Rule) (C_is_post : Cal P w K mg base "is_post" ["post"] 2 (sp_is_post K C_Ward C_Near C_Rule)) : FnOk P w K mg base CX0 3 f fd ["posts"] (sp_need_posts K C_Ward C_Near C_Rule) := by
  refine F.ok sc_need_posts (fun vs H Q E h => ?_) (fun cdv A outer s H vs Q E hr h => ?_)
  · obtain ⟨a, ts, ps, rfl, _⟩ := h
    rfl
  · obtain ⟨a, ts, ps, rfl, hS, hT, hp, hl, q⟩ := h
    refine ⟨_, (pss_one (ps_for PassesOwn.never rfl (pi_enum1_list rfl T.enumerate (pv 0)) (pg_tup (n := 2) rfl (pgs_cons (pg_name (i := 1) sc_need_posts.nd rfl (Or.inl rfl)) (pgs_cons (pg_name (i := 2) sc_need_posts.nd rfl (Or.inl rfl)) pgs_nil)))
      (pss_one (ps_if (PW.pt (pw_or (pt_cmpR op_gt (pv 1) (pe_globI rfl T.g_MOST_POSTS) (nomark _)) (pw_or1 (pt_not (pt_val (pe_cal C_is_post (hr.mono (by decide)) rfl (pa_cons (pv 2) pa_nil))))))) (pss_one ps_never) pss_nil)))), ?_⟩
    walk_at "rd"
    refine ⟨⟨_, hS⟩, for_enumW (xs := ts) (fun i σ H' => Same H H' ∧ ∃ v1 v2, σ = [some (.ref a), v1, v2]) ⟨Same.refl H, none, none, rfl⟩ (fun i σ H' _ hh => hh.1.seq hS) ?_ ?_⟩
    · rintro i x σ H' t hx ⟨g, v1, v2, rfl⟩ ht
      obtain ⟨p, hpi, t', rfl, ht'⟩ := hT.at' hx
      have hi : i < ps.length := (List.getElem?_eq_some_iff.mp hpi).1
      have g2 := g.trans (same_new ht (.tup [.int (((1 + i : Nat)) : Int), .ref t']))
      walk_at "rd"
      refine ⟨_, SqT.of upd_same, rfl, _, _, rfl, _, _, rfl, rfl, ?_⟩
      walk_at "rd"
      rw [if_neg (by omega)]
      refine ⟨t', p, rfl, g2 _ _ ht', hp p (List.mem_of_getElem? hpi), ?_⟩
      walk_at "rd"
      first | exact ⟨g2, _, _, rfl⟩ | exact ⟨g2, _, rfl⟩ | exact g2
    · rintro σ H' ⟨g, _⟩
      exact q H' g
def sp_Ward___init__ (K : PySem.W.Frag) (C_Ward C_Near C_Rule : Addr) : Sp := fun vs H Q _ => ∃ (x dx a b : Addr) (d : Int) (hs : List Int) (ts : List V) (ps : List Pst), vs = [.ref x, .int d, .ref a, .ref b] ∧ H x = some (.ins C_Ward dx []) ∧ SqL K H a (hs.map V.int) ∧ SqL K H b ts ∧ Posts H ts ps ∧ Ok d hs ps ∧
  ∀ H', (∀ c o, H c = some o → c ≠ x → H' c = some o) → WardAt C_Ward H' x d hs ps → Q .non H'
theorem sc_Ward___init__ : FnScope ["self", "days", "hands", "posts"] ["self", "days", "hands", "posts"] (defScope s_Ward___init__) := ⟨rfl, rfl, rfl, by decide +kernel, rfl, by decide +kernel, by decide +kernel⟩
theorem ok_Ward___init__ {C_Ward : Addr} {C_Near : Addr} {C_Rule : Addr} {f : Addr} {fd : FuncData} (F : Fun K "__init__" "Ward.__init__" s_Ward___init__ f fd) (T : Txt K mg C_Ward C_Near C_Rule) (C_need_month : Cal P w K mg base "need_month" ["days"] 1 (sp_need_month K C_Ward C_Near C_Rule)) (C_need_hands : Cal P w K mg base "need_hands" ["hands"] 2 (sp_need_hands K C_Ward C_Near C_Rule)) (C_need_posts : Cal P w K mg base "need_posts" ["posts"] 3 (sp_need_posts K C_Ward C_Near C_Rule)) : FnOk P w K mg base CX0 4 f fd ["self", "days", "hands", "posts"] (sp_Ward___init__ K C_Ward C_Near C_Rule) := by
  refine F.ok sc_Ward___init__ (fun vs H Q E h => ?_) (fun cdv A outer s H vs Q E hr h => ?_)
  · obtain ⟨x, dx, a, b, d, hs, ts, ps, rfl, _⟩ := h
    rfl
  · obtain ⟨x, dx, a, b, d, hs, ts, ps, rfl, hx, hA, hB, hT, ok, q⟩ := h
    refine ⟨_, (pss_cons (ps_expr (pe_cal C_need_month (hr.mono (by decide)) rfl (pa_cons (pv 1) pa_nil)))
    (pss_cons (ps_expr (pe_cal C_need_hands (hr.mono (by decide)) rfl (pa_cons (pv 2) pa_nil)))
    (pss_cons (ps_expr (pe_cal C_need_posts (hr.mono (by decide)) rfl (pa_cons (pv 3) pa_nil)))
    (pss_cons (ps_fld (pv 0) (pv 1) rfl)
    (pss_cons (ps_fld (pv 0) (pe_callTy (call_tuple_L (K := K) rfl) (by rfl) T.tuple PyProof.Rows.boot_tuple (pa_cons (pv 2) pa_nil)) rfl)
    (pss_one (ps_fld (pv 0) (pe_callTy (call_tuple_L (K := K) rfl) (by rfl) T.tuple PyProof.Rows.boot_tuple (pa_cons (pv 3) pa_nil)) rfl))))))), ?_⟩
    walk_at "rd"
    refine ⟨d, rfl, ok.d1, ok.d2, a, hs, rfl, hA, ok.h, ok.hl, fun H1 g1 => ⟨b, ts, ps, rfl, g1.seq hB, hT.mono g1, ok.p, ok.pl, fun H2 g2 => ?_⟩⟩
    have g := g1.trans g2
    have hx2 := g _ _ hx
    walk_at "rd"
    refine ⟨C_Ward, dx, [], hx2, T.cl_Ward, T.n_Ward_days, by decide, _, (g.seq hA).off (by intro ys z; rw [hx2] at z; cases z) (by intro v u z; rw [hx2] at z; cases z), fun l1 hl1 => ?_⟩
    have n1 : x ≠ l1 := fun z => by rw [← z, upd_same] at hl1; cases hl1
    have e1 : H2 l1 = none := by rw [upd_ne n1.symm] at hl1; exact hl1
    refine ⟨C_Ward, dx, putF "days" (.int d) [], by rw [upd_ne n1, upd_same], T.cl_Ward, T.n_Ward_hands, Nat.lt_of_le_of_lt (length_putF _ _ _) (by show 1 < 1000; decide), ts, ?_, fun l2 hl2 => ?_⟩
    · refine SqL.off ((same_new (by rw [upd_ne n1.symm]; exact e1) _).seq ((g.seq hB).off ?_ ?_)) ?_ ?_
      · intro ys z; rw [hx2] at z; cases z
      · intro v u z; rw [hx2] at z; cases z
      · intro ys z; rw [upd_ne n1, upd_same] at z; cases z
      · intro v u z; rw [upd_ne n1, upd_same] at z; cases z
    have n2 : x ≠ l2 := fun z => by rw [← z, upd_same] at hl2; cases hl2
    have n3 : l1 ≠ l2 := fun z => by rw [← z, upd_ne n1.symm, upd_same] at hl2; cases hl2
    have e2 : H2 l2 = none := by rw [upd_ne n2.symm, upd_ne n3.symm, upd_ne n2.symm] at hl2; exact hl2
    refine ⟨C_Ward, dx, putF "hands" (.ref l1) (putF "days" (.int d) []), by rw [upd_ne n2, upd_same], T.cl_Ward, T.n_Ward_posts, Nat.lt_of_le_of_lt (Nat.le_trans (length_putF _ _ _) (Nat.succ_le_succ (length_putF _ _ _))) (by show 2 < 1000; decide), ?_⟩
    have fr : ∀ c o, H2 c = some o → c ≠ x → upd (upd (upd (upd (upd H2 x (.ins C_Ward dx (putF "days" (.int d) []))) l1 (.tup (hs.map V.int))) x (.ins C_Ward dx (putF "hands" (.ref l1) (putF "days" (.int d) [])))) l2 (.tup ts)) x (.ins C_Ward dx (wf d l1 l2)) c = some o := fun c o hc ne => by
      rw [upd_ne ne, upd_ne (ne_of_none hc e2), upd_ne ne, upd_ne (ne_of_none hc e1), upd_ne ne]
      exact hc
    refine q _ (fun c o hc ne => fr c o (g _ _ hc) ne) ⟨dx, l1, l2, ts, upd_same, ?_, ?_, ?_⟩
    · rw [upd_ne n1.symm, upd_ne n3, upd_ne n1.symm, upd_same]
    · rw [upd_ne n2.symm, upd_same]
    · exact Paired.mapP hT fun v p ⟨t, e, ht⟩ => ⟨t, e, fr _ _ (g _ _ ht) (fun z => by subst z; rw [hx] at ht; cases ht)⟩
def sp_Near___init__ (K : PySem.W.Frag) (C_Ward C_Near C_Rule : Addr) : Sp := fun vs H Q _ => ∃ (x dx a : Addr) (us : List V) (rows : List (List Int)) (m : Int), vs = [.ref x, .ref a, .int m] ∧ H x = some (.ins C_Near dx []) ∧ H a = some (.lst us) ∧ Rows H us rows ∧ rows.length ≤ 100 ∧ ∀ H', (∀ c o, H c = some o → c ≠ x → H' c = some o) → NearAt C_Near H' x rows m → Q .non H'
theorem sc_Near___init__ : FnScope ["self", "old", "many"] ["self", "old", "many"] (defScope s_Near___init__) := ⟨rfl, rfl, rfl, by decide +kernel, rfl, by decide +kernel, by decide +kernel⟩
theorem ok_Near___init__ {C_Ward : Addr} {C_Near : Addr} {C_Rule : Addr} {f : Addr} {fd : FuncData} (F : Fun K "__init__" "Near.__init__" s_Near___init__ f fd) (T : Txt K mg C_Ward C_Near C_Rule)  : FnOk P w K mg base CX0 1 f fd ["self", "old", "many"] (sp_Near___init__ K C_Ward C_Near C_Rule) := by
  refine F.ok sc_Near___init__ (fun vs H Q E h => ?_) (fun cdv A outer s H vs Q E hr h => ?_)
  · obtain ⟨x, dx, a, us, rows, m, rfl, _⟩ := h
    rfl
  · obtain ⟨x, dx, a, us, rows, m, rfl, hx, hA, hR, hl, q⟩ := h
    refine ⟨_, (pss_cons (ps_fld (pv 0) (pe_callTy (call_tuple_L (K := K) rfl) (by rfl) T.tuple PyProof.Rows.boot_tuple (pa_cons (pe_comp (own := ["row"]) (fnames := []) (fr := []) (N' := ["row"]) ⟨rfl, rfl, rfl, rfl, rfl, rfl, rfl⟩ rfl (pi_list (pv 1)) (fun s0 H0 fp0 C0 => ⟨(pg_name (i := 0) (by show (["row"] : List Str).Nodup; decide +kernel) rfl (Or.inl rfl)), pts_nil, (pe_callTy (call_tuple_L (K := K) rfl) (by rfl) T.tuple PyProof.Rows.boot_tuple (pa_cons (pv 0) pa_nil))⟩)) pa_nil)) rfl)
    (pss_one (ps_fld (pv 0) (pv 2) rfl))), ?_⟩
    have hul := hR.len
    refine seq_of fun U1 u1 => ?_
    walk_at "rd"
    refine ⟨⟨_, SqL.of hA⟩, fun D hD => for_listW (xs := us) (fun i σ H' => TupI H D rows i H' ∧ ∃ v0, σ = [v0]) ⟨TupI.start hD, none, rfl⟩ (fun i σ H' _ hh => SqL.of (hh.1.same _ _ hA)) ?_ ?_⟩
    · rintro i v σ H' hv ⟨ti, v0, rfl⟩
      obtain ⟨row, hrow, t', rfl, ht'⟩ := Rows.at' hR hv
      have hi := (List.getElem?_eq_some_iff.mp hrow).1
      walk_at "rd"
      exact ⟨_, SqL.of (ti.same _ _ ht'), fun l hl => ti.step hD (by omega) hrow hl⟩
    rintro σ H1 ⟨ti, v0, rfl⟩
    obtain ⟨ts, g, e, hT⟩ := ti.ex
    rw [hul, List.take_length] at hT
    refine ⟨_, SqL.of e, fun l hl => ?_⟩
    have gl := same_new hl (.tup ts)
    have hx1 := (g.trans gl) _ _ hx
    have nlx := ne_of_none (g _ _ hx) hl
    refine ⟨_, _, _, hx1, T.cl_Near, T.n_Near_old, by decide, ?_⟩
    rw [u1]; clear u1
    walk_at "rd"
    refine ⟨_, _, _, upd_same, T.cl_Near, T.n_Near_many, Nat.lt_of_le_of_lt (length_putF _ _ _) (by show 1 < 1000; decide), ?_⟩
    rw [upd_upd]
    refine q _ (fun c o ec nc => by rw [upd_ne nc]; exact (g.trans gl) _ _ ec) ⟨dx, l, ts, upd_same, by rw [upd_ne nlx.symm]; exact upd_same, ?_⟩
    exact TRows.tmono (tups_upd fun xs z => by rw [hx1] at z; cases z) (hT.mono gl)
def sp_valued (K : PySem.W.Frag) (C_Ward C_Near C_Rule : Addr) : Sp := fun vs H Q _ => ∃ (o : Addr) (us : List V) (rows : List (List Int)), vs = [.ref o] ∧ H o = some (.tup us) ∧ TRows H us rows ∧ rows.length ≤ 8 ∧ (∀ r ∈ rows, r.length ≤ 31) ∧ ∀ r ws H', Same H H' → H r = none → H' r = some (.lst ws) → Vcs H' ws (vls rows rows.length) → Q (.ref r) H'
theorem sc_valued : FnScope ["old", "told", "hand", "row"] ["old"] (defScope s_valued) := ⟨rfl, rfl, rfl, by decide +kernel, rfl, by decide +kernel, by decide +kernel⟩
theorem ok_valued {C_Ward : Addr} {C_Near : Addr} {C_Rule : Addr} {f : Addr} {fd : FuncData} (F : Fun K "valued" "valued" s_valued f fd) (T : Txt K mg C_Ward C_Near C_Rule)  : FnOk P w K mg base CX0 1 f fd ["old"] (sp_valued K C_Ward C_Near C_Rule) := by
  refine F.ok sc_valued (fun vs H Q E h => ?_) (fun cdv A outer s H vs Q E hr h => ?_)
  · obtain ⟨o, us, rows, rfl, _⟩ := h
    rfl
  · obtain ⟨o, us, rows, rfl, ho, hT, hl, hr1, q⟩ := h
    refine ⟨_, (pss_cons (ps_set (i := 1) sc_valued.nd rfl (Or.inl rfl) (pe_lst pa_nil))
    (pss_cons (ps_for PassesOwn.never rfl (pi_enum_tup rfl T.enumerate (pv 0)) (pg_tup (n := 2) rfl (pgs_cons (pg_name (i := 2) sc_valued.nd rfl (Or.inr rfl)) (pgs_cons (pg_name (i := 3) sc_valued.nd rfl (Or.inl rfl)) pgs_nil)))
      (pss_one (ps_expr (pe_bm PySem.F.plainAttrs_list PySem.F.slot_list_extend PySem.F.type_list_extend mt_extend (pv 1) (pa_cons (pe_comp (own := ["day", "value"]) (fnames := ["hand"]) (fr := [2]) (N' := ["day", "value", "hand"]) ⟨rfl, rfl, rfl, rfl, rfl, rfl, rfl⟩ rfl (pi_enum_tup rfl T.enumerate (pv 3)) (fun s0 H0 fp0 C0 => ⟨(pg_tupK (K := K) (n := 2) rfl rfl (pgs_cons (pg_name (i := 0) (by show (["day", "value", "hand"] : List Str).Nodup; decide +kernel) rfl (Or.inl rfl)) (pgs_cons (pg_name (i := 1) (by show (["day", "value", "hand"] : List Str).Nodup; decide +kernel) rfl (Or.inl rfl)) pgs_nil))), pts_nil, (pe_tup (pa_cons (pe_tup (pa_cons (pv 2) (pa_cons (pv 0) pa_nil))) (pa_cons (pv 1) pa_nil)))⟩)) pa_nil)))))
    (pss_one (ps_ret (pv 1))))), ?_⟩
    have hul := Paired.length hT
    refine seq_of fun U1 u1 => ?_
    walk_at "rd"
    refine ⟨Nat.zero_le _, fun p hp => ?_⟩
    have hp' := hp
    rw [u1]; clear u1
    refine seq_of fun U1 u1 => for_of fun B1 b1 => ?_
    walk_at "rd"
    refine ⟨⟨_, SqT.of ((same_new hp _) _ _ ho)⟩, for_enumW (xs := us) (fun i σ H' => VclI H p (vls rows i) H' ∧ ∃ v2 v3, σ = [some (.ref o), some (.ref p), v2, v3]) ⟨VclI.start hp, none, none, rfl⟩ (fun i σ H' _ hh => SqT.of (hh.1.same _ _ ho)) ?_ ?_⟩
    · rintro i v σ H' tt hx ⟨vi, v2, v3, rfl⟩ htt
      obtain ⟨row, hrow, t', rfl, ht'⟩ := Paired.get' hT hx
      have hi := (List.getElem?_eq_some_iff.mp hrow).1
      have h31 := hr1 row (List.mem_of_getElem? hrow)
      rw [Nat.zero_add]
      have gt := same_new htt (.tup [.int (i : Int), .ref t'])
      have et := upd_same (H := H') (a := tt) (o := .tup [.int (i : Int), .ref t'])
      generalize upd H' tt (.tup [.int (i : Int), .ref t']) = H2 at gt et ⊢
      walk_at "rd"
      refine ⟨_, SqT.of et, rfl, _, _, rfl, _, _, rfl, rfl, ?_⟩
      rw [b1]
      walk_at "rd"
      have vi2 := vi.mono gt
      obtain ⟨ws0, g0, e0, _⟩ := vi2.ex
      have ht2 := g0 _ _ ht'
      have hvl : (vls rows i).length ≤ i * 31 := vls_len hr1 i
      refine ⟨.inl ⟨rfl, _, SqL.of e0⟩, ⟨_, SqT.of ht2⟩, fun D hD => for_enumW (xs := row.map V.int) (fun j σ H3 => VclI H2 D (vlR i row j) H3 ∧ ∃ v0 v1, σ = [v0, v1, some (.int i)]) ⟨VclI.start hD, none, none, rfl⟩ (fun j σ H3 _ hh => SqT.of (hh.1.same _ _ ht2)) ?_ ?_⟩
      · rintro j v σ H3 t3 hv ⟨di, v0, v1, rfl⟩ ht3
        obtain ⟨x, hx3, rfl⟩ := map_item hv
        have hj := (List.getElem?_eq_some_iff.mp hx3).1
        rw [Nat.zero_add]
        have gt3 := same_new ht3 (.tup [.int (j : Int), .int x])
        have et3 := upd_same (H := H3) (a := t3) (o := .tup [.int (j : Int), .int x])
        generalize upd H3 t3 (.tup [.int (j : Int), .int x]) = H4 at gt3 et3 ⊢
        walk_at "rd"
        refine ⟨_, SqT.of et3, rfl, _, _, rfl, _, _, rfl, rfl, ?_⟩
        walk_at "rd"
        refine ⟨by decide, fun u hu => ⟨by decide, fun t4 ht4 => ?_⟩⟩
        rw [vlR_succ, hx3, Option.getD_some]
        exact di.step hD (by rw [vlR_len]; omega) (gt3.trans (same_new hu _)) upd_same ht4
      · rintro σ H3 ⟨di, v0, v1, rfl⟩
        rw [List.length_map] at di
        rw [vls_succ, hrow, Option.getD_some]
        exact vi2.app hp di (by rw [vlR_len]; omega)
    rintro σ H' ⟨vi, v2, v3, rfl⟩
    rw [u1]; clear u1
    walk_at "rd"
    obtain ⟨ws, g, e, hV⟩ := vi.ex
    rw [hul] at hV
    exact q p ws H' g hp e hV
def sp_spread (K : PySem.W.Frag) (C_Ward C_Near C_Rule : Addr) : Sp := fun vs H Q _ => ∃ (a b : Addr) (h n : Int) (ds ps : List Int), vs = [.int h, .ref a, .ref b, .int n] ∧ H a = some (.lst (ds.map V.int)) ∧ H b = some (.lst (ps.map V.int)) ∧ ds.length ≤ 100 ∧ ps.length ≤ 8 ∧
  ∀ t ts H', Same H H' → H' t = some (.tup ts) → Prts H' ts (spr h ds ps n) → Q (.ref t) H'
theorem sc_spread : FnScope ["hand", "days", "posts", "number", "parts", "day"] ["hand", "days", "posts", "number"] (defScope s_spread) := ⟨rfl, rfl, rfl, by decide +kernel, rfl, by decide +kernel, by decide +kernel⟩
theorem ok_spread {C_Ward : Addr} {C_Near : Addr} {C_Rule : Addr} {f : Addr} {fd : FuncData} (F : Fun K "spread" "spread" s_spread f fd) (T : Txt K mg C_Ward C_Near C_Rule)  : FnOk P w K mg base CX0 1 f fd ["hand", "days", "posts", "number"] (sp_spread K C_Ward C_Near C_Rule) := by
  refine F.ok sc_spread (fun vs H Q E h => ?_) (fun cdv A outer s H vs Q E hr h => ?_)
  · obtain ⟨a, b, h, n, ds, ps, rfl, _⟩ := h
    rfl
  · obtain ⟨a, b, h, n, ds, ps, rfl, hA, hB, hd, hp, q⟩ := h
    refine ⟨_, (pss_cons (ps_set (i := 4) sc_spread.nd rfl (Or.inl rfl) (pe_lst pa_nil))
    (pss_cons (ps_for PassesOwn.never rfl (pi_list (pv 1)) (pg_name (i := 5) sc_spread.nd rfl (Or.inr rfl))
      (pss_one (ps_expr (pe_bm PySem.F.plainAttrs_list PySem.F.slot_list_extend PySem.F.type_list_extend mt_extend (pv 4) (pa_cons (pe_comp (own := ["post"]) (fnames := ["hand", "number", "day"]) (fr := [0, 3, 5]) (N' := ["post", "hand", "number", "day"]) ⟨rfl, rfl, rfl, rfl, rfl, rfl, rfl⟩ rfl (pi_list (pv 2)) (fun s0 H0 fp0 C0 => ⟨(pg_name (i := 0) (by show (["post", "hand", "number", "day"] : List Str).Nodup; decide +kernel) rfl (Or.inl rfl)), pts_nil, (pe_tup (pa_cons (pv 1) (pa_cons (pv 3) (pa_cons (pv 0) (pa_cons (pv 2) pa_nil)))))⟩)) pa_nil)))))
    (pss_one (ps_ret (pe_callTy (call_tuple_L (K := K) rfl) (by rfl) T.tuple PyProof.Rows.boot_tuple (pa_cons (pv 4) pa_nil)))))), ?_⟩
    refine seq_of fun U1 u1 => ?_
    walk_at "rd"
    refine ⟨Nat.zero_le _, fun p hp0 => ?_⟩
    have g0 := same_new hp0 (.lst [])
    rw [u1]; clear u1
    refine seq_of fun U1 u1 => for_of fun B1 b1 => ?_
    walk_at "rd"
    refine ⟨⟨_, SqL.of (g0 _ _ hA)⟩, for_listW (xs := ds.map V.int) (fun i σ H' => ∃ (ts : List V) (v : Option V), Same H H' ∧ H' p = some (.lst ts) ∧ Prts H' ts (spr h (ds.take i) ps n) ∧ σ = [some (.int h), some (.ref a), some (.ref b), some (.int n), some (.ref p), v]) ⟨[], none, g0, upd_same, .nil, rfl⟩ (fun i σ H' _ ⟨_, _, g, _⟩ => SqL.of (g _ _ hA)) ?_ ?_⟩
    · rintro i x σ H' hx ⟨ts, v, g, e, hP, rfl⟩
      rw [List.getElem?_map] at hx
      obtain ⟨d, hd', rfl⟩ := Option.map_eq_some_iff.mp hx
      have hi : i < ds.length := (List.getElem?_eq_some_iff.mp hd').1
      have htl := Paired.length hP
      rw [spr_len, List.length_take] at htl
      have hb1 : min i ds.length * ps.length ≤ 100 * 8 := Nat.mul_le_mul (by omega) hp
      rw [b1]
      walk_at "rd"
      refine ⟨.inl ⟨rfl, _, SqL.of e⟩, ⟨_, SqL.of (g _ _ hB)⟩, fun D hD => for_listW (xs := ps.map V.int) (fun j σ H2 => ∃ (us : List V) (v2 : Option V), Same H' H2 ∧ H2 D = some (.lst us) ∧ Prts H2 us ((ps.take j).map fun q => ⟨h, d, q, n⟩) ∧ σ = [v2, some (.int h), some (.int n), some (.int d)]) ⟨[], none, same_new hD _, upd_same, .nil, rfl⟩ (fun j σ H2 _ ⟨_, _, g2, _⟩ => SqL.of (g2 _ _ (g _ _ hB))) ?_ ?_⟩
      · rintro j y σ H2 hy ⟨us, v2, g2, e2, hU, rfl⟩
        rw [List.getElem?_map] at hy
        obtain ⟨z, hz, rfl⟩ := Option.map_eq_some_iff.mp hy
        have hul := Paired.length hU
        rw [List.length_map, List.length_take] at hul
        walk_at "rd"
        refine ⟨by decide, fun t ht => ?_⟩
        have g3 := same_new ht (.tup [.int h, .int d, .int z, .int n])
        refine ⟨us, g3 _ _ e2, small1000 (by omega), same_upd hD (g2.trans g3) _, us ++ [.ref t], upd_same, ?_⟩
        rw [take_one hz, List.map_append]
        exact Prts.mono (tups_lst (g3 _ _ e2)) (paired_snoc (hU.mono (tups_same g3)) ⟨t, rfl, upd_same⟩)
      · rintro σ H2 ⟨us, v2, g2, e2, hU, rfl⟩
        rw [List.take_of_length_le (by rw [List.length_map]; exact Nat.le_refl _)] at hU
        have hul := Paired.length hU
        rw [List.length_map] at hul
        have e' := g2 _ _ e
        walk_at "rd"
        refine ⟨ts, e', us, e2, small1000' (by omega), same_upd hp0 (g.trans g2) _, ts ++ us, upd_same, ?_⟩
        rw [take_one hd', spr_snoc]
        exact Prts.mono (tups_lst e') (paired_app (hP.mono (tups_same g2)) hU)
    · rintro σ H' ⟨ts, v, g, e, hP, rfl⟩
      rw [u1]; clear u1
      walk_at "rd"
      refine ⟨_, SqL.of e, fun l hl => ?_⟩
      rw [List.length_map, List.take_length] at hP
      exact q l ts _ (g.trans (same_new hl _)) upd_same (hP.mono (tups_same (same_new hl _)))
def sp_all_posts (K : PySem.W.Frag) (C_Ward C_Near C_Rule : Addr) : Sp := fun vs H Q _ => ∃ (x : Addr) (d : Int) (hs : List Int) (ps : List Pst), vs = [.ref x] ∧ WardAt C_Ward H x d hs ps ∧ ps.length ≤ 6 ∧ ∀ r H', New H H' r ((allP ps).map V.int) → Q (.ref r) H'
theorem sc_all_posts : FnScope ["ward"] ["ward"] (defScope s_all_posts) := ⟨rfl, rfl, rfl, by decide +kernel, rfl, by decide +kernel, by decide +kernel⟩
theorem ok_all_posts {C_Ward : Addr} {C_Near : Addr} {C_Rule : Addr} {f : Addr} {fd : FuncData} (F : Fun K "all_posts" "all_posts" s_all_posts f fd) (T : Txt K mg C_Ward C_Near C_Rule)  : FnOk P w K mg base CX0 1 f fd ["ward"] (sp_all_posts K C_Ward C_Near C_Rule) := by
  refine F.ok sc_all_posts (fun vs H Q E h => ?_) (fun cdv A outer s H vs Q E hr h => ?_)
  · obtain ⟨x, d, hs, ps, rfl, _⟩ := h
    rfl
  · obtain ⟨x, d, hs, ps, rfl, hW, hl, q⟩ := h
    refine ⟨_, (pss_one (ps_ret (pe_callTy (call_list_rng2 rfl) (by rfl) T.list PyProof.Rows.boot_list (pa_cons (pe_callTy call_range_obj2 (by rfl) T.range PyProof.Rows.boot_range (pa_cons pe_int (pa_cons (pe_op op_add (pe_callB (call_lenK (K := K) rfl) (by rfl) T.len PySem.boot_len (pa_cons (pe_fld (pv 0) rfl) pa_nil)) pe_int) pa_nil))) pa_nil)))), ?_⟩
    obtain ⟨dx, ha, pa, ts, h1, h2, h3, h4⟩ := hW.ex
    have hlen := h4.len
    walk_at "rd"
    refine ⟨_, _, _, h1, T.cl_Ward, T.n_Ward_posts, _, wf_posts _ _ _, _, rfl, _, .inr (SqT.of h3), fun p hp => ?_⟩
    refine ⟨_, _, upd_same, by decide, by decide, by omega, by omega, fun l hl => ?_⟩
    have e : ((ts.length : Int) + 1 - 1).toNat = ps.length := by omega
    rw [e]
    exact q l _ ⟨(same_new hp _).trans (same_new hl _), (same_new hp _).free hl, upd_same⟩
def sp_Near_lines (K : PySem.W.Frag) (C_Ward C_Near C_Rule : Addr) : Sp := fun vs H Q _ => ∃ (x y : Addr) (d m : Int) (hs : List Int) (ps : List Pst) (rows : List (List Int)), vs = [.ref x, .ref y] ∧ NearAt C_Near H x rows m ∧ WardAt C_Ward H y d hs ps ∧ rows.length ≤ 8 ∧ (∀ r ∈ rows, r.length ≤ 6) ∧ ps.length ≤ 3 ∧ ∀ r us H', Same H H' → H r = none → H' r = some (.lst us) → Lins H' us [⟨nearP ps.length (vls rows rows.length), (wrk (vls rows rows.length) : Int) - m⟩] → Q (.ref r) H'
theorem sc_Near_lines : FnScope ["self", "ward", "parts", "working", "cell", "value"] ["self", "ward"] (defScope s_Near_lines) := ⟨rfl, rfl, rfl, by decide +kernel, rfl, by decide +kernel, by decide +kernel⟩
theorem ok_Near_lines {C_Ward : Addr} {C_Near : Addr} {C_Rule : Addr} {f : Addr} {fd : FuncData} (F : Fun K "lines" "Near.lines" s_Near_lines f fd) (T : Txt K mg C_Ward C_Near C_Rule) (C_valued : Cal P w K mg base "valued" ["old"] 1 (sp_valued K C_Ward C_Near C_Rule)) (C_spread : Cal P w K mg base "spread" ["hand", "days", "posts", "number"] 1 (sp_spread K C_Ward C_Near C_Rule)) (C_all_posts : Cal P w K mg base "all_posts" ["ward"] 1 (sp_all_posts K C_Ward C_Near C_Rule)) : FnOk P w K mg base CX0 2 f fd ["self", "ward"] (sp_Near_lines K C_Ward C_Near C_Rule) := by
  refine F.ok sc_Near_lines (fun vs H Q E h => ?_) (fun cdv A outer s H vs Q E hr h => ?_)
  · obtain ⟨x, y, d, m, hs, ps, rows, rfl, _⟩ := h
    rfl
  · obtain ⟨x, y, d, m, hs, ps, rows, rfl, hN, hW, hl, hr1, p3, q⟩ := h
    refine ⟨_, (pss_cons (ps_set (i := 2) sc_Near_lines.nd rfl (Or.inl rfl) (pe_lst pa_nil))
    (pss_cons (ps_set (i := 3) sc_Near_lines.nd rfl (Or.inl rfl) pe_int)
    (pss_cons (ps_for PassesOwn.never rfl (pi_list (pe_cal C_valued (hr.mono (by decide)) rfl (pa_cons (pe_fld (pv 0) rfl) pa_nil))) (pg_tup (n := 2) rfl (pgs_cons (pg_name (i := 4) sc_Near_lines.nd rfl (Or.inl rfl)) (pgs_cons (pg_name (i := 5) sc_Near_lines.nd rfl (Or.inl rfl)) pgs_nil)))
      (pss_one (ps_if (pt_cmpR op_eq (pv 5) pe_int (nomark _)) (pss_one (ps_expr (pe_bm PySem.F.plainAttrs_list PySem.F.slot_list_extend PySem.F.type_list_extend mt_extendT (pv 2) (pa_cons (pe_cal C_spread (hr.mono (by decide)) rfl (pa_cons (pe_ix ix_tup (pv 4) pe_int (fun _ _ => rfl)) (pa_cons (pe_lst (pa_cons (pe_ix ix_tup (pv 4) pe_int (fun _ _ => rfl)) pa_nil)) (pa_cons (pe_cal C_all_posts (hr.mono (by decide)) rfl (pa_cons (pv 1) pa_nil)) (pa_cons (pe_un un_neg pe_int) pa_nil))))) pa_nil)))) (pss_cons (ps_expr (pe_bm PySem.F.plainAttrs_list PySem.F.slot_list_append PySem.F.type_list_append mt_append (pv 2) (pa_cons (pe_tup (pa_cons (pe_ix ix_tup (pv 4) pe_int (fun _ _ => rfl)) (pa_cons (pe_ix ix_tup (pv 4) pe_int (fun _ _ => rfl)) (pa_cons (pv 5) (pa_cons pe_int pa_nil))))) pa_nil)))
          (pss_one (ps_set (i := 3) sc_Near_lines.nd rfl (Or.inl rfl) (pe_op op_add (pv 3) pe_int)))))))
    (pss_one (ps_ret (pe_lst (pa_cons (pe_tup (pa_cons (pe_callTy (call_tuple_L (K := K) rfl) (by rfl) T.tuple PyProof.Rows.boot_tuple (pa_cons (pv 2) pa_nil)) (pa_cons (pe_op op_sub (pv 3) (pe_fld (pv 0) rfl)) pa_nil))) pa_nil))))))), ?_⟩
    obtain ⟨dx, o, vs, e1, e2, hT⟩ := hN.ex
    refine seq_of fun U1 u1 => ?_
    walk_at "rd"
    refine ⟨Nat.zero_le _, fun p hp => ?_⟩
    have g0 := same_new hp (.lst [])
    rw [u1]; clear u1
    refine seq_of fun U1 u1 => ?_
    walk_at "rd"
    rw [u1]; clear u1
    refine seq_of fun U1 u1 => for_of fun B1 b1 => ?_
    walk_at "rd"
    refine ⟨_, _, _, g0 _ _ e1, T.cl_Near, T.n_Near_old, _, nf_old _ _, o, vs, rows, rfl, g0 _ _ e2, hT.mono g0, hl, (fun r hr => by have := hr1 r hr; omega), fun r ws H1 g1 hr er hV => ?_⟩
    have hwl := Paired.length hV
    have gH1 := g0.trans g1
    have hcl : (vls rows rows.length).length ≤ rows.length * 6 := vls_len hr1 _
    have ep1 := g1 _ _ (upd_same (H := H) (a := p) (o := .lst []))
    have np : ∀ {c : Addr} {o : HO}, H1 c = some o → (∀ xs, o ≠ .lst xs) → c ≠ p := fun {c o} e n z => by rw [z, ep1] at e; cases e; exact n _ rfl
    have nrp : r ≠ p := fun z => by rw [z, upd_same] at hr; cases hr
    have npH : ∀ {c : Addr} {o : HO}, H c = some o → c ≠ p := fun e => ne_of_none e hp
    generalize vls rows rows.length = cs at hV hwl hcl q
    refine ⟨_, rfl, ⟨_, SqL.of er⟩, for_listW (xs := ws) (fun i σ H' => PrtI H1 p (nearP ps.length (cs.take i)) H' ∧ ∃ v4 v5, σ = [some (.ref x), some (.ref y), some (.ref p), some (.int (wrk (cs.take i) : Nat)), v4, v5]) ⟨⟨⟨[], ep1, .nil⟩, fun c o e _ => e⟩, none, none, rfl⟩ (fun i σ H' _ hh => SqL.of (hh.1.fr _ _ er nrp)) ?_ ?_⟩
    · rintro i v σ H' hx ⟨pI, v4, v5, rfl⟩
      obtain ⟨c, hc, t, u, rfl, qt, qu⟩ := Paired.get' hV hx
      have hi := (List.getElem?_eq_some_iff.mp hc).1
      have qt' := pI.fr _ _ qt (np qt (fun _ z => by cases z))
      have qu' := pI.fr _ _ qu (np qu (fun _ z => by cases z))
      have hnl : (nearP ps.length (cs.take i)).length ≤ (cs.take i).length * (ps.length + 1) := near_len _ _
      rw [List.length_take] at hnl
      have hn2 : min i cs.length * (ps.length + 1) ≤ 48 * 4 := Nat.mul_le_mul (by omega) (by omega)
      rw [take_one hc, near_snoc]
      have hw1 := wrk_snoc (cs.take i) c
      walk_at "rd"
      refine ⟨_, SqT.of qt', rfl, _, _, rfl, _, _, rfl, rfl, ?_⟩
      rw [b1]
      walk_at "rd"
      have gHH : Same H H' := fun c o e => pI.fr _ _ (gH1 _ _ e) (npH e)
      obtain ⟨tsP, eP, _⟩ := pI.ex
      split
      · rename_i z0
        refine ⟨.inl ⟨rfl, _, SqL.of eP⟩, _, SqT.of qu', _, rfl, _, SqT.of qu', _, rfl, by decide, fun pd hpd => ?_⟩
        have gd := same_new hpd (.lst [.int c.2.1])
        refine ⟨y, d, hs, ps, rfl, hW.mono (gHH.trans gd), by omega, fun ra Ha na => ?_⟩
        obtain ⟨ga, fa, ea⟩ := na
        have hal : (allP ps).length = ps.length := by unfold allP upto; rw [List.length_map, List.length_range]
        refine ⟨pd, ra, c.1, -1, [c.2.1], allP ps, rfl, ga _ _ upd_same, ea, by simp, by omega, fun tt tts Hb gb ett hPt => ?_⟩
        obtain ⟨xs, ex, hz, pI4⟩ := (((pI.mono gd).mono ga).mono gb).app hPt (by rw [spr_one, List.length_map]; omega)
        refine ⟨_, rfl, xs, ex, tts, SqT.of ett, hz, ?_, ?_⟩
        · unfold near1
          rw [if_pos z0]
          exact pI4
        · rw [hw1, if_pos z0, Int.add_zero]
      · rename_i z0
        refine ⟨.inl ⟨rfl, _, SqL.of eP⟩, _, SqT.of qu', _, rfl, _, SqT.of qu', _, rfl, by decide, fun pt hpt => ?_⟩
        have gd := same_new hpt (.tup [.int c.1, .int c.2.1, .int c.2.2, .int 1])
        obtain ⟨xs, ex, hz, pI4⟩ := (pI.mono gd).app (rs := [⟨c.1, c.2.1, c.2.2, 1⟩]) (zs := [.ref pt]) (.cons ⟨pt, rfl, upd_same⟩ .nil) (by simp; omega)
        refine ⟨xs, ex, by rw [List.length_singleton] at hz; omega, ?_, ?_⟩
        · unfold near1
          rw [if_neg z0]
          exact pI4
        · rw [hw1, if_neg z0]
    rintro σ H2 ⟨pI, v4, v5, rfl⟩
    rw [hwl, List.take_length] at pI
    rw [u1]; clear u1
    walk_at "rd"
    rw [hwl, List.take_length]
    have gHH : Same H H2 := fun c o e => pI.fr _ _ (gH1 _ _ e) (npH e)
    obtain ⟨ts, e, hP⟩ := pI.ex
    refine ⟨_, SqL.of e, fun l hl => ?_⟩
    have gl := same_new hl (.tup ts)
    refine ⟨_, _, _, (gHH.trans gl) _ _ e1, T.cl_Near, T.n_Near_many, _, nf_many _ _, _, rfl, by decide, fun u hu => ⟨by decide, fun r' hr' => ?_⟩⟩
    have g3 := same_new hu (.tup [.ref l, .int ((wrk cs : Int) - m)])
    have g4 := same_new hr' (.lst [.ref u])
    exact q r' _ _ (gHH.trans (gl.trans (g3.trans g4))) ((gHH.trans (gl.trans g3)).free hr') upd_same (.cons ⟨u, l, ts, rfl, g4 _ _ upd_same, (g3.trans g4) _ _ upd_same, hP.mono (tups_same (gl.trans (g3.trans g4)))⟩ .nil)
def sp_Near_price (K : PySem.W.Frag) (C_Ward C_Near C_Rule : Addr) : Sp := fun vs H Q _ => ∃ (x y : Addr) (d m : Int) (hs : List Int) (ps : List Pst) (rows : List (List Int)), vs = [.ref x, .ref y] ∧ NearAt C_Near H x rows m ∧ WardAt C_Ward H y d hs ps ∧ rows.length ≤ 8 ∧ (∀ r ∈ rows, r.length ≤ 6) ∧ ps.length ≤ 3 ∧ ∀ t dd kvs H', Same H H' → H dd = none → H' t = some (.tup [.ref dd, .int m]) → H' dd = some (.dT kvs) → Pri (cst ps.length (vls rows rows.length)) kvs → Q (.ref t) H'
theorem sc_Near_price : FnScope ["self", "ward", "costs", "cell", "value", "other"] ["self", "ward"] (defScope s_Near_price) := ⟨rfl, rfl, rfl, by decide +kernel, rfl, by decide +kernel, by decide +kernel⟩
theorem ok_Near_price {C_Ward : Addr} {C_Near : Addr} {C_Rule : Addr} {f : Addr} {fd : FuncData} (F : Fun K "price" "Near.price" s_Near_price f fd) (T : Txt K mg C_Ward C_Near C_Rule) (C_valued : Cal P w K mg base "valued" ["old"] 1 (sp_valued K C_Ward C_Near C_Rule)) : FnOk P w K mg base CX0 2 f fd ["self", "ward"] (sp_Near_price K C_Ward C_Near C_Rule) := by
  refine F.ok sc_Near_price (fun vs H Q E h => ?_) (fun cdv A outer s H vs Q E hr h => ?_)
  · obtain ⟨x, y, d, m, hs, ps, rows, rfl, _⟩ := h
    rfl
  · obtain ⟨x, y, d, m, hs, ps, rows, rfl, hN, hW, hl, hr1, p3, q⟩ := h
    refine ⟨_, (pss_cons (ps_set (i := 2) sc_Near_price.nd rfl (Or.inl rfl) pe_dnewT)
    (pss_cons (ps_for PassesOwn.never rfl (pi_list (pe_cal C_valued (hr.mono (by decide)) rfl (pa_cons (pe_fld (pv 0) rfl) pa_nil))) (pg_tup (n := 2) rfl (pgs_cons (pg_name (i := 3) sc_Near_price.nd rfl (Or.inl rfl)) (pgs_cons (pg_name (i := 4) sc_Near_price.nd rfl (Or.inl rfl)) pgs_nil)))
      (pss_one (ps_for PassesOwn.never rfl (pi_range1 rfl T.range (pa_cons (pe_op op_add (pe_callB (call_lenK (K := K) rfl) (by rfl) T.len PySem.boot_len (pa_cons (pe_fld (pv 1) rfl) pa_nil)) pe_int) pa_nil)) (pg_name (i := 5) sc_Near_price.nd rfl (Or.inl rfl))
          (pss_one (ps_if (pt_cmpR op_ne (pv 5) (pv 4) (nomark _)) (pss_one (ps_dput (hu_of hr) (pv 2) (pe_tup (pa_cons (pe_ix ix_tup (pv 3) pe_int (fun _ _ => rfl)) (pa_cons (pe_ix ix_tup (pv 3) pe_int (fun _ _ => rfl)) (pa_cons (pv 5) pa_nil)))) pe_int rfl)) pss_nil)))))
    (pss_one (ps_ret (pe_tup (pa_cons (pv 2) (pa_cons (pe_fld (pv 0) rfl) pa_nil))))))), ?_⟩
    obtain ⟨dx, o, vs, e1, e2, hT⟩ := hN.ex
    refine seq_of fun U1 u1 => ?_
    walk_at "rd"
    intro p hp
    have g0 := same_new hp (.dT [])
    rw [u1]; clear u1
    refine seq_of fun U1 u1 => for_of fun B1 b1 => ?_
    walk_at "rd"
    refine ⟨_, _, _, g0 _ _ e1, T.cl_Near, T.n_Near_old, _, nf_old _ _, o, vs, rows, rfl, g0 _ _ e2, hT.mono g0, hl, (fun r hr => by have := hr1 r hr; omega), fun r ws H1 g1 hr er hV => ?_⟩
    have hwl := Paired.length hV
    have gH1 := g0.trans g1
    have hcl : (vls rows rows.length).length ≤ rows.length * 6 := vls_len hr1 _
    have ep1 := g1 _ _ (upd_same (H := H) (a := p) (o := .dT []))
    have np : ∀ {c : Addr} {o : HO}, H1 c = some o → (∀ xs, o ≠ .dT xs) → c ≠ p := fun {c o} e n z => by rw [z, ep1] at e; cases e; exact n _ rfl
    have nrp : r ≠ p := fun z => by rw [z, upd_same] at hr; cases hr
    have npH : ∀ {c : Addr} {o : HO}, H c = some o → c ≠ p := fun e => ne_of_none e hp
    obtain ⟨dw, ha, pa, ts, w1, w2, w3, w4⟩ := hW.ex
    have hpl := w4.len
    generalize vls rows rows.length = cs at hV hwl hcl q
    refine ⟨_, rfl, ⟨_, SqL.of er⟩, for_listW (xs := ws) (fun i σ H' => PriI H1 p (cst ps.length (cs.take i)) (i * (ps.length + 1)) H' ∧ ∃ v3 v4 v5, σ = [some (.ref x), some (.ref y), some (.ref p), v3, v4, v5]) ⟨⟨⟨[], ep1, Pri.nil.imp (fun a b c => ⟨fun z => z.elim, fun ⟨c, hc, _⟩ => by simp at hc⟩), by simp⟩, fun c o e _ => e⟩, none, none, none, rfl⟩ (fun i σ H' _ hh => SqL.of (hh.1.fr _ _ er nrp)) ?_ ?_⟩
    · rintro i v σ H' hx ⟨pI, v3, v4, v5, rfl⟩
      obtain ⟨c, hc, t, u, rfl, qt, qu⟩ := Paired.get' hV hx
      have hi := (List.getElem?_eq_some_iff.mp hc).1
      have qt' := pI.fr _ _ qt (np qt (fun _ z => by cases z))
      rw [take_one hc]
      walk_at "rd"
      refine ⟨_, SqT.of qt', rfl, _, _, rfl, _, _, rfl, rfl, ?_⟩
      rw [b1]
      refine for_of fun B2 b2 => ?_
      walk_at "rd"
      have gHH : Same H H' := fun c o e => pI.fr _ _ (gH1 _ _ e) (npH e)
      have hiP : i * (ps.length + 1) ≤ 48 * 4 := Nat.mul_le_mul (by omega) (by omega)
      refine ⟨_, _, _, gHH _ _ w1, T.cl_Ward, T.n_Ward_posts, _, wf_posts _ _ _, _, rfl, _, .inr (SqT.of (gHH _ _ w3)), by omega, by omega, for_rangeW (fun j σ H3 => PriI H1 p (fun h d o => cst ps.length (cs.take i) h d o ∨ (h = c.1 ∧ d = c.2.1 ∧ o ≠ c.2.2 ∧ 0 ≤ o ∧ o < (j : Int))) (i * (ps.length + 1) + j) H3 ∧ ∃ v5, σ = [some (.ref x), some (.ref y), some (.ref p), some (.ref u), some (.int c.2.2), v5]) ⟨pI.imp (fun a b o => ⟨.inl, fun z => z.elim id fun w => by omega⟩) (by omega), v5, rfl⟩ ?_ ?_⟩
      · rintro j σ H3 hj ⟨pJ, v5, rfl⟩
        rw [show (0 + (j : Int)) = j by omega]
        have qu' := pJ.fr _ _ qu (np qu (fun _ z => by cases z))
        obtain ⟨kvs, eK, _⟩ := pJ.ex
        rw [b2]
        walk_at "rd"
        have hj' : j < ps.length + 1 := by omega
        split
        · rename_i z0
          refine ⟨_, SqT.of qu', _, rfl, _, SqT.of qu', _, rfl, by decide, fun t3 ht3 => ?_⟩
          obtain ⟨H4, hd4, pK⟩ := (pJ.mono (same_new ht3 _)).put (by omega) upd_same
          refine ⟨H4, hd4, pK.imp (fun a b o => ?_) (by omega)⟩
          constructor
          · rintro ((z | ⟨z1, z2, z3, z4, z5⟩) | ⟨z1, z2, z3⟩)
            · exact .inl z
            · exact .inr ⟨z1, z2, z3, z4, by omega⟩
            · exact .inr ⟨z1, z2, by rw [z3]; exact z0, by omega, by omega⟩
          · rintro (z | ⟨z1, z2, z3, z4, z5⟩)
            · exact .inl (.inl z)
            · by_cases y : o = (j : Int)
              · exact .inr ⟨z1, z2, y⟩
              · exact .inl (.inr ⟨z1, z2, z3, z4, by omega⟩)
        · rename_i z0
          refine pJ.imp (fun a b o => ?_) (by omega)
          constructor
          · rintro (z | ⟨z1, z2, z3, z4, z5⟩)
            · exact .inl z
            · exact .inr ⟨z1, z2, z3, z4, by omega⟩
          · rintro (z | ⟨z1, z2, z3, z4, z5⟩)
            · exact .inl z
            · exact .inr ⟨z1, z2, z3, z4, by omega⟩
      · rintro σ H3 ⟨pJ, v5, rfl⟩
        refine ⟨pJ.imp (fun a b o => ?_) ?_, _, _, _, rfl⟩
        · rw [cst_snoc, show ((ts.length : Int) + 1).toNat = ps.length + 1 by omega]
        · rw [Nat.succ_mul, show ((ts.length : Int) + 1).toNat = ps.length + 1 by omega]
          exact Nat.le_refl _
    rintro σ H2 ⟨pI, v3, v4, v5, rfl⟩
    rw [hwl, List.take_length] at pI
    rw [u1]; clear u1
    walk_at "rd"
    have gHH : Same H H2 := fun c o e => pI.fr _ _ (gH1 _ _ e) (npH e)
    obtain ⟨kvs, e, hP, _⟩ := pI.ex
    refine ⟨_, _, _, gHH _ _ e1, T.cl_Near, T.n_Near_many, _, nf_many _ _, by decide, fun t ht => ?_⟩
    have gt := same_new ht (.tup [.ref p, .int m])
    exact q t p kvs _ (gHH.trans gt) hp upd_same (gt _ _ e) hP
def sp_Rule_plain (K : PySem.W.Frag) (C_Ward C_Near C_Rule : Addr) : Sp := fun vs H Q _ => ∃ x y, vs = [x, y] ∧ Q .non H
theorem sc_Rule_plain : FnScope ["self", "ward"] ["self", "ward"] (defScope s_Rule_plain) := ⟨rfl, rfl, rfl, by decide +kernel, rfl, by decide +kernel, by decide +kernel⟩
theorem ok_Rule_plain {C_Ward : Addr} {C_Near : Addr} {C_Rule : Addr} {f : Addr} {fd : FuncData} (F : Fun K "plain" "Rule.plain" s_Rule_plain f fd) (T : Txt K mg C_Ward C_Near C_Rule)  : FnOk P w K mg base CX0 1 f fd ["self", "ward"] (sp_Rule_plain K C_Ward C_Near C_Rule) := by
  refine F.ok sc_Rule_plain (fun vs H Q E h => ?_) (fun cdv A outer s H vs Q E hr h => ?_)
  · obtain ⟨x, y, rfl, _⟩ := h
    rfl
  · obtain ⟨x, y, rfl, q⟩ := h
    refine ⟨_, (pss_one (ps_ret pe_non)), ?_⟩
    walk_at "rd"
    exact q
def sp_Rule_told (K : PySem.W.Frag) (C_Ward C_Near C_Rule : Addr) : Sp := fun vs H Q _ => ∃ x, vs = [x] ∧ Q (.str "") H
theorem sc_Rule_told : FnScope ["self"] ["self"] (defScope s_Rule_told) := ⟨rfl, rfl, rfl, by decide +kernel, rfl, by decide +kernel, by decide +kernel⟩
theorem ok_Rule_told {C_Ward : Addr} {C_Near : Addr} {C_Rule : Addr} {f : Addr} {fd : FuncData} (F : Fun K "told" "Rule.told" s_Rule_told f fd) (T : Txt K mg C_Ward C_Near C_Rule)  : FnOk P w K mg base CX0 1 f fd ["self"] (sp_Rule_told K C_Ward C_Near C_Rule) := by
  refine F.ok sc_Rule_told (fun vs H Q E h => ?_) (fun cdv A outer s H vs Q E hr h => ?_)
  · obtain ⟨x, rfl, _⟩ := h
    rfl
  · obtain ⟨x, rfl, q⟩ := h
    refine ⟨_, (pss_one (ps_ret pe_str)), ?_⟩
    walk_at "rd"
    exact q
def sp_has_post (K : PySem.W.Frag) (C_Ward C_Near C_Rule : Addr) : Sp := fun vs H Q _ => ∃ (x : Addr) (d : Int) (hs : List Int) (ps : List Pst) (y : Int), vs = [.ref x, .int y] ∧ WardAt C_Ward H x d hs ps ∧ Q (.bl (decide (1 ≤ y) && decide (y ≤ (ps.length : Int)))) H
theorem sc_has_post : FnScope ["ward", "post"] ["ward", "post"] (defScope s_has_post) := ⟨rfl, rfl, rfl, by decide +kernel, rfl, by decide +kernel, by decide +kernel⟩
theorem ok_has_post {C_Ward : Addr} {C_Near : Addr} {C_Rule : Addr} {f : Addr} {fd : FuncData} (F : Fun K "has_post" "has_post" s_has_post f fd) (T : Txt K mg C_Ward C_Near C_Rule)  : FnOk P w K mg base CX0 1 f fd ["ward", "post"] (sp_has_post K C_Ward C_Near C_Rule) := by
  refine F.ok sc_has_post (fun vs H Q E h => ?_) (fun cdv A outer s H vs Q E hr h => ?_)
  · obtain ⟨x, d, hs, ps, y, rfl, _⟩ := h
    rfl
  · obtain ⟨x, d, hs, ps, y, rfl, hW, q⟩ := h
    refine ⟨_, (pss_one (ps_ret (pe_chain op_le op_le pe_int (pv 1) (pe_callB (call_lenK (K := K) rfl) (by rfl) T.len PySem.boot_len (pa_cons (pe_fld (pv 0) rfl) pa_nil))))), ?_⟩
    obtain ⟨dx, ha, pa, ts, h1, h2, h3, h4⟩ := hW.ex
    have hl := h4.len
    walk_at "rd"
    by_cases e : 1 ≤ y
    · rw [if_pos e]
      rw [decide_eq_true e, Bool.true_and, ← hl] at q
      exact ⟨_, _, _, h1, T.cl_Ward, T.n_Ward_posts, _, wf_posts _ _ _, _, rfl, _, .inr (SqT.of h3), q⟩
    · rw [if_neg e]
      rw [decide_eq_false e, Bool.false_and] at q
      exact q
def sp_is_value (K : PySem.W.Frag) (C_Ward C_Near C_Rule : Addr) : Sp := fun vs H Q _ => ∃ (x : Addr) (d : Int) (hs : List Int) (ps : List Pst) (y : Int), vs = [.ref x, .int y] ∧ WardAt C_Ward H x d hs ps ∧ Q (.bl (isV ps y)) H
theorem sc_is_value : FnScope ["ward", "value"] ["ward", "value"] (defScope s_is_value) := ⟨rfl, rfl, rfl, by decide +kernel, rfl, by decide +kernel, by decide +kernel⟩
theorem ok_is_value {C_Ward : Addr} {C_Near : Addr} {C_Rule : Addr} {f : Addr} {fd : FuncData} (F : Fun K "is_value" "is_value" s_is_value f fd) (T : Txt K mg C_Ward C_Near C_Rule) (C_has_post : Cal P w K mg base "has_post" ["ward", "post"] 1 (sp_has_post K C_Ward C_Near C_Rule)) : FnOk P w K mg base CX0 2 f fd ["ward", "value"] (sp_is_value K C_Ward C_Near C_Rule) := by
  refine F.ok sc_is_value (fun vs H Q E h => ?_) (fun cdv A outer s H vs Q E hr h => ?_)
  · obtain ⟨x, d, hs, ps, y, rfl, _⟩ := h
    rfl
  · obtain ⟨x, d, hs, ps, y, rfl, hW, q⟩ := h
    refine ⟨_, (pss_one (ps_ret (pe_or (pe_cmpR op_eq (pv 1) pe_int (nomark _)) (pe_one (pe_cal C_has_post (hr.mono (by decide)) rfl (pa_cons (pv 0) (pa_cons (pv 1) pa_nil))))))), ?_⟩
    walk_at "rd"
    unfold isV at q
    by_cases e : y = 0
    · rw [if_pos e]
      rw [decide_eq_true e, Bool.true_or] at q
      exact q
    · rw [if_neg e]
      rw [decide_eq_false e, Bool.false_or] at q
      exact ⟨x, d, hs, ps, y, rfl, hW, q⟩
def sp_is_old (K : PySem.W.Frag) (C_Ward C_Near C_Rule : Addr) : Sp := fun vs H Q _ => ∃ (x o : Addr) (d : Int) (hs : List Int) (ps : List Pst) (us : List V) (rows : List (List Int)), vs = [.ref x, .ref o] ∧ WardAt C_Ward H x d hs ps ∧ H o = some (.tup us) ∧ TRows H us rows ∧ rows.length ≤ 100 ∧ (∀ r ∈ rows, r.length ≤ 100) ∧ ∀ H', Same H H' → Q (.bl (okO d hs ps rows)) H'
theorem sc_is_old : FnScope ["ward", "old"] ["ward", "old"] (defScope s_is_old) := ⟨rfl, rfl, rfl, by decide +kernel, rfl, by decide +kernel, by decide +kernel⟩
theorem ok_is_old {C_Ward : Addr} {C_Near : Addr} {C_Rule : Addr} {f : Addr} {fd : FuncData} (F : Fun K "is_old" "is_old" s_is_old f fd) (T : Txt K mg C_Ward C_Near C_Rule) (C_is_value : Cal P w K mg base "is_value" ["ward", "value"] 2 (sp_is_value K C_Ward C_Near C_Rule)) : FnOk P w K mg base CX0 3 f fd ["ward", "old"] (sp_is_old K C_Ward C_Near C_Rule) := by
  refine F.ok sc_is_old (fun vs H Q E h => ?_) (fun cdv A outer s H vs Q E hr h => ?_)
  · obtain ⟨x, o, d, hs, ps, us, rows, rfl, _⟩ := h
    rfl
  · obtain ⟨x, o, d, hs, ps, us, rows, rfl, hW, ho, hT, hl, hr1, q⟩ := h
    refine ⟨_, (pss_cons (ps_if (pt_cmpR op_ne (pe_callB (call_lenK (K := K) rfl) (by rfl) T.len PySem.boot_len (pa_cons (pv 1) pa_nil)) (pe_callB (call_lenK (K := K) rfl) (by rfl) T.len PySem.boot_len (pa_cons (pe_fld (pv 0) rfl) pa_nil)) (nomark _)) (pss_one (ps_ret pe_bl)) pss_nil)
    (pss_one (ps_ret (pe_callB (call_all rfl) (by rfl) T.all PyProof.Rows.boot_all (pa_cons (pe_comp (own := ["row"]) (fnames := ["ward"]) (fr := [0]) (N' := ["row", "ward"]) ⟨rfl, rfl, rfl, rfl, rfl, rfl, rfl⟩ rfl (pi_tup (pv 1)) (fun s0 H0 fp0 C0 => ⟨(pg_name (i := 0) (by show (["row", "ward"] : List Str).Nodup; decide +kernel) rfl (Or.inl rfl)), pts_nil, (pe_and (pe_cmpR op_eq (pe_callB (call_lenK (K := K) rfl) (by rfl) T.len PySem.boot_len (pa_cons (pv 0) pa_nil)) (pe_fldK (K := K) rfl (pv 1) rfl) (nomark _)) (pe_one (pe_callB (call_allK (K := K) rfl rfl) (by rfl) T.all PyProof.Rows.boot_all (pa_cons (pe_comp (own := ["value"]) (fnames := ["ward"]) (fr := [1]) (N' := ["value", "ward"]) ⟨rfl, rfl, rfl, rfl, rfl, rfl, rfl⟩ rfl (pi_tupK (K := K) rfl (pv 0)) (fun s0 H0 fp0 C0 => ⟨(pg_name (i := 0) (by show (["value", "ward"] : List Str).Nodup; decide +kernel) rfl (Or.inl rfl)), pts_nil, (pe_cal C_is_value (hr.mono (by decide)) rfl (pa_cons (pv 1) (pa_cons (pv 0) pa_nil)))⟩)) pa_nil))))⟩)) pa_nil))))), ?_⟩
    obtain ⟨dx, ha, pa, ts, h1, h2, h3, h4⟩ := hW.ex
    have hul := Paired.length hT
    refine seq_of fun U1 u1 => ?_
    walk_at "rd"
    refine ⟨_, .inr (SqT.of ho), _, _, _, h1, T.cl_Ward, T.n_Ward_hands, _, wf_hands _ _ _, _, rfl, _, .inr (SqT.of h2), ?_⟩
    rw [List.length_map, hul]
    by_cases hlen : rows.length = hs.length
    case neg =>
      rw [if_pos (by omega)]
      have q1 := q H (Same.refl _)
      unfold okO at q1
      rw [decide_eq_false hlen, Bool.false_and] at q1
      exact q1
    rw [if_neg (by omega)]
    rw [u1]; clear u1
    walk_at "rd"
    have im : ∀ (a : List Bool) (c : Bool), a.map V.bl ++ [V.bl c] = (a ++ [c]).map V.bl := fun a c => by rw [List.map_append]; rfl
    refine ⟨⟨_, SqT.of ho⟩, fun D hD => for_tupW (xs := us) (fun i σ H' => Same H H' ∧ H' D = some (.lst (((rows.take i).map (okR d ps)).map V.bl)) ∧ ∃ v0, σ = [v0, some (.ref x)]) ⟨same_new hD _, upd_same, none, rfl⟩ (fun i σ H' _ hh => SqT.of (hh.1 _ _ ho)) ?_ ?_⟩
    · rintro i v σ H' hv ⟨g, e, v0, rfl⟩
      obtain ⟨row, hrow, t', rfl, ht'⟩ := Paired.get' hT hv
      have hi := (List.getElem?_eq_some_iff.mp hrow).1
      have hrl := hr1 row (List.mem_of_getElem? hrow)
      have est : ((rows.take (i + 1)).map (okR d ps)) = (rows.take i).map (okR d ps) ++ [okR d ps row] := by rw [take_one hrow, List.map_append]; rfl
      have ell : ((rows.take i).map (okR d ps)).length ≤ i := by rw [List.length_map, List.length_take]; omega
      rw [est]
      generalize (rows.take i).map (okR d ps) = bs at e ell
      walk_at "rd"
      refine ⟨_, .inr (SqT.of (g _ _ ht')), _, _, _, g _ _ h1, T.cl_Ward, T.n_Ward_days, _, wf_days _ _ _, rfl, ?_⟩
      rw [List.length_map]
      by_cases hd : (row.length : Int) = d
      case neg =>
        rw [if_neg (fun z => hd (V.int.inj z))]
        rw [okR_len hd]
        exact ⟨_, e, small1000 (by rw [List.length_map]; omega), same_upd hD g _, by rw [upd_same, im]⟩
      rw [if_pos (by rw [hd])]
      refine ⟨⟨_, SqT.of (g _ _ ht')⟩, fun D1 hD1 => for_tupW (xs := row.map V.int) (fun j σ H2 => Same H' H2 ∧ H2 D1 = some (.lst (((row.take j).map (isV ps)).map V.bl)) ∧ ∃ v0, σ = [v0, some (.ref x)]) ⟨same_new hD1 _, upd_same, none, rfl⟩ (fun j σ H2 _ hh => SqT.of (hh.1 _ _ (g _ _ ht'))) ?_ ?_⟩
      · rintro j v σ H2 hv2 ⟨g2, e2, v1, rfl⟩
        obtain ⟨z, hz, rfl⟩ := map_item hv2
        have hj := (List.getElem?_eq_some_iff.mp hz).1
        have est : ((row.take (j + 1)).map (isV ps)) = (row.take j).map (isV ps) ++ [isV ps z] := by rw [take_one hz, List.map_append]; rfl
        have ell : ((row.take j).map (isV ps)).length ≤ j := by rw [List.length_map, List.length_take]; omega
        rw [est]
        generalize (row.take j).map (isV ps) = cs at e2 ell
        walk_at "rd"
        exact ⟨x, d, hs, ps, z, rfl, hW.mono (g.trans g2), _, e2, small1000 (by rw [List.length_map]; omega), same_upd hD1 g2 _, by rw [upd_same, im]⟩
      · rintro σ H2 ⟨g2, e2, v1, rfl⟩
        rw [List.length_map, List.take_length] at e2
        refine ⟨_, SqL.of e2, _, g2 _ _ e, small1000 (by rw [List.length_map]; omega), same_upd hD (g.trans g2) _, ?_⟩
        rw [upd_same, im]
        unfold okR
        rw [decide_eq_true hd, Bool.true_and, List.all_map]
        rfl
    rintro σ H' ⟨g, e, v0, rfl⟩
    rw [hul, List.take_length] at e
    refine ⟨_, SqL.of e, ?_⟩
    have q1 := q H' g
    unfold okO at q1
    rw [decide_eq_true hlen, Bool.true_and] at q1
    rw [List.all_map]
    exact q1
def sp_Near_fits (K : PySem.W.Frag) (C_Ward C_Near C_Rule : Addr) : Sp := fun vs H Q _ => ∃ (x y : Addr) (d m : Int) (hs : List Int) (ps : List Pst) (rows : List (List Int)), vs = [.ref x, .ref y] ∧ NearAt C_Near H x rows m ∧ WardAt C_Ward H y d hs ps ∧ rows.length ≤ 100 ∧ (∀ r ∈ rows, r.length ≤ 100) ∧ ∀ H', Same H H' → Q (.bl (okO d hs ps rows && (decide (-1 ≤ m) && decide (m ≤ 999)))) H'
theorem sc_Near_fits : FnScope ["self", "ward"] ["self", "ward"] (defScope s_Near_fits) := ⟨rfl, rfl, rfl, by decide +kernel, rfl, by decide +kernel, by decide +kernel⟩
theorem ok_Near_fits {C_Ward : Addr} {C_Near : Addr} {C_Rule : Addr} {f : Addr} {fd : FuncData} (F : Fun K "fits" "Near.fits" s_Near_fits f fd) (T : Txt K mg C_Ward C_Near C_Rule) (C_is_old : Cal P w K mg base "is_old" ["ward", "old"] 3 (sp_is_old K C_Ward C_Near C_Rule)) : FnOk P w K mg base CX0 4 f fd ["self", "ward"] (sp_Near_fits K C_Ward C_Near C_Rule) := by
  refine F.ok sc_Near_fits (fun vs H Q E h => ?_) (fun cdv A outer s H vs Q E hr h => ?_)
  · obtain ⟨x, y, d, m, hs, ps, rows, rfl, _⟩ := h
    rfl
  · obtain ⟨x, y, d, m, hs, ps, rows, rfl, hN, hW, hl, hr1, q⟩ := h
    refine ⟨_, (pss_one (ps_ret (pe_and (pe_cal C_is_old (hr.mono (by decide)) rfl (pa_cons (pv 1) (pa_cons (pe_fld (pv 0) rfl) pa_nil))) (pe_one (pe_chain op_le op_le (pe_un un_neg pe_int) (pe_fld (pv 0) rfl) (pe_globI rfl T.g_MOST_CHANGES)))))), ?_⟩
    obtain ⟨dx, o, vs, e1, e2, hT⟩ := hN.ex
    walk_at "rd"
    refine ⟨_, _, _, e1, T.cl_Near, T.n_Near_old, _, nf_old _ _, y, o, d, hs, ps, vs, rows, rfl, hW, e2, hT, hl, hr1, fun H1 g1 => ⟨_, rfl, ?_⟩⟩
    by_cases e : okO d hs ps rows = true
    · rw [if_pos e]
      refine ⟨_, _, _, g1 _ _ e1, T.cl_Near, T.n_Near_many, _, nf_many _ _, _, rfl, ?_⟩
      have q1 := q H1 g1
      rw [e, Bool.true_and] at q1
      by_cases z : -1 ≤ m
      · rw [if_pos z]
        rw [decide_eq_true z, Bool.true_and] at q1
        exact ⟨_, rfl, q1⟩
      · rw [if_neg z]
        rw [decide_eq_false z, Bool.false_and] at q1
        exact q1
    · rw [if_neg e]
      have q1 := q H1 g1
      rw [Bool.not_eq_true] at e
      rw [e, Bool.false_and] at q1
      exact q1
def sp__law_draw (K : PySem.W.Frag) (C_Ward C_Near C_Rule : Addr) : Sp := fun vs H Q _ => ∃ (a : Addr) (ns : List Int) (k m : Int), vs = [.ref a, .int k, .int m] ∧ SqL K H a (ns.map V.int) ∧ ns.length ≤ 63 ∧ 0 ≤ k ∧ k ≤ 100000 ∧ 0 < m ∧ ∀ v : Int, 0 ≤ v → v < m → Q (.int v) H
theorem sc__law_draw : FnScope ["_law_script", "_law_k", "_law_many", "_law_number"] ["_law_script", "_law_k", "_law_many"] (defScope s__law_draw) := ⟨rfl, rfl, rfl, by decide +kernel, rfl, by decide +kernel, by decide +kernel⟩
theorem ok__law_draw {C_Ward : Addr} {C_Near : Addr} {C_Rule : Addr} {f : Addr} {fd : FuncData} (F : Fun K "_law_draw" "_law_draw" s__law_draw f fd) (T : Txt K mg C_Ward C_Near C_Rule)  : FnOk P w K mg base CX0 1 f fd ["_law_script", "_law_k", "_law_many"] (sp__law_draw K C_Ward C_Near C_Rule) := by
  refine F.ok sc__law_draw (fun vs H Q E h => ?_) (fun cdv A outer s H vs Q E hr h => ?_)
  · obtain ⟨a, ns, k, m, rfl, _⟩ := h
    rfl
  · obtain ⟨a, ns, k, m, rfl, hS, hl, k0, k1, m0, q⟩ := h
    have hlen : ((List.map V.int ns).length : Int) = ns.length := by simp
    refine ⟨_, (pss_cons (ps_set (i := 3) sc__law_draw.nd rfl (Or.inl rfl) (pe_op op_add (pe_op op_mul (pv 1) pe_int) pe_int))
    (pss_cut (ps_if (pt_cmpR op_lt (pv 1) (pe_callB (call_lenK (K := K) rfl) (by rfl) T.len PySem.boot_len (pa_cons (pv 0) pa_nil)) (nomark _)) (pss_cons (ps_if (pt_cmpR op_gt (pv 2) pe_int (nomark _)) (pss_one (ps_ret (pe_op op_mod (pe_ix ix_list (pv 0) (pv 1) (fun _ _ => rfl)) (pv 2)))) pss_nil)
      (pss_one (ps_set (i := 3) sc__law_draw.nd rfl (Or.inl rfl) (pe_op op_add (pe_op op_mul (pe_op op_mod (pe_ix ix_list (pv 0) (pv 1) (fun _ _ => rfl)) pe_int) pe_int) (pe_op op_mul (pv 1) pe_int))))) (pss_one (ps_if (pt_cmpR op_gt (pe_callB (call_lenK (K := K) rfl) (by rfl) T.len PySem.boot_len (pa_cons (pv 0) pa_nil)) pe_int (nomark _)) (pss_one (ps_set (i := 3) sc__law_draw.nd rfl (Or.inl rfl) (pe_op op_add (pe_op op_add (pe_op op_mul (pe_op op_mod (pe_ix ix_list (pv 0) (pe_op op_mod (pe_op op_mul (pv 1) pe_int) (pe_callB (call_lenK (K := K) rfl) (by rfl) T.len PySem.boot_len (pa_cons (pv 0) pa_nil))) (fun _ _ => rfl)) pe_int) pe_int) (pe_op op_mul (pe_op op_mul (pv 1) (pv 1)) pe_int)) pe_int))) pss_nil)))
    (pss_cons (ps_set (i := 3) sc__law_draw.nd rfl (Or.inl rfl) (pe_op op_mod (pv 3) pe_int))
    (pss_one (ps_ret (pe_op op_mod (pe_op op_mod (pe_op op_mul (pv 3) (pv 3)) pe_int) (pv 2))))))), ?_⟩
    refine seq_of fun U1 u1 => ?_
    walk_at "rd"
    refine ⟨.inr ⟨by decide, by decide⟩, ?_⟩
    rw [u1]; clear u1
    have fin : ∀ z : Int, 0 ≤ z % 2147483629 * (z % 2147483629) % 2147483587 % m ∧ z % 2147483629 * (z % 2147483629) % 2147483587 % m < m := fun z => ⟨Int.emod_nonneg _ (by omega), Int.emod_lt_of_pos _ m0⟩
    have kk1 : k * k ≤ 100000 * 100000 := Int.mul_le_mul k1 k1 k0 (by omega)
    have kk0 : 0 ≤ k * k := Int.mul_nonneg k0 k0
    refine cut_of (fun σ H' => ∃ z : Int, H' = H ∧ σ = [some (.ref a), some (.int k), some (.int m), some (.int z)]) ?_ ?_
    · walk_at "rd"
      refine ⟨_, .inl hS, ?_⟩
      rw [hlen]
      split
      · rename_i hk
        obtain ⟨v, hv⟩ := item_of k0 hk
        split
        · exact ⟨_, hS, _, hv, v, rfl, m0, q _ (Int.emod_nonneg _ (by omega)) (Int.emod_lt_of_pos _ m0)⟩
        · exact ⟨_, hS, _, hv, v, rfl, by decide, .inr ⟨by decide, by decide⟩, .inr ⟨by decide, by decide⟩⟩
      · refine ⟨_, .inl hS, ?_⟩
        rw [hlen]
        split
        · rename_i hp
          obtain ⟨v, hv⟩ := item_of (ns := ns) (k := k * 7 % ns.length) (Int.emod_nonneg _ (by omega)) (Int.emod_lt_of_pos _ hp)
          exact ⟨.inr ⟨by decide, by decide⟩, _, .inl hS, by omega, _, hS, _, by rw [hlen]; exact hv, v, rfl, by decide, .inr ⟨by decide, by decide⟩, .inl ⟨by omega, by omega⟩, .inr ⟨by decide, by decide⟩⟩
        · trivial
    rintro σ H' ⟨z, rfl, rfl⟩
    walk_at "rd"
    have z0 := Int.emod_nonneg z (b := 2147483629) (by decide)
    have z1 := Int.emod_lt_of_pos z (b := 2147483629) (by decide)
    refine ⟨by decide, .inl ⟨by omega, by omega⟩, by decide, m0, ?_⟩
    exact q _ (fin z).1 (fin z).2
def sp__law_tables (K : PySem.W.Frag) (C_Ward C_Near C_Rule : Addr) : Sp := fun vs H Q _ => ∃ (a : Addr) (us : List V) (ss : List Spo), vs = [.ref a] ∧ H a = some (.lst us) ∧ Spos H us ss ∧ (∀ s ∈ ss, s.2.2.length ≤ 100) ∧ ∀ v : Int, (ss = [] → v = 1) → Q (.int v) H
theorem sc__law_tables : FnScope ["_law_spots_here", "_law_amount", "_law_spot"] ["_law_spots_here"] (defScope s__law_tables) := ⟨rfl, rfl, rfl, by decide +kernel, rfl, by decide +kernel, by decide +kernel⟩
theorem ok__law_tables {C_Ward : Addr} {C_Near : Addr} {C_Rule : Addr} {f : Addr} {fd : FuncData} (F : Fun K "_law_tables" "_law_tables" s__law_tables f fd) (T : Txt K mg C_Ward C_Near C_Rule)  : FnOk P w K mg base CX0 1 f fd ["_law_spots_here"] (sp__law_tables K C_Ward C_Near C_Rule) := by
  refine F.ok sc__law_tables (fun vs H Q E h => ?_) (fun cdv A outer s H vs Q E hr h => ?_)
  · obtain ⟨a, us, ss, rfl, _⟩ := h
    rfl
  · obtain ⟨a, us, ss, rfl, ha, hS, hs100, q⟩ := h
    refine ⟨_, (pss_cons (ps_set (i := 1) sc__law_tables.nd rfl (Or.inl rfl) pe_int)
    (pss_cons (ps_for PassesOwn.never rfl (pi_list (pv 0)) (pg_name (i := 2) sc__law_tables.nd rfl (Or.inl rfl))
      (pss_one (ps_set (i := 1) sc__law_tables.nd rfl (Or.inl rfl) (pe_op op_mul (pv 1) (pe_callB (call_lenK (K := K) rfl) (by rfl) T.len PySem.boot_len (pa_cons (pe_ix ix_tup (pv 2) pe_int (fun _ _ => rfl)) pa_nil))))))
    (pss_one (ps_ret (pv 1))))), ?_⟩
    refine seq_of fun U1 u1 => ?_
    walk_at "rd"
    rw [u1]; clear u1
    refine seq_of fun U1 u1 => for_of fun B1 b1 => ?_
    walk_at "rd"
    have hul := Paired.length hS
    refine ⟨⟨_, SqL.of ha⟩, for_listW (xs := us) (fun i σ H' => H' = H ∧ ∃ (z : Int) (v2 : Option V), (i = 0 → z = 1) ∧ σ = [some (.ref a), some (.int z), v2]) ⟨rfl, 1, none, fun _ => rfl, rfl⟩ (fun i σ H' _ hh => by rw [hh.1]; exact SqL.of ha) ?_ ?_⟩
    · rintro i v σ H' hx ⟨rfl, z, v2, hz, rfl⟩
      obtain ⟨sp, hsp, t, u, l, rfl, q1, q2, q3⟩ := Paired.get' hS hx
      have hb := hs100 sp (List.mem_of_getElem? hsp)
      rw [b1]
      walk_at "rd"
      refine ⟨_, SqT.of q1, _, rfl, _, rfl, _, .inl (SqL.of q3), .inr ⟨by omega, by rw [List.length_map]; omega⟩, ?_⟩
      exact ⟨_, (fun z => by omega), rfl⟩
    rintro σ H' ⟨rfl, z, v2, hz, rfl⟩
    rw [u1]; clear u1
    walk_at "rd"
    exact q z fun e => hz (by rw [hul, e]; rfl)
def sp__law_choices (K : PySem.W.Frag) (C_Ward C_Near C_Rule : Addr) : Sp := fun vs H Q _ => ∃ (ha pa : Addr) (hs : List Int) (ts : List V) (ps : List Pst) (i : Nat), vs = [.ref ha, .ref pa, .int i] ∧ H ha = some (.lst (hs.map V.int)) ∧ H pa = some (.lst ts) ∧ Posts H ts ps ∧ ps.length ≤ 6 ∧ i < hs.length ∧ (∀ x ∈ hs, okH x) ∧ (∀ q ∈ ps, okP q) ∧ ∀ r (cs : List Int) H', New H H' r (cs.map V.int) → 0 < cs.length → cs.length ≤ ps.length + 1 → (∀ x ∈ cs, 0 ≤ x ∧ x ≤ (ps.length : Int)) → Q (.ref r) H'
theorem sc__law_choices : FnScope ["_law_hands", "_law_posts", "_law_hand", "_law_due", "_law_k"] ["_law_hands", "_law_posts", "_law_hand"] (defScope s__law_choices) := ⟨rfl, rfl, rfl, by decide +kernel, rfl, by decide +kernel, by decide +kernel⟩
theorem ok__law_choices {C_Ward : Addr} {C_Near : Addr} {C_Rule : Addr} {f : Addr} {fd : FuncData} (F : Fun K "_law_choices" "_law_choices" s__law_choices f fd) (T : Txt K mg C_Ward C_Near C_Rule)  : FnOk P w K mg base CX0 1 f fd ["_law_hands", "_law_posts", "_law_hand"] (sp__law_choices K C_Ward C_Near C_Rule) := by
  refine F.ok sc__law_choices (fun vs H Q E h => ?_) (fun cdv A outer s H vs Q E hr h => ?_)
  · obtain ⟨ha, pa, hs, ts, ps, i, rfl, _⟩ := h
    rfl
  · obtain ⟨ha, pa, hs, ts, ps, i, rfl, eh, ep, hP, p6, hi, ok1, ok2, q⟩ := h
    refine ⟨_, (pss_cons (ps_set (i := 3) sc__law_choices.nd rfl (Or.inl rfl) (pe_lst (pa_cons pe_int pa_nil)))
    (pss_cons (ps_for PassesOwn.never rfl (pi_range1 rfl T.range (pa_cons (pe_callB (call_lenK (K := K) rfl) (by rfl) T.len PySem.boot_len (pa_cons (pv 1) pa_nil)) pa_nil)) (pg_name (i := 4) sc__law_choices.nd rfl (Or.inl rfl))
      (pss_one (ps_if (pt_cmpR op_eq (pe_op op_and (pe_ix ix_list (pv 0) (pv 2) (fun _ _ => rfl)) (pe_ix ix_tup (pe_ix ix_list (pv 1) (pv 4) (fun _ _ => rfl)) pe_int (fun _ _ => rfl))) (pe_ix ix_tup (pe_ix ix_list (pv 1) (pv 4) (fun _ _ => rfl)) pe_int (fun _ _ => rfl)) (nomark _)) (pss_one (ps_expr (pe_bm PySem.F.plainAttrs_list PySem.F.slot_list_append PySem.F.type_list_append mt_append (pv 3) (pa_cons (pe_op op_add (pv 4) pe_int) pa_nil)))) pss_nil)))
    (pss_one (ps_ret (pv 3))))), ?_⟩
    refine seq_of fun U1 u1 => ?_
    walk_at "rd"
    refine ⟨by decide, fun p hp => ?_⟩
    have g0 := same_new hp (.lst [.int 0])
    have hpl := hP.len
    rw [u1]; clear u1
    refine seq_of fun U1 u1 => for_of fun B1 b1 => ?_
    walk_at "rd"
    refine ⟨_, .inl (SqL.of (g0 _ _ ep)), by omega, by omega, for_rangeW (fun k σ H' => ∃ (cs : List Int) (v4 : Option V), H' = upd H p (.lst (cs.map V.int)) ∧ 0 < cs.length ∧ cs.length ≤ k + 1 ∧ (∀ x ∈ cs, 0 ≤ x ∧ x ≤ (k : Int)) ∧ σ = [some (.ref ha), some (.ref pa), some (.int i), some (.ref p), v4]) ⟨[0], none, rfl, by decide, by decide, (fun x hx => by rw [List.mem_singleton.mp hx]; decide), rfl⟩ ?_ ?_⟩
    · rintro k σ H' hk ⟨cs, v4, rfl, c0, c1, cb, rfl⟩
      rw [show (0 + (k : Int)) = k by omega]
      have gg := same_new hp (.lst (cs.map V.int))
      have hk' : k < ps.length := by omega
      obtain ⟨pq, hpq, t, et, q1⟩ := Paired.get' hP (List.getElem?_eq_getElem (show k < ts.length by omega))
      have at1 : ts[k]? = some (.ref t) := by rw [List.getElem?_eq_getElem (show k < ts.length by omega), et]
      have hih : (hs.map V.int)[i]? = some (.int hs[i]) := by rw [List.getElem?_map, List.getElem?_eq_getElem hi]; rfl
      rw [b1]
      walk_at "rd"
      refine ⟨_, SqL.of (gg _ _ eh), _, atI_nat hih, _, SqL.of (gg _ _ ep), _, atI_nat at1, t, rfl, _, SqT.of (gg _ _ q1), _, rfl, _, rfl, _, rfl, _, SqL.of (gg _ _ ep), _, atI_nat at1, t, rfl, _, SqT.of (gg _ _ q1), _, rfl, rfl, ?_⟩
      split
      · refine ⟨.inl ⟨rfl, _, SqL.of upd_same⟩, _, upd_same, small1000 (by rw [List.length_map]; omega), cs ++ [(k : Int) + 1], by rw [upd_upd, List.map_append]; rfl, by rw [List.length_append]; omega, by rw [List.length_append, List.length_singleton]; omega, fun x hx => ?_⟩
        rcases List.mem_append.mp hx with z | z
        · have := cb x z
          omega
        · rw [List.mem_singleton.mp z]
          omega
      · exact ⟨cs, rfl, c0, by omega, fun x hx => by have := cb x hx; omega⟩
    rintro σ H' ⟨cs, v4, rfl, c0, c1, cb, rfl⟩
    rw [u1]; clear u1
    walk_at "rd"
    rw [Int.toNat_natCast, hpl] at c1 cb
    exact q p cs _ ⟨same_new hp _, hp, upd_same⟩ c0 c1 cb
def sp__law_spots (K : PySem.W.Frag) (C_Ward C_Near C_Rule : Addr) : Sp := fun vs H Q _ => ∃ (ha pa : Addr) (d : Int) (hs : List Int) (ts : List V) (ps : List Pst), vs = [.int d, .ref ha, .ref pa] ∧ H ha = some (.lst (hs.map V.int)) ∧ H pa = some (.lst ts) ∧ Posts H ts ps ∧ ps.length ≤ 6 ∧ 1 ≤ d ∧ d ≤ 31 ∧ hs.length ≤ 8 ∧ (∀ x ∈ hs, okH x) ∧ (∀ q ∈ ps, okP q) ∧ ∀ r us (ss : List Spo) H', Same H H' → H r = none → H' r = some (.lst us) → Spos H' us ss → (∀ s ∈ ss, SpoOk hs.length d ps.length s) → ss.length = d.toNat * hs.length → Q (.ref r) H'
theorem sc__law_spots : FnScope ["_law_days", "_law_hands", "_law_posts", "_law_spots_here", "_law_day", "_law_hand"] ["_law_days", "_law_hands", "_law_posts"] (defScope s__law_spots) := ⟨rfl, rfl, rfl, by decide +kernel, rfl, by decide +kernel, by decide +kernel⟩
theorem ok__law_spots {C_Ward : Addr} {C_Near : Addr} {C_Rule : Addr} {f : Addr} {fd : FuncData} (F : Fun K "_law_spots" "_law_spots" s__law_spots f fd) (T : Txt K mg C_Ward C_Near C_Rule) (C__law_choices : Cal P w K mg base "_law_choices" ["_law_hands", "_law_posts", "_law_hand"] 1 (sp__law_choices K C_Ward C_Near C_Rule)) : FnOk P w K mg base CX0 2 f fd ["_law_days", "_law_hands", "_law_posts"] (sp__law_spots K C_Ward C_Near C_Rule) := by
  refine F.ok sc__law_spots (fun vs H Q E h => ?_) (fun cdv A outer s H vs Q E hr h => ?_)
  · obtain ⟨ha, pa, d, hs, ts, ps, rfl, _⟩ := h
    rfl
  · obtain ⟨ha, pa, d, hs, ts, ps, rfl, eh, ep, hP, p6, d1, d2, h8, ok1, ok2, q⟩ := h
    refine ⟨_, (pss_cons (ps_set (i := 3) sc__law_spots.nd rfl (Or.inl rfl) (pe_lst pa_nil))
    (pss_cons (ps_for PassesOwn.never rfl (pi_range1 rfl T.range (pa_cons (pv 0) pa_nil)) (pg_name (i := 4) sc__law_spots.nd rfl (Or.inl rfl))
      (pss_one (ps_for PassesOwn.never rfl (pi_range1 rfl T.range (pa_cons (pe_callB (call_lenK (K := K) rfl) (by rfl) T.len PySem.boot_len (pa_cons (pv 1) pa_nil)) pa_nil)) (pg_name (i := 5) sc__law_spots.nd rfl (Or.inl rfl))
          (pss_one (ps_expr (pe_bm PySem.F.plainAttrs_list PySem.F.slot_list_append PySem.F.type_list_append mt_append (pv 3) (pa_cons (pe_tup (pa_cons (pe_tup (pa_cons (pv 5) (pa_cons (pv 4) pa_nil))) (pa_cons (pe_cal C__law_choices (hr.mono (by decide)) rfl (pa_cons (pv 1) (pa_cons (pv 2) (pa_cons (pv 5) pa_nil)))) pa_nil))) pa_nil)))))))
    (pss_one (ps_ret (pv 3))))), ?_⟩
    refine seq_of fun U1 u1 => ?_
    walk_at "rd"
    refine ⟨Nat.zero_le _, fun p hp => ?_⟩
    rw [u1]; clear u1
    refine seq_of fun U1 u1 => for_of fun B1 b1 => ?_
    walk_at "rd"
    refine ⟨by omega, by omega, for_rangeW (fun i σ H' => SpoI H p hs.length d ps.length (i * hs.length) H' ∧ ∃ v4 v5, σ = [some (.int d), some (.ref ha), some (.ref pa), some (.ref p), v4, v5]) ⟨by rw [Nat.zero_mul]; exact SpoI.start hp, none, none, rfl⟩ ?_ ?_⟩
    · rintro i σ H' hi ⟨sI, v4, v5, rfl⟩
      rw [show (0 + (i : Int)) = i by omega]
      have hi31 : i * hs.length ≤ 31 * 8 := Nat.mul_le_mul (by omega) h8
      rw [b1]
      refine for_of fun B2 b2 => ?_
      walk_at "rd"
      refine ⟨_, .inl (SqL.of (sI.same _ _ eh)), by rw [List.length_map]; omega, by rw [List.length_map]; omega, for_rangeW (fun j σ H2 => SpoI H p hs.length d ps.length (i * hs.length + j) H2 ∧ ∃ v5, σ = [some (.int d), some (.ref ha), some (.ref pa), some (.ref p), some (.int i), v5]) ⟨sI, v5, rfl⟩ ?_ ?_⟩
      · rintro j σ H2 hj ⟨sJ, v5, rfl⟩
        rw [show (0 + (j : Int)) = j by omega]
        rw [List.length_map, Int.toNat_natCast] at hj
        have hb9 : i * hs.length + j ≤ 900 := by omega
        obtain ⟨us0, _, g0, e0, _⟩ := sJ.ex
        rw [b2]
        walk_at "rd"
        refine ⟨.inl ⟨rfl, _, SqL.of e0⟩, by decide, fun u hu => ?_⟩
        have gu := same_new hu (.tup [.int (j : Int), .int (i : Int)])
        have gHu := g0.trans gu
        refine ⟨ha, pa, hs, ts, ps, j, rfl, gHu _ _ eh, gHu _ _ ep, hP.mono gHu, p6, hj, ok1, ok2, fun r cs H3 nw c0 c1 cb => ?_⟩
        obtain ⟨g3, f3, e3⟩ := nw
        refine ⟨by decide, fun t ht => ?_⟩
        exact sJ.step (sp := (j, i, cs)) hp hb9 (gu.trans g3) (g3 _ _ upd_same) e3 (gu.free f3) ht ⟨hj, by show (i : Int) < d; omega, c0, c1, cb⟩
      · rintro σ H2 ⟨sJ, v5, rfl⟩
        rw [List.length_map, Int.toNat_natCast] at sJ
        rw [Nat.succ_mul]
        exact ⟨sJ, _, _, rfl⟩
    rintro σ H' ⟨sI, v4, v5, rfl⟩
    rw [u1]; clear u1
    walk_at "rd"
    obtain ⟨us, ss, g, e, hS, hok, hl⟩ := sI.done
    exact q p us ss H' g hp e hS hok hl
def sp__law_ward (K : PySem.W.Frag) (C_Ward C_Near C_Rule : Addr) : Sp := fun vs H Q _ => ∃ (a : Addr) (ns : List Int) (mo : Int), vs = [.ref a, .int mo, .int 3] ∧ SqL K H a (ns.map V.int) ∧ ns.length ≤ 63 ∧ 1 ≤ mo ∧ ∀ (t ha pa : Addr) (d : Int) (hs : List Int) (ts : List V) (ps : List Pst) (H' : Hp), Same H H' → H' t = some (.tup [.int d, .ref ha, .ref pa]) → H' ha = some (.lst (hs.map V.int)) → H' pa = some (.lst ts) → Posts H' ts ps → Ok d hs ps → hs.length ≤ 4 → ps.length ≤ 3 → d ≤ 6 → Q (.ref t) H'
theorem sc__law_ward : FnScope ["_law_script", "_law_most", "_law_top", "_law_hands", "_law_power", "_law_k", "_law_posts", "_law_number", "_law_need", "_law_days"] ["_law_script", "_law_most", "_law_top"] (defScope s__law_ward) := ⟨rfl, rfl, rfl, by decide +kernel, rfl, by decide +kernel, by decide +kernel⟩
theorem ok__law_ward {C_Ward : Addr} {C_Near : Addr} {C_Rule : Addr} {f : Addr} {fd : FuncData} (F : Fun K "_law_ward" "_law_ward" s__law_ward f fd) (T : Txt K mg C_Ward C_Near C_Rule) (C__law_draw : Cal P w K mg base "_law_draw" ["_law_script", "_law_k", "_law_many"] 1 (sp__law_draw K C_Ward C_Near C_Rule)) (C__law_tables : Cal P w K mg base "_law_tables" ["_law_spots_here"] 1 (sp__law_tables K C_Ward C_Near C_Rule)) (C__law_spots : Cal P w K mg base "_law_spots" ["_law_days", "_law_hands", "_law_posts"] 2 (sp__law_spots K C_Ward C_Near C_Rule)) : FnOk P w K mg base CX0 3 f fd ["_law_script", "_law_most", "_law_top"] (sp__law_ward K C_Ward C_Near C_Rule) := by
  refine F.ok sc__law_ward (fun vs H Q E h => ?_) (fun cdv A outer s H vs Q E hr h => ?_)
  · obtain ⟨a, ns, mo, rfl, _⟩ := h
    rfl
  · obtain ⟨a, ns, mo, rfl, hS, hl, m1, q⟩ := h
    refine ⟨_, (pss_cons (ps_set (i := 3) sc__law_ward.nd rfl (Or.inl rfl) (pe_lst pa_nil))
    (pss_cons (ps_set (i := 4) sc__law_ward.nd rfl (Or.inl rfl) (pe_ix ix_list (pe_lst (pa_cons pe_int (pa_cons (pe_op op_pow pe_int pe_int) (pa_cons (pe_op op_pow pe_int pe_int) pa_nil)))) (pe_cal C__law_draw (hr.mono (by decide)) rfl (pa_cons (pv 0) (pa_cons pe_int (pa_cons pe_int pa_nil)))) (fun _ _ => rfl)))
    (pss_cons (ps_for PassesOwn.never rfl (pi_range1 rfl T.range (pa_cons (pe_cal C__law_draw (hr.mono (by decide)) rfl (pa_cons (pv 0) (pa_cons pe_int (pa_cons pe_int pa_nil)))) pa_nil)) (pg_name (i := 5) sc__law_ward.nd rfl (Or.inl rfl))
      (pss_one (ps_expr (pe_bm PySem.F.plainAttrs_list PySem.F.slot_list_append PySem.F.type_list_append mt_append (pv 3) (pa_cons (pe_op op_mul (pe_ix ix_list (pe_lst (pa_cons pe_int (pa_cons pe_int (pa_cons pe_int (pa_cons pe_int (pa_cons pe_int (pa_cons pe_int (pa_cons pe_int pa_nil)))))))) (pe_op op_mod (pe_op op_fdiv (pe_cal C__law_draw (hr.mono (by decide)) rfl (pa_cons (pv 0) (pa_cons pe_int (pa_cons pe_int pa_nil)))) (pe_op op_add pe_int (pe_op op_mul pe_int (pv 5)))) pe_int) (fun _ _ => rfl)) (pv 4)) pa_nil)))))
    (pss_cons (ps_set (i := 6) sc__law_ward.nd rfl (Or.inl rfl) (pe_lst pa_nil))
    (pss_cons (ps_for PassesOwn.never rfl (pi_range1 rfl T.range (pa_cons (pe_cal C__law_draw (hr.mono (by decide)) rfl (pa_cons (pv 0) (pa_cons pe_int (pa_cons (pe_op op_add (pv 2) pe_int) pa_nil)))) pa_nil)) (pg_name (i := 5) sc__law_ward.nd rfl (Or.inl rfl))
      (pss_cons (ps_set (i := 7) sc__law_ward.nd rfl (Or.inl rfl) (pe_op op_fdiv (pe_cal C__law_draw (hr.mono (by decide)) rfl (pa_cons (pv 0) (pa_cons pe_int (pa_cons pe_int pa_nil)))) (pe_op op_add pe_int (pe_op op_mul pe_int (pv 5)))))
        (pss_cons (ps_set (i := 8) sc__law_ward.nd rfl (Or.inl rfl) (pe_op op_mul (pe_ix ix_list (pe_lst (pa_cons pe_int (pa_cons pe_int (pa_cons pe_int (pa_cons pe_int (pa_cons pe_int (pa_cons pe_int pa_nil))))))) (pe_op op_mod (pv 7) pe_int) (fun _ _ => rfl)) (pv 4)))
        (pss_one (ps_expr (pe_bm PySem.F.plainAttrs_list PySem.F.slot_list_append PySem.F.type_list_append mt_append (pv 6) (pa_cons (pe_tup (pa_cons (pv 8) (pa_cons (pe_ix ix_list (pe_lst (pa_cons pe_int (pa_cons pe_int (pa_cons pe_int (pa_cons (pe_op op_add pe_int (pv 7)) pa_nil))))) (pe_op op_mod (pv 7) pe_int) (fun _ _ => rfl)) (pa_cons (pe_op op_mod (pe_op op_fdiv (pv 7) pe_int) pe_int) pa_nil)))) pa_nil)))))))
    (pss_cons (ps_set (i := 9) sc__law_ward.nd rfl (Or.inl rfl) (pe_op op_add pe_int (pe_cal C__law_draw (hr.mono (by decide)) rfl (pa_cons (pv 0) (pa_cons pe_int (pa_cons pe_int pa_nil))))))
    (pss_cons (ps_while PassesOwn.never (pt_cmpR op_gt (pe_cal C__law_tables (hr.mono (by decide)) rfl (pa_cons (pe_cal C__law_spots (hr.mono (by decide)) rfl (pa_cons (pv 9) (pa_cons (pv 3) (pa_cons (pv 6) pa_nil)))) pa_nil)) (pv 1) (nomark _))
      (pss_one (ps_if (pt_cmpR op_gt (pv 9) pe_int (nomark _)) (pss_one (ps_set (i := 9) sc__law_ward.nd rfl (Or.inl rfl) (pe_op op_sub (pv 9) pe_int))) (pss_one (ps_expr (pe_bm0 PySem.F.plainAttrs_list PySem.F.slot_list_pop PySem.F.type_list_pop mt_pop (pv 3)))))))
    (pss_one (ps_ret (pe_tup (pa_cons (pv 9) (pa_cons (pv 3) (pa_cons (pv 6) pa_nil))))))))))))), ?_⟩
    refine seq_of fun U1 u1 => ?_
    walk_at "rd"
    refine ⟨Nat.zero_le _, fun h0 hh0 => ?_⟩
    have g0 := same_new hh0 (.lst [])
    rw [u1]; clear u1
    refine seq_of fun U1 u1 => ?_
    walk_at "rd"
    refine ⟨⟨by decide, by decide, by decide⟩, ⟨by decide, by decide, by decide⟩, by decide, fun p hp => ?_⟩
    have gA := g0.trans (same_new hp (.lst [.int 1, .int (2 ^ Int.toNat 13), .int (2 ^ Int.toNat 27)]))
    refine ⟨a, ns, _, _, rfl, gA.seq hS, hl, by decide, by decide, by decide, fun v v0 v3 => ?_⟩
    obtain ⟨pw, hpw, pw0, pw1⟩ : ∃ pw : Int, atI [V.int 1, .int (2 ^ Int.toNat 13), .int (2 ^ Int.toNat 27)] v = some (.int pw) ∧ 0 ≤ pw ∧ pw ≤ 134217728 := by
      obtain rfl | rfl | rfl : v = 0 ∨ v = 1 ∨ v = 2 := by omega
      · exact ⟨_, rfl, by decide, by decide⟩
      · exact ⟨_, rfl, by decide, by decide⟩
      · exact ⟨_, rfl, by decide, by decide⟩
    refine ⟨_, _, rfl, SqL.of upd_same, .int pw, hpw, ?_⟩
    have eA := (same_new hp (.lst [.int 1, .int (2 ^ Int.toNat 13), .int (2 ^ Int.toNat 27)])) _ _ (upd_same (H := H) (a := h0) (o := .lst []))
    generalize upd (upd H h0 (.lst [])) p (.lst [.int 1, .int (2 ^ Int.toNat 13), .int (2 ^ Int.toNat 27)]) = HA at gA eA ⊢
    clear hp hpw v0 v3
    rw [u1]; clear u1
    refine seq_of fun U1 u1 => for_of fun B1 b1 => ?_
    walk_at "rd"
    refine ⟨a, ns, _, _, rfl, gA.seq hS, hl, by decide, by decide, by decide, fun n n0 n5 => ?_⟩
    refine ⟨n, rfl, by omega, by omega, for_rangeW (fun i σ H' => (∃ hs : List Int, Same H H' ∧ H' h0 = some (.lst (hs.map V.int)) ∧ hs.length = i ∧ ∀ x ∈ hs, okH x) ∧ ∃ v5, σ = [some (.ref a), some (.int mo), some (.int 3), some (.ref h0), some (.int pw), v5, none, none, none, none]) ⟨⟨[], gA, eA, rfl, fun x z => by cases z⟩, none, rfl⟩ ?_ ?_⟩
    · rintro i σ H' hi ⟨⟨hs, g, e, hl5, hok⟩, v5, rfl⟩
      rw [show (0 + (i : Int)) = i by omega]
      rw [b1]
      walk_at "rd"
      refine ⟨.inl ⟨rfl, _, SqL.of e⟩, by decide, fun p hp => ?_⟩
      have gp := same_new hp (.lst [.int 7, .int 3, .int 1, .int 6, .int 2, .int 5, .int 0])
      refine ⟨a, ns, _, _, rfl, (g.trans gp).seq hS, hl, by decide, by decide, by decide, fun v v0 v1 => ?_⟩
      obtain ⟨w, hw, w0, w7⟩ := seven (z := v / (1 + 3 * (i : Int)) % 7) (Int.emod_nonneg _ (by decide)) (Int.emod_lt_of_pos _ (by decide))
      refine ⟨.inl ⟨by decide, by decide⟩, v, rfl, ⟨by omega, by omega⟩, by decide, _, SqL.of upd_same, .int w, hw, w, rfl, .inl ⟨by omega, by omega⟩, _, gp _ _ e, small1000 (by rw [List.length_map]; omega), same_upd hh0 (g.trans gp) _, hs ++ [w * pw], by rw [upd_same, List.map_append]; rfl, by rw [List.length_append, hl5]; rfl, fun x hx => ?_⟩
      rcases List.mem_append.mp hx with z | z
      · exact hok x z
      · rw [List.mem_singleton.mp z]; exact okH_mul w0 w7 pw0 pw1
    rintro σ HB ⟨⟨hs, gB, eB, hl5, hok⟩, v5, rfl⟩
    rw [u1]; clear u1
    refine seq_of fun U1 u1 => ?_
    walk_at "rd"
    refine ⟨Nat.zero_le _, fun p0 hp0 => ?_⟩
    have gC := same_new hp0 (.lst [])
    rw [u1]; clear u1
    refine seq_of fun U1 u1 => for_of fun B1 b1 => ?_
    walk_at "rd"
    refine ⟨a, ns, _, _, rfl, (gB.trans gC).seq hS, hl, by decide, by decide, by decide, fun n2 n20 n24 => ?_⟩
    refine ⟨n2, rfl, by omega, by omega, for_rangeW (fun i σ H' => PsG HB p0 i H' ∧ ∃ v5 v7 v8, σ = [some (.ref a), some (.int mo), some (.int 3), some (.ref h0), some (.int pw), v5, some (.ref p0), v7, v8, none]) ⟨PsG.start hp0, _, _, _, rfl⟩ ?_ ?_⟩
    · rintro i σ H' hi ⟨pg, v5', v7, v8, rfl⟩
      rw [show (0 + (i : Int)) = i by omega]
      rw [b1]
      refine seq_of fun U2 u2 => ?_
      walk_at "rd"
      refine ⟨a, ns, _, _, rfl, (gB.trans pg.same).seq hS, hl, by decide, by decide, by decide, fun v v0 v1 => ⟨.inl ⟨by decide, by decide⟩, v, rfl, ⟨by omega, by omega⟩, ?_⟩⟩
      obtain ⟨nb, hnb, nb0, nb1⟩ : ∃ nb : Int, v / (1 + 7 * (i : Int)) = nb ∧ 0 ≤ nb ∧ nb ≤ 1000003 := ⟨_, rfl, Int.ediv_nonneg v0 (by omega), by have := Int.ediv_le_self (1 + 7 * (i : Int)) v0; omega⟩
      rw [hnb]
      rw [u2]; clear u2
      refine seq_of fun U2 u2 => ?_
      walk_at "rd"
      refine ⟨by decide, fun p6 hp6 => ?_⟩
      have g6 := same_new hp6 (.lst [.int 0, .int 1, .int 2, .int 0, .int 4, .int 3])
      obtain ⟨w, hw, w0, w7⟩ := sixv (z := nb % 6) (Int.emod_nonneg _ (by decide)) (Int.emod_lt_of_pos _ (by decide))
      refine ⟨by decide, _, SqL.of upd_same, .int w, hw, w, rfl, .inl ⟨by omega, by omega⟩, ?_⟩
      have pg6 := pg.mono g6
      generalize upd H' p6 (.lst [.int 0, .int 1, .int 2, .int 0, .int 4, .int 3]) = H6 at g6 pg6 ⊢
      rw [u2]; clear u2
      obtain ⟨ts6, ps6, pl6, gg6, e6, _⟩ := pg6.ex
      walk_at "rd"
      refine ⟨.inl ⟨rfl, _, SqL.of e6⟩, by decide, fun p4 hp4 => ?_⟩
      obtain ⟨u, hu, uu0, uu1⟩ := fourv (z := nb % 4) (n := nb) (Int.emod_nonneg _ (by decide)) (Int.emod_lt_of_pos _ (by decide)) nb0 nb1
      have nt0 := Int.emod_nonneg (nb / 6) (b := 2) (by decide)
      have nt1 := Int.emod_lt_of_pos (nb / 6) (b := 2) (by decide)
      refine ⟨by decide, _, SqL.of upd_same, .int u, hu, ⟨by decide, by decide⟩, by decide, by decide, fun t ht => ?_⟩
      exact (pg6.mono (same_new hp4 _)).step (q := (w * pw, u, nb / 6 % 2)) hp0 (by omega) ht ⟨okH_mul w0 w7 pw0 pw1, ⟨uu0, uu1⟩, ⟨nt0, by show nb / 6 % 2 ≤ 1; omega⟩⟩
    rintro σ HD ⟨pg, v5', v7, v8, rfl⟩
    obtain ⟨ts, ps, pl, gD, eD, hP, okp⟩ := pg.ex
    rw [u1]; clear u1
    refine seq_of fun U1 u1 => ?_
    walk_at "rd"
    refine ⟨a, ns, _, _, rfl, (gB.trans gD).seq hS, hl, by decide, by decide, by decide, fun dd dd0 dd6 => ?_⟩
    refine ⟨_, rfl, ?_⟩
    rw [u1]; clear u1
    refine seq_of fun U1 u1 => whil_of fun B1 b1 => ?_
    walk_at "rd"
    refine ⟨WardL H h0 p0 ts ps (fun d => [some (.ref a), some (.int mo), some (.int 3), some (.ref h0), some (.int pw), v5', some (.ref p0), v7, v8, some (.int d)]), ⟨_, 1 + dd, hs, rfl, gB.trans gD, gD _ _ eB, eD, hP, by omega, by omega, by omega, hok, rfl⟩, ?_⟩
    rintro m σ H' ⟨d, hs', rfl, g, e1, e2, hP', d1, d6, h4, hok', rfl⟩
    have n3 : ps.length ≤ 3 := by omega
    refine ⟨_, rfl, _, rfl, _, rfl, h0, p0, d, hs', ts, ps, rfl, e1, e2, hP', by omega, d1, by omega, by omega, hok', okp, fun r us ss H2 g2 hr er hSs sok sl => ?_⟩
    refine ⟨r, us, ss, rfl, er, hSs, (fun s hs => by have := (sok s hs).len; omega), fun v hv => ?_⟩
    refine ⟨_, rfl, v, rfl, mo, rfl, ?_⟩
    split
    · rename_i hlt
      refine ⟨fun σ' H3 => ∃ m', m' < d.toNat + hs'.length ∧ WardL H h0 p0 ts ps (fun d => [some (.ref a), some (.int mo), some (.int 3), some (.ref h0), some (.int pw), v5', some (.ref p0), v7, v8, some (.int d)]) m' σ' H3, fun σ' H3 z => z, ?_⟩
      rw [b1]
      walk_at "rd"
      split
      · rename_i hd1
        refine ⟨_, ?_, d - 1, hs', rfl, g.trans g2, g2 _ _ e1, g2 _ _ e2, hP'.mono g2, by omega, by omega, h4, hok', rfl⟩
        omega
      · rename_i hd1
        have hne : 0 < hs'.length := by
          rcases Nat.eq_zero_or_pos hs'.length with z | z
          · rw [z, Nat.mul_zero] at sl
            have := hv (List.eq_nil_of_length_eq_zero sl)
            omega
          · exact z
        have n0p : p0 ≠ h0 := (ne_of_none eB hp0).symm
        have hlt2 : hs'.length - 1 < hs'.length := by omega
        refine ⟨.inl ⟨rfl, _, SqL.of (g2 _ _ e1)⟩, _, g2 _ _ e1, .int hs'[hs'.length - 1], by rw [List.length_map, List.getElem?_map, List.getElem?_eq_getElem hlt2]; rfl, _, ?_, d, hs'.dropLast, rfl, same_upd hh0 (g.trans g2) _, by rw [upd_same, List.map_dropLast], by rw [upd_ne n0p]; exact g2 _ _ e2, Posts.tmono (tups_lst (g2 _ _ e1)) (hP'.mono g2), d1, d6, by rw [List.length_dropLast]; omega, fun x hx => hok' x ((List.dropLast_sublist hs').subset hx), rfl⟩
        rw [List.length_dropLast]
        omega
    · rw [u1]; clear u1
      walk_at "rd"
      refine ⟨by decide, fun t ht => ?_⟩
      have gt := same_new ht (.tup [.int d, .ref h0, .ref p0])
      exact q t h0 p0 d hs' ts ps _ ((g.trans g2).trans gt) upd_same (gt _ _ (g2 _ _ e1)) (gt _ _ (g2 _ _ e2)) (hP'.mono (g2.trans gt)) ⟨d1, by omega, hok', by omega, okp, by omega⟩ h4 n3 d6
def sp__law_old (K : PySem.W.Frag) (C_Ward C_Near C_Rule : Addr) : Sp := fun vs H Q _ => ∃ (a pa : Addr) (ns : List Int) (d : Int) (n : Nat) (ts : List V), vs = [.ref a, .int d, .int n, .ref pa] ∧ SqL K H a (ns.map V.int) ∧ ns.length ≤ 63 ∧ H pa = some (.lst ts) ∧ 1 ≤ d ∧ d ≤ 31 ∧ n ≤ 8 ∧ ∀ r us rows H', Same H H' → H r = none → H' r = some (.lst us) → Rows H' us rows → us.Nodup → (∀ t, V.ref t ∈ us → t ≠ r ∧ H t = none) → RotaOk d n ts.length rows → Q (.ref r) H'
theorem sc__law_old : FnScope ["_law_script", "_law_days", "_law_many", "_law_posts", "_law_old_here", "_law_hand"] ["_law_script", "_law_days", "_law_many", "_law_posts"] (defScope s__law_old) := ⟨rfl, rfl, rfl, by decide +kernel, rfl, by decide +kernel, by decide +kernel⟩
theorem ok__law_old {C_Ward : Addr} {C_Near : Addr} {C_Rule : Addr} {f : Addr} {fd : FuncData} (F : Fun K "_law_old" "_law_old" s__law_old f fd) (T : Txt K mg C_Ward C_Near C_Rule) (C__law_draw : Cal P w K mg base "_law_draw" ["_law_script", "_law_k", "_law_many"] 1 (sp__law_draw K C_Ward C_Near C_Rule)) : FnOk P w K mg base CX0 2 f fd ["_law_script", "_law_days", "_law_many", "_law_posts"] (sp__law_old K C_Ward C_Near C_Rule) := by
  refine F.ok sc__law_old (fun vs H Q E h => ?_) (fun cdv A outer s H vs Q E hr h => ?_)
  · obtain ⟨a, pa, ns, d, n, ts, rfl, _⟩ := h
    rfl
  · obtain ⟨a, pa, ns, d, n, ts, rfl, hS, hl, ep, d1, d2, n8, q⟩ := h
    refine ⟨_, (pss_cons (ps_set (i := 4) sc__law_old.nd rfl (Or.inl rfl) (pe_lst pa_nil))
    (pss_cons (ps_for PassesOwn.never rfl (pi_range1 rfl T.range (pa_cons (pv 2) pa_nil)) (pg_name (i := 5) sc__law_old.nd rfl (Or.inr rfl))
      (pss_one (ps_expr (pe_bm PySem.F.plainAttrs_list PySem.F.slot_list_append PySem.F.type_list_append mt_append (pv 4) (pa_cons (pe_comp (own := ["_law_day"]) (fnames := ["_law_script", "_law_posts", "_law_hand"]) (fr := [0, 3, 5]) (N' := ["_law_day", "_law_script", "_law_posts", "_law_hand"]) ⟨rfl, rfl, rfl, rfl, rfl, rfl, rfl⟩ rfl (pi_range1 rfl T.range (pa_cons (pv 1) pa_nil)) (fun s0 H0 fp0 C0 => ⟨(pg_name (i := 0) (by show (["_law_day", "_law_script", "_law_posts", "_law_hand"] : List Str).Nodup; decide +kernel) rfl (Or.inl rfl)), pts_nil, (pe_cal C__law_draw (hr.mono (by decide)) rfl (pa_cons (pv 1) (pa_cons (pe_op op_add (pe_op op_add pe_int (pe_op op_mul pe_int (pv 0))) (pv 3)) (pa_cons (pe_op op_add (pe_callB (call_lenK (K := K) rfl) (by rfl) T.len PySem.boot_len (pa_cons (pv 2) pa_nil)) pe_int) pa_nil))))⟩)) pa_nil)))))
    (pss_one (ps_ret (pv 4))))), ?_⟩
    refine seq_of fun U1 u1 => ?_
    walk_at "rd"
    refine ⟨Nat.zero_le _, fun p hp => ?_⟩
    rw [u1]; clear u1
    refine seq_of fun U1 u1 => for_of fun B1 b1 => ?_
    walk_at "rd"
    refine ⟨by omega, by omega, for_rangeW (fun i σ H' => GatN H p (fun row => (row.length : Int) = d ∧ ∀ x ∈ row, 0 ≤ x ∧ x ≤ (ts.length : Int)) i H' ∧ ∃ v5, σ = [some (.ref a), some (.int d), some (.int n), some (.ref pa), some (.ref p), v5]) ⟨GatN.start hp, none, rfl⟩ ?_ ?_⟩
    · rintro i σ H' hi ⟨gn, v5, rfl⟩
      rw [show (0 + (i : Int)) = i by omega]
      rw [Int.toNat_natCast] at hi
      obtain ⟨us0, _, _, g0, e0, _⟩ := gn.ex
      rw [b1]
      walk_at "rd"
      refine ⟨.inl ⟨rfl, _, SqL.of e0⟩, by omega, by omega, fun D hD => for_rangeW (fun j σ H2 => ∃ (row : List Int) (v0 : Option V), H2 = upd H' D (.lst (row.map V.int)) ∧ row.length = j ∧ (∀ x ∈ row, 0 ≤ x ∧ x ≤ (ts.length : Int)) ∧ σ = [v0, some (.ref a), some (.ref pa), some (.int i)]) ⟨[], none, rfl, rfl, (fun x z => by cases z), rfl⟩ ?_ ?_⟩
      · rintro j σ H2 hj ⟨row, v0, rfl, hl2, hb, rfl⟩
        rw [show (0 + (j : Int)) = j by omega]
        have gD := g0.trans (same_new hD (.lst (row.map V.int)))
        walk_at "rd"
        refine ⟨.inl ⟨by decide, by decide⟩, _, .inl (SqL.of (gD _ _ ep)), a, ns, _, _, rfl, gD.seq hS, hl, by omega, by omega, by omega, fun v v0' v1' => ?_⟩
        refine ⟨_, upd_same, small1000 (by rw [List.length_map]; omega), row ++ [v], by rw [upd_upd, List.map_append]; rfl, by rw [List.length_append, hl2]; rfl, fun x hx => ?_⟩
        rcases List.mem_append.mp hx with z | z
        · exact hb x z
        · rw [List.mem_singleton.mp z]; omega
      · rintro σ H2 ⟨row, v0, rfl, hl2, hb, rfl⟩
        walk_at "rd"
        exact gn.step hp (by omega) (same_new hD _) hD upd_same ⟨by omega, hb⟩
    rintro σ H' ⟨gn, v5, rfl⟩
    rw [u1]; clear u1
    walk_at "rd"
    obtain ⟨us, rows, rl, g, e, hR, hPr, nd, fr⟩ := gn.ex
    rw [Int.toNat_natCast] at rl
    exact q p us rows H' g hp e hR nd fr ⟨rl, fun r hr => (hPr r hr).1, fun r hr => (hPr r hr).2⟩
def sp__law_spoilt (K : PySem.W.Frag) (C_Ward C_Near C_Rule : Addr) : Sp := fun vs H Q _ => ∃ (a r pa : Addr) (ns : List Int) (us ts : List V) (rows : List (List Int)) (d : Int) (hs : List Int) (ps : List Pst), vs = [.ref a, .ref r, .ref pa] ∧ SqL K H a (ns.map V.int) ∧ ns.length ≤ 63 ∧ H pa = some (.lst ts) ∧ Posts H ts ps ∧ H r = some (.lst us) ∧ Rows H us rows ∧ us.Nodup ∧ (∀ t, V.ref t ∈ us → t ≠ r) ∧ RotaOk d hs.length ps.length rows ∧ 1 ≤ d ∧ d ≤ 31 ∧ hs.length ≤ 8 ∧ ps.length ≤ 6 ∧ ∀ us' rows' H', NoL H H' → H' r = some (.lst us') → Rows H' us' rows' → rows'.length ≤ 9 → (∀ x ∈ rows', x.length ≤ 32) → okO d hs ps rows' = false → Q .non H'
theorem sc__law_spoilt : FnScope ["_law_script", "_law_old_here", "_law_posts", "_law_way", "_law_row", "_law_day"] ["_law_script", "_law_old_here", "_law_posts"] (defScope s__law_spoilt) := ⟨rfl, rfl, rfl, by decide +kernel, rfl, by decide +kernel, by decide +kernel⟩
theorem ok__law_spoilt {C_Ward : Addr} {C_Near : Addr} {C_Rule : Addr} {f : Addr} {fd : FuncData} (F : Fun K "_law_spoilt" "_law_spoilt" s__law_spoilt f fd) (T : Txt K mg C_Ward C_Near C_Rule) (C__law_draw : Cal P w K mg base "_law_draw" ["_law_script", "_law_k", "_law_many"] 1 (sp__law_draw K C_Ward C_Near C_Rule)) : FnOk P w K mg base CX0 2 f fd ["_law_script", "_law_old_here", "_law_posts"] (sp__law_spoilt K C_Ward C_Near C_Rule) := by
  refine F.ok sc__law_spoilt (fun vs H Q E h => ?_) (fun cdv A outer s H vs Q E hr h => ?_)
  · obtain ⟨a, r, pa, ns, us, ts, rows, d, hs, ps, rfl, _⟩ := h
    rfl
  · obtain ⟨a, r, pa, ns, us, ts, rows, d, hs, ps, rfl, hS, hl, ep, hP, er, hR, nd, nu, ok, d1, d2, h8, p6, q⟩ := h
    refine ⟨_, (pss_cons (ps_set (i := 3) sc__law_spoilt.nd rfl (Or.inl rfl) (pe_cal C__law_draw (hr.mono (by decide)) rfl (pa_cons (pv 0) (pa_cons pe_int (pa_cons pe_int pa_nil)))))
    (pss_cons (ps_if (PW.pt (pw_or (pt_cmpR op_eq (pv 3) pe_int (nomark _)) (pw_or1 (pt_cmpR (op_eqD 1 hr) (pv 1) (pe_lst pa_nil) (nomark _))))) (pss_cons (ps_expr (pe_bm PySem.F.plainAttrs_list PySem.F.slot_list_insert PySem.F.type_list_insert mt_insert (pv 1) (pa_cons (pe_cal C__law_draw (hr.mono (by decide)) rfl (pa_cons (pv 0) (pa_cons pe_int (pa_cons (pe_op op_add (pe_callB (call_lenK (K := K) rfl) (by rfl) T.len PySem.boot_len (pa_cons (pv 1) pa_nil)) pe_int) pa_nil)))) (pa_cons (pe_comp (own := ["_law_day"]) (fnames := []) (fr := []) (N' := ["_law_day"]) ⟨rfl, rfl, rfl, rfl, rfl, rfl, rfl⟩ rfl (pi_range1 rfl T.range (pa_cons (pe_op op_add pe_int (pe_cal C__law_draw (hr.mono (by decide)) rfl (pa_cons (pv 0) (pa_cons pe_int (pa_cons pe_int pa_nil))))) pa_nil)) (fun s0 H0 fp0 C0 => ⟨(pg_name (i := 0) (by show (["_law_day"] : List Str).Nodup; decide +kernel) rfl (Or.inl rfl)), pts_nil, pe_int⟩)) pa_nil))))
      (pss_one ps_retN)) pss_nil)
    (pss_cons (ps_set (i := 4) sc__law_spoilt.nd rfl (Or.inl rfl) (pe_ix ix_list (pv 1) (pe_cal C__law_draw (hr.mono (by decide)) rfl (pa_cons (pv 0) (pa_cons pe_int (pa_cons (pe_callB (call_lenK (K := K) rfl) (by rfl) T.len PySem.boot_len (pa_cons (pv 1) pa_nil)) pa_nil)))) (fun _ _ => rfl)))
    (pss_cons (ps_set (i := 5) sc__law_spoilt.nd rfl (Or.inl rfl) (pe_cal C__law_draw (hr.mono (by decide)) rfl (pa_cons (pv 0) (pa_cons pe_int (pa_cons (pe_callB (call_lenK (K := K) rfl) (by rfl) T.len PySem.boot_len (pa_cons (pv 4) pa_nil)) pa_nil)))))
    (pss_cons (ps_if (pt_cmpR op_eq (pv 3) pe_int (nomark _)) (pss_one (ps_expr (pe_bm PySem.F.plainAttrs_list PySem.F.slot_list_insert PySem.F.type_list_insert mt_insert (pv 4) (pa_cons (pv 5) (pa_cons pe_int pa_nil))))) pss_nil)
    (pss_cons (ps_if (pt_cmpR op_eq (pv 3) pe_int (nomark _)) (pss_one (ps_expr (pe_bm PySem.F.plainAttrs_list PySem.F.slot_list_pop PySem.F.type_list_pop mt_popAt (pv 4) (pa_cons (pv 5) pa_nil)))) pss_nil)
    (pss_cons (ps_if (pt_cmpR op_eq (pv 3) pe_int (nomark _)) (pss_one (ps_asg (pe_op op_sub (pe_un un_neg pe_int) (pe_cal C__law_draw (hr.mono (by decide)) rfl (pa_cons (pv 0) (pa_cons pe_int (pa_cons (pe_op op_pow pe_int pe_int) pa_nil))))) (pg_sub (pv 4) (pv 5) set_list))) pss_nil)
    (pss_one (ps_if (pt_cmpR op_eq (pv 3) pe_int (nomark _)) (pss_one (ps_asg (pe_op op_add (pe_op op_add (pe_callB (call_lenK (K := K) rfl) (by rfl) T.len PySem.boot_len (pa_cons (pv 2) pa_nil)) pe_int) (pe_cal C__law_draw (hr.mono (by decide)) rfl (pa_cons (pv 0) (pa_cons pe_int (pa_cons (pe_op op_pow pe_int pe_int) pa_nil))))) (pg_sub (pv 4) (pv 5) set_list))) pss_nil))))))))), ?_⟩
    refine seq_of fun U1 u1 => ?_
    walk_at "rd"
    refine ⟨a, ns, _, _, rfl, hS, hl, by decide, by decide, by decide, fun w w0 w5 => ?_⟩
    rw [u1]; clear u1
    refine seq_of fun U1 u1 => ?_
    walk_at "rd"
    have hul := hR.len
    have hrl := ok.len
    have fin0 : ∀ (Hx : Hp) (D : Addr), Same H Hx → H D = none → ∀ {row : List Int}, Hx D = some (.lst (row.map V.int)) → row.length ≤ 32 → ∀ pn : Nat, Q .non (upd Hx r (.lst (us.take pn ++ .ref D :: us.drop pn))) := fun Hx D g hD row eD hl32 pn => by
      have nDr : D ≠ r := (ne_of_none er hD).symm
      refine q (us.take pn ++ .ref D :: us.drop pn) (rows.take pn ++ row :: rows.drop pn) _ (fun c o' e nl => ?_) upd_same ?_ (by rw [len_ins]; omega) (fun x hx => ?_) ?_
      · rw [upd_ne (fun z => by rw [z, er] at e; cases e; exact nl _ rfl)]
        exact g _ _ e
      · refine (Rows.ins (row := row) pn (hR.mono g) ⟨D, rfl, eD⟩).off fun z => ?_
        rcases mem_ins z with z | z
        · exact nDr (V.ref.inj z).symm
        · exact nu r z rfl
      · rcases mem_ins hx with z | z
        · rw [z]; exact hl32
        · have := ok.rl x z; omega
      · unfold okO
        rw [decide_eq_false (by rw [len_ins]; omega)]
        rfl
    by_cases hw0 : w = 0
    · rw [if_pos hw0]
      have G : Same H H := Same.refl _
      refine ⟨.inl ⟨rfl, _, SqL.of (G _ _ er)⟩, _, .inl (SqL.of (G _ _ er)), a, ns, _, _, rfl, G.seq hS, hl, by decide, by decide, by omega, fun p10 p100 p101 => ?_⟩
      refine ⟨a, ns, _, _, rfl, G.seq hS, hl, by decide, by decide, by decide, fun p6 p60 p61 => ⟨_, rfl, by omega, by omega, fun D hD => for_rangeW (fun i σ H' => ∃ v0 : Option V, H' = upd H D (.lst ((List.replicate i (0 : Int)).map V.int)) ∧ σ = [v0]) ⟨none, rfl, rfl⟩ ?_ ?_⟩⟩
      · rintro i σ H' hi ⟨v0, rfl, rfl⟩
        walk_at "rd"
        exact ⟨_, upd_same, small1000 (by rw [List.length_map, List.length_replicate]; omega), by rw [upd_upd, List.replicate_succ', List.map_append]; rfl⟩
      · rintro σ H' ⟨v0, rfl, rfl⟩
        have gD := G.trans (same_new hD (.lst ((List.replicate (1 + p6).toNat (0 : Int)).map V.int)))
        obtain ⟨pn, hpn, hpl⟩ : ∃ pn : Nat, p10 = pn ∧ pn ≤ us.length := ⟨p10.toNat, by omega, by omega⟩
        refine ⟨us, p10, rfl, gD _ _ er, p100, by omega, small1000 (by omega), ?_⟩
        rw [hpn, Int.toNat_natCast]
        exact fin0 _ _ (G.trans (same_new hD _)) (G.free hD) (upd_same (o := .lst ((List.replicate (1 + p6).toNat (0 : Int)).map V.int))) (by rw [List.length_replicate]; omega) pn
    rw [if_neg hw0]
    refine ⟨Nat.zero_le _, fun p hp => ?_⟩
    have G := same_new hp (.lst [])
    refine ⟨_, _, _, _, rfl, rfl, den_rows (SqL.of (G _ _ er)) (hR.mono G), den_ints (ns := []) (SqL.of upd_same), like_nil, _, rfl, ?_⟩
    generalize upd H p (.lst []) = HY at G ⊢
    split
    · refine ⟨.inl ⟨rfl, _, SqL.of (G _ _ er)⟩, _, .inl (SqL.of (G _ _ er)), a, ns, _, _, rfl, G.seq hS, hl, by decide, by decide, by omega, fun p10 p100 p101 => ?_⟩
      refine ⟨a, ns, _, _, rfl, G.seq hS, hl, by decide, by decide, by decide, fun p6 p60 p61 => ⟨_, rfl, by omega, by omega, fun D hD => for_rangeW (fun i σ H' => ∃ v0 : Option V, H' = upd HY D (.lst ((List.replicate i (0 : Int)).map V.int)) ∧ σ = [v0]) ⟨none, rfl, rfl⟩ ?_ ?_⟩⟩
      · rintro i σ H' hi ⟨v0, rfl, rfl⟩
        walk_at "rd"
        exact ⟨_, upd_same, small1000 (by rw [List.length_map, List.length_replicate]; omega), by rw [upd_upd, List.replicate_succ', List.map_append]; rfl⟩
      · rintro σ H' ⟨v0, rfl, rfl⟩
        have gD := G.trans (same_new hD (.lst ((List.replicate (1 + p6).toNat (0 : Int)).map V.int)))
        obtain ⟨pn, hpn, hpl⟩ : ∃ pn : Nat, p10 = pn ∧ pn ≤ us.length := ⟨p10.toNat, by omega, by omega⟩
        refine ⟨us, p10, rfl, gD _ _ er, p100, by omega, small1000 (by omega), ?_⟩
        rw [hpn, Int.toNat_natCast]
        exact fin0 _ _ (G.trans (same_new hD _)) (G.free hD) (upd_same (o := .lst ((List.replicate (1 + p6).toNat (0 : Int)).map V.int))) (by rw [List.length_replicate]; omega) pn
    · rename_i he
      have n0 : 0 < rows.length := by
        cases rows with
        | nil => exact absurd (by unfold tD; simp [eqD]) he
        | cons x xs => exact Nat.succ_pos _
      clear he fin0
      rw [u1]; clear u1
      refine seq_of fun U1 u1 => ?_
      walk_at "rd"
      refine ⟨_, .inl (SqL.of (G _ _ er)), a, ns, _, _, rfl, G.seq hS, hl, by decide, by decide, by omega, fun h h0 h1 => ?_⟩
      obtain ⟨hn, rfl⟩ : ∃ hn : Nat, h = hn := ⟨h.toNat, by omega⟩
      have hnl : hn < rows.length := by omega
      obtain ⟨t', a', q'⟩ := hR.get (List.getElem?_eq_getElem hnl)
      refine ⟨us, _, rfl, SqL.of (G _ _ er), _, atI_nat a', ?_⟩
      have hrow := ok.rl _ (List.getElem_mem hnl)
      have tm := List.mem_of_getElem? a'
      have fin1 : ∀ row' : List Int, row'.length ≤ 32 → okR d ps row' = false → Q .non (upd HY t' (.lst (row'.map V.int))) := fun row' hl' hb => by
        refine q us (rows.set hn row') _ (fun c o' e nl => ?_) (by rw [upd_ne (nu t' tm).symm]; exact G _ _ er) (Rows.put (hR.mono G) nd a') (by rw [List.length_set]; omega) (fun x hx => ?_) (okO_row (List.mem_of_getElem? (by rw [List.getElem?_set_self hnl])) hb)
        · rw [upd_ne (fun z => by rw [z, q'] at e; cases e; exact nl _ rfl)]
          exact G _ _ e
        · rcases List.mem_or_eq_of_mem_set hx with z | z
          · have := ok.rl x z
            omega
          · rw [z]; exact hl'
      rw [u1]; clear u1
      refine seq_of fun U1 u1 => ?_
      walk_at "rd"
      refine ⟨_, .inl (SqL.of (G _ _ q')), a, ns, _, _, rfl, G.seq hS, hl, by decide, by decide, by rw [List.length_map]; omega, fun dy dy0 dy1 => ?_⟩
      rw [List.length_map] at dy1
      obtain ⟨dn, rfl⟩ : ∃ dn : Nat, dy = dn := ⟨dy.toNat, by omega⟩
      have dnl : dn < rows[hn].length := by omega
      rw [u1]; clear u1
      obtain rfl | rfl | rfl | rfl : w = 1 ∨ w = 2 ∨ w = 3 ∨ w = 4 := by omega
      · refine seq_of fun U1 u1 => ?_
        walk_at "rd"
        refine ⟨.inl ⟨rfl, _, SqL.of (G _ _ q')⟩, _, G _ _ q', by omega, by rw [List.length_map]; omega, small1000 (by rw [List.length_map]; omega), ?_⟩
        rw [u1]; clear u1
        refine seq_of fun U1 u1 => ?_
        walk_at "rd"
        rw [if_neg (by decide)]
        rw [u1]; clear u1
        refine seq_of fun U1 u1 => ?_
        walk_at "rd"
        rw [if_neg (by decide)]
        rw [u1]; clear u1
        walk_at "rd"
        rw [if_neg (by decide)]
        rw [Int.toNat_natCast]
        have z := fin1 (rows[hn].take dn ++ 0 :: rows[hn].drop dn) (by rw [len_ins]; omega) (okR_len (by rw [len_ins]; omega))
        rw [List.map_append, List.map_take, List.map_cons, List.map_drop] at z
        exact z
      · refine seq_of fun U1 u1 => ?_
        walk_at "rd"
        rw [if_neg (by decide)]
        rw [u1]; clear u1
        refine seq_of fun U1 u1 => ?_
        walk_at "rd"
        refine ⟨.inl ⟨rfl, _, SqL.of (G _ _ q')⟩, _, G _ _ q', by omega, by omega, dn, (ixN_seq (ixN_lt (by rw [List.length_map]; exact dnl))).1, .int rows[hn][dn], by rw [List.getElem?_map, List.getElem?_eq_getElem dnl]; rfl, ?_⟩
        rw [u1]; clear u1
        refine seq_of fun U1 u1 => ?_
        walk_at "rd"
        rw [if_neg (by decide)]
        rw [u1]; clear u1
        walk_at "rd"
        rw [if_neg (by decide)]
        have z := fin1 (rows[hn].eraseIdx dn) (by rw [List.length_eraseIdx_of_lt dnl]; omega) (okR_len (by rw [List.length_eraseIdx_of_lt dnl]; omega))
        rw [← eraM] at z
        exact z
      · refine seq_of fun U1 u1 => ?_
        walk_at "rd"
        rw [if_neg (by decide)]
        rw [u1]; clear u1
        refine seq_of fun U1 u1 => ?_
        walk_at "rd"
        rw [if_neg (by decide)]
        rw [u1]; clear u1
        refine seq_of fun U1 u1 => ?_
        walk_at "rd"
        refine ⟨⟨by decide, by decide, by decide⟩, a, ns, _, _, rfl, G.seq hS, hl, by decide, by decide, by decide, fun v v0 v1 => ⟨v, rfl, _, G _ _ q', dn, ixN_lt (by rw [List.length_map]; exact dnl), ?_⟩⟩
        rw [u1]; clear u1
        walk_at "rd"
        rw [if_neg (by decide)]
        rw [← List.map_set]
        exact fin1 _ (by rw [List.length_set]; omega) (okR_val (List.mem_of_getElem? (List.getElem?_set_self dnl)) (.inl (by omega)))
      · refine seq_of fun U1 u1 => ?_
        walk_at "rd"
        rw [if_neg (by decide)]
        rw [u1]; clear u1
        refine seq_of fun U1 u1 => ?_
        walk_at "rd"
        rw [if_neg (by decide)]
        rw [u1]; clear u1
        refine seq_of fun U1 u1 => ?_
        walk_at "rd"
        rw [if_neg (by decide)]
        rw [u1]; clear u1
        walk_at "rd"
        refine ⟨_, .inl (SqL.of (G _ _ ep)), ⟨by decide, by decide, by decide⟩, a, ns, _, _, rfl, G.seq hS, hl, by decide, by decide, by decide, fun v v0 v1 => ⟨v, rfl, _, G _ _ q', dn, ixN_lt (by rw [List.length_map]; exact dnl), ?_⟩⟩
        rw [← List.map_set]
        have htl := hP.len
        exact fin1 _ (by rw [List.length_set]; omega) (okR_val (List.mem_of_getElem? (List.getElem?_set_self dnl)) (.inr (by omega)))
def sp__law_whole (_ : PySem.W.Frag) (C_Ward C_Near C_Rule : Addr) : Sp := fun vs H Q _ => ∃ i : Int, vs = [.int i] ∧ Q (.bl true) H
theorem sc__law_whole : FnScope ["_law_found"] ["_law_found"] (defScope s__law_whole) := ⟨rfl, rfl, rfl, by decide +kernel, rfl, by decide +kernel, by decide +kernel⟩
theorem ok__law_whole {C_Ward : Addr} {C_Near : Addr} {C_Rule : Addr} {f : Addr} {fd : FuncData} (F : Fun K "_law_whole" "_law_whole" s__law_whole f fd) (T : Txt K mg C_Ward C_Near C_Rule)  : FnOk P w K mg base CX0 1 f fd ["_law_found"] (sp__law_whole K C_Ward C_Near C_Rule) := by
  refine F.ok sc__law_whole (fun vs H Q E h => ?_) (fun cdv A outer s H vs Q E hr h => ?_)
  · obtain ⟨i, rfl, _⟩ := h
    rfl
  · obtain ⟨i, rfl, q⟩ := h
    refine ⟨_, (pss_one (ps_ret (pe_and (pe_callB call_isi (by rfl) T.isinstance PyProof.Rows.boot_isinstance (pa_cons (pv 0) (pa_cons (pe_bltn (v := .ty "int") rfl T.int PyProof.Rows.boot_int rfl) pa_nil))) (pe_one (pe_not (pe_callB call_isi (by rfl) T.isinstance PyProof.Rows.boot_isinstance (pa_cons (pv 0) (pa_cons (pe_bltn (v := .ty "bool") rfl T.bool PyProof.Rows.boot_bool rfl) pa_nil)))))))), ?_⟩
    walk_at "rd"
    exact q
def sp__law_priced (K : PySem.W.Frag) (C_Ward C_Near C_Rule : Addr) : Sp := fun vs H Q _ => ∃ (x y s o : Addr) (us ws : List V) (ss : List Spo) (rows : List (List Int)) (d m : Int) (hs : List Int) (ps : List Pst), vs = [.ref x, .ref y, .ref s, .ref o, .int m] ∧ NearAt C_Near H x rows m ∧ WardAt C_Ward H y d hs ps ∧ H s = some (.lst us) ∧ Spos H us ss ∧ H o = some (.lst ws) ∧ Rows H ws rows ∧ RotaOk d hs.length ps.length rows ∧ (∀ z ∈ ss, SpoOk hs.length d ps.length z) ∧ 1 ≤ d ∧ d ≤ 6 ∧ hs.length ≤ 8 ∧ ps.length ≤ 3 ∧ ∀ H', Same H H' → Q (.bl true) H'
theorem sc__law_priced : FnScope ["_law_one", "_law_ward_here", "_law_spots_here", "_law_old_here", "_law_many", "_law_price", "_law_cell", "_law_some", "_law_value", "_law_cost"] ["_law_one", "_law_ward_here", "_law_spots_here", "_law_old_here", "_law_many"] (defScope s__law_priced) := ⟨rfl, rfl, rfl, by decide +kernel, rfl, by decide +kernel, by decide +kernel⟩
theorem ok__law_priced {C_Ward : Addr} {C_Near : Addr} {C_Rule : Addr} {f : Addr} {fd : FuncData} (F : Fun K "_law_priced" "_law_priced" s__law_priced f fd) (T : Txt K mg C_Ward C_Near C_Rule) (M_Near_price : CalM P w K mg base C_Near "price" ["self", "ward"] 2 (sp_Near_price K C_Ward C_Near C_Rule)) (C__law_whole : Cal P w K mg base "_law_whole" ["_law_found"] 1 (sp__law_whole K C_Ward C_Near C_Rule)) (M_Near_plain : CalM P w K mg base C_Near "plain" ["self", "ward"] 1 (sp_Rule_plain K C_Ward C_Near C_Rule)) (M_Near_told : CalM P w K mg base C_Near "told" ["self"] 1 (sp_Rule_told K C_Ward C_Near C_Rule)) : FnOk P w K mg base CX0 3 f fd ["_law_one", "_law_ward_here", "_law_spots_here", "_law_old_here", "_law_many"] (sp__law_priced K C_Ward C_Near C_Rule) := by
  refine F.ok sc__law_priced (fun vs H Q E h => ?_) (fun cdv A outer s H vs Q E hr h => ?_)
  · obtain ⟨x, y, s, o, us, ws, ss, rows, d, m, hs, ps, rfl, _⟩ := h
    rfl
  · obtain ⟨x, y, s, o, us, ws, ss, rows, d, m, hs, ps, rfl, hN, hW, es, hS, eo, hR, ok, hso, d1, d6, h8, p3, k⟩ := h
    refine ⟨_, (pss_cons (ps_set (i := 5) sc__law_priced.nd rfl (Or.inl rfl) (pe_methC M_Near_price (hr.mono (by decide)) (pv 0) (pa_cons (pv 1) pa_nil)))
    (pss_cons (ps_if (PW.pt (pw_or (pt_not (pt_val (pe_callB call_isi (by rfl) T.isinstance PyProof.Rows.boot_isinstance (pa_cons (pv 5) (pa_cons (pe_bltn (v := .ty "tuple") rfl T.tuple PyProof.Rows.boot_tuple rfl) pa_nil))))) (pw_or (pt_cmpR op_ne (pe_callB (call_lenK (K := K) rfl) (by rfl) T.len PySem.boot_len (pa_cons (pv 5) pa_nil)) pe_int (nomark _)) (pw_or (pt_not (pt_val (pe_callB call_isd (by rfl) T.isinstance PyProof.Rows.boot_isinstance (pa_cons (pe_ix ix_tup (pv 5) pe_int (fun _ _ => rfl)) (pa_cons (pe_bltn (v := .ty "dict") rfl T.dict PyProof.Rows.boot_dict rfl) pa_nil))))) (pw_or1 (pt_cmpR op_ne (pe_ix ix_tup (pv 5) pe_int (fun _ _ => rfl)) (pv 4) (nomark _))))))) (pss_one (ps_ret pe_bl)) pss_nil)
    (pss_cons (ps_for PassesOwn.never rfl (pi_list (pv 2)) (pg_tup (n := 2) rfl (pgs_cons (pg_name (i := 6) sc__law_priced.nd rfl (Or.inl rfl)) (pgs_cons (pg_name (i := 7) sc__law_priced.nd rfl (Or.inl rfl)) pgs_nil)))
      (pss_one (ps_for PassesOwn.never rfl (pi_list (pv 7)) (pg_name (i := 8) sc__law_priced.nd rfl (Or.inl rfl))
          (pss_cons (ps_set (i := 9) sc__law_priced.nd rfl (Or.inl rfl) (pe_dget2 (hu_of hr) (pe_ix ix_tup (pv 5) pe_int (fun _ _ => rfl)) (pe_tup (pa_cons (pe_ix ix_tup (pv 6) pe_int (fun _ _ => rfl)) (pa_cons (pe_ix ix_tup (pv 6) pe_int (fun _ _ => rfl)) (pa_cons (pv 8) pa_nil)))) pe_int ⟨rfl, rfl, rfl, rfl⟩))
            (pss_one (ps_if (PW.pt (pw_or (pt_not (pt_val (pe_cal C__law_whole (hr.mono (by decide)) rfl (pa_cons (pv 9) pa_nil)))) (pw_or1 (pt_cmpR op_ne (pv 9) (pe_callTy call_int1 (by rfl) T.int PyProof.Rows.boot_int (pa_cons (pe_cmpR op_ne (pv 8) (pe_ix ix_list (pe_ix ix_list (pv 3) (pe_ix ix_tup (pv 6) pe_int (fun _ _ => rfl)) (fun _ _ => rfl)) (pe_ix ix_tup (pv 6) pe_int (fun _ _ => rfl)) (fun _ _ => rfl)) (nomark _)) pa_nil)) (nomark _))))) (pss_one (ps_ret pe_bl)) pss_nil))))))
    (pss_cons (ps_expr (pe_bm0 PySem.F.plainAttrs_dict PySem.F.slot_dict_clear PySem.F.type_dict_clear mt_dclearT (pe_ix ix_tup (pv 5) pe_int (fun _ _ => rfl))))
    (pss_one (ps_ret (pe_and (pe_cal C__law_whole (hr.mono (by decide)) rfl (pa_cons (pe_ix ix_tup (pv 5) pe_int (fun _ _ => rfl)) pa_nil)) (pe_and (pe_cmpR op_isN (pe_methC M_Near_plain (hr.mono (by decide)) (pv 0) (pa_cons (pv 1) pa_nil)) pe_non (nomark _)) (pe_one (pe_cmpR op_eq (pe_methC0 M_Near_told (hr.mono (by decide)) (pv 0)) pe_str (nomark _))))))))))), ?_⟩
    refine seq_of fun U1 u1 => ?_
    walk_at "rd"
    obtain ⟨dx, ot, vso, e1, e2, hTT⟩ := hN.ex
    refine ⟨_, _, e1, nf_no _ _ (by decide +kernel) (by decide +kernel), x, y, d, m, hs, ps, rows, rfl, hN, hW, by have := ok.len; omega, (fun r hr => by have := ok.rl r hr; omega), p3, fun t dd kvs H1 g1 hdd et ed hK => ?_⟩
    rw [u1]; clear u1
    refine seq_of fun U1 u1 => ?_
    walk_at "rd"
    refine ⟨"tuple", .inr ⟨rfl, _, et⟩, ?_⟩
    rw [if_neg (by decide)]
    refine ⟨_, .inr (SqT.of et), ?_⟩
    rw [if_neg (by simp)]
    refine ⟨_, SqT.of et, _, rfl, dd, rfl, kvs, ed, _, SqT.of et, _, rfl, rfl, ?_⟩
    rw [if_neg (fun z => z rfl)]
    rw [u1]; clear u1
    refine seq_of fun U1 u1 => for_of fun B1 b1 => ?_
    walk_at "rd"
    refine ⟨⟨_, SqL.of (g1 _ _ es)⟩, for_listW (xs := us) (fun i σ H' => Same H1 H' ∧ ∃ v6 v7 v8 v9, σ = [some (.ref x), some (.ref y), some (.ref s), some (.ref o), some (.int m), some (.ref t), v6, v7, v8, v9]) ⟨Same.refl _, none, none, none, none, rfl⟩ (fun i σ H' _ hh => SqL.of (hh.1 _ _ (g1 _ _ es))) ?_ ?_⟩
    · rintro i v σ H2 hx ⟨g2, v6, v7, v8, v9, rfl⟩
      obtain ⟨sp, hsp, t', u', l', rfl, q1, q2, q3⟩ := Paired.get' hS hx
      have sok := hso sp (List.mem_of_getElem? hsp)
      have g02 := g1.trans g2
      walk_at "rd"
      refine ⟨_, SqT.of (g02 _ _ q1), rfl, _, _, rfl, _, _, rfl, rfl, ?_⟩
      rw [b1]
      refine for_of fun B2 b2 => ?_
      walk_at "rd"
      refine ⟨⟨_, SqL.of (g02 _ _ q3)⟩, for_listW (xs := sp.2.2.map V.int) (fun j σ H3 => Same H1 H3 ∧ ∃ v8 v9, σ = [some (.ref x), some (.ref y), some (.ref s), some (.ref o), some (.int m), some (.ref t), some (.ref u'), some (.ref l'), v8, v9]) ⟨g2, v8, v9, rfl⟩ (fun j σ H3 _ hh => SqL.of ((g1.trans hh.1) _ _ q3)) ?_ ?_⟩
      · rintro j v σ H3 hv ⟨g3, v8, v9, rfl⟩
        obtain ⟨z, hz, rfl⟩ := map_item hv
        have hzb := sok.v z (List.mem_of_getElem? hz)
        have g03 := g1.trans g3
        rw [b2]
        refine seq_of fun U3 u3 => ?_
        walk_at "rd"
        refine ⟨_, SqT.of (g3 _ _ et), _, rfl, dd, rfl, .inr ⟨_, .inl (g3 _ _ ed)⟩, _, SqT.of (g03 _ _ q2), _, rfl, _, SqT.of (g03 _ _ q2), _, rfl, by decide, fun p hp => ?_⟩
        have gp := same_new hp (.tup [.int (sp.1 : Int), .int (sp.2.1 : Int), .int z])
        refine ⟨_, DGet.t (k := kk sp.1 sp.2.1 z) (gp _ _ (g3 _ _ ed)) upd_same, ?_⟩
        have hsr : sp.1 < rows.length := by have := sok.h; have := ok.len; omega
        have hsd : sp.2.1 < rows[sp.1].length := by have := sok.d; have := ok.rl _ (List.getElem_mem hsr); omega
        have hcv := cst_vls (P := ps.length) (n := rows.length) (rows := rows) (h := sp.1) (d := sp.2.1) (o := z) hsr (by rw [List.getElem?_eq_getElem hsr, Option.getD_some]; exact hsd) hzb.1 hzb.2
        have ev : val rows sp.1 sp.2.1 = rows[sp.1][sp.2.1] := val_of (List.getElem?_eq_getElem hsr) hsd
        have hc : (valV kvs (kk sp.1 sp.2.1 z)).getD (.int 0) = .int (if z = rows[sp.1][sp.2.1] then 0 else 1) := by
          by_cases y : z = rows[sp.1][sp.2.1]
          · rw [if_pos y, hK.n _ _ _ fun w => hcv.mp w (by rw [ev]; exact y)]
            rfl
          · rw [if_neg y, hK.i _ _ _ (hcv.mpr (by rw [ev]; exact y))]
            rfl
        rw [hc]
        obtain ⟨t1, a1, w1⟩ := hR.get (List.getElem?_eq_getElem hsr)
        have a2 : (rows[sp.1].map V.int)[sp.2.1]? = some (.int rows[sp.1][sp.2.1]) := by rw [List.getElem?_map, List.getElem?_eq_getElem hsd]; rfl
        have g04 := g03.trans gp
        have g4 := g3.trans gp
        generalize upd H3 p (.tup [.int (sp.1 : Int), .int (sp.2.1 : Int), .int z]) = H4 at gp g04 g4 ⊢
        rw [u3]; clear u3
        walk_at "rd"
        refine ⟨_, rfl, true, rfl, ?_⟩
        rw [if_neg (by decide)]
        refine ⟨_, SqT.of (g04 _ _ q2), _, rfl, _, _, rfl, SqL.of (g04 _ _ eo), _, atI_nat a1, _, SqT.of (g04 _ _ q2), _, rfl, t1, rfl, _, _, rfl, SqL.of (g04 _ _ w1), _, atI_nat a2, rfl, .inr ?_⟩
        by_cases y : z = rows[sp.1][sp.2.1]
        · rw [if_neg (fun w => w (by rw [if_pos y, if_neg (fun f => f (by rw [y]))]))]
          exact g4
        · rw [if_neg (fun w => w (by rw [if_neg y, if_pos (fun f => y (V.int.inj f))]))]
          exact g4
      · rintro σ H3 ⟨g3, v8, v9, rfl⟩
        exact ⟨g3, _, _, _, _, rfl⟩
    rintro σ H2 ⟨g2, v6, v7, v8, v9, rfl⟩
    rw [u1]; clear u1
    refine seq_of fun U1 u1 => ?_
    walk_at "rd"
    refine ⟨_, SqT.of (g2 _ _ et), _, rfl, .inr (.inr (.inl ⟨rfl, .inr ⟨_, g2 _ _ ed⟩⟩)), dd, rfl, _, g2 _ _ ed, ?_⟩
    have ntd : t ≠ dd := fun z => by rw [z, ed] at et; cases et
    have gE : Same H (upd H2 dd (.dT [])) := same_upd hdd (g1.trans g2) _
    have etE : upd H2 dd (.dT []) t = some (.tup [.ref dd, .int m]) := by rw [upd_ne ntd]; exact g2 _ _ et
    generalize upd H2 dd (.dT []) = HE at gE etE ⊢
    rw [u1]; clear u1
    walk_at "rd"
    refine ⟨_, SqT.of etE, _, rfl, _, rfl, true, rfl, ?_⟩
    rw [if_pos rfl]
    refine ⟨_, _, gE _ _ e1, nf_no _ _ (by decide +kernel) (by decide +kernel), _, _, rfl, ?_⟩
    show (if V.non = V.non then _ else _)
    rw [if_pos rfl]
    exact ⟨_, _, gE _ _ e1, nf_no _ _ (by decide +kernel) (by decide +kernel), _, rfl, rfl, k HE gE⟩
def sp__law_sum (K : PySem.W.Frag) (C_Ward C_Near C_Rule : Addr) : Sp := fun vs H Q _ => ∃ (r p : Addr) (us ts : List V) (rows : List (List Int)) (qs : List Prt), vs = [.ref r, .ref p] ∧ H r = some (.lst us) ∧ Rows H us rows ∧ H p = some (.tup ts) ∧ Prts H ts qs ∧ (∀ q ∈ qs, ∃ h d : Nat, q.h = h ∧ q.d = d ∧ h < rows.length ∧ d < (rows[h]?.getD []).length) ∧ Q (.int (tot rows qs)) H
theorem sc__law_sum : FnScope ["_law_rota", "_law_parts", "_law_amount", "_law_hand", "_law_day", "_law_post", "_law_number"] ["_law_rota", "_law_parts"] (defScope s__law_sum) := ⟨rfl, rfl, rfl, by decide +kernel, rfl, by decide +kernel, by decide +kernel⟩
theorem ok__law_sum {C_Ward : Addr} {C_Near : Addr} {C_Rule : Addr} {f : Addr} {fd : FuncData} (F : Fun K "_law_sum" "_law_sum" s__law_sum f fd) (T : Txt K mg C_Ward C_Near C_Rule)  : FnOk P w K mg base CX0 1 f fd ["_law_rota", "_law_parts"] (sp__law_sum K C_Ward C_Near C_Rule) := by
  refine F.ok sc__law_sum (fun vs H Q E h => ?_) (fun cdv A outer s H vs Q E hr h => ?_)
  · obtain ⟨r, p, us, ts, rows, qs, rfl, _⟩ := h
    rfl
  · obtain ⟨r, p, us, ts, rows, qs, rfl, er, hR, ep, hP, hq, k⟩ := h
    refine ⟨_, (pss_cons (ps_set (i := 2) sc__law_sum.nd rfl (Or.inl rfl) pe_int)
    (pss_cons (ps_for PassesOwn.never rfl (pi_tup (pv 1)) (pg_tup (n := 4) rfl (pgs_cons (pg_name (i := 3) sc__law_sum.nd rfl (Or.inl rfl)) (pgs_cons (pg_name (i := 4) sc__law_sum.nd rfl (Or.inl rfl)) (pgs_cons (pg_name (i := 5) sc__law_sum.nd rfl (Or.inl rfl)) (pgs_cons (pg_name (i := 6) sc__law_sum.nd rfl (Or.inl rfl)) pgs_nil)))))
      (pss_one (ps_if (pt_cmpR op_eq (pe_ix ix_list (pe_ix ix_list (pv 0) (pv 3) (fun _ _ => rfl)) (pv 4) (fun _ _ => rfl)) (pv 5) (nomark _)) (pss_one (ps_set (i := 2) sc__law_sum.nd rfl (Or.inl rfl) (pe_op op_add (pv 2) (pv 6)))) pss_nil)))
    (pss_one (ps_ret (pv 2))))), ?_⟩
    refine seq_of fun U1 u1 => ?_
    walk_at "rd"
    rw [u1]; clear u1
    refine seq_of fun U1 u1 => for_of fun B1 b1 => ?_
    walk_at "rd"
    have htl := Paired.length hP
    refine ⟨⟨_, SqT.of ep⟩, for_tupW (xs := ts) (fun i σ H' => H' = H ∧ ∃ v3 v4 v5 v6, σ = [some (.ref r), some (.ref p), some (.int (tot rows (qs.take i))), v3, v4, v5, v6]) ⟨rfl, none, none, none, none, rfl⟩ (fun i σ H' _ hh => by rw [hh.1]; exact SqT.of ep) ?_ ?_⟩
    · rintro i v σ H' hx ⟨rfl, v3, v4, v5, v6, rfl⟩
      obtain ⟨pq, hpq, tq, rfl, htq⟩ := Paired.get' hP hx
      obtain ⟨hh, dd, eh, ed, hh', hd'⟩ := hq pq (List.mem_of_getElem? hpq)
      rw [List.getElem?_eq_getElem hh', Option.getD_some] at hd'
      obtain ⟨t1, a1, q1⟩ := hR.get (List.getElem?_eq_getElem hh')
      have ev : val rows pq.h.toNat pq.d.toNat = rows[hh][dd] := by
        rw [eh, ed, Int.toNat_natCast, Int.toNat_natCast]
        exact val_of (List.getElem?_eq_getElem hh') hd'
      have at2 : atI (rows[hh].map V.int) pq.d = some (.int rows[hh][dd]) := by
        rw [ed]
        exact atI_nat (by rw [List.getElem?_map, List.getElem?_eq_getElem hd']; rfl)
      walk_at "rd"
      refine ⟨_, SqT.of htq, rfl, _, _, rfl, _, _, rfl, _, _, rfl, _, _, rfl, rfl, ?_⟩
      rw [b1]
      walk_at "rd"
      rw [take_one hpq, tot_app, tot_one, ev]
      refine ⟨_, SqL.of er, .ref t1, by rw [eh]; exact atI_nat a1, t1, rfl, _, SqL.of q1, _, at2, rfl, ?_⟩
      by_cases z : rows[hh][dd] = pq.p
      · rw [if_pos (by rw [z]), if_pos z]
      · rw [if_neg (fun y => z (V.int.inj y)), if_neg z, Int.add_zero]
    rintro σ H' ⟨rfl, v3, v4, v5, v6, rfl⟩
    rw [u1]; clear u1
    walk_at "rd"
    rw [htl, List.take_length]
    exact k
def sp__law_changed (K : PySem.W.Frag) (C_Ward C_Near C_Rule : Addr) : Sp := fun vs H Q _ => ∃ (a b : Addr) (us ws : List V) (rows rota : List (List Int)) (L : Nat), vs = [.ref a, .ref b] ∧ H a = some (.lst us) ∧ Rows H us rows ∧ H b = some (.lst ws) ∧ Rows H ws rota ∧ rota.length = rows.length ∧ rows.length ≤ 8 ∧ L ≤ 31 ∧ (∀ r ∈ rows, r.length = L) ∧ (∀ r ∈ rota, r.length = L) ∧ ∀ H', Same H H' → Q (.int (dif rota (vls rows rows.length) : Nat)) H'
theorem sc__law_changed : FnScope ["_law_old_here", "_law_rota", "_law_found", "_law_hand"] ["_law_old_here", "_law_rota"] (defScope s__law_changed) := ⟨rfl, rfl, rfl, by decide +kernel, rfl, by decide +kernel, by decide +kernel⟩
theorem ok__law_changed {C_Ward : Addr} {C_Near : Addr} {C_Rule : Addr} {f : Addr} {fd : FuncData} (F : Fun K "_law_changed" "_law_changed" s__law_changed f fd) (T : Txt K mg C_Ward C_Near C_Rule)  : FnOk P w K mg base CX0 1 f fd ["_law_old_here", "_law_rota"] (sp__law_changed K C_Ward C_Near C_Rule) := by
  refine F.ok sc__law_changed (fun vs H Q E h => ?_) (fun cdv A outer s H vs Q E hr h => ?_)
  · obtain ⟨a, b, us, ws, rows, rota, L, rfl, _⟩ := h
    rfl
  · obtain ⟨a, b, us, ws, rows, rota, L, rfl, ha, hR, hb, hT, hl, h8, l31, r1, r2, q⟩ := h
    refine ⟨_, (pss_cons (ps_set (i := 2) sc__law_changed.nd rfl (Or.inl rfl) pe_int)
    (pss_cons (ps_for PassesOwn.never rfl (pi_range1 rfl T.range (pa_cons (pe_callB (call_lenK (K := K) rfl) (by rfl) T.len PySem.boot_len (pa_cons (pv 0) pa_nil)) pa_nil)) (pg_name (i := 3) sc__law_changed.nd rfl (Or.inr rfl))
      (pss_one (ps_set (i := 2) sc__law_changed.nd rfl (Or.inl rfl) (pe_op op_add (pv 2) (pe_callB (call_lenK (K := K) rfl) (by rfl) T.len PySem.boot_len (pa_cons (pe_comp (own := ["_law_day"]) (fnames := ["_law_old_here", "_law_rota", "_law_hand"]) (fr := [0, 1, 3]) (N' := ["_law_day", "_law_old_here", "_law_rota", "_law_hand"]) ⟨rfl, rfl, rfl, rfl, rfl, rfl, rfl⟩ rfl (pi_range1 rfl T.range (pa_cons (pe_callB (call_lenK (K := K) rfl) (by rfl) T.len PySem.boot_len (pa_cons (pe_ix ix_list (pv 0) (pv 3) (fun _ _ => rfl)) pa_nil)) pa_nil)) (fun s0 H0 fp0 C0 => ⟨(pg_name (i := 0) (by show (["_law_day", "_law_old_here", "_law_rota", "_law_hand"] : List Str).Nodup; decide +kernel) rfl (Or.inl rfl)), (pts_one (pt_cmpR op_ne (pe_ix (ix_listK (K := K) rfl) (pe_ix (ix_listK (K := K) rfl) (pv 1) (pv 3) (fun _ _ => rfl)) (pv 0) (fun _ _ => rfl)) (pe_ix (ix_listK (K := K) rfl) (pe_ix (ix_listK (K := K) rfl) (pv 2) (pv 3) (fun _ _ => rfl)) (pv 0) (fun _ _ => rfl)) (nomark _))), (pv 0)⟩)) pa_nil))))))
    (pss_one (ps_ret (pv 2))))), ?_⟩
    refine seq_of fun U1 u1 => ?_
    walk_at "rd"
    rw [u1]; clear u1
    refine seq_of fun U1 u1 => for_of fun B1 b1 => ?_
    walk_at "rd"
    have hul := hR.len
    have hwl := hT.len
    refine ⟨_, .inl (SqL.of ha), by omega, by omega, for_rangeW (fun i σ H' => Same H H' ∧ ∃ v3, σ = [some (.ref a), some (.ref b), some (.int (dif rota (vls rows i) : Nat)), v3]) ⟨Same.refl _, none, rfl⟩ ?_ ?_⟩
    · rintro i σ H' hi ⟨g, v3, rfl⟩
      rw [show (0 + (i : Int)) = i by omega]
      rw [Int.toNat_natCast] at hi
      have hir : i < rows.length := by omega
      have hit : i < rota.length := by omega
      obtain ⟨t1, a1, q1⟩ := hR.get (List.getElem?_eq_getElem hir)
      obtain ⟨t2, a2, q2⟩ := hT.get (List.getElem?_eq_getElem hit)
      have l1 := r1 _ (List.getElem_mem hir)
      have l2 := r2 _ (List.getElem_mem hit)
      rw [b1]
      walk_at "rd"
      refine ⟨_, SqL.of (g _ _ ha), _, atI_nat a1, t1, rfl, _, .inl (SqL.of (g _ _ q1)), by rw [List.length_map]; omega, by rw [List.length_map]; omega, fun D hD => for_rangeW (fun j σ H2 => ∃ (ds : List Int) (v0 : Option V), H2 = upd H' D (.lst (ds.map V.int)) ∧ ds.length = dif rota (vlR i rows[i] j) ∧ σ = [v0, some (.ref a), some (.ref b), some (.int i)]) ⟨[], none, rfl, rfl, rfl⟩ ?_ ?_⟩
      · rintro j σ H2 hj ⟨ds, v0, rfl, hdl, rfl⟩
        rw [show (0 + (j : Int)) = j by omega]
        rw [List.length_map, Int.toNat_natCast] at hj
        have gD := g.trans (same_new hD (.lst (ds.map V.int)))
        have hj2 : j < rota[i].length := by omega
        have hdj : ds.length ≤ j := by rw [hdl]; unfold dif; exact Nat.le_trans List.countP_le_length (by rw [vlR_len]; exact Nat.le_refl _)
        have est : dif rota (vlR i rows[i] (j + 1)) = dif rota (vlR i rows[i] j) + if rows[i][j] = rota[i][j] then 0 else 1 := by
          rw [vlR_succ, dif_app]
          congr 1
          unfold dif
          rw [List.countP_cons, List.countP_nil, List.getElem?_eq_getElem hj, Option.getD_some]
          show 0 + (if decide (rows[i][j] ≠ val rota (i : Int).toNat (j : Int).toNat) = true then 1 else 0) = _
          rw [Int.toNat_natCast, Int.toNat_natCast, val_of (List.getElem?_eq_getElem hit) hj2]
          by_cases z : rows[i][j] = rota[i][j]
          · rw [if_pos z, if_neg (by simp [z])]
          · rw [if_neg z, if_pos (by simp [z])]
        have e1 : (rows[i].map V.int)[j]? = some (.int rows[i][j]) := by rw [List.getElem?_map, List.getElem?_eq_getElem hj]; rfl
        have e2 : (rota[i].map V.int)[j]? = some (.int rota[i][j]) := by rw [List.getElem?_map, List.getElem?_eq_getElem hj2]; rfl
        walk_at "rd"
        refine ⟨_, SqL.of (gD _ _ ha), _, atI_nat a1, t1, rfl, _, SqL.of (gD _ _ q1), _, atI_nat e1, _, SqL.of (gD _ _ hb), _, atI_nat a2, t2, rfl, _, SqL.of (gD _ _ q2), _, atI_nat e2, rfl, ?_⟩
        by_cases z : rows[i][j] = rota[i][j]
        · rw [if_neg (fun y => y (by rw [z]))]
          exact ⟨ds, rfl, by rw [est, if_pos z, hdl, Nat.add_zero]⟩
        · rw [if_pos (fun y => z (V.int.inj y))]
          exact ⟨_, upd_same, small1000 (by rw [List.length_map]; omega), ds ++ [(j : Int)], by rw [upd_upd, List.map_append]; rfl, by rw [est, if_neg z, List.length_append, hdl]; rfl⟩
      · rintro σ H2 ⟨ds, v0, rfl, hdl, rfl⟩
        walk_at "rd"
        rw [List.length_map, Int.toNat_natCast] at hdl
        refine ⟨_, .inl (SqL.of upd_same), g.trans (same_new hD _), ?_⟩
        rw [vls_succ, dif_app, List.getElem?_eq_getElem hir, Option.getD_some, List.length_map, hdl]
        omega
    rintro σ H' ⟨g, v3, rfl⟩
    rw [u1]; clear u1
    walk_at "rd"
    rw [Int.toNat_natCast, hul]
    exact q H' g
def sp__law_lined (K : PySem.W.Frag) (C_Ward C_Near C_Rule : Addr) : Sp := fun vs H Q _ => ∃ (x y s o : Addr) (us ws : List V) (ss : List Spo) (rows : List (List Int)) (d m : Int) (hs : List Int) (ps : List Pst), vs = [.ref x, .ref y, .ref s, .ref o, .int m] ∧ NearAt C_Near H x rows m ∧ WardAt C_Ward H y d hs ps ∧ H s = some (.lst us) ∧ Spos H us ss ∧ H o = some (.lst ws) ∧ Rows H ws rows ∧ RotaOk d hs.length ps.length rows ∧ (∀ z ∈ ss, SpoOk hs.length d ps.length z) ∧ 1 ≤ d ∧ d ≤ 6 ∧ hs.length ≤ 8 ∧ ps.length ≤ 3 ∧ ∀ H', Same H H' → Q (.bl true) H'
theorem sc__law_lined : FnScope ["_law_one", "_law_ward_here", "_law_spots_here", "_law_old_here", "_law_many", "_law_lines", "_law_k", "_law_rota", "_law_cell", "_law_some"] ["_law_one", "_law_ward_here", "_law_spots_here", "_law_old_here", "_law_many"] (defScope s__law_lined) := ⟨rfl, rfl, rfl, by decide +kernel, rfl, by decide +kernel, by decide +kernel⟩
theorem ok__law_lined {C_Ward : Addr} {C_Near : Addr} {C_Rule : Addr} {f : Addr} {fd : FuncData} (F : Fun K "_law_lined" "_law_lined" s__law_lined f fd) (T : Txt K mg C_Ward C_Near C_Rule) (M_Near_lines : CalM P w K mg base C_Near "lines" ["self", "ward"] 2 (sp_Near_lines K C_Ward C_Near C_Rule)) (C__law_sum : Cal P w K mg base "_law_sum" ["_law_rota", "_law_parts"] 1 (sp__law_sum K C_Ward C_Near C_Rule)) (C__law_changed : Cal P w K mg base "_law_changed" ["_law_old_here", "_law_rota"] 1 (sp__law_changed K C_Ward C_Near C_Rule)) : FnOk P w K mg base CX0 3 f fd ["_law_one", "_law_ward_here", "_law_spots_here", "_law_old_here", "_law_many"] (sp__law_lined K C_Ward C_Near C_Rule) := by
  refine F.ok sc__law_lined (fun vs H Q E h => ?_) (fun cdv A outer s H vs Q E hr h => ?_)
  · obtain ⟨x, y, s, o, us, ws, ss, rows, d, m, hs, ps, rfl, _⟩ := h
    rfl
  · obtain ⟨x, y, s, o, us, ws, ss, rows, d, m, hs, ps, rfl, hN, hW, es, hS, eo, hR, ok, hso, d1, d6, h8, p3, k⟩ := h
    refine ⟨_, (pss_cons (ps_set (i := 5) sc__law_lined.nd rfl (Or.inl rfl) (pe_methC M_Near_lines (hr.mono (by decide)) (pv 0) (pa_cons (pv 1) pa_nil)))
    (pss_cons (ps_for PassesOwn.never rfl (pi_range1 rfl T.range (pa_cons pe_int pa_nil)) (pg_name (i := 6) sc__law_lined.nd rfl (Or.inl rfl))
      (pss_cons (ps_comp (i := 7) sc__law_lined.nd rfl rfl (own := ["_law_hand"]) (fnames := ["_law_ward_here"]) (fr := [1]) (N' := ["_law_hand", "_law_ward_here"]) ⟨rfl, rfl, rfl, rfl, rfl, rfl, rfl⟩ rfl (pi_range1 rfl T.range (pa_cons (pe_callB (call_lenK (K := K) rfl) (by rfl) T.len PySem.boot_len (pa_cons (pe_fld (pv 1) rfl) pa_nil)) pa_nil)) (fun s0 H0 fp0 C0 => ⟨(pg_name (i := 0) (by show (["_law_hand", "_law_ward_here"] : List Str).Nodup; decide +kernel) rfl (Or.inl rfl)), pts_nil, (pe_comp (own := ["_law_day"]) (fnames := []) (fr := []) (N' := ["_law_day"]) ⟨rfl, rfl, rfl, rfl, rfl, rfl, rfl⟩ rfl (pi_range1 rfl T.range (pa_cons (pe_fldK (K := K) rfl (pv 1) rfl) pa_nil)) (fun s0 H0 fp0 C0 => ⟨(pg_name (i := 0) (by show (["_law_day"] : List Str).Nodup; decide +kernel) rfl (Or.inl rfl)), pts_nil, pe_int⟩))⟩))
        (pss_cons (ps_for PassesOwn.never rfl (pi_list (pv 2)) (pg_tup (n := 2) rfl (pgs_cons (pg_name (i := 8) sc__law_lined.nd rfl (Or.inl rfl)) (pgs_cons (pg_name (i := 9) sc__law_lined.nd rfl (Or.inl rfl)) pgs_nil)))
          (pss_one (ps_asg (pe_ix ix_list (pv 9) (pe_op op_mul (pv 6) (pe_op op_sub (pe_callB (call_lenK (K := K) rfl) (by rfl) T.len PySem.boot_len (pa_cons (pv 9) pa_nil)) pe_int)) (fun _ _ => rfl)) (pg_sub (pe_ix ix_list (pv 7) (pe_ix ix_tup (pv 8) pe_int (fun _ _ => rfl)) (fun _ _ => rfl)) (pe_ix ix_tup (pv 8) pe_int (fun _ _ => rfl)) set_list))))
        (pss_one (ps_if (pt_cmpR op_ne (pe_op op_sub (pe_cal C__law_sum (hr.mono (by decide)) rfl (pa_cons (pv 7) (pa_cons (pe_ix ix_tup (pe_ix ix_list (pv 5) pe_int (fun _ _ => rfl)) pe_int (fun _ _ => rfl)) pa_nil))) (pe_ix ix_tup (pe_ix ix_list (pv 5) pe_int (fun _ _ => rfl)) pe_int (fun _ _ => rfl))) (pe_op op_sub (pv 4) (pe_cal C__law_changed (hr.mono (by decide)) rfl (pa_cons (pv 3) (pa_cons (pv 7) pa_nil)))) (nomark _)) (pss_one (ps_ret pe_bl)) pss_nil)))))
    (pss_one (ps_ret pe_bl)))), ?_⟩
    refine seq_of fun U1 u1 => ?_
    walk_at "rd"
    obtain ⟨dx, ot, vso, e1, e2, hTT⟩ := hN.ex
    refine ⟨_, _, e1, nf_no _ _ (by decide +kernel) (by decide +kernel), x, y, d, m, hs, ps, rows, rfl, hN, hW, by have := ok.len; omega, (fun r hr => by have := ok.rl r hr; omega), p3, fun t ls H1 g1 ht et hL => ?_⟩
    obtain ⟨tl, pp, pts', e1', ht1, ht2, hPp⟩ : ∃ tl pp pts', ls = [.ref tl] ∧ H1 tl = some (.tup [.ref pp, .int ((wrk (vls rows rows.length) : Int) - m)]) ∧ H1 pp = some (.tup pts') ∧ Prts H1 pts' (nearP ps.length (vls rows rows.length)) := by
      cases hL with
      | cons hv hn =>
        cases hn
        obtain ⟨tl, pp, pts', e, h1, h2, h3⟩ := hv
        exact ⟨tl, pp, pts', by rw [e], h1, h2, h3⟩
    subst e1'
    clear hL
    rw [u1]; clear u1
    refine seq_of fun U1 u1 => for_of fun B1 b1 => ?_
    walk_at "rd"
    refine ⟨by decide, by decide, for_rangeW (fun i σ H' => Same H1 H' ∧ ∃ v6 v7 v8 v9, σ = [some (.ref x), some (.ref y), some (.ref s), some (.ref o), some (.int m), some (.ref t), v6, v7, v8, v9]) ⟨Same.refl _, none, none, none, none, rfl⟩ ?_ ?_⟩
    · rintro kk σ H2 hkk ⟨g2, v6, v7, v8, v9, rfl⟩
      rw [show (0 + (kk : Int)) = kk by omega]
      rw [b1]
      refine seq_of fun U2 u2 => ?_
      walk_at "rd"
      obtain ⟨dw, hta, pta, pts, w1, w2, w3, w4⟩ := hW.ex
      have gH2 := g1.trans g2
      refine ⟨_, _, _, gH2 _ _ w1, T.cl_Ward, T.n_Ward_hands, _, wf_hands _ _ _, _, rfl, _, .inr (SqT.of (gH2 _ _ w2)), by rw [List.length_map]; omega, by rw [List.length_map]; omega, fun D hD => for_rangeW (fun i σ H' => GatN H2 D (fun row => (row.length : Int) = d ∧ ∀ x ∈ row, 0 ≤ x ∧ x ≤ (ps.length : Int)) i H' ∧ ∃ v0, σ = [v0, some (.ref y)]) ⟨GatN.start hD, none, rfl⟩ ?_ ?_⟩
      · rintro i σ H' hi ⟨gn, v0, rfl⟩
        rw [List.length_map, Int.toNat_natCast] at hi
        have gH' := gH2.trans gn.same
        walk_at "rd"
        refine ⟨_, _, _, gH' _ _ w1, T.cl_Ward, T.n_Ward_days, _, wf_days _ _ _, _, rfl, by omega, by omega, fun D2 hD2 => for_rangeW (fun j σ H5 => ∃ v0 : Option V, H5 = upd H' D2 (.lst ((List.replicate j (0 : Int)).map V.int)) ∧ σ = [v0]) ⟨none, rfl, rfl⟩ ?_ ?_⟩
        · rintro j σ H5 hj ⟨v0, rfl, rfl⟩
          walk_at "rd"
          exact ⟨_, upd_same, small1000 (by rw [List.length_map, List.length_replicate]; omega), by rw [upd_upd, List.replicate_succ', List.map_append]; rfl⟩
        · rintro σ H5 ⟨v0, rfl, rfl⟩
          exact gn.step hD (by omega) (same_new hD2 _) hD2 upd_same ⟨by rw [List.length_replicate]; omega, fun x hx => by rw [List.eq_of_mem_replicate hx]; omega⟩
      rintro σ H3 ⟨gn, v0, rfl⟩
      rw [List.length_map, Int.toNat_natCast] at gn
      obtain ⟨usR, rI⟩ := gn.rt
      clear gn
      rw [u2]; clear u2
      refine seq_of fun U2 u2 => for_of fun B2 b2 => ?_
      walk_at "rd"
      refine ⟨⟨_, SqL.of ((gH2.trans rI.fr) _ _ es)⟩, for_listW (xs := us) (fun i σ H' => RtI H2 D usR d hs.length ps.length H' ∧ ∃ v8 v9, σ = [some (.ref x), some (.ref y), some (.ref s), some (.ref o), some (.int m), some (.ref t), some (.int kk), some (.ref D), v8, v9]) ⟨rI, v8, v9, rfl⟩ (fun i σ H' _ hh => SqL.of ((gH2.trans hh.1.fr) _ _ es)) ?_ ?_⟩
      · rintro i v σ H' hx ⟨rI, v8, v9, rfl⟩
        obtain ⟨sp, hsp, t', u', l', rfl, q1, q2, q3⟩ := Paired.get' hS hx
        have sok := hso sp (List.mem_of_getElem? hsp)
        have gH' := gH2.trans rI.fr
        walk_at "rd"
        refine ⟨_, SqT.of (gH' _ _ q1), rfl, _, _, rfl, _, _, rfl, rfl, ?_⟩
        rw [b2]
        walk_at "rd"
        have kk2 : kk = 0 ∨ kk = 1 := by
          have : kk < 2 := hkk
          omega
        have c0 := sok.ne
        have c1 := sok.len
        obtain ⟨ix, hix, ixl⟩ : ∃ ix : Nat, (kk : Int) * ((sp.2.2.length : Int) - 1) = ix ∧ ix < sp.2.2.length := by
          rcases kk2 with rfl | rfl
          · exact ⟨0, by simp, c0⟩
          · exact ⟨sp.2.2.length - 1, by omega, by omega⟩
        have hvb := sok.v _ (List.getElem_mem ixl)
        obtain ⟨tr, row, eD, aD, qD, hjl, hrl, rI2⟩ := rI.set (h := sp.1) (j := sp.2.1) (v := sp.2.2[ix]) sok.h sok.d hvb.1 hvb.2
        refine ⟨_, .inl (SqL.of (gH' _ _ q3)), .inl ⟨by omega, by omega⟩, _, SqL.of (gH' _ _ q3), .int sp.2.2[ix], ?_, _, SqT.of (gH' _ _ q2), _, rfl, usR, _, rfl, SqL.of eD, _, atI_nat aD, _, SqT.of (gH' _ _ q2), _, rfl, tr, rfl, _, _, rfl, qD, sp.2.1, ixN_lt (by rw [List.length_map]; exact hjl), rI2⟩
        rw [List.length_map, hix]
        exact atI_nat (by rw [List.getElem?_map, List.getElem?_eq_getElem ixl]; rfl)
      rintro σ H4 ⟨rI, v8, v9, rfl⟩
      rw [u2]; clear u2
      walk_at "rd"
      obtain ⟨rws, eR, hRR, rok⟩ := rI.ex
      have gH4 := g2.trans rI.fr
      have g04 := g1.trans gH4
      have hnt := near_tot (P := ps.length) (rota := rws) (fun i j => val_ok rok i j) (vls rows rows.length)
      have okl := ok.len
      have rkl := rok.len
      refine ⟨_, SqL.of (gH4 _ _ et), _, rfl, tl, rfl, _, SqT.of (gH4 _ _ ht1), _, rfl, D, pp, usR, pts', rws, _, rfl, eR, hRR, gH4 _ _ ht2, hPp.mono (tups_same gH4), (fun q hq => ?_), _, SqL.of (gH4 _ _ et), _, rfl, tl, rfl, _, SqT.of (gH4 _ _ ht1), _, rfl, _, rfl, _, rfl, o, D, ws, usR, rows, rws, d.toNat, rfl, g04 _ _ eo, hR.mono g04, eR, hRR, by omega, by omega, by omega, (fun r hr => by have := ok.rl r hr; omega), (fun r hr => by have := rok.rl r hr; omega), fun H5 g5 => ⟨_, rfl, ?_⟩⟩
      · obtain ⟨c, hc, f1, f2⟩ := mem_near hq
        obtain ⟨h', d', hh', hd', rfl⟩ := mem_vls hc
        have hrw : h' < rws.length := by omega
        refine ⟨h', d', f1, f2, hrw, ?_⟩
        rw [List.getElem?_eq_getElem hrw, Option.getD_some]
        rw [List.getElem?_eq_getElem hh', Option.getD_some] at hd'
        have := ok.rl _ (List.getElem_mem hh')
        have := rok.rl _ (List.getElem_mem hrw)
        omega
      · rw [if_neg (fun w => w (by omega))]
        exact gH4.trans g5
    rintro σ H2 ⟨g2, v6, v7, v8, v9, rfl⟩
    rw [u1]; clear u1
    walk_at "rd"
    exact k H2 (g1.trans g2)
def sp__law_prices (K : PySem.W.Frag) (C_Ward C_Near C_Rule : Addr) : Sp := fun vs H Q _ => ∃ (x ha pa o : Addr) (ws ts : List V) (rows : List (List Int)) (d m : Int) (hs : List Int) (ps : List Pst), vs = [.ref x, .int d, .ref ha, .ref pa, .ref o, .int m] ∧ NearAt C_Near H x rows m ∧ H ha = some (.lst (hs.map V.int)) ∧ H pa = some (.lst ts) ∧ Posts H ts ps ∧ Ok d hs ps ∧ H o = some (.lst ws) ∧ Rows H ws rows ∧ RotaOk d hs.length ps.length rows ∧ d ≤ 6 ∧ ps.length ≤ 3 ∧ ∀ H', Same H H' → Q (.bl true) H'
theorem sc__law_prices : FnScope ["_law_one", "_law_days", "_law_hands", "_law_posts", "_law_old_here", "_law_many", "_law_ward_here", "_law_spots_here", "_law_bare", "_law_other", "_law_turn", "_law_far"] ["_law_one", "_law_days", "_law_hands", "_law_posts", "_law_old_here", "_law_many"] (defScope s__law_prices) := ⟨rfl, rfl, rfl, by decide +kernel, rfl, by decide +kernel, by decide +kernel⟩
theorem ok__law_prices {C_Ward : Addr} {C_Near : Addr} {C_Rule : Addr} {f : Addr} {fd : FuncData} (F : Fun K "_law_prices" "_law_prices" s__law_prices f fd) (T : Txt K mg C_Ward C_Near C_Rule) (I_Ward : CalI P w K mg base "Ward" C_Ward ["self", "days", "hands", "posts"] 4 (sp_Ward___init__ K C_Ward C_Near C_Rule)) (C__law_spots : Cal P w K mg base "_law_spots" ["_law_days", "_law_hands", "_law_posts"] 2 (sp__law_spots K C_Ward C_Near C_Rule)) (C__law_priced : Cal P w K mg base "_law_priced" ["_law_one", "_law_ward_here", "_law_spots_here", "_law_old_here", "_law_many"] 3 (sp__law_priced K C_Ward C_Near C_Rule)) (C__law_lined : Cal P w K mg base "_law_lined" ["_law_one", "_law_ward_here", "_law_spots_here", "_law_old_here", "_law_many"] 3 (sp__law_lined K C_Ward C_Near C_Rule)) : FnOk P w K mg base CX0 6 f fd ["_law_one", "_law_days", "_law_hands", "_law_posts", "_law_old_here", "_law_many"] (sp__law_prices K C_Ward C_Near C_Rule) := by
  refine F.ok sc__law_prices (fun vs H Q E h => ?_) (fun cdv A outer s H vs Q E hr h => ?_)
  · obtain ⟨x, ha, pa, o, ws, ts, rows, d, m, hs, ps, rfl, _⟩ := h
    rfl
  · obtain ⟨x, ha, pa, o, ws, ts, rows, d, m, hs, ps, rfl, hN, eh, ep, hP, ok, eo, hR, rok, d6, p3, k⟩ := h
    refine ⟨_, (pss_cons (ps_set (i := 6) sc__law_prices.nd rfl (Or.inl rfl) (pe_makeC I_Ward (hr.mono (by decide)) rfl (pa_cons (pv 1) (pa_cons (pe_callTy (call_listK (K := K) rfl) (by rfl) T.list PyProof.Rows.boot_list (pa_cons (pv 2) pa_nil)) (pa_cons (pe_callTy (call_listK (K := K) rfl) (by rfl) T.list PyProof.Rows.boot_list (pa_cons (pv 3) pa_nil)) pa_nil)))))
    (pss_cons (ps_set (i := 7) sc__law_prices.nd rfl (Or.inl rfl) (pe_cal C__law_spots (hr.mono (by decide)) rfl (pa_cons (pv 1) (pa_cons (pv 2) (pa_cons (pv 3) pa_nil)))))
    (pss_cons (ps_comp (i := 8) sc__law_prices.nd rfl rfl (own := ["_law_need", "_law_hours", "_law_night"]) (fnames := []) (fr := []) (N' := ["_law_need", "_law_hours", "_law_night"]) ⟨rfl, rfl, rfl, rfl, rfl, rfl, rfl⟩ rfl (pi_list (pv 3)) (fun s0 H0 fp0 C0 => ⟨(pg_tupK (K := K) (n := 3) rfl rfl (pgs_cons (pg_name (i := 0) (by show (["_law_need", "_law_hours", "_law_night"] : List Str).Nodup; decide +kernel) rfl (Or.inl rfl)) (pgs_cons (pg_name (i := 1) (by show (["_law_need", "_law_hours", "_law_night"] : List Str).Nodup; decide +kernel) rfl (Or.inl rfl)) (pgs_cons (pg_name (i := 2) (by show (["_law_need", "_law_hours", "_law_night"] : List Str).Nodup; decide +kernel) rfl (Or.inl rfl)) pgs_nil)))), pts_nil, (pe_tup (pa_cons pe_int (pa_cons (pv 1) (pa_cons (pv 2) pa_nil))))⟩))
    (pss_cons (ps_set (i := 9) sc__law_prices.nd rfl (Or.inl rfl) (pe_makeC I_Ward (hr.mono (by decide)) rfl (pa_cons (pv 1) (pa_cons (pe_callTy (call_listK (K := K) rfl) (by rfl) T.list PyProof.Rows.boot_list (pa_cons (pv 2) pa_nil)) (pa_cons (pe_callTy (call_listK (K := K) rfl) (by rfl) T.list PyProof.Rows.boot_list (pa_cons (pv 8) pa_nil)) pa_nil)))))
    (pss_cons (ps_for PassesOwn.never rfl (pi_range1 rfl T.range (pa_cons pe_int pa_nil)) (pg_name (i := 10) sc__law_prices.nd rfl (Or.inl rfl))
      (pss_cons (ps_if (PW.pt (pw_or (pt_not (pt_val (pe_cal C__law_priced (hr.mono (by decide)) rfl (pa_cons (pv 0) (pa_cons (pv 6) (pa_cons (pv 7) (pa_cons (pv 4) (pa_cons (pv 5) pa_nil)))))))) (pw_or1 (pt_not (pt_val (pe_cal C__law_lined (hr.mono (by decide)) rfl (pa_cons (pv 0) (pa_cons (pv 6) (pa_cons (pv 7) (pa_cons (pv 4) (pa_cons (pv 5) pa_nil))))))))))) (pss_one (ps_ret pe_bl)) pss_nil)
        (pss_cons (ps_set (i := 11) sc__law_prices.nd rfl (Or.inl rfl) (pe_cal C__law_spots (hr.mono (by decide)) rfl (pa_cons (pv 1) (pa_cons (pv 2) (pa_cons (pv 8) pa_nil)))))
        (pss_one (ps_if (PW.pt (pw_or (pt_not (pt_val (pe_cal C__law_priced (hr.mono (by decide)) rfl (pa_cons (pv 0) (pa_cons (pv 9) (pa_cons (pv 11) (pa_cons (pv 4) (pa_cons (pv 5) pa_nil)))))))) (pw_or1 (pt_not (pt_val (pe_cal C__law_lined (hr.mono (by decide)) rfl (pa_cons (pv 0) (pa_cons (pv 9) (pa_cons (pv 11) (pa_cons (pv 4) (pa_cons (pv 5) pa_nil))))))))))) (pss_one (ps_ret pe_bl)) pss_nil)))))
    (pss_one (ps_ret pe_bl))))))), ?_⟩
    refine seq_of fun U1 u1 => ?_
    walk_at "rd"
    have htl := hP.len
    refine ⟨_, .inl (SqL.of eh), fun l1 hl1 => ⟨_, .inl (SqL.of ((same_new hl1 _) _ _ ep)), fun l2 hl2 => ?_⟩⟩
    have ya := same_new hl1 (.lst (hs.map V.int))
    have yb := same_new hl2 (.lst ts)
    intro y dw hxw hdw nxw
    have s0 : Same (upd (upd H l1 (.lst (hs.map V.int))) l2 (.lst ts)) (upd (upd (upd (upd H l1 (.lst (hs.map V.int))) l2 (.lst ts)) dw (.own y)) y (.ins C_Ward dw [])) := fun b o hb => by
      rw [upd_ne (ne_of_none hb hxw), upd_ne (ne_of_none hb hdw)]
      exact hb
    refine ⟨y, dw, l1, l2, d, hs, ts, ps, rfl, upd_same, SqL.of (s0 _ _ (yb _ _ upd_same)), SqL.of (s0 _ _ upd_same), hP.mono (ya.trans (yb.trans s0)), ok, fun H1 fr hW1 => ⟨rfl, ?_⟩⟩
    have g1 : Same H H1 := fun b o hb => fr b o (s0 b o (yb _ _ (ya _ _ hb))) (ne_of_none (yb _ _ (ya _ _ hb)) hxw)
    clear fr s0 hxw hdw nxw ya yb hl1 hl2
    rw [u1]; clear u1
    refine seq_of fun U1 u1 => ?_
    walk_at "rd"
    refine ⟨ha, pa, d, hs, ts, ps, rfl, g1 _ _ eh, g1 _ _ ep, hP.mono g1, ok.pl, ok.d1, ok.d2, ok.hl, ok.h, ok.p, fun s us ss H2 g2 hs0 es hSp sok sl => ?_⟩
    rw [u1]; clear u1
    refine seq_of fun U1 u1 => ?_
    walk_at "rd"
    have ep2 := g2 _ _ (g1 _ _ ep)
    refine ⟨⟨_, SqL.of ep2⟩, fun D hD => for_listW (xs := ts) (fun i σ H' => PsG H2 D i H' ∧ ∃ v0 v1 v2, σ = [v0, v1, v2]) ⟨PsG.start hD, none, none, none, rfl⟩ (fun i σ H' _ hh => SqL.of (hh.1.same _ _ ep2)) ?_ ?_⟩
    · rintro i v σ H' hx ⟨pg, v0, v1, v2, rfl⟩
      obtain ⟨q, hq, t', rfl, ht'⟩ := Paired.get' hP hx
      have hi := (List.getElem?_eq_some_iff.mp hx).1
      have okq := ok.p q (List.mem_of_getElem? hq)
      have := ok.pl
      walk_at "rd"
      refine ⟨_, SqT.of (((g1.trans g2).trans pg.same) _ _ ht'), rfl, _, _, rfl, _, _, rfl, _, _, rfl, rfl, ?_⟩
      walk_at "rd"
      refine ⟨by decide, fun p hp => ?_⟩
      exact pg.step (q := (0, q.2.1, q.2.2)) hD (by omega) hp ⟨⟨Int.le_refl 0, by show (0 : Int) < 1073741824; decide⟩, okq.2.1, okq.2.2⟩
    rintro σ H3 ⟨pg, v0, v1, v2, rfl⟩
    obtain ⟨tb, pb, pbl, g3, eb, hPb, okb⟩ := pg.ex
    have g02 := g1.trans g2
    have g03 := g02.trans g3
    have okB : Ok d hs pb := ⟨ok.d1, ok.d2, ok.h, ok.hl, okb, by have := ok.pl; omega⟩
    clear pg
    have eh3 := g03 _ _ eh
    rw [u1]; clear u1
    refine seq_of fun U1 u1 => ?_
    walk_at "rd"
    refine ⟨_, .inl (SqL.of eh3), fun l1 hl1 => ⟨_, .inl (SqL.of ((same_new hl1 _) _ _ eb)), fun l2 hl2 => ?_⟩⟩
    have ya := same_new hl1 (.lst (hs.map V.int))
    have yb := same_new hl2 (.lst tb)
    intro z dw hxw hdw nxw
    have s0 : Same (upd (upd H3 l1 (.lst (hs.map V.int))) l2 (.lst tb)) (upd (upd (upd (upd H3 l1 (.lst (hs.map V.int))) l2 (.lst tb)) dw (.own z)) z (.ins C_Ward dw [])) := fun b o hb => by
      rw [upd_ne (ne_of_none hb hxw), upd_ne (ne_of_none hb hdw)]
      exact hb
    refine ⟨z, dw, l1, l2, d, hs, tb, pb, rfl, upd_same, SqL.of (s0 _ _ (yb _ _ upd_same)), SqL.of (s0 _ _ upd_same), hPb.mono (ya.trans (yb.trans s0)), okB, fun H4 fr hW4 => ⟨rfl, ?_⟩⟩
    have g4 : Same H3 H4 := fun b o hb => fr b o (s0 b o (yb _ _ (ya _ _ hb))) (ne_of_none (yb _ _ (ya _ _ hb)) hxw)
    clear fr s0 hxw hdw nxw ya yb hl1 hl2
    have g04 := g03.trans g4
    have g24 := g3.trans g4
    have g14 := g2.trans g24
    have hp2 : pb.length = ps.length := by omega
    have rokB : RotaOk d hs.length pb.length rows := by rw [hp2]; exact rok
    rw [u1]; clear u1
    refine seq_of fun U1 u1 => for_of fun B1 b1 => ?_
    walk_at "rd"
    refine ⟨by decide, by decide, for_rangeW (fun i σ H' => Same H4 H' ∧ ∃ v10 v11, σ = [some (.ref x), some (.int d), some (.ref ha), some (.ref pa), some (.ref o), some (.int m), some (.ref y), some (.ref s), some (.ref D), some (.ref z), v10, v11]) ⟨Same.refl _, none, none, rfl⟩ ?_ ?_⟩
    · rintro i σ H5 hi ⟨g5, v10, v11, rfl⟩
      rw [b1]
      refine seq_of fun U2 u2 => ?_
      walk_at "rd"
      have g05 := g04.trans g5
      have g15 := g14.trans g5
      have g25 := g24.trans g5
      have g35 := g4.trans g5
      refine ⟨x, y, s, o, us, ws, ss, rows, d, m, hs, ps, rfl, hN.mono g05, hW1.mono g15, g25 _ _ es, hSp.mono g25, g05 _ _ eo, hR.mono g05, rok, sok, ok.d1, d6, ok.hl, p3, fun H6 g6 => ⟨true, rfl, ?_⟩⟩
      rw [if_neg (by decide)]
      refine ⟨x, y, s, o, us, ws, ss, rows, d, m, hs, ps, rfl, hN.mono (g05.trans g6), hW1.mono (g15.trans g6), (g25.trans g6) _ _ es, hSp.mono (g25.trans g6), (g05.trans g6) _ _ eo, hR.mono (g05.trans g6), rok, sok, ok.d1, d6, ok.hl, p3, fun H7 g7 => ⟨true, rfl, ?_⟩⟩
      rw [if_neg (by decide)]
      have g57 := g6.trans g7
      rw [u2]; clear u2
      refine seq_of fun U2 u2 => ?_
      walk_at "rd"
      have g07 := g05.trans g57
      have g37 := g35.trans g57
      have g47 := g5.trans g57
      refine ⟨ha, D, d, hs, tb, pb, rfl, g07 _ _ eh, g37 _ _ eb, hPb.mono g37, okB.pl, ok.d1, ok.d2, ok.hl, ok.h, okB.p, fun fr uf sf H8 g8 hf0 ef hSf fok fl => ?_⟩
      have g08 := g07.trans g8
      have g48 := g47.trans g8
      have p3b : pb.length ≤ 3 := by omega
      rw [u2]; clear u2
      walk_at "rd"
      refine ⟨x, z, fr, o, uf, ws, sf, rows, d, m, hs, pb, rfl, hN.mono g08, hW4.mono g48, ef, hSf, g08 _ _ eo, hR.mono g08, rokB, fok, ok.d1, d6, ok.hl, p3b, fun H9 g9 => ⟨true, rfl, ?_⟩⟩
      rw [if_neg (by decide)]
      refine ⟨x, z, fr, o, uf, ws, sf, rows, d, m, hs, pb, rfl, hN.mono (g08.trans g9), hW4.mono (g48.trans g9), g9 _ _ ef, hSf.mono g9, (g08.trans g9) _ _ eo, hR.mono (g08.trans g9), rokB, fok, ok.d1, d6, ok.hl, p3b, fun HA gA => ⟨true, rfl, ?_⟩⟩
      rw [if_neg (by decide)]
      exact (g48.trans g9).trans gA
    rintro σ H5 ⟨g5, v10, v11, rfl⟩
    rw [u1]; clear u1
    walk_at "rd"
    exact k H5 (g04.trans g5)
def sp_law (K : PySem.W.Frag) : Sp := fun vs H Q _ => ∃ (a : Addr) (ns : List Int), vs = [.ref a] ∧ SqL K H a (ns.map V.int) ∧ ns.length ≤ 63 ∧ ∀ H', Q (.bl true) H'
theorem sc_law : FnScope ["_law_script", "_law_days", "_law_hands", "_law_posts", "_law_spots_here", "_law_ward_here", "_law_old_here", "_law_many", "_law_handed", "_law_one", "_law_lines", "_law_turn", "_law_rota", "_law_k", "_law_cell", "_law_some"] ["_law_script"] (defScope s_law) := ⟨rfl, rfl, rfl, by decide +kernel, rfl, by decide +kernel, by decide +kernel⟩
theorem ok_law {C_Ward : Addr} {C_Near : Addr} {C_Rule : Addr} {f : Addr} {fd : FuncData} (F : Fun K "law" "law" s_law f fd) (T : Txt K mg C_Ward C_Near C_Rule) (C__law_ward : Cal P w K mg base "_law_ward" ["_law_script", "_law_most", "_law_top"] 3 (sp__law_ward K C_Ward C_Near C_Rule)) (C__law_spots : Cal P w K mg base "_law_spots" ["_law_days", "_law_hands", "_law_posts"] 2 (sp__law_spots K C_Ward C_Near C_Rule)) (I_Ward : CalI P w K mg base "Ward" C_Ward ["self", "days", "hands", "posts"] 4 (sp_Ward___init__ K C_Ward C_Near C_Rule)) (C__law_old : Cal P w K mg base "_law_old" ["_law_script", "_law_days", "_law_many", "_law_posts"] 2 (sp__law_old K C_Ward C_Near C_Rule)) (I_Near : CalI P w K mg base "Near" C_Near ["self", "old", "many"] 1 (sp_Near___init__ K C_Ward C_Near C_Rule)) (M_Near_lines : CalM P w K mg base C_Near "lines" ["self", "ward"] 2 (sp_Near_lines K C_Ward C_Near C_Rule)) (C__law_spoilt : Cal P w K mg base "_law_spoilt" ["_law_script", "_law_old_here", "_law_posts"] 2 (sp__law_spoilt K C_Ward C_Near C_Rule)) (C__law_prices : Cal P w K mg base "_law_prices" ["_law_one", "_law_days", "_law_hands", "_law_posts", "_law_old_here", "_law_many"] 6 (sp__law_prices K C_Ward C_Near C_Rule)) (C__law_draw : Cal P w K mg base "_law_draw" ["_law_script", "_law_k", "_law_many"] 1 (sp__law_draw K C_Ward C_Near C_Rule)) (M_Near_fits : CalM P w K mg base C_Near "fits" ["self", "ward"] 4 (sp_Near_fits K C_Ward C_Near C_Rule)) (C__law_whole : Cal P w K mg base "_law_whole" ["_law_found"] 1 (sp__law_whole K C_Ward C_Near C_Rule)) (C__law_sum : Cal P w K mg base "_law_sum" ["_law_rota", "_law_parts"] 1 (sp__law_sum K C_Ward C_Near C_Rule)) (C__law_changed : Cal P w K mg base "_law_changed" ["_law_old_here", "_law_rota"] 1 (sp__law_changed K C_Ward C_Near C_Rule)) : FnOk P w K mg base CX0 7 f fd ["_law_script"] (sp_law K) := by
  refine F.ok sc_law (fun vs H Q E h => ?_) (fun cdv A outer s H vs Q E hr h => ?_)
  · obtain ⟨a, ns, rfl, _⟩ := h
    rfl
  · obtain ⟨a, ns, rfl, hS, hn, k⟩ := h
    refine ⟨_, (pss_cons (ps_asg (pe_cal C__law_ward (hr.mono (by decide)) rfl (pa_cons (pv 0) (pa_cons (pe_op op_pow pe_int pe_int) (pa_cons pe_int pa_nil)))) (pg_tup (n := 3) rfl (pgs_cons (pg_name (i := 1) sc_law.nd rfl (Or.inl rfl)) (pgs_cons (pg_name (i := 2) sc_law.nd rfl (Or.inl rfl)) (pgs_cons (pg_name (i := 3) sc_law.nd rfl (Or.inl rfl)) pgs_nil)))))
    (pss_cons (ps_set (i := 4) sc_law.nd rfl (Or.inl rfl) (pe_cal C__law_spots (hr.mono (by decide)) rfl (pa_cons (pv 1) (pa_cons (pv 2) (pa_cons (pv 3) pa_nil)))))
    (pss_cons (ps_set (i := 5) sc_law.nd rfl (Or.inl rfl) (pe_makeC I_Ward (hr.mono (by decide)) rfl (pa_cons (pv 1) (pa_cons (pe_callTy (call_listK (K := K) rfl) (by rfl) T.list PyProof.Rows.boot_list (pa_cons (pv 2) pa_nil)) (pa_cons (pe_callTy (call_listK (K := K) rfl) (by rfl) T.list PyProof.Rows.boot_list (pa_cons (pv 3) pa_nil)) pa_nil)))))
    (pss_cons (ps_set (i := 6) sc_law.nd rfl (Or.inl rfl) (pe_cal C__law_old (hr.mono (by decide)) rfl (pa_cons (pv 0) (pa_cons (pv 1) (pa_cons (pe_callB (call_lenK (K := K) rfl) (by rfl) T.len PySem.boot_len (pa_cons (pv 2) pa_nil)) (pa_cons (pv 3) pa_nil))))))
    (pss_cons (ps_set (i := 7) sc_law.nd rfl (Or.inl rfl) (pe_op op_sub (pe_ix ix_list (pe_lst (pa_cons (pe_cal C__law_draw (hr.mono (by decide)) rfl (pa_cons (pv 0) (pa_cons pe_int (pa_cons pe_int pa_nil)))) (pa_cons (pe_cal C__law_draw (hr.mono (by decide)) rfl (pa_cons (pv 0) (pa_cons pe_int (pa_cons pe_int pa_nil)))) pa_nil))) (pe_cal C__law_draw (hr.mono (by decide)) rfl (pa_cons (pv 0) (pa_cons pe_int (pa_cons pe_int pa_nil)))) (fun _ _ => rfl)) pe_int))
    (pss_cons (ps_comp (i := 8) sc_law.nd rfl rfl (own := ["_law_row"]) (fnames := []) (fr := []) (N' := ["_law_row"]) ⟨rfl, rfl, rfl, rfl, rfl, rfl, rfl⟩ rfl (pi_list (pv 6)) (fun s0 H0 fp0 C0 => ⟨(pg_name (i := 0) (by show (["_law_row"] : List Str).Nodup; decide +kernel) rfl (Or.inl rfl)), pts_nil, (pe_callTy (call_listK (K := K) rfl) (by rfl) T.list PyProof.Rows.boot_list (pa_cons (pv 0) pa_nil))⟩))
    (pss_cons (ps_set (i := 9) sc_law.nd rfl (Or.inl rfl) (pe_makeC I_Near (hr.mono (by decide)) rfl (pa_cons (pv 8) (pa_cons (pv 7) pa_nil))))
    (pss_cons (ps_if (PW.pt (pw_or (pt_cmpR (op_neD 1 hr) (pv 8) (pv 6) (nomark _)) (pw_or (pt_not (pt_val (pe_callB (call_isK (K := K) rfl) (by rfl) T.isinstance PyProof.Rows.boot_isinstance (pa_cons (pv 9) (pa_cons (pe_glob (v := .ref C_Rule) rfl T.c_Rule rfl) pa_nil))))) (pw_or1 (pt_cmpR op_isnotB (pe_methC M_Near_fits (hr.mono (by decide)) (pv 9) (pa_cons (pv 5) pa_nil)) pe_bl (nomark _)))))) (pss_one (ps_ret pe_bl)) pss_nil)
    (pss_cons (ps_expr (pe_bm0 PySem.F.plainAttrs_list PySem.F.slot_list_clear PySem.F.type_list_clear mt_clear (pv 8)))
    (pss_cons (ps_set (i := 10) sc_law.nd rfl (Or.inl rfl) (pe_methC M_Near_lines (hr.mono (by decide)) (pv 9) (pa_cons (pv 5) pa_nil)))
    (pss_cons (ps_if (PW.pt (pw_or (pt_not (pt_val (pe_callB call_isi (by rfl) T.isinstance PyProof.Rows.boot_isinstance (pa_cons (pv 10) (pa_cons (pe_bltn (v := .ty "list") rfl T.list PyProof.Rows.boot_list rfl) pa_nil))))) (pw_or (pt_cmpR op_ne (pe_callB (call_lenK (K := K) rfl) (by rfl) T.len PySem.boot_len (pa_cons (pv 10) pa_nil)) pe_int (nomark _)) (pw_or1 (pt_not (pt_val (pe_cal C__law_whole (hr.mono (by decide)) rfl (pa_cons (pe_ix ix_tup (pe_ix ix_list (pv 10) pe_int (fun _ _ => rfl)) pe_int (fun _ _ => rfl)) pa_nil)))))))) (pss_one (ps_ret pe_bl)) pss_nil)
    (pss_cons (ps_for PassesOwn.never rfl (pi_range1 rfl T.range (pa_cons pe_int pa_nil)) (pg_name (i := 11) sc_law.nd rfl (Or.inl rfl))
      (pss_cons (ps_comp (i := 12) sc_law.nd rfl rfl (own := ["_law_row"]) (fnames := []) (fr := []) (N' := ["_law_row"]) ⟨rfl, rfl, rfl, rfl, rfl, rfl, rfl⟩ rfl (pi_list (pv 6)) (fun s0 H0 fp0 C0 => ⟨(pg_name (i := 0) (by show (["_law_row"] : List Str).Nodup; decide +kernel) rfl (Or.inl rfl)), pts_nil, (pe_callTy (call_listK (K := K) rfl) (by rfl) T.list PyProof.Rows.boot_list (pa_cons (pv 0) pa_nil))⟩))
        (pss_cons (ps_for PassesOwn.never rfl (pi_range1 rfl T.range (pa_cons (pe_callB (call_lenK (K := K) rfl) (by rfl) T.len PySem.boot_len (pa_cons (pv 4) pa_nil)) pa_nil)) (pg_name (i := 13) sc_law.nd rfl (Or.inl rfl))
          (pss_cons (ps_asg (pe_ix ix_list (pv 4) (pv 13) (fun _ _ => rfl)) (pg_tup (n := 2) rfl (pgs_cons (pg_name (i := 14) sc_law.nd rfl (Or.inl rfl)) (pgs_cons (pg_name (i := 15) sc_law.nd rfl (Or.inl rfl)) pgs_nil))))
            (pss_one (ps_if (PW.pt (pw_or (pt_cmpR op_notIn_seq (pe_ix ix_list (pe_ix ix_list (pv 12) (pe_ix ix_tup (pv 14) pe_int (fun _ _ => rfl)) (fun _ _ => rfl)) (pe_ix ix_tup (pv 14) pe_int (fun _ _ => rfl)) (fun _ _ => rfl)) (pv 15) (by with_unfolding_all rfl)) (pw_or1 (pt_cmpR op_le (pe_cal C__law_draw (hr.mono (by decide)) rfl (pa_cons (pv 0) (pa_cons (pe_op op_add (pe_op op_add pe_int (pe_op op_mul pe_int (pv 11))) (pv 13)) (pa_cons pe_int pa_nil)))) (pv 11) (nomark _))))) (pss_one (ps_asg (pe_ix ix_list (pv 15) (pe_cal C__law_draw (hr.mono (by decide)) rfl (pa_cons (pv 0) (pa_cons (pe_op op_add (pe_op op_add pe_int (pe_op op_mul pe_int (pv 11))) (pv 13)) (pa_cons (pe_callB (call_lenK (K := K) rfl) (by rfl) T.len PySem.boot_len (pa_cons (pv 15) pa_nil)) pa_nil)))) (fun _ _ => rfl)) (pg_sub (pe_ix ix_list (pv 12) (pe_ix ix_tup (pv 14) pe_int (fun _ _ => rfl)) (fun _ _ => rfl)) (pe_ix ix_tup (pv 14) pe_int (fun _ _ => rfl)) set_list))) pss_nil))))
        (pss_one (ps_if (pt_cmpR op_ne (pe_op op_sub (pe_cal C__law_sum (hr.mono (by decide)) rfl (pa_cons (pv 12) (pa_cons (pe_ix ix_tup (pe_ix ix_list (pv 10) pe_int (fun _ _ => rfl)) pe_int (fun _ _ => rfl)) pa_nil))) (pe_ix ix_tup (pe_ix ix_list (pv 10) pe_int (fun _ _ => rfl)) pe_int (fun _ _ => rfl))) (pe_op op_sub (pv 7) (pe_cal C__law_changed (hr.mono (by decide)) rfl (pa_cons (pv 6) (pa_cons (pv 12) pa_nil)))) (nomark _)) (pss_one (ps_ret pe_bl)) pss_nil)))))
    (pss_cons (ps_if (pt_not (pt_val (pe_cal C__law_prices (hr.mono (by decide)) rfl (pa_cons (pv 9) (pa_cons (pv 1) (pa_cons (pv 2) (pa_cons (pv 3) (pa_cons (pv 6) (pa_cons (pv 7) pa_nil))))))))) (pss_one (ps_ret pe_bl)) pss_nil)
    (pss_cons (ps_if (PW.pt (pw_or (pt_cmpR op_isnotB (pe_methC M_Near_fits (hr.mono (by decide)) (pe_makeC I_Near (hr.mono (by decide)) rfl (pa_cons (pv 6) (pa_cons (pe_op op_sub (pe_un un_neg pe_int) (pe_op op_mul (pv 7) (pv 7))) pa_nil))) (pa_cons (pv 5) pa_nil)) pe_bl (nomark _)) (pw_or1 (pt_cmpR op_isnotB (pe_methC M_Near_fits (hr.mono (by decide)) (pe_makeC I_Near (hr.mono (by decide)) rfl (pa_cons (pv 6) (pa_cons (pe_op op_add pe_int (pe_op op_mul (pv 7) (pv 7))) pa_nil))) (pa_cons (pv 5) pa_nil)) pe_bl (nomark _))))) (pss_one (ps_ret pe_bl)) pss_nil)
    (pss_cons (ps_expr (pe_cal C__law_spoilt (hr.mono (by decide)) rfl (pa_cons (pv 0) (pa_cons (pv 6) (pa_cons (pv 3) pa_nil)))))
    (pss_one (ps_ret (pe_and (pe_cmpR op_is (pe_methC M_Near_fits (hr.mono (by decide)) (pe_makeC I_Near (hr.mono (by decide)) rfl (pa_cons (pv 6) (pa_cons (pv 7) pa_nil))) (pa_cons (pv 5) pa_nil)) pe_bl (nomark _)) (pe_one (pe_cmpR op_is (pe_methC M_Near_fits (hr.mono (by decide)) (pv 9) (pa_cons (pv 5) pa_nil)) pe_bl (nomark _))))))))))))))))))))), ?_⟩
    refine seq_of fun U1 u1 => ?_
    walk_at "rd"
    refine ⟨⟨by decide, by decide, by decide⟩, a, ns, _, rfl, hS, hn, by decide, fun t ha pa d hs ts ps H1 g1 ht eh ep hP ok h4 p3 d6 => ?_⟩
    refine ⟨_, rfl, _, SqT.of ht, rfl, _, _, rfl, _, _, rfl, _, _, rfl, rfl, ?_⟩
    rw [u1]; clear u1
    refine seq_of fun U1 u1 => ?_
    walk_at "rd"
    refine ⟨ha, pa, d, hs, ts, ps, rfl, eh, ep, hP, ok.pl, ok.d1, ok.d2, ok.hl, ok.h, ok.p, fun s us ss H2 g2 hs0 es hSp sok sl => ?_⟩
    rw [u1]; clear u1
    refine seq_of fun U1 u1 => ?_
    walk_at "rd"
    refine ⟨_, .inl (SqL.of (g2 _ _ eh)), fun l1 hl1 => ⟨_, .inl (SqL.of ((same_new hl1 _) _ _ (g2 _ _ ep))), fun l2 hl2 => ?_⟩⟩
    have ya := same_new hl1 (.lst (hs.map V.int))
    have yb := same_new hl2 (.lst ts)
    intro y dw hxw hdw nxw
    have s0 : Same (upd (upd H2 l1 (.lst (hs.map V.int))) l2 (.lst ts)) (upd (upd (upd (upd H2 l1 (.lst (hs.map V.int))) l2 (.lst ts)) dw (.own y)) y (.ins C_Ward dw [])) := fun b o hb => by
      rw [upd_ne (ne_of_none hb hxw), upd_ne (ne_of_none hb hdw)]
      exact hb
    refine ⟨y, dw, l1, l2, d, hs, ts, ps, rfl, upd_same, SqL.of (s0 _ _ (yb _ _ upd_same)), SqL.of (s0 _ _ upd_same), (hP.mono g2).mono (ya.trans (yb.trans s0)), ok, fun H3 fr hW3 => ⟨rfl, ?_⟩⟩
    have g3 : Same H2 H3 := fun b o hb => fr b o (s0 b o (yb _ _ (ya _ _ hb))) (ne_of_none (yb _ _ (ya _ _ hb)) hxw)
    clear fr s0 hxw hdw nxw ya yb hl1 hl2
    rw [u1]; clear u1
    refine seq_of fun U1 u1 => ?_
    walk_at "rd"
    have g13 := g2.trans g3
    have g03 := g1.trans g13
    refine ⟨_, .inl (SqL.of (g13 _ _ eh)), a, pa, ns, d, hs.length, ts, by rw [List.length_map], g03.seq hS, hn, g13 _ _ ep, ok.d1, ok.d2, ok.hl, fun r ur rows H4 g4 hr0 er hR nd fru rok => ?_⟩
    rw [hP.len] at rok
    rw [u1]; clear u1
    refine seq_of fun U1 u1 => ?_
    walk_at "rd"
    have g04 := g03.trans g4
    refine ⟨a, ns, _, _, rfl, g04.seq hS, hn, by decide, by decide, by decide, fun m1 m10 m11 => ⟨a, ns, _, _, rfl, g04.seq hS, hn, by decide, by decide, by decide, fun m2 m20 m21 => ⟨by decide, fun pm hpm => ?_⟩⟩⟩
    have gm := same_new hpm (.lst [.int m1, .int m2])
    refine ⟨a, ns, _, _, rfl, (g04.trans gm).seq hS, hn, by decide, by decide, by decide, fun m3 m30 m31 => ?_⟩
    obtain ⟨mm, hmm, mm0, mm1⟩ : ∃ mm : Int, atI [V.int m1, .int m2] m3 = some (.int mm) ∧ 0 ≤ mm ∧ mm ≤ 1000 := by
      obtain rfl | rfl : m3 = 0 ∨ m3 = 1 := by omega
      · exact ⟨_, rfl, by omega, by omega⟩
      · exact ⟨_, rfl, by omega, by omega⟩
    refine ⟨_, _, rfl, SqL.of upd_same, _, hmm, mm, rfl, ?_⟩
    obtain ⟨m, hm, mlo, mhi⟩ : ∃ m : Int, mm - 1 = m ∧ -1 ≤ m ∧ m ≤ 999 := ⟨_, rfl, by omega, by omega⟩
    rw [hm]
    replace g4 := g4.trans gm
    have g05 := g03.trans g4
    have er5 := gm _ _ er
    have hR5 := hR.mono gm
    generalize upd H4 pm (.lst [.int m1, .int m2]) = H5 at gm g4 g05 er5 hR5 ⊢
    clear g04 er hR hpm hmm gm mm0 mm1 hm
    have hurl := hR5.len
    have rkl := rok.len
    rw [u1]; clear u1
    refine seq_of fun U1 u1 => ?_
    walk_at "rd"
    refine ⟨⟨_, SqL.of er5⟩, fun D hD => for_listW (xs := ur) (fun i σ H' => CopyI H5 D rows i H' ∧ ∃ v1, σ = [v1]) ⟨CopyI.start hD, none, rfl⟩ (fun i σ H' _ hh => SqL.of (hh.1.same _ _ er5)) ?_ ?_⟩
    · rintro i v σ H' hx ⟨hc, v1, rfl⟩
      obtain ⟨row, hrow, t', rfl, ht'⟩ := Rows.at' hR5 hx
      have hi : i < ur.length := (List.getElem?_eq_some_iff.mp hx).1
      walk_at "rd"
      exact ⟨_, .inl (SqL.of (hc.same _ _ ht')), fun l hl => hc.step hD hrow hl (by omega)⟩
    rintro σ H6 ⟨hc, v1, rfl⟩
    obtain ⟨uc, g6, e6, hR6, nd6, fr6⟩ := hc.done hurl
    clear hc
    rw [u1]; clear u1
    refine seq_of fun U1 u1 => ?_
    walk_at "rd"
    intro x dxo hxo hdxo nxo
    have s0 : Same H6 (upd (upd H6 dxo (.own x)) x (.ins C_Near dxo [])) := fun b o hb => by
      rw [upd_ne (ne_of_none hb hxo), upd_ne (ne_of_none hb hdxo)]
      exact hb
    refine ⟨x, dxo, D, uc, rows, m, rfl, upd_same, s0 _ _ e6, hR6.mono s0, by omega, fun H7 fr hN7 => ⟨rfl, ?_⟩⟩
    have g7 : Same H6 H7 := fun b o hb => fr b o (s0 b o hb) (ne_of_none hb hxo)
    clear fr s0 hxo hdxo nxo
    obtain ⟨dxn, on, von, en1, en2, en3⟩ := hN7.ex
    have hr6 : ∀ r ∈ rows, r.length ≤ 6 := fun r hr => by have := rok.rl r hr; omega
    have g57 := g6.trans g7
    have g37 := g4.trans g57
    have okt := okO_ok rok
    rw [u1]; clear u1
    refine seq_of fun U1 u1 => ?_
    walk_at "rd"
    refine ⟨_, _, _, _, rfl, rfl, den_rows (SqL.of (g7 _ _ e6)) (hR6.mono g7), den_rows (SqL.of (g57 _ _ er5)) (hR5.mono g57), like_den _ _ _ (den_rows (K := K) (n := 0) (SqL.of (g7 _ _ e6)) (hR6.mono g7)), _, rfl, ?_⟩
    rw [eqD_same, if_neg (by decide)]
    refine ⟨_, _, _, en1, T.cl_Near, ⟨T.ic_n, T.ig_o, T.it_o, T.im_n⟩, true, T.kt_n, ?_⟩
    rw [if_neg (by decide)]
    refine ⟨_, _, en1, nf_no _ _ (by decide +kernel) (by decide +kernel), x, y, d, m, hs, ps, rows, rfl, hN7, hW3.mono g37, by omega, (fun r hr => by have := hr6 r hr; omega), fun H8 g8 => ⟨_, rfl, ?_⟩⟩
    rw [okt, decide_eq_true mlo, decide_eq_true mhi, if_neg (by decide)]
    have eD8 := (g7.trans g8) _ _ e6
    have g59 : Same H5 (upd H8 D (.lst [])) := same_upd hD (g57.trans g8) _
    have hN9 : NearAt C_Near (upd H8 D (.lst [])) x rows m := (hN7.mono g8).nol fun c o e nl => by
      rw [upd_ne (fun z => by rw [z, eD8] at e; cases e; exact nl _ rfl)]
      exact e
    clear hN7 en1 en2 en3 g37 g57 okt g6 hR6 nd6 fr6
    rw [u1]; clear u1
    refine seq_of fun U1 u1 => ?_
    walk_at "rd"
    refine ⟨.inl ⟨rfl, _, SqL.of eD8⟩, _, eD8, ?_⟩
    generalize upd H8 D (.lst []) = H9 at g59 hN9 ⊢
    clear eD8 g8 g7 e6 hD
    have g09 := g05.trans g59
    have g39 := g4.trans g59
    have g29 := g3.trans g39
    have hW9 := hW3.mono g39
    have es9 := g29 _ _ es
    have hSp9 := hSp.mono g29
    have g19 := g13.trans g39
    have eh9 := g19 _ _ eh
    have ep9 := g19 _ _ ep
    have hP9 := hP.mono g19
    have er9 := g59 _ _ er5
    have hR9 := hR5.mono g59
    clear g05 g4 g3 g13 g03 g39 g29 hW3 es hSp g19 eh ep hP er5 hR5
    obtain ⟨dxn, on, von, en1, en2, en3⟩ := hN9.ex
    rw [u1]; clear u1
    refine seq_of fun U1 u1 => ?_
    walk_at "rd"
    refine ⟨_, _, en1, nf_no _ _ (by decide +kernel) (by decide +kernel), x, y, d, m, hs, ps, rows, rfl, hN9, hW9, by omega, hr6, p3, fun tl ls HA gA htl etl hL => ?_⟩
    obtain ⟨t1, pp, pts', e1', ht1, ht2, hPp⟩ : ∃ tl pp pts', ls = [.ref tl] ∧ HA tl = some (.tup [.ref pp, .int ((wrk (vls rows rows.length) : Int) - m)]) ∧ HA pp = some (.tup pts') ∧ Prts HA pts' (nearP ps.length (vls rows rows.length)) := by
      cases hL with
      | cons hv hn =>
        cases hn
        obtain ⟨tl, pp, pts', e, h1, h2, h3⟩ := hv
        exact ⟨tl, pp, pts', by rw [e], h1, h2, h3⟩
    subst e1'
    clear hL
    rw [u1]; clear u1
    refine seq_of fun U1 u1 => ?_
    walk_at "rd"
    refine ⟨"list", .inl ⟨rfl, _, etl⟩, ?_⟩
    rw [if_neg (by decide)]
    refine ⟨_, .inl (SqL.of etl), ?_⟩
    rw [if_neg (by simp)]
    refine ⟨_, SqL.of etl, _, rfl, t1, rfl, _, SqT.of ht1, _, rfl, _, rfl, true, rfl, ?_⟩
    rw [if_neg (by decide)]
    have g0A := g09.trans gA
    have hsl := Paired.length hSp9
    have s24 : ss.length ≤ 6 * 4 := by rw [sl]; exact Nat.mul_le_mul (by omega) h4
    rw [u1]; clear u1
    refine seq_of fun U1 u1 => for_of fun B1 b1 => ?_
    walk_at "rd"
    refine ⟨by decide, by decide, for_rangeW (fun i σ H' => Same HA H' ∧ ∃ v11 v12 v13 v14 v15, σ = [some (.ref a), some (.int d), some (.ref ha), some (.ref pa), some (.ref s), some (.ref y), some (.ref r), some (.int m), some (.ref D), some (.ref x), some (.ref tl), v11, v12, v13, v14, v15]) ⟨Same.refl _, none, none, none, none, none, rfl⟩ ?_ ?_⟩
    · rintro i σ HB hi ⟨gB, v11, v12, v13, v14, v15, rfl⟩
      rw [show (0 + (i : Int)) = i by omega]
      have i3 : i < 3 := hi
      have g9B := gA.trans gB
      rw [b1]
      refine seq_of fun U2 u2 => ?_
      walk_at "rd"
      refine ⟨⟨_, SqL.of (g9B _ _ er9)⟩, fun E hE => for_listW (xs := ur) (fun i σ H' => CopyI HB E rows i H' ∧ ∃ v1, σ = [v1]) ⟨CopyI.start hE, none, rfl⟩ (fun i σ H' _ hh => SqL.of (hh.1.same _ _ (g9B _ _ er9))) ?_ ?_⟩
      · rintro j v σ H' hx ⟨hc, v1, rfl⟩
        obtain ⟨row, hrow, t', rfl, ht'⟩ := Rows.at' hR9 hx
        have hj : j < ur.length := (List.getElem?_eq_some_iff.mp hx).1
        walk_at "rd"
        exact ⟨_, .inl (SqL.of (hc.same _ _ (g9B _ _ ht'))), fun l hl => hc.step hE hrow hl (by omega)⟩
      rintro σ HC ⟨hc, v1, rfl⟩
      obtain ⟨ue, gE, eE, hRE, ndE, frE⟩ := hc.done hurl
      have rI : RtI HB E ue d hs.length ps.length HC := ⟨⟨rows, eE, hRE, rok⟩, gE, ndE, frE⟩
      clear hc gE eE hRE ndE frE
      rw [u2]; clear u2
      refine seq_of fun U2 u2 => for_of fun B2 b2 => ?_
      walk_at "rd"
      refine ⟨_, .inl (SqL.of ((g9B.trans rI.fr) _ _ es9)), by omega, by omega, for_rangeW (fun j σ H' => RtI HB E ue d hs.length ps.length H' ∧ ∃ v13 v14 v15, σ = [some (.ref a), some (.int d), some (.ref ha), some (.ref pa), some (.ref s), some (.ref y), some (.ref r), some (.int m), some (.ref D), some (.ref x), some (.ref tl), some (.int i), some (.ref E), v13, v14, v15]) ⟨rI, v13, v14, v15, rfl⟩ ?_ ?_⟩
      · rintro j σ H' hj ⟨rI, v13, v14, v15, rfl⟩
        rw [show (0 + (j : Int)) = j by omega]
        rw [Int.toNat_natCast] at hj
        have g9' := g9B.trans rI.fr
        obtain ⟨sp, hsp, t', u', l', et', q1, q2, q3⟩ := Paired.get' hSp9 (List.getElem?_eq_getElem hj)
        have at' : us[j]? = some (.ref t') := by rw [List.getElem?_eq_getElem hj, et']
        have sok' := sok sp (List.mem_of_getElem? hsp)
        rw [b2]
        refine seq_of fun U3 u3 => ?_
        walk_at "rd"
        refine ⟨_, SqL.of (g9' _ _ es9), _, atI_nat at', _, rfl, _, SqT.of (g9' _ _ q1), rfl, _, _, rfl, _, _, rfl, rfl, ?_⟩
        rw [u3]; clear u3
        walk_at "rd"
        obtain ⟨rws, eE', hRE', rokE⟩ := rI.ex
        have hsr : sp.1 < rws.length := by have := sok'.h; have := rokE.len; omega
        have hsd : sp.2.1 < rws[sp.1].length := by have := sok'.d; have := rokE.rl _ (List.getElem_mem hsr); omega
        obtain ⟨tr, atr, qtr⟩ := hRE'.get (List.getElem?_eq_getElem hsr)
        refine ⟨_, SqT.of (g9' _ _ q2), _, rfl, ue, _, rfl, SqL.of eE', _, atI_nat atr, _, SqT.of (g9' _ _ q2), _, rfl, tr, rfl, _, _, rfl, SqL.of qtr, .int rws[sp.1][sp.2.1], atI_nat (by rw [List.getElem?_map, List.getElem?_eq_getElem hsd]; rfl), _, .inl (SqL.of (g9' _ _ q3)), rfl, flat_ints _, ?_⟩
        split
        · refine ⟨.inl ⟨by decide, by decide⟩, _, .inl (SqL.of (g9' _ _ q3)), a, ns, _, _, rfl, (g09.trans g9').seq hS, hn, by omega, by omega, by rw [List.length_map]; have := sok'.ne; omega, fun w w0 w1 => ?_⟩
          rw [List.length_map] at w1
          obtain ⟨wn, rfl⟩ : ∃ wn : Nat, w = wn := ⟨w.toNat, by omega⟩
          have wl : wn < sp.2.2.length := by omega
          have hvb := sok'.v _ (List.getElem_mem wl)
          obtain ⟨tr2, row2, eD2, aD2, qD2, hjl, hrl, rI2⟩ := rI.set (h := sp.1) (j := sp.2.1) (v := sp.2.2[wn]) sok'.h sok'.d hvb.1 hvb.2
          exact ⟨_, _, rfl, SqL.of (g9' _ _ q3), .int sp.2.2[wn], atI_nat (by rw [List.getElem?_map, List.getElem?_eq_getElem wl]; rfl), _, SqT.of (g9' _ _ q2), _, rfl, ue, _, rfl, SqL.of eD2, _, atI_nat aD2, _, SqT.of (g9' _ _ q2), _, rfl, tr2, rfl, _, _, rfl, qD2, sp.2.1, ixN_lt (by rw [List.length_map]; exact hjl), rI2⟩
        · refine ⟨.inl ⟨by decide, by decide⟩, a, ns, _, _, rfl, (g09.trans g9').seq hS, hn, by omega, by omega, by decide, fun z z0 z1 => ⟨z, rfl, ?_⟩⟩
          split
          · refine ⟨.inl ⟨by decide, by decide⟩, _, .inl (SqL.of (g9' _ _ q3)), a, ns, _, _, rfl, (g09.trans g9').seq hS, hn, by omega, by omega, by rw [List.length_map]; have := sok'.ne; omega, fun w w0 w1 => ?_⟩
            rw [List.length_map] at w1
            obtain ⟨wn, rfl⟩ : ∃ wn : Nat, w = wn := ⟨w.toNat, by omega⟩
            have wl : wn < sp.2.2.length := by omega
            have hvb := sok'.v _ (List.getElem_mem wl)
            obtain ⟨tr2, row2, eD2, aD2, qD2, hjl, hrl, rI2⟩ := rI.set (h := sp.1) (j := sp.2.1) (v := sp.2.2[wn]) sok'.h sok'.d hvb.1 hvb.2
            exact ⟨_, _, rfl, SqL.of (g9' _ _ q3), .int sp.2.2[wn], atI_nat (by rw [List.getElem?_map, List.getElem?_eq_getElem wl]; rfl), _, SqT.of (g9' _ _ q2), _, rfl, ue, _, rfl, SqL.of eD2, _, atI_nat aD2, _, SqT.of (g9' _ _ q2), _, rfl, tr2, rfl, _, _, rfl, qD2, sp.2.1, ixN_lt (by rw [List.length_map]; exact hjl), rI2⟩
          · exact rI
      rintro σ HD ⟨rI, v13', v14', v15', rfl⟩
      rw [u2]; clear u2
      walk_at "rd"
      obtain ⟨rws, eR, hRR, rokE⟩ := rI.ex
      have gAD := gB.trans rI.fr
      have g9D := gA.trans gAD
      have hnt := near_tot (P := ps.length) (rota := rws) (fun i j => val_ok rokE i j) (vls rows rows.length)
      have rkE := rokE.len
      have h8 := ok.hl
      have d31 := ok.d2
      have d1 := ok.d1
      refine ⟨_, SqL.of (gAD _ _ etl), _, rfl, t1, rfl, _, SqT.of (gAD _ _ ht1), _, rfl, E, pp, ue, pts', rws, _, rfl, eR, hRR, gAD _ _ ht2, hPp.mono (tups_same gAD), (fun q hq => ?_), _, SqL.of (gAD _ _ etl), _, rfl, t1, rfl, _, SqT.of (gAD _ _ ht1), _, rfl, _, rfl, _, rfl, r, E, ur, ue, rows, rws, d.toNat, rfl, g9D _ _ er9, hR9.mono g9D, eR, hRR, by omega, by omega, by omega, (fun r hr => by have := rok.rl r hr; omega), (fun r hr => by have := rokE.rl r hr; omega), fun H5 g5 => ⟨_, rfl, ?_⟩⟩
      · obtain ⟨c, hc, f1, f2⟩ := mem_near hq
        obtain ⟨h', d', hh', hd', rfl⟩ := mem_vls hc
        have hrw : h' < rws.length := by omega
        refine ⟨h', d', f1, f2, hrw, ?_⟩
        rw [List.getElem?_eq_getElem hrw, Option.getD_some]
        rw [List.getElem?_eq_getElem hh', Option.getD_some] at hd'
        have := rok.rl _ (List.getElem_mem hh')
        have := rokE.rl _ (List.getElem_mem hrw)
        omega
      · rw [if_neg (fun w => w (by omega))]
        exact gAD.trans g5
    rintro σ HB ⟨gB, v11, v12, v13, v14, v15, rfl⟩
    rw [u1]; clear u1
    refine seq_of fun U1 u1 => ?_
    walk_at "rd"
    have g9B := gA.trans gB
    refine ⟨x, ha, pa, r, ur, ts, rows, d, m, hs, ps, rfl, hN9.mono g9B, g9B _ _ eh9, g9B _ _ ep9, hP9.mono g9B, ok, g9B _ _ er9, hR9.mono g9B, rok, d6, p3, fun HC gC => ⟨true, rfl, ?_⟩⟩
    rw [if_neg (by decide)]
    have g9C := g9B.trans gC
    have hNC := hN9.mono g9C
    have hWC := hW9.mono g9C
    have erC := g9C _ _ er9
    have hRC := hR9.mono g9C
    have epC := g9C _ _ ep9
    have hPC := hP9.mono g9C
    have g0C := g09.trans g9C
    clear hN9 hW9 er9 hR9 ep9 hP9 eh9 es9 hSp9 g9C g9B gC gB gA etl ht1 ht2 hPp en1 en2 en3 g0A g09 htl
    rw [u1]; clear u1
    refine seq_of fun U1 u1 => ?_
    walk_at "rd"
    have mm0 : 0 ≤ m * m := by
      rcases Int.lt_or_le m 0 with z | z
      · have : m = -1 := by omega
        rw [this]
        decide
      · exact Int.mul_nonneg z z
    refine ⟨.inl ⟨by omega, by omega⟩, ?_⟩
    intro x2 dxo hxo hdxo nxo
    have s0 : Same HC (upd (upd HC dxo (.own x2)) x2 (.ins C_Near dxo [])) := fun b o hb => by
      rw [upd_ne (ne_of_none hb hxo), upd_ne (ne_of_none hb hdxo)]
      exact hb
    refine ⟨x2, dxo, r, ur, rows, (-2 - m * m), rfl, upd_same, s0 _ _ erC, hRC.mono s0, by omega, fun HE fr hN2 => ⟨rfl, ?_⟩⟩
    have gE : Same HC HE := fun b o hb => fr b o (s0 b o hb) (ne_of_none hb hxo)
    clear fr s0 hxo hdxo nxo
    obtain ⟨dx2, o2, vs2, ex1, ex2, ex3⟩ := hN2.ex
    have hr100 : ∀ r ∈ rows, r.length ≤ 100 := fun r hr => by have := hr6 r hr; omega
    refine ⟨_, _, ex1, nf_no _ _ (by decide +kernel) (by decide +kernel), x2, y, d, -2 - m * m, hs, ps, rows, rfl, hN2, hWC.mono gE, by omega, hr100, fun HF gF => ⟨_, rfl, ?_⟩⟩
    rw [decide_eq_false (show ¬ (-1 ≤ -2 - m * m) by omega), Bool.false_and, Bool.and_false, if_neg (by decide)]
    have gCF := gE.trans gF
    have erF := gCF _ _ erC
    have hRF := hRC.mono gCF
    refine ⟨.inl ⟨by omega, by omega⟩, ?_⟩
    intro x3 dxo hxo hdxo nxo
    have s0 : Same HF (upd (upd HF dxo (.own x3)) x3 (.ins C_Near dxo [])) := fun b o hb => by
      rw [upd_ne (ne_of_none hb hxo), upd_ne (ne_of_none hb hdxo)]
      exact hb
    refine ⟨x3, dxo, r, ur, rows, (1000 + m * m), rfl, upd_same, s0 _ _ erF, hRF.mono s0, by omega, fun HG fr hN3 => ⟨rfl, ?_⟩⟩
    have gG : Same HF HG := fun b o hb => fr b o (s0 b o hb) (ne_of_none hb hxo)
    clear fr s0 hxo hdxo nxo
    obtain ⟨dx3, o3, vs3, ey1, ey2, ey3⟩ := hN3.ex
    refine ⟨_, _, ey1, nf_no _ _ (by decide +kernel) (by decide +kernel), x3, y, d, 1000 + m * m, hs, ps, rows, rfl, hN3, hWC.mono (gCF.trans gG), by omega, hr100, fun HH gH => ⟨_, rfl, ?_⟩⟩
    rw [decide_eq_false (show ¬ (1000 + m * m ≤ 999) by omega), Bool.and_false, Bool.and_false, if_neg (by decide)]
    have gCH := gCF.trans (gG.trans gH)
    rw [u1]; clear u1
    refine seq_of fun U1 u1 => ?_
    walk_at "rd"
    refine ⟨a, r, pa, ns, ur, ts, rows, d, hs, ps, rfl, (g0C.trans gCH).seq hS, hn, gCH _ _ epC, hPC.mono gCH, gCH _ _ erC, hRC.mono gCH, nd, (fun t ht => (fru t ht).1), rok, ok.d1, ok.d2, ok.hl, ok.pl, fun us' rows' HI gI eI hRI l9 l32 bad => ?_⟩
    have hNI := (hNC.mono gCH).nol gI
    have hWI := (hWC.mono gCH).nol gI
    rw [u1]; clear u1
    walk_at "rd"
    intro x4 dxo hxo hdxo nxo
    have s0 : Same HI (upd (upd HI dxo (.own x4)) x4 (.ins C_Near dxo [])) := fun b o hb => by
      rw [upd_ne (ne_of_none hb hxo), upd_ne (ne_of_none hb hdxo)]
      exact hb
    refine ⟨x4, dxo, r, us', rows', m, rfl, upd_same, s0 _ _ eI, hRI.mono s0, by omega, fun HJ fr hN4 => ⟨rfl, ?_⟩⟩
    have gJ : Same HI HJ := fun b o hb => fr b o (s0 b o hb) (ne_of_none hb hxo)
    clear fr s0 hxo hdxo nxo
    obtain ⟨dx4, o4, vs4, ez1, ez2, ez3⟩ := hN4.ex
    refine ⟨_, _, ez1, nf_no _ _ (by decide +kernel) (by decide +kernel), x4, y, d, m, hs, ps, rows', rfl, hN4, hWI.mono gJ, by omega, (fun r hr => by have := l32 r hr; omega), fun HK gK => ⟨_, rfl, ?_⟩⟩
    rw [bad, Bool.false_and, if_pos (by decide)]
    have hNK := hNI.mono (gJ.trans gK)
    obtain ⟨dx5, o5, vs5, ew1, ew2, ew3⟩ := hNK.ex
    refine ⟨_, _, ew1, nf_no _ _ (by decide +kernel) (by decide +kernel), x, y, d, m, hs, ps, rows, rfl, hNK, hWI.mono (gJ.trans gK), by omega, hr100, fun HL gL => ⟨_, rfl, ?_⟩⟩
    rw [okO_ok rok, decide_eq_true mlo, decide_eq_true mhi]
    exact k _
end
theorem len_1 {α : Type} {us : List α} (h : us.length = 1) : ∃ a0 : α, us = [a0] := match us, h with | [a0], _ => ⟨a0, rfl⟩
theorem len_2 {α : Type} {us : List α} (h : us.length = 2) : ∃ a0 a1 : α, us = [a0, a1] := match us, h with | [a0, a1], _ => ⟨a0, a1, rfl⟩
theorem len_3 {α : Type} {us : List α} (h : us.length = 3) : ∃ a0 a1 a2 : α, us = [a0, a1, a2] := match us, h with | [a0, a1, a2], _ => ⟨a0, a1, a2, rfl⟩
theorem len_4 {α : Type} {us : List α} (h : us.length = 4) : ∃ a0 a1 a2 a3 : α, us = [a0, a1, a2, a3] := match us, h with | [a0, a1, a2, a3], _ => ⟨a0, a1, a2, a3, rfl⟩
theorem len_5 {α : Type} {us : List α} (h : us.length = 5) : ∃ a0 a1 a2 a3 a4 : α, us = [a0, a1, a2, a3, a4] := match us, h with | [a0, a1, a2, a3, a4], _ => ⟨a0, a1, a2, a3, a4, rfl⟩
theorem len_6 {α : Type} {us : List α} (h : us.length = 6) : ∃ a0 a1 a2 a3 a4 a5 : α, us = [a0, a1, a2, a3, a4, a5] := match us, h with | [a0, a1, a2, a3, a4, a5], _ => ⟨a0, a1, a2, a3, a4, a5, rfl⟩
theorem all_mk {l : PySem.W.OpenLaw} {w : World} {K : PySem.W.Frag} {h : Heap} {mg : Str → Option Value} {fa : Addr} (X : K.In h) (G : h.Ns mainGlobals mg) (hfa : mg "law" = some (.ref fa))
    {C_Ward : Addr}
    {C_Near : Addr}
    {C_Rule : Addr}
    {f1 : Addr} {od1 an1 : Option Addr} {sl1 : Array (Option Value)} {oc1 kV1 dc1 pm1 cd1 ct1 : Value}
    {f2 : Addr} {od2 an2 : Option Addr} {sl2 : Array (Option Value)} {oc2 kV2 dc2 pm2 cd2 ct2 : Value}
    {f3 : Addr} {od3 an3 : Option Addr} {sl3 : Array (Option Value)} {oc3 kV3 dc3 pm3 cd3 ct3 : Value}
    {f4 : Addr} {od4 an4 : Option Addr} {sl4 : Array (Option Value)} {oc4 kV4 dc4 pm4 cd4 ct4 : Value}
    {f5 : Addr} {od5 an5 : Option Addr} {sl5 : Array (Option Value)} {oc5 kV5 dc5 pm5 cd5 ct5 : Value}
    {f6 : Addr} {od6 an6 : Option Addr} {sl6 : Array (Option Value)} {oc6 kV6 dc6 pm6 cd6 ct6 : Value}
    {f7 : Addr} {od7 an7 : Option Addr} {sl7 : Array (Option Value)} {oc7 kV7 dc7 pm7 cd7 ct7 : Value}
    {f8 : Addr} {od8 an8 : Option Addr} {sl8 : Array (Option Value)} {oc8 kV8 dc8 pm8 cd8 ct8 : Value}
    {f9 : Addr} {od9 an9 : Option Addr} {sl9 : Array (Option Value)} {oc9 kV9 dc9 pm9 cd9 ct9 : Value}
    {f10 : Addr} {od10 an10 : Option Addr} {sl10 : Array (Option Value)} {oc10 kV10 dc10 pm10 cd10 ct10 : Value}
    {f11 : Addr} {od11 an11 : Option Addr} {sl11 : Array (Option Value)} {oc11 kV11 dc11 pm11 cd11 ct11 : Value}
    {f12 : Addr} {od12 an12 : Option Addr} {sl12 : Array (Option Value)} {oc12 kV12 dc12 pm12 cd12 ct12 : Value}
    {f13 : Addr} {od13 an13 : Option Addr} {sl13 : Array (Option Value)} {oc13 kV13 dc13 pm13 cd13 ct13 : Value}
    {f14 : Addr} {od14 an14 : Option Addr} {sl14 : Array (Option Value)} {oc14 kV14 dc14 pm14 cd14 ct14 : Value}
    {f15 : Addr} {od15 an15 : Option Addr} {sl15 : Array (Option Value)} {oc15 kV15 dc15 pm15 cd15 ct15 : Value}
    {f16 : Addr} {od16 an16 : Option Addr} {sl16 : Array (Option Value)} {oc16 kV16 dc16 pm16 cd16 ct16 : Value}
    {f17 : Addr} {od17 an17 : Option Addr} {sl17 : Array (Option Value)} {oc17 kV17 dc17 pm17 cd17 ct17 : Value}
    {f18 : Addr} {od18 an18 : Option Addr} {sl18 : Array (Option Value)} {oc18 kV18 dc18 pm18 cd18 ct18 : Value}
    {f19 : Addr} {od19 an19 : Option Addr} {sl19 : Array (Option Value)} {oc19 kV19 dc19 pm19 cd19 ct19 : Value}
    {f20 : Addr} {od20 an20 : Option Addr} {sl20 : Array (Option Value)} {oc20 kV20 dc20 pm20 cd20 ct20 : Value}
    {f21 : Addr} {od21 an21 : Option Addr} {sl21 : Array (Option Value)} {oc21 kV21 dc21 pm21 cd21 ct21 : Value}
    {f22 : Addr} {od22 an22 : Option Addr} {sl22 : Array (Option Value)} {oc22 kV22 dc22 pm22 cd22 ct22 : Value}
    {f23 : Addr} {od23 an23 : Option Addr} {sl23 : Array (Option Value)} {oc23 kV23 dc23 pm23 cd23 ct23 : Value}
    {f24 : Addr} {od24 an24 : Option Addr} {sl24 : Array (Option Value)} {oc24 kV24 dc24 pm24 cd24 ct24 : Value}
    {f25 : Addr} {od25 an25 : Option Addr} {sl25 : Array (Option Value)} {oc25 kV25 dc25 pm25 cd25 ct25 : Value}
    {f26 : Addr} {od26 an26 : Option Addr} {sl26 : Array (Option Value)} {oc26 kV26 dc26 pm26 cd26 ct26 : Value}
    {f27 : Addr} {od27 an27 : Option Addr} {sl27 : Array (Option Value)} {oc27 kV27 dc27 pm27 cd27 ct27 : Value}
    {f28 : Addr} {od28 an28 : Option Addr} {sl28 : Array (Option Value)} {oc28 kV28 dc28 pm28 cd28 ct28 : Value}
    {f29 : Addr} {od29 an29 : Option Addr} {sl29 : Array (Option Value)} {oc29 kV29 dc29 pm29 cd29 ct29 : Value}
    {f30 : Addr} {od30 an30 : Option Addr} {sl30 : Array (Option Value)} {oc30 kV30 dc30 pm30 cd30 ct30 : Value}
    {f31 : Addr} {od31 an31 : Option Addr} {sl31 : Array (Option Value)} {oc31 kV31 dc31 pm31 cd31 ct31 : Value}
    {f32 : Addr} {od32 an32 : Option Addr} {sl32 : Array (Option Value)} {oc32 kV32 dc32 pm32 cd32 ct32 : Value}
    {gt1 : Tok}
    {gt2 : Tok}
    {gt3 : Tok}
    {gt4 : Tok}
    (aC_Ward : PySem.W.nsIn K mainGlobals "Ward" = some (some (.ref C_Ward)))
    (pg_Ward : PySem.W.plainGet K C_Ward Str.empty = true)
    (hd_Ward : PySem.W.hasDictIn K C_Ward = true)
    (po_Ward : PySem.W.plainOver K C_Ward = true)
    (sa_Ward : PySem.W.findIn K (.ref C_Ward) "__setattr__" = some (some (.builtin "object.__setattr__")))
    (mk_Ward : PySem.W.makesIn K C_Ward = true)
    (kc_Ward : PySem.W.keepIn K (.ref C_Ward) = true)
    (f_days_Ward : PySem.W.findIn K (.ref C_Ward) "days" = some none)
    (f_hands_Ward : PySem.W.findIn K (.ref C_Ward) "hands" = some none)
    (f_posts_Ward : PySem.W.findIn K (.ref C_Ward) "posts" = some none)
    (aC_Near : PySem.W.nsIn K mainGlobals "Near" = some (some (.ref C_Near)))
    (pg_Near : PySem.W.plainGet K C_Near Str.empty = true)
    (hd_Near : PySem.W.hasDictIn K C_Near = true)
    (po_Near : PySem.W.plainOver K C_Near = true)
    (sa_Near : PySem.W.findIn K (.ref C_Near) "__setattr__" = some (some (.builtin "object.__setattr__")))
    (mk_Near : PySem.W.makesIn K C_Near = true)
    (kc_Near : PySem.W.keepIn K (.ref C_Near) = true)
    (f_old_Near : PySem.W.findIn K (.ref C_Near) "old" = some none)
    (f_many_Near : PySem.W.findIn K (.ref C_Near) "many" = some none)
    (aC_Rule : PySem.W.nsIn K mainGlobals "Rule" = some (some (.ref C_Rule)))
    (ic_n : PySem.W.findIn K (.ref C_Near) "__class__" = some (some (.builtin "object.__class__")))
    (ig_o : PySem.W.specialIn K (.builtin "object.__class__") "__get__" = some (some (.builtin "getset_descriptor.__get__")))
    (it_o : PySem.W.takesIn K (.builtin "object.__class__") = some true)
    (im_n : PySem.W.mroIn K C_Near (.type "object") = some true)
    (kt_n : PySem.W.kitOne K (.ref C_Near) (.ref C_Rule) = some true)
    (a1 : PySem.W.nsIn K mainGlobals "need_month" = some (some (.ref f1)))
    (l1 : K.lookup f1 = some ⟨oc1, od1, .func (PySem.W.fnOf "need_month" "need_month" (defArgs s_need_month) (defBody s_need_month) (defScope s_need_month) .none kV1 dc1 pm1 an1 cd1 ct1), sl1⟩) (c1 : PySem.W.codeIn K cd1 "need_month" = true) (k1 : PySem.W.keepIn K (.ref f1) = true)
    (a2 : PySem.W.nsIn K mainGlobals "is_skills" = some (some (.ref f2)))
    (l2 : K.lookup f2 = some ⟨oc2, od2, .func (PySem.W.fnOf "is_skills" "is_skills" (defArgs s_is_skills) (defBody s_is_skills) (defScope s_is_skills) .none kV2 dc2 pm2 an2 cd2 ct2), sl2⟩) (c2 : PySem.W.codeIn K cd2 "is_skills" = true) (k2 : PySem.W.keepIn K (.ref f2) = true)
    (a3 : PySem.W.nsIn K mainGlobals "need_hands" = some (some (.ref f3)))
    (l3 : K.lookup f3 = some ⟨oc3, od3, .func (PySem.W.fnOf "need_hands" "need_hands" (defArgs s_need_hands) (defBody s_need_hands) (defScope s_need_hands) .none kV3 dc3 pm3 an3 cd3 ct3), sl3⟩) (c3 : PySem.W.codeIn K cd3 "need_hands" = true) (k3 : PySem.W.keepIn K (.ref f3) = true)
    (a4 : PySem.W.nsIn K mainGlobals "is_post" = some (some (.ref f4)))
    (l4 : K.lookup f4 = some ⟨oc4, od4, .func (PySem.W.fnOf "is_post" "is_post" (defArgs s_is_post) (defBody s_is_post) (defScope s_is_post) .none kV4 dc4 pm4 an4 cd4 ct4), sl4⟩) (c4 : PySem.W.codeIn K cd4 "is_post" = true) (k4 : PySem.W.keepIn K (.ref f4) = true)
    (a5 : PySem.W.nsIn K mainGlobals "need_posts" = some (some (.ref f5)))
    (l5 : K.lookup f5 = some ⟨oc5, od5, .func (PySem.W.fnOf "need_posts" "need_posts" (defArgs s_need_posts) (defBody s_need_posts) (defScope s_need_posts) .none kV5 dc5 pm5 an5 cd5 ct5), sl5⟩) (c5 : PySem.W.codeIn K cd5 "need_posts" = true) (k5 : PySem.W.keepIn K (.ref f5) = true)
    (a6 : PySem.W.findIn K (.ref C_Ward) "__init__" = some (some (.ref f6))) (i6 : PySem.W.isFn K (.ref f6) = true)
    (l6 : K.lookup f6 = some ⟨oc6, od6, .func (PySem.W.fnOf "__init__" "Ward.__init__" (defArgs s_Ward___init__) (defBody s_Ward___init__) (defScope s_Ward___init__) .none kV6 dc6 pm6 an6 cd6 ct6), sl6⟩) (c6 : PySem.W.codeIn K cd6 "Ward.__init__" = true) (k6 : PySem.W.keepIn K (.ref f6) = true)
    (a7 : PySem.W.findIn K (.ref C_Near) "__init__" = some (some (.ref f7))) (i7 : PySem.W.isFn K (.ref f7) = true)
    (l7 : K.lookup f7 = some ⟨oc7, od7, .func (PySem.W.fnOf "__init__" "Near.__init__" (defArgs s_Near___init__) (defBody s_Near___init__) (defScope s_Near___init__) .none kV7 dc7 pm7 an7 cd7 ct7), sl7⟩) (c7 : PySem.W.codeIn K cd7 "Near.__init__" = true) (k7 : PySem.W.keepIn K (.ref f7) = true)
    (a8 : PySem.W.nsIn K mainGlobals "valued" = some (some (.ref f8)))
    (l8 : K.lookup f8 = some ⟨oc8, od8, .func (PySem.W.fnOf "valued" "valued" (defArgs s_valued) (defBody s_valued) (defScope s_valued) .none kV8 dc8 pm8 an8 cd8 ct8), sl8⟩) (c8 : PySem.W.codeIn K cd8 "valued" = true) (k8 : PySem.W.keepIn K (.ref f8) = true)
    (a9 : PySem.W.nsIn K mainGlobals "spread" = some (some (.ref f9)))
    (l9 : K.lookup f9 = some ⟨oc9, od9, .func (PySem.W.fnOf "spread" "spread" (defArgs s_spread) (defBody s_spread) (defScope s_spread) .none kV9 dc9 pm9 an9 cd9 ct9), sl9⟩) (c9 : PySem.W.codeIn K cd9 "spread" = true) (k9 : PySem.W.keepIn K (.ref f9) = true)
    (a10 : PySem.W.nsIn K mainGlobals "all_posts" = some (some (.ref f10)))
    (l10 : K.lookup f10 = some ⟨oc10, od10, .func (PySem.W.fnOf "all_posts" "all_posts" (defArgs s_all_posts) (defBody s_all_posts) (defScope s_all_posts) .none kV10 dc10 pm10 an10 cd10 ct10), sl10⟩) (c10 : PySem.W.codeIn K cd10 "all_posts" = true) (k10 : PySem.W.keepIn K (.ref f10) = true)
    (a11 : PySem.W.findIn K (.ref C_Near) "lines" = some (some (.ref f11))) (i11 : PySem.W.isFn K (.ref f11) = true)
    (l11 : K.lookup f11 = some ⟨oc11, od11, .func (PySem.W.fnOf "lines" "Near.lines" (defArgs s_Near_lines) (defBody s_Near_lines) (defScope s_Near_lines) .none kV11 dc11 pm11 an11 cd11 ct11), sl11⟩) (c11 : PySem.W.codeIn K cd11 "Near.lines" = true) (k11 : PySem.W.keepIn K (.ref f11) = true)
    (a12 : PySem.W.findIn K (.ref C_Near) "price" = some (some (.ref f12))) (i12 : PySem.W.isFn K (.ref f12) = true)
    (l12 : K.lookup f12 = some ⟨oc12, od12, .func (PySem.W.fnOf "price" "Near.price" (defArgs s_Near_price) (defBody s_Near_price) (defScope s_Near_price) .none kV12 dc12 pm12 an12 cd12 ct12), sl12⟩) (c12 : PySem.W.codeIn K cd12 "Near.price" = true) (k12 : PySem.W.keepIn K (.ref f12) = true)
    (a13 : PySem.W.findIn K (.ref C_Near) "plain" = some (some (.ref f13))) (i13 : PySem.W.isFn K (.ref f13) = true)
    (l13 : K.lookup f13 = some ⟨oc13, od13, .func (PySem.W.fnOf "plain" "Rule.plain" (defArgs s_Rule_plain) (defBody s_Rule_plain) (defScope s_Rule_plain) .none kV13 dc13 pm13 an13 cd13 ct13), sl13⟩) (c13 : PySem.W.codeIn K cd13 "Rule.plain" = true) (k13 : PySem.W.keepIn K (.ref f13) = true)
    (a14 : PySem.W.findIn K (.ref C_Near) "told" = some (some (.ref f14))) (i14 : PySem.W.isFn K (.ref f14) = true)
    (l14 : K.lookup f14 = some ⟨oc14, od14, .func (PySem.W.fnOf "told" "Rule.told" (defArgs s_Rule_told) (defBody s_Rule_told) (defScope s_Rule_told) .none kV14 dc14 pm14 an14 cd14 ct14), sl14⟩) (c14 : PySem.W.codeIn K cd14 "Rule.told" = true) (k14 : PySem.W.keepIn K (.ref f14) = true)
    (a15 : PySem.W.nsIn K mainGlobals "has_post" = some (some (.ref f15)))
    (l15 : K.lookup f15 = some ⟨oc15, od15, .func (PySem.W.fnOf "has_post" "has_post" (defArgs s_has_post) (defBody s_has_post) (defScope s_has_post) .none kV15 dc15 pm15 an15 cd15 ct15), sl15⟩) (c15 : PySem.W.codeIn K cd15 "has_post" = true) (k15 : PySem.W.keepIn K (.ref f15) = true)
    (a16 : PySem.W.nsIn K mainGlobals "is_value" = some (some (.ref f16)))
    (l16 : K.lookup f16 = some ⟨oc16, od16, .func (PySem.W.fnOf "is_value" "is_value" (defArgs s_is_value) (defBody s_is_value) (defScope s_is_value) .none kV16 dc16 pm16 an16 cd16 ct16), sl16⟩) (c16 : PySem.W.codeIn K cd16 "is_value" = true) (k16 : PySem.W.keepIn K (.ref f16) = true)
    (a17 : PySem.W.nsIn K mainGlobals "is_old" = some (some (.ref f17)))
    (l17 : K.lookup f17 = some ⟨oc17, od17, .func (PySem.W.fnOf "is_old" "is_old" (defArgs s_is_old) (defBody s_is_old) (defScope s_is_old) .none kV17 dc17 pm17 an17 cd17 ct17), sl17⟩) (c17 : PySem.W.codeIn K cd17 "is_old" = true) (k17 : PySem.W.keepIn K (.ref f17) = true)
    (a18 : PySem.W.findIn K (.ref C_Near) "fits" = some (some (.ref f18))) (i18 : PySem.W.isFn K (.ref f18) = true)
    (l18 : K.lookup f18 = some ⟨oc18, od18, .func (PySem.W.fnOf "fits" "Near.fits" (defArgs s_Near_fits) (defBody s_Near_fits) (defScope s_Near_fits) .none kV18 dc18 pm18 an18 cd18 ct18), sl18⟩) (c18 : PySem.W.codeIn K cd18 "Near.fits" = true) (k18 : PySem.W.keepIn K (.ref f18) = true)
    (a19 : PySem.W.nsIn K mainGlobals "_law_draw" = some (some (.ref f19)))
    (l19 : K.lookup f19 = some ⟨oc19, od19, .func (PySem.W.fnOf "_law_draw" "_law_draw" (defArgs s__law_draw) (defBody s__law_draw) (defScope s__law_draw) .none kV19 dc19 pm19 an19 cd19 ct19), sl19⟩) (c19 : PySem.W.codeIn K cd19 "_law_draw" = true) (k19 : PySem.W.keepIn K (.ref f19) = true)
    (a20 : PySem.W.nsIn K mainGlobals "_law_tables" = some (some (.ref f20)))
    (l20 : K.lookup f20 = some ⟨oc20, od20, .func (PySem.W.fnOf "_law_tables" "_law_tables" (defArgs s__law_tables) (defBody s__law_tables) (defScope s__law_tables) .none kV20 dc20 pm20 an20 cd20 ct20), sl20⟩) (c20 : PySem.W.codeIn K cd20 "_law_tables" = true) (k20 : PySem.W.keepIn K (.ref f20) = true)
    (a21 : PySem.W.nsIn K mainGlobals "_law_choices" = some (some (.ref f21)))
    (l21 : K.lookup f21 = some ⟨oc21, od21, .func (PySem.W.fnOf "_law_choices" "_law_choices" (defArgs s__law_choices) (defBody s__law_choices) (defScope s__law_choices) .none kV21 dc21 pm21 an21 cd21 ct21), sl21⟩) (c21 : PySem.W.codeIn K cd21 "_law_choices" = true) (k21 : PySem.W.keepIn K (.ref f21) = true)
    (a22 : PySem.W.nsIn K mainGlobals "_law_spots" = some (some (.ref f22)))
    (l22 : K.lookup f22 = some ⟨oc22, od22, .func (PySem.W.fnOf "_law_spots" "_law_spots" (defArgs s__law_spots) (defBody s__law_spots) (defScope s__law_spots) .none kV22 dc22 pm22 an22 cd22 ct22), sl22⟩) (c22 : PySem.W.codeIn K cd22 "_law_spots" = true) (k22 : PySem.W.keepIn K (.ref f22) = true)
    (a23 : PySem.W.nsIn K mainGlobals "_law_ward" = some (some (.ref f23)))
    (l23 : K.lookup f23 = some ⟨oc23, od23, .func (PySem.W.fnOf "_law_ward" "_law_ward" (defArgs s__law_ward) (defBody s__law_ward) (defScope s__law_ward) .none kV23 dc23 pm23 an23 cd23 ct23), sl23⟩) (c23 : PySem.W.codeIn K cd23 "_law_ward" = true) (k23 : PySem.W.keepIn K (.ref f23) = true)
    (a24 : PySem.W.nsIn K mainGlobals "_law_old" = some (some (.ref f24)))
    (l24 : K.lookup f24 = some ⟨oc24, od24, .func (PySem.W.fnOf "_law_old" "_law_old" (defArgs s__law_old) (defBody s__law_old) (defScope s__law_old) .none kV24 dc24 pm24 an24 cd24 ct24), sl24⟩) (c24 : PySem.W.codeIn K cd24 "_law_old" = true) (k24 : PySem.W.keepIn K (.ref f24) = true)
    (a25 : PySem.W.nsIn K mainGlobals "_law_spoilt" = some (some (.ref f25)))
    (l25 : K.lookup f25 = some ⟨oc25, od25, .func (PySem.W.fnOf "_law_spoilt" "_law_spoilt" (defArgs s__law_spoilt) (defBody s__law_spoilt) (defScope s__law_spoilt) .none kV25 dc25 pm25 an25 cd25 ct25), sl25⟩) (c25 : PySem.W.codeIn K cd25 "_law_spoilt" = true) (k25 : PySem.W.keepIn K (.ref f25) = true)
    (a26 : PySem.W.nsIn K mainGlobals "_law_whole" = some (some (.ref f26)))
    (l26 : K.lookup f26 = some ⟨oc26, od26, .func (PySem.W.fnOf "_law_whole" "_law_whole" (defArgs s__law_whole) (defBody s__law_whole) (defScope s__law_whole) .none kV26 dc26 pm26 an26 cd26 ct26), sl26⟩) (c26 : PySem.W.codeIn K cd26 "_law_whole" = true) (k26 : PySem.W.keepIn K (.ref f26) = true)
    (a27 : PySem.W.nsIn K mainGlobals "_law_priced" = some (some (.ref f27)))
    (l27 : K.lookup f27 = some ⟨oc27, od27, .func (PySem.W.fnOf "_law_priced" "_law_priced" (defArgs s__law_priced) (defBody s__law_priced) (defScope s__law_priced) .none kV27 dc27 pm27 an27 cd27 ct27), sl27⟩) (c27 : PySem.W.codeIn K cd27 "_law_priced" = true) (k27 : PySem.W.keepIn K (.ref f27) = true)
    (a28 : PySem.W.nsIn K mainGlobals "_law_sum" = some (some (.ref f28)))
    (l28 : K.lookup f28 = some ⟨oc28, od28, .func (PySem.W.fnOf "_law_sum" "_law_sum" (defArgs s__law_sum) (defBody s__law_sum) (defScope s__law_sum) .none kV28 dc28 pm28 an28 cd28 ct28), sl28⟩) (c28 : PySem.W.codeIn K cd28 "_law_sum" = true) (k28 : PySem.W.keepIn K (.ref f28) = true)
    (a29 : PySem.W.nsIn K mainGlobals "_law_changed" = some (some (.ref f29)))
    (l29 : K.lookup f29 = some ⟨oc29, od29, .func (PySem.W.fnOf "_law_changed" "_law_changed" (defArgs s__law_changed) (defBody s__law_changed) (defScope s__law_changed) .none kV29 dc29 pm29 an29 cd29 ct29), sl29⟩) (c29 : PySem.W.codeIn K cd29 "_law_changed" = true) (k29 : PySem.W.keepIn K (.ref f29) = true)
    (a30 : PySem.W.nsIn K mainGlobals "_law_lined" = some (some (.ref f30)))
    (l30 : K.lookup f30 = some ⟨oc30, od30, .func (PySem.W.fnOf "_law_lined" "_law_lined" (defArgs s__law_lined) (defBody s__law_lined) (defScope s__law_lined) .none kV30 dc30 pm30 an30 cd30 ct30), sl30⟩) (c30 : PySem.W.codeIn K cd30 "_law_lined" = true) (k30 : PySem.W.keepIn K (.ref f30) = true)
    (a31 : PySem.W.nsIn K mainGlobals "_law_prices" = some (some (.ref f31)))
    (l31 : K.lookup f31 = some ⟨oc31, od31, .func (PySem.W.fnOf "_law_prices" "_law_prices" (defArgs s__law_prices) (defBody s__law_prices) (defScope s__law_prices) .none kV31 dc31 pm31 an31 cd31 ct31), sl31⟩) (c31 : PySem.W.codeIn K cd31 "_law_prices" = true) (k31 : PySem.W.keepIn K (.ref f31) = true)
    (a32 : PySem.W.nsIn K mainGlobals "law" = some (some (.ref f32)))
    (l32 : K.lookup f32 = some ⟨oc32, od32, .func (PySem.W.fnOf "law" "law" (defArgs s_law) (defBody s_law) (defScope s_law) .none kV32 dc32 pm32 an32 cd32 ct32), sl32⟩) (c32 : PySem.W.codeIn K cd32 "law" = true) (k32 : PySem.W.keepIn K (.ref f32) = true)
    (z1 : PySem.W.nsIn K mainGlobals "all" = some none)
    (z2 : PySem.W.nsIn K mainGlobals "bool" = some none)
    (z3 : PySem.W.nsIn K mainGlobals "dict" = some none)
    (z4 : PySem.W.nsIn K mainGlobals "enumerate" = some none)
    (z5 : PySem.W.nsIn K mainGlobals "int" = some none)
    (z6 : PySem.W.nsIn K mainGlobals "isinstance" = some none)
    (z7 : PySem.W.nsIn K mainGlobals "len" = some none)
    (z8 : PySem.W.nsIn K mainGlobals "list" = some none)
    (z9 : PySem.W.nsIn K mainGlobals "max" = some none)
    (z10 : PySem.W.nsIn K mainGlobals "range" = some none)
    (z11 : PySem.W.nsIn K mainGlobals "str" = some none)
    (z12 : PySem.W.nsIn K mainGlobals "tuple" = some none)
    (g1 : PySem.W.nsIn K mainGlobals "MOST_CHANGES" = some (some (.int 999 gt1)))
    (g2 : PySem.W.nsIn K mainGlobals "MOST_DAYS" = some (some (.int 31 gt2)))
    (g3 : PySem.W.nsIn K mainGlobals "MOST_HANDS" = some (some (.int 8 gt3)))
    (g4 : PySem.W.nsIn K mainGlobals "MOST_POSTS" = some (some (.int 6 gt4)))
    : ∃ fd : FuncData, (∀ (s : Shared) (v : Value), BindsTo s fd ⟨[v], []⟩ [("_law_script", v)]) ∧ ∀ base : Heap, K.In base → base.Ns mainGlobals mg → FnOk l.prog w K mg base CX0 7 fa fd ["_law_script"] (sp_law K) := by
  have e := hfa.symm.trans (PySem.W.mg_of X G a32)
  cases e
  have T : Txt K mg C_Ward C_Near C_Rule := ⟨PySem.W.mg_none_of X G z1, PySem.W.mg_none_of X G z2, PySem.W.mg_none_of X G z3, PySem.W.mg_none_of X G z4, PySem.W.mg_none_of X G z5, PySem.W.mg_none_of X G z6, PySem.W.mg_none_of X G z7, PySem.W.mg_none_of X G z8, PySem.W.mg_none_of X G z9, PySem.W.mg_none_of X G z10, PySem.W.mg_none_of X G z11, PySem.W.mg_none_of X G z12, ⟨_, PySem.W.mg_of X G g1⟩, ⟨_, PySem.W.mg_of X G g2⟩, ⟨_, PySem.W.mg_of X G g3⟩, ⟨_, PySem.W.mg_of X G g4⟩, ⟨pg_Ward, hd_Ward, po_Ward, sa_Ward⟩, f_days_Ward, f_hands_Ward, f_posts_Ward, ⟨pg_Near, hd_Near, po_Near, sa_Near⟩, f_old_Near, f_many_Near, PySem.W.mg_of X G aC_Rule, ic_n, ig_o, it_o, im_n, kt_n⟩
  have F1 := fun_mk (st := s_need_month) l1 c1 k1
  have b1 := F1.binds (ps := ["days"]) fun _ _ _ _ _ _ us hl => by obtain ⟨_, rfl⟩ := len_1 (us := us) hl; rfl
  have F2 := fun_mk (st := s_is_skills) l2 c2 k2
  have b2 := F2.binds (ps := ["number"]) fun _ _ _ _ _ _ us hl => by obtain ⟨_, rfl⟩ := len_1 (us := us) hl; rfl
  have F3 := fun_mk (st := s_need_hands) l3 c3 k3
  have b3 := F3.binds (ps := ["hands"]) fun _ _ _ _ _ _ us hl => by obtain ⟨_, rfl⟩ := len_1 (us := us) hl; rfl
  have F4 := fun_mk (st := s_is_post) l4 c4 k4
  have b4 := F4.binds (ps := ["post"]) fun _ _ _ _ _ _ us hl => by obtain ⟨_, rfl⟩ := len_1 (us := us) hl; rfl
  have F5 := fun_mk (st := s_need_posts) l5 c5 k5
  have b5 := F5.binds (ps := ["posts"]) fun _ _ _ _ _ _ us hl => by obtain ⟨_, rfl⟩ := len_1 (us := us) hl; rfl
  have F6 := fun_mk (st := s_Ward___init__) l6 c6 k6
  have b6 := F6.binds (ps := ["self", "days", "hands", "posts"]) fun _ _ _ _ _ _ us hl => by obtain ⟨_, _, _, _, rfl⟩ := len_4 (us := us) hl; rfl
  have F7 := fun_mk (st := s_Near___init__) l7 c7 k7
  have b7 := F7.binds (ps := ["self", "old", "many"]) fun _ _ _ _ _ _ us hl => by obtain ⟨_, _, _, rfl⟩ := len_3 (us := us) hl; rfl
  have F8 := fun_mk (st := s_valued) l8 c8 k8
  have b8 := F8.binds (ps := ["old"]) fun _ _ _ _ _ _ us hl => by obtain ⟨_, rfl⟩ := len_1 (us := us) hl; rfl
  have F9 := fun_mk (st := s_spread) l9 c9 k9
  have b9 := F9.binds (ps := ["hand", "days", "posts", "number"]) fun _ _ _ _ _ _ us hl => by obtain ⟨_, _, _, _, rfl⟩ := len_4 (us := us) hl; rfl
  have F10 := fun_mk (st := s_all_posts) l10 c10 k10
  have b10 := F10.binds (ps := ["ward"]) fun _ _ _ _ _ _ us hl => by obtain ⟨_, rfl⟩ := len_1 (us := us) hl; rfl
  have F11 := fun_mk (st := s_Near_lines) l11 c11 k11
  have b11 := F11.binds (ps := ["self", "ward"]) fun _ _ _ _ _ _ us hl => by obtain ⟨_, _, rfl⟩ := len_2 (us := us) hl; rfl
  have F12 := fun_mk (st := s_Near_price) l12 c12 k12
  have b12 := F12.binds (ps := ["self", "ward"]) fun _ _ _ _ _ _ us hl => by obtain ⟨_, _, rfl⟩ := len_2 (us := us) hl; rfl
  have F13 := fun_mk (st := s_Rule_plain) l13 c13 k13
  have b13 := F13.binds (ps := ["self", "ward"]) fun _ _ _ _ _ _ us hl => by obtain ⟨_, _, rfl⟩ := len_2 (us := us) hl; rfl
  have F14 := fun_mk (st := s_Rule_told) l14 c14 k14
  have b14 := F14.binds (ps := ["self"]) fun _ _ _ _ _ _ us hl => by obtain ⟨_, rfl⟩ := len_1 (us := us) hl; rfl
  have F15 := fun_mk (st := s_has_post) l15 c15 k15
  have b15 := F15.binds (ps := ["ward", "post"]) fun _ _ _ _ _ _ us hl => by obtain ⟨_, _, rfl⟩ := len_2 (us := us) hl; rfl
  have F16 := fun_mk (st := s_is_value) l16 c16 k16
  have b16 := F16.binds (ps := ["ward", "value"]) fun _ _ _ _ _ _ us hl => by obtain ⟨_, _, rfl⟩ := len_2 (us := us) hl; rfl
  have F17 := fun_mk (st := s_is_old) l17 c17 k17
  have b17 := F17.binds (ps := ["ward", "old"]) fun _ _ _ _ _ _ us hl => by obtain ⟨_, _, rfl⟩ := len_2 (us := us) hl; rfl
  have F18 := fun_mk (st := s_Near_fits) l18 c18 k18
  have b18 := F18.binds (ps := ["self", "ward"]) fun _ _ _ _ _ _ us hl => by obtain ⟨_, _, rfl⟩ := len_2 (us := us) hl; rfl
  have F19 := fun_mk (st := s__law_draw) l19 c19 k19
  have b19 := F19.binds (ps := ["_law_script", "_law_k", "_law_many"]) fun _ _ _ _ _ _ us hl => by obtain ⟨_, _, _, rfl⟩ := len_3 (us := us) hl; rfl
  have F20 := fun_mk (st := s__law_tables) l20 c20 k20
  have b20 := F20.binds (ps := ["_law_spots_here"]) fun _ _ _ _ _ _ us hl => by obtain ⟨_, rfl⟩ := len_1 (us := us) hl; rfl
  have F21 := fun_mk (st := s__law_choices) l21 c21 k21
  have b21 := F21.binds (ps := ["_law_hands", "_law_posts", "_law_hand"]) fun _ _ _ _ _ _ us hl => by obtain ⟨_, _, _, rfl⟩ := len_3 (us := us) hl; rfl
  have F22 := fun_mk (st := s__law_spots) l22 c22 k22
  have b22 := F22.binds (ps := ["_law_days", "_law_hands", "_law_posts"]) fun _ _ _ _ _ _ us hl => by obtain ⟨_, _, _, rfl⟩ := len_3 (us := us) hl; rfl
  have F23 := fun_mk (st := s__law_ward) l23 c23 k23
  have b23 := F23.binds (ps := ["_law_script", "_law_most", "_law_top"]) fun _ _ _ _ _ _ us hl => by obtain ⟨_, _, _, rfl⟩ := len_3 (us := us) hl; rfl
  have F24 := fun_mk (st := s__law_old) l24 c24 k24
  have b24 := F24.binds (ps := ["_law_script", "_law_days", "_law_many", "_law_posts"]) fun _ _ _ _ _ _ us hl => by obtain ⟨_, _, _, _, rfl⟩ := len_4 (us := us) hl; rfl
  have F25 := fun_mk (st := s__law_spoilt) l25 c25 k25
  have b25 := F25.binds (ps := ["_law_script", "_law_old_here", "_law_posts"]) fun _ _ _ _ _ _ us hl => by obtain ⟨_, _, _, rfl⟩ := len_3 (us := us) hl; rfl
  have F26 := fun_mk (st := s__law_whole) l26 c26 k26
  have b26 := F26.binds (ps := ["_law_found"]) fun _ _ _ _ _ _ us hl => by obtain ⟨_, rfl⟩ := len_1 (us := us) hl; rfl
  have F27 := fun_mk (st := s__law_priced) l27 c27 k27
  have b27 := F27.binds (ps := ["_law_one", "_law_ward_here", "_law_spots_here", "_law_old_here", "_law_many"]) fun _ _ _ _ _ _ us hl => by obtain ⟨_, _, _, _, _, rfl⟩ := len_5 (us := us) hl; rfl
  have F28 := fun_mk (st := s__law_sum) l28 c28 k28
  have b28 := F28.binds (ps := ["_law_rota", "_law_parts"]) fun _ _ _ _ _ _ us hl => by obtain ⟨_, _, rfl⟩ := len_2 (us := us) hl; rfl
  have F29 := fun_mk (st := s__law_changed) l29 c29 k29
  have b29 := F29.binds (ps := ["_law_old_here", "_law_rota"]) fun _ _ _ _ _ _ us hl => by obtain ⟨_, _, rfl⟩ := len_2 (us := us) hl; rfl
  have F30 := fun_mk (st := s__law_lined) l30 c30 k30
  have b30 := F30.binds (ps := ["_law_one", "_law_ward_here", "_law_spots_here", "_law_old_here", "_law_many"]) fun _ _ _ _ _ _ us hl => by obtain ⟨_, _, _, _, _, rfl⟩ := len_5 (us := us) hl; rfl
  have F31 := fun_mk (st := s__law_prices) l31 c31 k31
  have b31 := F31.binds (ps := ["_law_one", "_law_days", "_law_hands", "_law_posts", "_law_old_here", "_law_many"]) fun _ _ _ _ _ _ us hl => by obtain ⟨_, _, _, _, _, _, rfl⟩ := len_6 (us := us) hl; rfl
  have F32 := fun_mk (st := s_law) l32 c32 k32
  refine ⟨PySem.W.fnOf "law" "law" (defArgs s_law) (defBody s_law) (defScope s_law) .none kV32 dc32 pm32 an32 cd32 ct32, fun s v => .of_eq rfl, fun base _ _ => ?_⟩
  have C_need_month : Cal l.prog w K mg base "need_month" ["days"] 1 (sp_need_month K C_Ward C_Near C_Rule) := ⟨_, _, ok_need_month F1 T , b1, k1, PySem.W.mg_of X G a1⟩
  have C_is_skills : Cal l.prog w K mg base "is_skills" ["number"] 1 (sp_is_skills K C_Ward C_Near C_Rule) := ⟨_, _, ok_is_skills F2 T , b2, k2, PySem.W.mg_of X G a2⟩
  have C_need_hands : Cal l.prog w K mg base "need_hands" ["hands"] 2 (sp_need_hands K C_Ward C_Near C_Rule) := ⟨_, _, ok_need_hands F3 T C_is_skills, b3, k3, PySem.W.mg_of X G a3⟩
  have C_is_post : Cal l.prog w K mg base "is_post" ["post"] 2 (sp_is_post K C_Ward C_Near C_Rule) := ⟨_, _, ok_is_post F4 T C_is_skills, b4, k4, PySem.W.mg_of X G a4⟩
  have C_need_posts : Cal l.prog w K mg base "need_posts" ["posts"] 3 (sp_need_posts K C_Ward C_Near C_Rule) := ⟨_, _, ok_need_posts F5 T C_is_post, b5, k5, PySem.W.mg_of X G a5⟩
  have I_Ward : CalI l.prog w K mg base "Ward" C_Ward ["self", "days", "hands", "posts"] 4 (sp_Ward___init__ K C_Ward C_Near C_Rule) := ⟨_, _, ok_Ward___init__ F6 T C_need_month C_need_hands C_need_posts, b6, ⟨mk_Ward, a6, i6, kc_Ward⟩, PySem.W.mg_of X G aC_Ward⟩
  have I_Near : CalI l.prog w K mg base "Near" C_Near ["self", "old", "many"] 1 (sp_Near___init__ K C_Ward C_Near C_Rule) := ⟨_, _, ok_Near___init__ F7 T , b7, ⟨mk_Near, a7, i7, kc_Near⟩, PySem.W.mg_of X G aC_Near⟩
  have C_valued : Cal l.prog w K mg base "valued" ["old"] 1 (sp_valued K C_Ward C_Near C_Rule) := ⟨_, _, ok_valued F8 T , b8, k8, PySem.W.mg_of X G a8⟩
  have C_spread : Cal l.prog w K mg base "spread" ["hand", "days", "posts", "number"] 1 (sp_spread K C_Ward C_Near C_Rule) := ⟨_, _, ok_spread F9 T , b9, k9, PySem.W.mg_of X G a9⟩
  have C_all_posts : Cal l.prog w K mg base "all_posts" ["ward"] 1 (sp_all_posts K C_Ward C_Near C_Rule) := ⟨_, _, ok_all_posts F10 T , b10, k10, PySem.W.mg_of X G a10⟩
  have M_Near_lines : CalM l.prog w K mg base C_Near "lines" ["self", "ward"] 2 (sp_Near_lines K C_Ward C_Near C_Rule) := ⟨_, _, ok_Near_lines F11 T C_valued C_spread C_all_posts, b11, ⟨a11, i11, k11⟩, T.cl_Near⟩
  have M_Near_price : CalM l.prog w K mg base C_Near "price" ["self", "ward"] 2 (sp_Near_price K C_Ward C_Near C_Rule) := ⟨_, _, ok_Near_price F12 T C_valued, b12, ⟨a12, i12, k12⟩, T.cl_Near⟩
  have M_Near_plain : CalM l.prog w K mg base C_Near "plain" ["self", "ward"] 1 (sp_Rule_plain K C_Ward C_Near C_Rule) := ⟨_, _, ok_Rule_plain F13 T , b13, ⟨a13, i13, k13⟩, T.cl_Near⟩
  have M_Near_told : CalM l.prog w K mg base C_Near "told" ["self"] 1 (sp_Rule_told K C_Ward C_Near C_Rule) := ⟨_, _, ok_Rule_told F14 T , b14, ⟨a14, i14, k14⟩, T.cl_Near⟩
  have C_has_post : Cal l.prog w K mg base "has_post" ["ward", "post"] 1 (sp_has_post K C_Ward C_Near C_Rule) := ⟨_, _, ok_has_post F15 T , b15, k15, PySem.W.mg_of X G a15⟩
  have C_is_value : Cal l.prog w K mg base "is_value" ["ward", "value"] 2 (sp_is_value K C_Ward C_Near C_Rule) := ⟨_, _, ok_is_value F16 T C_has_post, b16, k16, PySem.W.mg_of X G a16⟩
  have C_is_old : Cal l.prog w K mg base "is_old" ["ward", "old"] 3 (sp_is_old K C_Ward C_Near C_Rule) := ⟨_, _, ok_is_old F17 T C_is_value, b17, k17, PySem.W.mg_of X G a17⟩
  have M_Near_fits : CalM l.prog w K mg base C_Near "fits" ["self", "ward"] 4 (sp_Near_fits K C_Ward C_Near C_Rule) := ⟨_, _, ok_Near_fits F18 T C_is_old, b18, ⟨a18, i18, k18⟩, T.cl_Near⟩
  have C__law_draw : Cal l.prog w K mg base "_law_draw" ["_law_script", "_law_k", "_law_many"] 1 (sp__law_draw K C_Ward C_Near C_Rule) := ⟨_, _, ok__law_draw F19 T , b19, k19, PySem.W.mg_of X G a19⟩
  have C__law_tables : Cal l.prog w K mg base "_law_tables" ["_law_spots_here"] 1 (sp__law_tables K C_Ward C_Near C_Rule) := ⟨_, _, ok__law_tables F20 T , b20, k20, PySem.W.mg_of X G a20⟩
  have C__law_choices : Cal l.prog w K mg base "_law_choices" ["_law_hands", "_law_posts", "_law_hand"] 1 (sp__law_choices K C_Ward C_Near C_Rule) := ⟨_, _, ok__law_choices F21 T , b21, k21, PySem.W.mg_of X G a21⟩
  have C__law_spots : Cal l.prog w K mg base "_law_spots" ["_law_days", "_law_hands", "_law_posts"] 2 (sp__law_spots K C_Ward C_Near C_Rule) := ⟨_, _, ok__law_spots F22 T C__law_choices, b22, k22, PySem.W.mg_of X G a22⟩
  have C__law_ward : Cal l.prog w K mg base "_law_ward" ["_law_script", "_law_most", "_law_top"] 3 (sp__law_ward K C_Ward C_Near C_Rule) := ⟨_, _, ok__law_ward F23 T C__law_draw C__law_tables C__law_spots, b23, k23, PySem.W.mg_of X G a23⟩
  have C__law_old : Cal l.prog w K mg base "_law_old" ["_law_script", "_law_days", "_law_many", "_law_posts"] 2 (sp__law_old K C_Ward C_Near C_Rule) := ⟨_, _, ok__law_old F24 T C__law_draw, b24, k24, PySem.W.mg_of X G a24⟩
  have C__law_spoilt : Cal l.prog w K mg base "_law_spoilt" ["_law_script", "_law_old_here", "_law_posts"] 2 (sp__law_spoilt K C_Ward C_Near C_Rule) := ⟨_, _, ok__law_spoilt F25 T C__law_draw, b25, k25, PySem.W.mg_of X G a25⟩
  have C__law_whole : Cal l.prog w K mg base "_law_whole" ["_law_found"] 1 (sp__law_whole K C_Ward C_Near C_Rule) := ⟨_, _, ok__law_whole F26 T , b26, k26, PySem.W.mg_of X G a26⟩
  have C__law_priced : Cal l.prog w K mg base "_law_priced" ["_law_one", "_law_ward_here", "_law_spots_here", "_law_old_here", "_law_many"] 3 (sp__law_priced K C_Ward C_Near C_Rule) := ⟨_, _, ok__law_priced F27 T M_Near_price C__law_whole M_Near_plain M_Near_told, b27, k27, PySem.W.mg_of X G a27⟩
  have C__law_sum : Cal l.prog w K mg base "_law_sum" ["_law_rota", "_law_parts"] 1 (sp__law_sum K C_Ward C_Near C_Rule) := ⟨_, _, ok__law_sum F28 T , b28, k28, PySem.W.mg_of X G a28⟩
  have C__law_changed : Cal l.prog w K mg base "_law_changed" ["_law_old_here", "_law_rota"] 1 (sp__law_changed K C_Ward C_Near C_Rule) := ⟨_, _, ok__law_changed F29 T , b29, k29, PySem.W.mg_of X G a29⟩
  have C__law_lined : Cal l.prog w K mg base "_law_lined" ["_law_one", "_law_ward_here", "_law_spots_here", "_law_old_here", "_law_many"] 3 (sp__law_lined K C_Ward C_Near C_Rule) := ⟨_, _, ok__law_lined F30 T M_Near_lines C__law_sum C__law_changed, b30, k30, PySem.W.mg_of X G a30⟩
  have C__law_prices : Cal l.prog w K mg base "_law_prices" ["_law_one", "_law_days", "_law_hands", "_law_posts", "_law_old_here", "_law_many"] 6 (sp__law_prices K C_Ward C_Near C_Rule) := ⟨_, _, ok__law_prices F31 T I_Ward C__law_spots C__law_priced C__law_lined, b31, k31, PySem.W.mg_of X G a31⟩
  exact ok_law F32 T C__law_ward C__law_spots I_Ward C__law_old I_Near M_Near_lines C__law_spoilt C__law_prices C__law_draw M_Near_fits C__law_whole C__law_sum C__law_changed
theorem walk {l : PySem.W.OpenLaw} {q : Program} {loose : List Str} {XP : (Str → Option Value) → Heap → Prop} {YP : World → Heap → Prop} {d : DefRec} {K : Params → PySem.W.Frag} (hn : l.most = some 63) (hdf : d.params.defaults = [])
    (hY : ∀ (w : World) (h : Heap), YP w h → (K w.params).In h)
    (F : ∀ (w : World) (mg : Str → Option Value) (fa : Addr) (h : Heap), (K w.params).In h → h.Ns mainGlobals mg → mg d.name = some (.ref fa) →
      ∃ fd : FuncData, (∀ (s : Shared) (u : Value), BindsTo s fd ⟨[u], []⟩ [("_law_script", u)]) ∧ ∀ base : Heap, (K w.params).In base → base.Ns mainGlobals mg → FnOk l.prog w (K w.params) mg base CX0 7 fa fd ["_law_script"] (sp_law (K w.params))) :
    PySem.W.WalkO q loose XP YP l.row.toRowW d [] (fun f vs => PySem.call f vs) :=
  L2.walk_of (n := 63) (k := 7) (x := "_law_script") (CX := fun _ => CX0) (sp := fun w => sp_law (K w.params)) hn (by decide) hdf ⟨rfl, by decide, by decide⟩ hY F (fun _ _ a ns hl _ hS => ⟨a, ns, rfl, hS, hl, fun _ => rfl⟩) fun _ _ _ _ _ z => z
end My
open PySem PySem.W PyProof.Rows
set_option maxRecDepth 100000 in
set_option maxHeartbeats 0 in
theorem PySem.Challenge.cw_rotaward_k51_near_by_words_holds : PySem.Challenge.rw_rotaward_k51_near_by_words.Holds := by
  w_on; o_law; k_head; (case hw => w_witness2)
  k_fill
  refine My.walk (l := PySem.Challenge.rw_rotaward_k51_near_by_words) rfl rfl (fun w h Y => PySem.W.kIn_of Y) ?F
  case F =>
    intro w mg fa h KX G hmg
    refine' My.all_mk KX G hmg ?aC_Ward ?pg_Ward ?hd_Ward ?po_Ward ?sa_Ward ?mk_Ward ?kc_Ward ?f_days_Ward ?f_hands_Ward ?f_posts_Ward ?aC_Near ?pg_Near ?hd_Near ?po_Near ?sa_Near ?mk_Near ?kc_Near ?f_old_Near ?f_many_Near ?aC_Rule ?ic_n ?ig_o ?it_o ?im_n ?kt_n ?a1 ?l1 ?c1 ?k1 ?a2 ?l2 ?c2 ?k2 ?a3 ?l3 ?c3 ?k3 ?a4 ?l4 ?c4 ?k4 ?a5 ?l5 ?c5 ?k5 ?a6 ?i6 ?l6 ?c6 ?k6 ?a7 ?i7 ?l7 ?c7 ?k7 ?a8 ?l8 ?c8 ?k8 ?a9 ?l9 ?c9 ?k9 ?a10 ?l10 ?c10 ?k10 ?a11 ?i11 ?l11 ?c11 ?k11 ?a12 ?i12 ?l12 ?c12 ?k12 ?a13 ?i13 ?l13 ?c13 ?k13 ?a14 ?i14 ?l14 ?c14 ?k14 ?a15 ?l15 ?c15 ?k15 ?a16 ?l16 ?c16 ?k16 ?a17 ?l17 ?c17 ?k17 ?a18 ?i18 ?l18 ?c18 ?k18 ?a19 ?l19 ?c19 ?k19 ?a20 ?l20 ?c20 ?k20 ?a21 ?l21 ?c21 ?k21 ?a22 ?l22 ?c22 ?k22 ?a23 ?l23 ?c23 ?k23 ?a24 ?l24 ?c24 ?k24 ?a25 ?l25 ?c25 ?k25 ?a26 ?l26 ?c26 ?k26 ?a27 ?l27 ?c27 ?k27 ?a28 ?l28 ?c28 ?k28 ?a29 ?l29 ?c29 ?k29 ?a30 ?l30 ?c30 ?k30 ?a31 ?l31 ?c31 ?k31 ?a32 ?l32 ?c32 ?k32 ?z1 ?z2 ?z3 ?z4 ?z5 ?z6 ?z7 ?z8 ?z9 ?z10 ?z11 ?z12 ?g1 ?g2 ?g3 ?g4
    (case aC_Ward => k_is)
    (case pg_Ward => k_is)
    (case hd_Ward => k_is)
    (case po_Ward => k_is)
    (case sa_Ward => k_is)
    (case mk_Ward => k_is)
    (case kc_Ward => k_is)
    (case f_days_Ward => k_is)
    (case f_hands_Ward => k_is)
    (case f_posts_Ward => k_is)
    (case aC_Near => k_is)
    (case pg_Near => k_is)
    (case hd_Near => k_is)
    (case po_Near => k_is)
    (case sa_Near => k_is)
    (case mk_Near => k_is)
    (case kc_Near => k_is)
    (case f_old_Near => k_is)
    (case f_many_Near => k_is)
    (case aC_Rule => k_is)
    (case ic_n => k_is)
    (case ig_o => k_is)
    (case it_o => k_is)
    (case im_n => k_is)
    (case kt_n => kit_is)
    (case a1 => k_is)
    (case l1 => k_is)
    (case c1 => k_is)
    (case k1 => k_is)
    (case a2 => k_is)
    (case l2 => k_is)
    (case c2 => k_is)
    (case k2 => k_is)
    (case a3 => k_is)
    (case l3 => k_is)
    (case c3 => k_is)
    (case k3 => k_is)
    (case a4 => k_is)
    (case l4 => k_is)
    (case c4 => k_is)
    (case k4 => k_is)
    (case a5 => k_is)
    (case l5 => k_is)
    (case c5 => k_is)
    (case k5 => k_is)
    (case a6 => k_is)
    (case i6 => k_is)
    (case l6 => k_is)
    (case c6 => k_is)
    (case k6 => k_is)
    (case a7 => k_is)
    (case i7 => k_is)
    (case l7 => k_is)
    (case c7 => k_is)
    (case k7 => k_is)
    (case a8 => k_is)
    (case l8 => k_is)
    (case c8 => k_is)
    (case k8 => k_is)
    (case a9 => k_is)
    (case l9 => k_is)
    (case c9 => k_is)
    (case k9 => k_is)
    (case a10 => k_is)
    (case l10 => k_is)
    (case c10 => k_is)
    (case k10 => k_is)
    (case a11 => k_is)
    (case i11 => k_is)
    (case l11 => k_is)
    (case c11 => k_is)
    (case k11 => k_is)
    (case a12 => k_is)
    (case i12 => k_is)
    (case l12 => k_is)
    (case c12 => k_is)
    (case k12 => k_is)
    (case a13 => k_is)
    (case i13 => k_is)
    (case l13 => k_is)
    (case c13 => k_is)
    (case k13 => k_is)
    (case a14 => k_is)
    (case i14 => k_is)
    (case l14 => k_is)
    (case c14 => k_is)
    (case k14 => k_is)
    (case a15 => k_is)
    (case l15 => k_is)
    (case c15 => k_is)
    (case k15 => k_is)
    (case a16 => k_is)
    (case l16 => k_is)
    (case c16 => k_is)
    (case k16 => k_is)
    (case a17 => k_is)
    (case l17 => k_is)
    (case c17 => k_is)
    (case k17 => k_is)
    (case a18 => k_is)
    (case i18 => k_is)
    (case l18 => k_is)
    (case c18 => k_is)
    (case k18 => k_is)
    (case a19 => k_is)
    (case l19 => k_is)
    (case c19 => k_is)
    (case k19 => k_is)
    (case a20 => k_is)
    (case l20 => k_is)
    (case c20 => k_is)
    (case k20 => k_is)
    (case a21 => k_is)
    (case l21 => k_is)
    (case c21 => k_is)
    (case k21 => k_is)
    (case a22 => k_is)
    (case l22 => k_is)
    (case c22 => k_is)
    (case k22 => k_is)
    (case a23 => k_is)
    (case l23 => k_is)
    (case c23 => k_is)
    (case k23 => k_is)
    (case a24 => k_is)
    (case l24 => k_is)
    (case c24 => k_is)
    (case k24 => k_is)
    (case a25 => k_is)
    (case l25 => k_is)
    (case c25 => k_is)
    (case k25 => k_is)
    (case a26 => k_is)
    (case l26 => k_is)
    (case c26 => k_is)
    (case k26 => k_is)
    (case a27 => k_is)
    (case l27 => k_is)
    (case c27 => k_is)
    (case k27 => k_is)
    (case a28 => k_is)
    (case l28 => k_is)
    (case c28 => k_is)
    (case k28 => k_is)
    (case a29 => k_is)
    (case l29 => k_is)
    (case c29 => k_is)
    (case k29 => k_is)
    (case a30 => k_is)
    (case l30 => k_is)
    (case c30 => k_is)
    (case k30 => k_is)
    (case a31 => k_is)
    (case l31 => k_is)
    (case c31 => k_is)
    (case k31 => k_is)
    (case a32 => k_is)
    (case l32 => k_is)
    (case c32 => k_is)
    (case k32 => k_is)
    (case z1 => k_is)
    (case z2 => k_is)
    (case z3 => k_is)
    (case z4 => k_is)
    (case z5 => k_is)
    (case z6 => k_is)
    (case z7 => k_is)
    (case z8 => k_is)
    (case z9 => k_is)
    (case z10 => k_is)
    (case z11 => k_is)
    (case z12 => k_is)
    (case g1 => k_is)
    (case g2 => k_is)
    (case g3 => k_is)
    (case g4 => k_is)
