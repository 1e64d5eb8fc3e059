import PyProof.Rows.All
import Wide.All
import OpenK.AllK
import Wide.FinOn
import Lean
import PyProof.EqAt
import PyProof.EqKinds
import PyProof.TupleCall
import PySem.Challenge.RW_rotaward_k22_the_best_of_a_case
namespace PySem.W.Fast
def tw2469142241404688448:=0
def tw5386954993887280288:=0
def tw605453394958740960:=0
def tw4786988997810023136:=0
def tw7296534713397707488:=0
def tw10370878699586331681:=0
def tw6223541253549262977:=0
def tw1630892120112672929:=0
def tw12659513830299947553:=0
def tw6041619801174290977:=0
def tw12106266717464439425:=0
def tw15478073340516242177:=0
def tw9753295878522445761:=0
def tw788304686483608545:=0
def tw6694635879232323586:=0
def tw4490004062848532546:=0
def tw8875115266909891874:=0
def tw12578826757181330850:=0
def tw12470807889538432450:=0
def tw9548693498362693314:=0
def tw17822968505112325155:=0
def tw12551516060922383491:=0
def tw3259595105607013667:=0
def tw14093749000604025219:=0
def tw18342617494972281347:=0
def tw3993774385868758787:=0
def tw3955339480677730275:=0
def tw3173505998513480804:=0
def tw16912545791159911588:=0
def tw6291408239891316100:=0
def tw918366940848159140:=0
def tw2600764687077308004:=0
def tw15438236343925577348:=0
def tw17630372626260052612:=0
def tw3693460402740636324:=0
def tw12168332564821425828:=0
def tw17369171029732020900:=0
def tw5996677443246034660:=0
def tw6680205234600426244:=0
def tw1648145068035647236:=0
def tw5825834730066842404:=0
def tw10765995235708885892:=0
def tw1474740168400964580:=0
def tw10632263254836472804:=0
def tw8958007641534815333:=0
def tw13922907020184238245:=0
def tw4666340765593003365:=0
def tw9584496721017491877:=0
def tw2800915625878372837:=0
def tw14041353730516568645:=0
def tw12871633962985558789:=0
def tw3488377743605453637:=0
def tw7469551096213645221:=0
def tw16047006825845957638:=0
def tw14389132640801449030:=0
def tw2596725589776938182:=0
def tw9043925399236486342:=0
def tw3598897494243382566:=0
def tw3464784117934661126:=0
def tw3856313133996109478:=0
def tw2072273769929039590:=0
def tw11521763791165305574:=0
def tw4680540216902427430:=0
def tw12192253576131019654:=0
def tw170843175720118279:=0
def tw7657711542855283975:=0
def tw1978488200741987687:=0
def tw14649022547864086087:=0
def tw7694486325707397128:=0
def tw7170795506257908040:=0
def tw1439050441466953096:=0
def tw4980682233935916424:=0
def tw1704004196940301992:=0
def tw10484105154289582792:=0
def tw7363727977188551368:=0
def tw5178340723215540393:=0
def tw10542800964021568681:=0
def tw13315599516660330665:=0
def tw16998281176425128393:=0
def tw13242550914903821897:=0
def tw1627731872670230121:=0
def tw8141700745389194921:=0
def tw3338746979745148905:=0
def tw2348474892877658122:=0
def tw9950831215814221898:=0
def tw12729629039689429162:=0
def tw18413329288448230602:=0
def tw3532976153784560906:=0
def tw10475899330037485866:=0
def tw7693450780127203786:=0
def tw5677040979483478570:=0
def tw6655695598640969290:=0
def tw9658799156476139146:=0
def tw4040483808708148938:=0
def tw6829392405259682698:=0
def tw6003324655366367146:=0
def tw7452175647989949707:=0
def tw10799405264329806251:=0
def tw4844328330924361227:=0
def tw2166633480613348875:=0
def tw3946191680352075659:=0
def tw1262817158196272043:=0
def tw17635397138808539340:=0
def tw2404430554547771628:=0
def tw4709586318868452684:=0
def tw7460512087172437452:=0
def tw12895648745449456300:=0
def tw10841195294348666540:=0
def tw13625846275231073004:=0
def tw3087884733313963884:=0
def tw9129628899461872717:=0
def tw7323997660351877293:=0
def tw3159313149405151405:=0
def tw4371877468574797037:=0
def tw15185366329110904237:=0
def tw17797604384562445837:=0
def tw9186546492973210221:=0
def tw16562674364002770605:=0
def tw16204669577937352461:=0
def tw3694870604114139981:=0
def tw10159228788849691565:=0
def tw5989844628295641037:=0
def tw17165748354586548205:=0
def tw5687743017204128462:=0
def tw12869718340326569678:=0
def tw14387673525327982510:=0
def tw18157171735903906831:=0
def tw3414282918031636527:=0
def tw9064455248762464367:=0
def tw8723149816947723439:=0
def tw4048494047149290703:=0
def tw3901066493680050607:=0
def tw14564391413866114511:=0
def tw472363537146142223:=0
def tw12980954838383951407:=0
def tw16699843527531172495:=0
def tw1634444304268664751:=0
def tw5929470925832983664:=0
def tw195333130609125616:=0
def tw3723454553191548208:=0
def tw2584879843788410160:=0
def tw12513925821574765008:=0
def tw12002310562377233904:=0
def tw9905471574678219248:=0
def tw2332241499766440592:=0
def tw4133841059264662192:=0
def tw10800722488544382672:=0
def tw1274145959145313232:=0
def tw16082592936528180241:=0
def tw15576123010900882513:=0
def tw10696028405553222065:=0
def tw14654085502225654321:=0
def tw9734558974787557105:=0
def tw17366541536386671441:=0
def tw2024482123766267825:=0
def tw14563527892046670833:=0
def tw9918614186094874802:=0
def tw9169446129996918034:=0
def tw7443712380522455346:=0
def tw5203445397141080434:=0
def tw11925690726778859186:=0
def tw13907808313840987954:=0
def tw2065983173558228882:=0
def tw16045966155765836915:=0
def tw8483692387657068723:=0
def tw18431583072106084563:=0
def tw2886804951979780499:=0
def tw10488895473558136307:=0
def tw4089295053272791699:=0
def tw2508315023805213491:=0
def tw11260963637256235859:=0
def tw6478623482586038356:=0
def tw4469194008258180308:=0
def tw5264627133748284820:=0
def tw9801588575873536404:=0
def tw8505079794174083125:=0
def tw4170531117407412309:=0
def tw1679765644628865493:=0
def tw5438808312610641397:=0
def tw9478367148500828917:=0
def tw6865589739929114613:=0
def tw6868754195286916182:=0
def tw10984751645019804918:=0
def tw17586203557466290550:=0
def tw14790981263308684118:=0
def tw18024007715163921270:=0
def tw9312128580622191703:=0
def tw321189469942155415:=0
def tw2673766937614493879:=0
def tw14649026058948635959:=0
def tw9063240565224400215:=0
def tw8323206317309367639:=0
def tw5591167040302939671:=0
def tw4504898441142873751:=0
def tw4116718997496224535:=0
def tw7715766410794848600:=0
def tw5676412736656938520:=0
def tw3953136333778343448:=0
def tw4027746134965466137:=0
def tw15809529685761587321:=0
def tw6773006398379617465:=0
def tw3048195537771664665:=0
def tw7112336180391923193:=0
def tw14026688949216591385:=0
def tw6900905111816008281:=0
def tw2183269868784034649:=0
def tw16245389122433970041:=0
def tw6369764932957140889:=0
def tw7003362581785302202:=0
def tw13343660753556871386:=0
def tw11496594704803169562:=0
def tw14639085333141615930:=0
def tw7117208200525821818:=0
def tw7488049579275381690:=0
def tw9531988434093553626:=0
def tw15441881673046697211:=0
def tw4380997123884145979:=0
def tw7418951038413348187:=0
def tw4053566600597879163:=0
def tw15219982863080038203:=0
def tw12967214957572269947:=0
def tw12515023256008001531:=0
def tw18186507118522989724:=0
def tw2748030871116770492:=0
def tw487055015559895260:=0
def tw14845238023665603868:=0
def tw108704950004157756:=0
def tw3914254396012888444:=0
def tw5566847983884517756:=0
def tw16495058171914513852:=0
def tw5136643962537431804:=0
def tw602580059239547868:=0
def tw4264557031935205533:=0
def tw7307460839921163517:=0
def tw6551851397061203197:=0
def tw5064677080148202781:=0
def tw1724809117221453533:=0
def tw3849885108990927581:=0
def tw2701154855504108285:=0
def tw15342054225998896893:=0
def tw10562004535344578429:=0
def tw4322630448089960606:=0
def tw3370584385195784446:=0
def tw1219000659683815742:=0
def tw17571837541881558526:=0
def tw3263166593069974142:=0
def tw5614526063389182622:=0
def tw10106238069343197854:=0
def tw12690779910644855071:=0
def tw1761446176186280255:=0
def tw12902579199820282335:=0
def tw12461065030085115455:=0
def tw2029621589702642303:=0
def tw6169899383984169951:=0
def tw15828759961685503162:=0
end PySem.W.Fast
set_option Elab.async false
set_option linter.all false
set_option maxRecDepth 100000
namespace L2
open PySem PySem.Spec PyProof.Rows

/-- a key: an int or a str -/
abbrev Key := Sum Int Str
def keyIs : Key → Value → Bool
  | .inl k, v => Value.isInt k v
  | .inr x, v => Value.isStrOf x v
def keyH (w : World) : Key → Int
  | .inl k => hashInt k
  | .inr x => hashStr w x
theorem keyIs_shape : ∀ {k : Key} {v : Value}, keyIs k v = true → (∃ i t, k = Sum.inl i ∧ v = Value.int i t) ∨ (∃ x t, k = Sum.inr x ∧ v = Value.str x t)
  | .inl i, v, h => by
    obtain ⟨t, e⟩ := Value.isInt_shape (k := i) (v := v) h
    exact .inl ⟨i, t, rfl, e⟩
  | .inr x, v, h => by
    obtain ⟨t, e⟩ := Value.isStrOf_shape (x := x) (v := v) h
    exact .inr ⟨x, t, rfl, e⟩
theorem keyIs_int (i : Int) (t : Tok) : keyIs (.inl i) (.int i t) = true := by simp [keyIs, Value.isInt]
theorem keyIs_str (x : Str) (t : Tok) : keyIs (.inr x) (.str x t) = true := by simp [keyIs, Value.isStrOf]
theorem key_ll (a b : Int) : decide ((Sum.inl a : Key) = Sum.inl b) = (a == b) := by
  by_cases e : a = b
  · subst e; simp
  · have h : ¬ (Sum.inl a : Key) = Sum.inl b := fun q => e (Sum.inl.inj q)
    rw [decide_eq_false h]
    exact (beq_eq_false_iff_ne.mpr e).symm
theorem key_rr (a b : Str) : decide ((Sum.inr a : Key) = Sum.inr b) = decide (a = b) := by
  by_cases e : a = b
  · subst e; simp
  · have h : ¬ (Sum.inr a : Key) = Sum.inr b := fun q => e (Sum.inr.inj q)
    rw [decide_eq_false h, decide_eq_false e]
theorem key_lr (a : Int) (b : Str) : decide ((Sum.inl a : Key) = Sum.inr b) = false := decide_eq_false (fun q => nomatch q)
theorem key_rl (a : Str) (b : Int) : decide ((Sum.inr a : Key) = Sum.inl b) = false := decide_eq_false (fun q => nomatch q)

def mixKind (prog : Program) (w : World) : PySem.KeyKind prog w Key where
  is := keyIs
  hash := keyH w
  inj := fun v a b ha hb => by
    rcases keyIs_shape ha with ⟨i, t, rfl, rfl⟩ | ⟨x, t, rfl, rfl⟩
    · rcases keyIs_shape hb with ⟨j, u, rfl, e⟩ | ⟨y, u, rfl, e⟩
      · injection e with e1 _; rw [e1]
      · exact nomatch e
    · rcases keyIs_shape hb with ⟨j, u, rfl, e⟩ | ⟨y, u, rfl, e⟩
      · exact nomatch e
      · injection e with e1 _; rw [e1]
  byValue := fun k v h => by
    rcases keyIs_shape h with ⟨i, t, rfl, rfl⟩ | ⟨x, t, rfl, rfl⟩ <;> rfl
  pyHash := fun hv h => by
    rcases keyIs_shape hv with ⟨i, t, rfl, rfl⟩ | ⟨x, t, rfl, rfl⟩
    · exact wpAny_pyHash_int h
    · exact wpAny_pyHash_str h
  eqBool := fun hu hv h => by
    rcases keyIs_shape hu with ⟨i, t, rfl, rfl⟩ | ⟨x, t, rfl, rfl⟩
    · rcases keyIs_shape hv with ⟨j, u, rfl, rfl⟩ | ⟨y, u, rfl, rfl⟩
      · rw [key_ll] at h; exact wpAny_eqBool_int h
      · rw [key_lr] at h; exact SeqAt.EqAt.int_str i t y u _ _ _ _ h
    · rcases keyIs_shape hv with ⟨j, u, rfl, rfl⟩ | ⟨y, u, rfl, rfl⟩
      · rw [key_rl] at h; exact SeqAt.EqAt.str_int x t j u _ _ _ _ h
      · rw [key_rr] at h; exact wpAny_eqBool_str h
  «strs» := fun k x t v h => by
    rcases keyIs_shape h with ⟨i, u, rfl, e⟩ | ⟨y, u, rfl, e⟩
    · exact nomatch e
    · injection e with e1 _
      subst e1
      cases v <;> rfl

theorem mixKind_int (prog : Program) (w : World) (i : Int) (t : Tok) : (mixKind prog w).is (.inl i) (.int i t) = true := keyIs_int i t
theorem mixKind_str (prog : Program) (w : World) (x : Str) (t : Tok) : (mixKind prog w).is (.inr x) (.str x t) = true := keyIs_str x t
end L2

namespace L2
open PySem PySem.Spec PyProof.Rows

/-- a value, without the heap -/
inductive V where
  | non | bl (b : Bool) | int (i : Int) | str (x : Str) | byt (b : Array UInt8) | flt (b : UInt64) | ref (a : Addr) | ty (n : String)
  deriving DecidableEq

def RelV : V → Value → Prop
  | .non, u => u = Value.none
  | .bl b, u => u = Value.bool b
  | .int i, u => ∃ t, u = Value.int i t
  | .str x, u => ∃ t, u = Value.str x t
  | .byt b, u => ∃ t, u = Value.bytes b t
  | .flt b, u => ∃ t, u = Value.float b t
  | .ref a, u => u = Value.ref a
  | .ty n, u => u = Value.type n

abbrev Vals : List V → List Value → Prop := Paired RelV
theorem Vals.length {xs : List V} {us : List Value} (r : Vals xs us) : xs.length = us.length := Paired.length r
theorem Vals.get : ∀ {xs : List V} {us : List Value} {i : Nat} {x : V}, Vals xs us → xs[i]? = some x → ∃ u, us[i]? = some u ∧ RelV x u
  | _, _, _, _, .nil, e => by simp at e
  | _, _, 0, _, .cons r _, e => by simp at e; subst e; exact ⟨_, rfl, r⟩
  | _, _, i + 1, x, .cons _ t, e => by
    obtain ⟨u, h1, h2⟩ := Vals.get (i := i) (x := x) t (by simpa using e)
    exact ⟨u, by simpa using h1, h2⟩
theorem Vals.set {x : V} {u : Value} (r : RelV x u) : ∀ {xs : List V} {us : List Value} (i : Nat), Vals xs us → Vals (xs.set i x) (us.set i u)
  | _, _, _, .nil => .nil
  | _, _, 0, .cons _ t => .cons r t
  | _, _, i + 1, .cons q t => .cons q (Vals.set r i t)
theorem Vals.append : ∀ {xs ys : List V} {us ws : List Value}, Vals xs us → Vals ys ws → Vals (xs ++ ys) (us ++ ws)
  | _, _, _, _, .nil, s => s
  | _, _, _, _, .cons r t, s => .cons r (Vals.append t s)
theorem Vals.take : ∀ {xs : List V} {us : List Value} (n : Nat), Vals xs us → Vals (xs.take n) (us.take n)
  | _, _, 0, _ => .nil
  | _, _, _ + 1, .nil => .nil
  | _, _, n + 1, .cons r t => .cons r (Vals.take n t)
theorem Vals.drop : ∀ {xs : List V} {us : List Value} (n : Nat), Vals xs us → Vals (xs.drop n) (us.drop n)
  | _, _, 0, r => r
  | _, _, _ + 1, .nil => .nil
  | _, _, n + 1, .cons _ t => Vals.drop n t
def RelO : Option V → Option Value → Prop
  | some v, some u => RelV v u
  | none, none => True
  | _, _ => False
def KV {κ : Type} : List (κ × V) → List (κ × Value) → Prop := Paired fun (p : κ × V) (q : κ × Value) => p.1 = q.1 ∧ RelV p.2 q.2

/-- a key of a dict (00_mix): an int or a text -/
def kV : Key → V
  | .inl i => .int i
  | .inr x => .str x

/-- what stands at a tracked address -/
inductive HO where
  /-- a list -/
  | lst (xs : List V)
  /-- a tuple (never changes) -/
  | tup (xs : List V)
  /-- a dict whose keys are ints and texts; one whose keys are tuples of ints and texts (the empty one is both) -/
  | dK (kvs : List (Key × V)) | dT (kvs : List (List Key × V))
  /-- a set of ints: its members, its size -/
  | set (S : Int → Bool) (n : Nat)
  /-- an instance of the class at C, its dict at dx, its attributes -/
  | ins (C dx : Addr) (fs : List (Str × V))
  /-- the dict of the instance at x -/
  | own (x : Addr)
  /-- the dict of an exception -/
  | xd (fs : List (Str × V))
  /-- a bound method, f of x -/
  | met (f x : Addr)
  /-- a range object lo, lo + 1, .. below hi -/
  | rng (lo hi : Int)
  /-- a thing that is known to the object (the script; a dict while a loop walks it): read, never written while it is so -/
  | frz (o : Obj) (u : HO)
  /-- a code object's table -/
  | tbl (ps : Array Value)
  /-- any other thing, by what is true of its one object (a def of one's own: SetO a S n := HO.ext fun h => ..) -/
  | ext (φ : Heap → Prop)

abbrev Hp := Addr → Option HO
def upd (H : Hp) (a : Addr) (o : HO) : Hp := fun b => if b = a then some o else H b
theorem upd_same {H : Hp} {a : Addr} {o : HO} : upd H a o a = some o := by unfold upd; rw [if_pos rfl]
theorem upd_ne {H : Hp} {a b : Addr} {o : HO} (h : b ≠ a) : upd H a o b = H b := by unfold upd; rw [if_neg h]
theorem upd_upd {H : Hp} {a : Addr} {o u : HO} : upd (upd H a o) a u = upd H a u := by
  funext b; unfold upd; split <;> rfl
/-- two objects of different content stand apart -/
theorem ne_of {H : Hp} {a b : Addr} {o u : HO} (h : H a = some o) (h' : H b = some u) (d : o ≠ u) : a ≠ b := by
  intro e; subst e; rw [h] at h'; exact d (Option.some.inj h')
theorem ne_of_none {H : Hp} {a b : Addr} {o : HO} (h : H a = some o) (h' : H b = none) : a ≠ b := by
  intro e; subst e; rw [h] at h'; cases h'

section
variable (P : Program) (w : World)
def ObjOk (H : Hp) (h : Heap) (a : Addr) : HO → Prop
  | .lst xs => xs.length ≤ sizeLine ∧ ∃ (its : List Value) (n : Nat), Vals xs its ∧ h.get? a = some { cls := .type "list", data := .seq its.toArray n }
  | .tup xs => xs.length ≤ sizeLine ∧ ∃ its : List Value, Vals xs its ∧ IsTup h a its.toArray
  | .dK kvs => kvs.length ≤ sizeLine ∧ (a == sysModules) = false ∧ ∃ vs, KV kvs vs ∧ h.DictOf (mixKind P w) a vs
  | .dT kvs => kvs.length ≤ sizeLine ∧ (a == sysModules) = false ∧ ∃ xs : List (List Key × Addr × Value),
      Paired (fun (p : List Key × V) (q : List Key × Addr × Value) => p.1 = q.1 ∧ H q.2.1 = some (.tup (p.1.map kV)) ∧ RelV p.2 q.2.2) kvs xs ∧
      ∃ o es ep, h.get? a = some o ∧ o.ExactDict ∧ o.data = .dict es ep ∧ es.toList = xs.map (entryOfKey (tupleKind (mixKind P w))) ∧ (xs.map (·.1)).Nodup
  | .set S n => h.SetOf (intKind P w) a S n
  | .ins C dx fs => H dx = some (.own a) ∧ fs.length ≤ 1000 ∧ dx ≠ a ∧ h.get? a = some (PySem.W.instObj C dx) ∧
      ∃ mA, h.Ns1 dx mA ∧ (∀ f, RelO (fs.lookup f) (mA f)) ∧ PySem.Within mA (fs.map (·.1))
  | .own _ => ∃ o, h.get? a = some o
  | .xd fs => ∃ mA, h.Ns1 a mA ∧ ∀ f, RelO (fs.lookup f) (mA f)
  | .rng lo hi => ∃ t u v, h.get? a = some { cls := .type "range", data := .fields #[.int lo t, .int hi u, .int 1 v] }
  | .frz o u => h.get? a = some o ∧ ObjOk H h a u
  | .tbl ps => h.get? a = some { cls := .none, data := .fields ps }
  | .met f x => h.get? a = some (PySem.W.methodObj (.ref f) (.ref x))
  | .ext φ => φ h ∧ (∃ o, h.get? a = some o) ∧ ∀ h1 h2 : Heap, φ h1 → (∀ o, h1.get? a = some o → h2.get? a = some o) → φ h2
/-- the abstract heap is held -/
def HOk (H : Hp) (h : Heap) : Prop := ∀ a o, H a = some o → ObjOk P w H h a o
end

section
variable {P : Program} {w : World} {H H' : Hp} {h h' : Heap} {a : Addr} {o : HO}
theorem ObjOk.lt (x : ObjOk P w H h a o) : a < h.objs.size := by
  cases o with
  | lst xs => obtain ⟨_, _, _, _, e⟩ := x; exact Heap.lt_size e
  | tup xs => obtain ⟨_, _, _, p⟩ := x; exact p.lt
  | dK kvs => obtain ⟨_, _, _, _, o, _, _, e, _⟩ := x; exact Heap.lt_size e
  | dT kvs => obtain ⟨_, _, _, _, o, _, _, e, _⟩ := x; exact Heap.lt_size e
  | set S n => obtain ⟨o, _, _, _, e, _⟩ := x; exact Heap.lt_size e
  | ins C dx fs => obtain ⟨_, _, _, e, _⟩ := x; exact Heap.lt_size e
  | own y => obtain ⟨_, e⟩ := x; exact Heap.lt_size e
  | xd fs => obtain ⟨_, ⟨_, _, _, e, _⟩, _⟩ := x; exact Heap.lt_size e
  | rng lo hi => obtain ⟨_, _, _, e⟩ := x; exact Heap.lt_size e
  | frz ob u => obtain ⟨e, _⟩ := x; exact Heap.lt_size e
  | tbl ps => exact Heap.lt_size (show h.get? a = some _ from x)
  | met f y => exact Heap.lt_size (show h.get? a = some _ from x)
  | ext φ => obtain ⟨_, ⟨_, e⟩, _⟩ := x; exact Heap.lt_size e
theorem Paired.mapP {α β : Type} {F G : α → β → Prop} : ∀ {l₁ : List α} {l₂ : List β}, Paired F l₁ l₂ → (∀ a b, F a b → G a b) → Paired G l₁ l₂
  | _, _, .nil, _ => .nil
  | _, _, .cons r t, f => .cons (f _ _ r) (Paired.mapP t f)
/-- what an object's description leans on: its own object, its own dict, the tuples -/
theorem ObjOk.stay (x : ObjOk P w H h a o) (k : ∀ b u, (b = a ∨ H b = some (.own a)) → h.get? b = some u → h'.get? b = some u)
    (ho : ∀ b, H b = some (.own a) → H' b = some (.own a)) (ht : ∀ b xs, H b = some (.tup xs) → H' b = some (.tup xs)) : ObjOk P w H' h' a o := by
  induction o with
  | lst xs => obtain ⟨z, its, n, r, e⟩ := x; exact ⟨z, its, n, r, k _ _ (.inl rfl) e⟩
  | tup xs => obtain ⟨z, its, r, ob, e, c⟩ := x; exact ⟨z, its, r, ob, k _ _ (.inl rfl) e, c⟩
  | dK kvs => obtain ⟨z, y, vs, r, ob, es, ep, e, c⟩ := x; exact ⟨z, y, vs, r, ob, es, ep, k _ _ (.inl rfl) e, c⟩
  | dT kvs =>
    obtain ⟨z, y, xs, r, ob, es, ep, e, c⟩ := x
    exact ⟨z, y, xs, Paired.mapP r fun p q z => ⟨z.1, ht _ _ z.2.1, z.2.2⟩, ob, es, ep, k _ _ (.inl rfl) e, c⟩
  | set S n => obtain ⟨ob, es, ep, t, e, c⟩ := x; exact ⟨ob, es, ep, t, k _ _ (.inl rfl) e, c⟩
  | ins C dx fs =>
    obtain ⟨d, z, ne, e, mA, ⟨od, es, ep, e2, c⟩, r⟩ := x
    exact ⟨ho _ d, z, ne, k _ _ (.inl rfl) e, mA, ⟨od, es, ep, k _ _ (.inr d) e2, c⟩, r⟩
  | own y => obtain ⟨ob, e⟩ := x; exact ⟨ob, k _ _ (.inl rfl) e⟩
  | xd fs => obtain ⟨mA, ⟨od, es, ep, e, c⟩, r⟩ := x; exact ⟨mA, ⟨od, es, ep, k _ _ (.inl rfl) e, c⟩, r⟩
  | rng lo hi => obtain ⟨t, u, v, e⟩ := x; exact ⟨t, u, v, k _ _ (.inl rfl) e⟩
  | frz ob u ih => obtain ⟨e, q⟩ := x; exact ⟨k _ _ (.inl rfl) e, ih q⟩
  | tbl ps =>
    have e : h.get? a = some { cls := .none, data := .fields ps } := x
    show h'.get? a = some { cls := .none, data := .fields ps }
    exact k a _ (.inl rfl) e
  | met f y =>
    have e : h.get? a = some (PySem.W.methodObj (.ref f) (.ref y)) := x
    show h'.get? a = some (PySem.W.methodObj (.ref f) (.ref y))
    exact k a _ (.inl rfl) e
  | ext φ => obtain ⟨p, ⟨o, e⟩, st⟩ := x; exact ⟨st _ _ p fun o q => k _ _ (.inl rfl) q, ⟨o, k _ _ (.inl rfl) e⟩, st⟩
theorem HOk.lt (x : HOk P w H h) (e : H a = some o) : a < h.objs.size := (x a o e).lt
theorem HOk.fresh (x : HOk P w H h) (e : h.objs.size ≤ a) : H a = none := by
  cases q : H a with
  | none => rfl
  | some u => exact absurd (Nat.lt_of_lt_of_le (x.lt q) e) (Nat.lt_irrefl _)
/-- every object of the heap is kept -/
theorem HOk.kept (x : HOk P w H h) (k : ∀ b u, h.get? b = some u → h'.get? b = some u) : HOk P w H h' := fun a o e =>
  (x a o e).stay (fun b u _ q => k b u q) (fun _ q => q) fun _ _ q => q
/-- a new object is laid and tracked -/
theorem HOk.laid (x : HOk P w H h) (k : ∀ b u, h.get? b = some u → h'.get? b = some u) (hp : h.objs.size ≤ a) (new : ObjOk P w (upd H a o) h' a o) : HOk P w (upd H a o) h' := fun b u e => by
  have hn := x.fresh hp
  by_cases hb : b = a
  · subst hb; rw [upd_same] at e; cases e; exact new
  · rw [upd_ne hb] at e
    exact (x b u e).stay (fun c v _ q => k c v q) (fun c q => by rw [upd_ne (ne_of_none q hn)]; exact q) fun c xs q => by rw [upd_ne (ne_of_none q hn)]; exact q
end

/-- what may be read as u: it is u, or a known u -/
def Rd (H : Hp) (a : Addr) (u : HO) : Prop := H a = some u ∨ ∃ o, H a = some (.frz o u)
theorem Rd.ok {P : Program} {w : World} {H : Hp} {h : Heap} {a : Addr} {u : HO} (r : Rd H a u) (x : HOk P w H h) : ObjOk P w H h a u := by
  rcases r with r | ⟨o, r⟩
  · exact x a u r
  · obtain ⟨_, q⟩ := x a _ r
    exact q
/-- what may be written -/
def Mut : Option HO → Prop
  | some (.lst _) => True
  | some (.dK _) => True
  | some (.dT _) => True
  | some (.set _ _) => True
  | some (.ins _ _ _) => True
  | some (.ext _) => True
  | _ => False
section
variable {P : Program} {w : World} {H : Hp} {h h' : Heap} {x e : Addr} {o' : HO}
/-- the object at e is changed: x itself, or the dict of the instance x -/
theorem HOk.write (ok : HOk P w H h) (mu : Mut (H x)) (he : e = x ∨ H e = some (.own x)) (k : ∀ b u, b ≠ e → h.get? b = some u → h'.get? b = some u) (heo : ∃ u, h'.get? e = some u)
    (new : ObjOk P w (upd H x o') h' x o') : HOk P w (upd H x o') h' := fun b u q => by
  have nown : ∀ c y, H c = some (.own y) → c ≠ x := fun c y r z => by subst z; rw [r] at mu; exact mu
  have ntup : ∀ c xs, H c = some (.tup xs) → c ≠ x := fun c xs r z => by subst z; rw [r] at mu; exact mu
  by_cases hb : b = x
  · subst hb; rw [upd_same] at q; cases q; exact new
  · rw [upd_ne hb] at q
    by_cases hbe : b = e
    · have q' : H b = some (.own x) := by
        rcases he with z | z
        · exact absurd (hbe.trans z) hb
        · rw [hbe]; exact z
      rw [q] at q'; cases q'
      obtain ⟨v, hv⟩ := heo
      exact ⟨v, by rw [hbe]; exact hv⟩
    · refine (ok b u q).stay (fun c v hc r => k c v ?_ r) (fun c r => by rw [upd_ne (nown c b r)]; exact r) fun c xs r => by rw [upd_ne (ntup c xs r)]; exact r
      rcases hc with rfl | hc
      · exact hbe
      · rintro rfl
        rcases he with z | z
        · exact nown c b hc z
        · rw [hc] at z; cases z; exact hb rfl
end

structure Un (fs ex : List Addr) (H H' : Hp) (h h' : Heap) : Prop where
  keep : ∀ b o, h.get? b = some o → H b = none → b ∉ fs → b ∉ ex → h'.get? b = some o
  slot : ∀ b o, h.get? b = some o → H b = none → b ∈ fs → b ∉ ex → ∃ sl, h'.get? b = some { o with slots := sl }
  free : ∀ b o, h.get? b = some o → H b = none → b ∉ ex → H' b = none
  there : ∀ b o, h.get? b = some o → b ∉ ex → ∃ o', h'.get? b = some o'
  tups : ∀ b xs, H b = some (.tup xs) → H' b = some (.tup xs)
  frzs : ∀ b o u, H b = some (.frz o u) → H' b = some (.frz o u)
  tbls : ∀ b ps, H b = some (.tbl ps) → ∃ more, H' b = some (.tbl (ps ++ more))
section
variable {fs fs' ex ex' : List Addr} {H H1 H2 : Hp} {h h1 h2 h' : Heap} {a x e : Addr} {o : HO}
theorem Un.any (u : Un fs ex H H1 h h1) {b : Addr} {ob : Obj} (q : h.get? b = some ob) (n : H b = none) (hx : b ∉ ex) : ∃ sl, h1.get? b = some { ob with slots := sl } := by
  by_cases hb : b ∈ fs
  · exact u.slot b ob q n hb hx
  · exact ⟨ob.slots, u.keep b ob q n hb hx⟩
theorem Un.trans (a : Un fs ex H H1 h h1) (b : Un fs ex H1 H2 h1 h2) : Un fs ex H H2 h h2 where
  keep := fun c ob q n hc hx => b.keep c ob (a.keep c ob q n hc hx) (a.free c ob q n hx) hc hx
  slot := fun c ob q n hc hx => by
    obtain ⟨sl, e1⟩ := a.slot c ob q n hc hx
    obtain ⟨sl', e2⟩ := b.slot c _ e1 (a.free c ob q n hx) hc hx
    exact ⟨sl', e2⟩
  free := fun c ob q n hx => by
    obtain ⟨o', e1⟩ := a.there c ob q hx
    exact b.free c o' e1 (a.free c ob q n hx) hx
  there := fun c ob q hx => by
    obtain ⟨o', e1⟩ := a.there c ob q hx
    exact b.there c o' e1 hx
  tups := fun c xs q => b.tups c xs (a.tups c xs q)
  frzs := fun c ob xs q => b.frzs c ob xs (a.frzs c ob xs q)
  tbls := fun c ps q => by
    obtain ⟨m1, e1⟩ := a.tbls c ps q
    obtain ⟨m2, e2⟩ := b.tbls c _ e1
    exact ⟨m1 ++ m2, by rw [e2, Array.append_assoc]⟩
theorem Un.kept (k : ∀ b u, h.get? b = some u → h'.get? b = some u) : Un fs ex H H h h' :=
  ⟨fun b ob q _ _ _ => k b ob q, fun b ob q _ _ _ => ⟨ob.slots, k b ob q⟩, fun _ _ _ n _ => n, fun b ob q _ => ⟨ob, k b ob q⟩, fun _ _ q => q, fun _ _ _ q => q, fun _ ps q => ⟨#[], by rw [q]; simp⟩⟩
theorem Un.refl : Un fs ex H H h h := Un.kept fun _ _ q => q
theorem Un.laid (k : ∀ b u, h.get? b = some u → h'.get? b = some u) (hp : h.objs.size ≤ a) (hn : H a = none) : Un fs ex H (upd H a o) h h' where
  keep := fun b u q _ _ _ => k b u q
  slot := fun b u q _ _ _ => ⟨u.slots, k b u q⟩
  free := fun b u q n _ => by rw [upd_ne (Nat.ne_of_lt (Nat.lt_of_lt_of_le (Heap.lt_size q) hp))]; exact n
  there := fun b u q _ => ⟨u, k b u q⟩
  tups := fun b xs q => by rw [upd_ne (ne_of_none q hn)]; exact q
  frzs := fun b u xs q => by rw [upd_ne (ne_of_none q hn)]; exact q
  tbls := fun b ps q => ⟨#[], by rw [upd_ne (ne_of_none q hn), q]; simp⟩
theorem Un.write (mu : Mut (H x)) (he : e = x ∨ H e = some (.own x)) (k : ∀ b u, b ≠ e → h.get? b = some u → h'.get? b = some u) (heo : ∃ u, h'.get? e = some u) : Un fs ex H (upd H x o) h h' := by
  have hx : ∀ b, H b = none → b ≠ x := fun b n z => by subst z; rw [n] at mu; exact mu
  have hb : ∀ b, H b = none → b ≠ e := fun b n z => by
    subst z
    rcases he with r | r
    · exact hx b n r
    · rw [n] at r; cases r
  have hm : ∀ b u, H b = some u → ¬ Mut (some u) → b ≠ x := fun b u q nm z => by subst z; rw [q] at mu; exact nm mu
  refine ⟨fun b u q n _ _ => k b u (hb b n) q, fun b u q n _ _ => ⟨u.slots, k b u (hb b n) q⟩, fun b u q n _ => by rw [upd_ne (hx b n)]; exact n, fun b u q _ => ?_,
    fun b xs q => by rw [upd_ne (hm b _ q fun z => z)]; exact q, fun b u xs q => by rw [upd_ne (hm b _ q fun z => z)]; exact q, fun b ps q => ⟨#[], by rw [upd_ne (hm b _ q fun z => z), q]; simp⟩⟩
  by_cases hbe : b = e
  · subst hbe; exact heo
  · exact ⟨u, k b u hbe q⟩
end

def trk (h : Heap) (H : Hp) : List Addr := (List.range h.objs.size).filter fun a => (H a).isSome
def hidT (h : Heap) (H : Hp) : Heap := PySem.W.hideAll h (trk h H)
theorem hidT_size (h : Heap) (H : Hp) : (hidT h H).objs.size = h.objs.size := PySem.W.hideAll_size _ _
theorem hidT_get {h : Heap} {H : Hp} {b : Addr} {o : Obj} (e : h.get? b = some o) (n : H b = none) : (hidT h H).get? b = some o :=
  PySem.W.hideAll_get _ e fun hm => by
    have q : (H b).isSome = true := (List.mem_filter.mp hm).2
    rw [n] at q; simp at q
theorem of_hidT {h : Heap} {H : Hp} {b : Addr} {o : Obj} (e : (hidT h H).get? b = some o) : h.get? b = some o ∧ H b = none := by
  have e' : h.get? b = some o := PySem.W.of_hideAll (trk h H) e
  refine ⟨e', ?_⟩
  cases q : H b with
  | none => rfl
  | some x =>
    have hm : b ∈ trk h H := List.mem_filter.mpr ⟨List.mem_range.mpr (Heap.lt_size e'), by simp [q]⟩
    have z : (hidT h H).get? b = none := PySem.W.hideAll_none (trk h H) hm
    rw [z] at e; cases e

def allNews (g h : Heap) (L : Addr) : List (Addr × Obj) := (List.range h.objs.size).filterMap fun a => if a = L ∨ (g.get? a).isSome = true then none else (h.get? a).map fun o => (a, o)
def rest (g h : Heap) (L d : Addr) : List (Addr × Obj) := (allNews g h L).filter fun p => decide (p.1 ≠ d)
end L2

namespace L2
open PySem PySem.Spec PyProof.Rows

/-- the module's facts, over the base: the heap at the law's entry without what is tracked there -/
structure Mod (K : PySem.W.Frag) (mg : Str → Option Value) (base : Heap) : Prop where
  kin : K.In base
  glob : base.Ns mainGlobals mg
  blt : ∃ mb, base.Ns builtinsNs mb ∧ ∀ x : Str, x ≠ "__name__" → mb x = bootBuiltins x
  nolimit : base.NoLimit

/-- the context: a def's body (or a comprehension's block) running. base: fixed through the whole law; s₀, H₀: the entry; outer: the frames whose slots others may change (a def's callers); stack: all frames that run;
   ex: iterators that were made ahead of the entry and are walked here (a comprehension's); fn: the names whose cells were made at the entry (a def: all; a comprehension's block: its own); calm: not within an except suite; pn: pins that every state bears; xe: what is wanted of an exception that leaves the code -/
structure Cx where
  prog : Program
  w : World
  K : PySem.W.Frag
  mg : Str → Option Value
  base : Heap
  A : Around
  N : List Str
  s₀ : Shared
  H₀ : Hp
  env : Env
  outer : List Env
  stack : List Env
  ex : List Addr
  fn : Str → Bool
  calm : Bool
  pn : List (Addr × Obj)
  xe : Value → Shared → Prop
/-- the callers' frames -/
def frs (l : List Env) : List Addr := l.filterMap (·.frame)
abbrev Cx.fs (X : Cx) : List Addr := frs X.outer

def Vis (sc : Scope) (x : Str) : Prop := sc.names.lookup x = some .local ∨ sc.names.lookup x = some .cell ∨ sc.names.lookup x = some .free
def Loc (sc : Scope) (x : Str) : Prop := sc.names.lookup x = some .local ∨ sc.names.lookup x = some .cell
def Look (env : Env) (h : Heap) (m : Str → Option Value) (x : Str) (u : Value) : Prop :=
  (env.kindOf x = some .local ∧ m x = some u) ∨ ((env.kindOf x = some .cell ∨ env.kindOf x = some .free) ∧ ∃ c, env.cells.lookup x = some c ∧ h.IsCell c (some u))

structure Cx.Ok (X : Cx) : Prop where
  mod : Mod X.K X.mg X.base
  kind : X.env.scope.kind = .function
  glob : X.env.globals = mainGlobals
  blt : X.env.builtins = builtinsNs
  above : X.s₀.heap.objs.size ≤ X.env.locals
  inj : ∀ x y c, X.env.cells.lookup x = some c → X.env.cells.lookup y = some c → x = y
  has : ∀ x, (X.env.kindOf x = some .cell ∨ X.env.kindOf x = some .free) → ∃ c, X.env.cells.lookup x = some c
  cab : ∀ x c, X.fn x = true → X.env.cells.lookup x = some c → X.s₀.heap.objs.size ≤ c
  hd : X.calm = true → X.A.handled = none
  frames : X.A.frames = some X.stack
  stk : X.stack = X.outer ∨ (X.stack = X.env :: X.outer ∧ X.env.frame = some X.env.locals)
  exf : ∀ b ∈ X.ex, b ≠ X.env.locals ∧ ∀ x c, X.env.cells.lookup x = some c → c ≠ b
  bs : ∀ b o, X.base.get? b = some o → X.s₀.heap.get? b = some o ∧ X.H₀ b = none
  bsz : X.base.objs.size ≤ X.s₀.heap.objs.size
  noex : ∀ b o, X.base.get? b = some o → b ∉ X.ex
  exfs : ∀ b ∈ X.ex, b ∉ X.fs
  funs : X.s₀.heap.FunFrames X.base X.outer
  frf : ∀ b ∈ X.fs, X.H₀ b = none

structure Inv (X : Cx) (pins : List (Addr × Obj)) (σ : List (Option V)) (H : Hp) (s : Shared) : Prop where
  ok : X.Ok
  os : s.os = X.s₀.os
  bare : AllBare s.gens
  base : Un X.fs X.ex X.H₀ H X.s₀.heap s.heap
  loc : ∃ m, s.heap.Ns X.env.locals m ∧ ∀ (i : Nat) (x : Str) (v : V), X.N[i]? = some x → σ[i]? = some (some v) → Vis X.env.scope x → ∃ u, RelV v u ∧ Look X.env s.heap m x u
  cell : ∀ x c, X.env.cells.lookup x = some c → ∃ v, s.heap.IsCell c v
  free : H X.env.locals = none
  freeC : ∀ x c, X.env.cells.lookup x = some c → H c = none
  pin : ∀ p ∈ X.pn ++ pins, s.heap.get? p.1 = some p.2 ∧ H p.1 = none ∧ p.1 ≠ X.env.locals ∧ p.1 ∉ X.fs ∧ ∀ v, p.2.data ≠ .cell v
  hok : HOk X.prog X.w H s.heap
  len : σ.length = X.N.length

section
variable {X : Cx} {pins : List (Addr × Obj)} {σ : List (Option V)} {H H' : Hp} {s : Shared} {h' : Heap}

theorem Cx.Ok.nofr (ok : X.Ok) {b : Addr} {o : Obj} (e : X.base.get? b = some o) : b ∉ X.fs := fun hb => by
  have := (ok.funs.mem hb).1
  rw [e] at this; cases this
theorem Inv.bs (I : Inv X pins σ H s) : ∀ b o, X.base.get? b = some o → s.heap.get? b = some o ∧ H b = none := fun b o e =>
  ⟨I.base.keep b o (I.ok.bs b o e).1 (I.ok.bs b o e).2 (I.ok.nofr e) (I.ok.noex b o e), I.base.free b o (I.ok.bs b o e).1 (I.ok.bs b o e).2 (I.ok.noex b o e)⟩
theorem Inv.bk (I : Inv X pins σ H s) : ∀ b o, X.base.get? b = some o → s.heap.get? b = some o := fun b o e => (I.bs b o e).1
theorem Inv.mod (I : Inv X pins σ H s) : Mod X.K X.mg X.base := I.ok.mod
theorem Inv.kIn (I : Inv X pins σ H s) : X.K.In s.heap := I.ok.mod.kin.keeps I.bk
/-- the frame over the base: for OpenK's rules (K.In X.base is I.mod.kin) -/
theorem Inv.fr (I : Inv X pins σ H s) : ∃ m, Fr X.base X.env.locals s.heap m :=
  let ⟨m, hn, _⟩ := I.loc
  ⟨m, hn, I.bk, Nat.le_trans I.ok.bsz I.ok.above⟩
theorem Inv.lt (I : Inv X pins σ H s) : X.env.locals < s.heap.objs.size := let ⟨_, hn, _⟩ := I.loc; hn.lt
theorem Inv.sz (I : Inv X pins σ H s) : X.s₀.heap.objs.size ≤ s.heap.objs.size := Nat.le_trans I.ok.above (Nat.le_of_lt I.lt)
theorem Inv.nofs (I : Inv X pins σ H s) {a : Addr} (h : s.heap.objs.size ≤ a) : a ∉ X.fs := fun hb => by
  obtain ⟨_, o, ho, _⟩ := I.ok.funs.mem hb
  exact absurd (Nat.lt_of_lt_of_le (Heap.lt_size ho) (Nat.le_trans I.sz h)) (Nat.lt_irrefl _)
theorem Inv.cne (I : Inv X pins σ H s) : ∀ x c, X.env.cells.lookup x = some c → c ≠ X.env.locals := fun x c e z => by
  obtain ⟨v, o, ho, hd⟩ := I.cell x c e
  obtain ⟨m, ⟨o', es, ep, ho', hd', _⟩, _⟩ := I.loc
  rw [z, ho'] at ho; cases ho; rw [hd'] at hd; cases hd
theorem Inv.funs (I : Inv X pins σ H s) : s.heap.FunFrames X.base X.outer := by
  have all : ∀ (l : List Env), (∀ b ∈ frs l, b ∈ X.fs) → X.s₀.heap.FunFrames X.base l → s.heap.FunFrames X.base l := by
    intro l
    induction l with
    | nil => intro _ _; trivial
    | cons env r ih =>
      intro hs hl
      obtain ⟨hk, ⟨L, o, hf, hn, ho, hd⟩, hr⟩ := hl
      have hL : L ∈ X.fs := hs L (by unfold frs; rw [List.filterMap_cons, hf]; exact List.mem_cons_self)
      obtain ⟨sl, e⟩ := I.base.slot L o ho (I.ok.frf L hL) hL fun z => I.ok.exfs L z hL
      exact ⟨hk, ⟨L, _, hf, hn, e, hd⟩, ih (fun b hb => hs b (by unfold frs; rw [List.filterMap_cons, hf]; exact List.mem_cons_of_mem _ hb)) hr⟩
  exact all X.outer (fun _ hb => hb) I.ok.funs

/-- the frames that run, for a call -/
theorem Inv.stack (I : Inv X pins σ H s) : s.heap.FunFrames X.base X.stack := by
  rcases I.ok.stk with e | ⟨e, hf⟩
  · rw [e]; exact I.funs
  · rw [e]
    obtain ⟨m, hn, _⟩ := I.loc
    refine .cons (by rw [I.ok.kind]; decide) hf hn ?_ I.funs
    exact Heap.get?_none_of_le (Nat.le_trans I.ok.bsz I.ok.above)
theorem Inv.stkSub (I : Inv X pins σ H s) : ∀ b ∈ frs X.stack, b ∈ X.env.locals :: X.fs := fun b hb => by
  rcases I.ok.stk with e | ⟨e, hf⟩
  · rw [e] at hb; exact List.mem_cons_of_mem _ hb
  · rw [e] at hb
    unfold frs at hb
    rw [List.filterMap_cons, hf] at hb
    exact hb
theorem Inv.stkFree (I : Inv X pins σ H s) : ∀ b ∈ frs X.stack, H b = none := fun b hb => by
  rcases List.mem_cons.mp (I.stkSub b hb) with e | hb
  · rw [e]; exact I.free
  · obtain ⟨_, o, ho, _⟩ := I.ok.funs.mem hb
    exact I.base.free b o ho (I.ok.frf b hb) fun z => I.ok.exfs b z hb

/-- THE STEP: the untracked objects but the frame and the records at ch are kept (the callers' frames up to slots), the frame's map is kept, the new abstract heap is held -/
theorem Inv.step {g' : Array GenState} {t' : Nat} {d' : Drawn} {ch : List Addr} (I : Inv X pins σ H s)
    (hch : ∀ b ∈ ch, (b ∈ X.ex ∨ X.s₀.heap.objs.size ≤ b) ∧ b ≠ X.env.locals ∧ (∀ x c, X.env.cells.lookup x = some c → c ≠ b) ∧ ∀ p ∈ X.pn ++ pins, p.1 ≠ b)
    (keep : ∀ b o, b ≠ X.env.locals → b ∉ X.fs → b ∉ ch → s.heap.get? b = some o → H b = none → h'.get? b = some o)
    (slot : ∀ b o, b ≠ X.env.locals → b ∈ X.fs → b ∉ ch → s.heap.get? b = some o → H b = none → ∃ sl, h'.get? b = some { o with slots := sl }) (free : ∀ b o, b ∉ ch → s.heap.get? b = some o → H b = none → H' b = none)
    (there : ∀ b o, b ∉ ch → s.heap.get? b = some o → ∃ o', h'.get? b = some o')
    (tups : ∀ b xs, H b = some (.tup xs) → H' b = some (.tup xs)) (frzs : ∀ b o u, H b = some (.frz o u) → H' b = some (.frz o u)) (tbls : ∀ b ps, H b = some (.tbl ps) → ∃ more, H' b = some (.tbl (ps ++ more)))
    (ns : ∀ m, s.heap.Ns X.env.locals m → h'.Ns X.env.locals m) (hok : HOk X.prog X.w H' h') (hg : AllBare g') :
    Inv X pins σ H' { s with heap := h', gens := g', drawn := d', toks := t' } := by
  have neL : ∀ b o, X.s₀.heap.get? b = some o → b ≠ X.env.locals := fun b o e => Nat.ne_of_lt (Nat.lt_of_lt_of_le (Heap.lt_size e) I.ok.above)
  have neC : ∀ b o, X.s₀.heap.get? b = some o → b ∉ X.ex → b ∉ ch := fun b o e hx hb => by
    rcases (hch b hb).1 with z | z
    · exact hx z
    · exact absurd (Nat.lt_of_lt_of_le (Heap.lt_size e) z) (Nat.lt_irrefl _)
  have cellK : ∀ x c, X.env.cells.lookup x = some c → ∀ v, s.heap.IsCell c v → h'.IsCell c v := fun x c e v ⟨o, ho, hd⟩ => by
    have nch : c ∉ ch := fun z => (hch c z).2.2.1 x c e rfl
    by_cases hc : c ∈ X.fs
    · obtain ⟨sl, q⟩ := slot c o (I.cne x c e) hc nch ho (I.freeC x c e)
      exact ⟨_, q, hd⟩
    · exact ⟨o, keep c o (I.cne x c e) hc nch ho (I.freeC x c e), hd⟩
  refine ⟨I.ok, I.os, hg, ⟨fun b o e n hb hx => ?_, fun b o e n hb hx => ?_, fun b o e n hx => ?_, fun b o e hx => ?_, fun b xs e => tups b xs (I.base.tups b xs e), fun b o xs e => frzs b o xs (I.base.frzs b o xs e), fun b ps e => ?_⟩, ?_, fun x c e => ?_, ?_, fun x c e => ?_, fun p hp => ?_, hok, I.len⟩
  · exact keep b o (neL b o e) hb (neC b o e hx) (I.base.keep b o e n hb hx) (I.base.free b o e n hx)
  · obtain ⟨sl, e1⟩ := I.base.slot b o e n hb hx
    obtain ⟨sl', e2⟩ := slot b _ (neL b o e) hb (neC b o e hx) e1 (I.base.free b o e n hx)
    exact ⟨sl', e2⟩
  · obtain ⟨o', e1⟩ := I.base.there b o e hx
    exact free b o' (neC b o e hx) e1 (I.base.free b o e n hx)
  · obtain ⟨o', e1⟩ := I.base.there b o e hx
    exact there b o' (neC b o e hx) e1
  · obtain ⟨m1, e1⟩ := I.base.tbls b ps e
    obtain ⟨m2, e2⟩ := tbls b _ e1
    exact ⟨m1 ++ m2, by rw [e2, Array.append_assoc]⟩
  · obtain ⟨m, hn, hl⟩ := I.loc
    refine ⟨m, ns m hn, fun i x v e1 e2 e3 => ?_⟩
    obtain ⟨u, r, l⟩ := hl i x v e1 e2 e3
    refine ⟨u, r, ?_⟩
    rcases l with l | ⟨k, c, e, z⟩
    · exact .inl l
    · exact .inr ⟨k, c, e, cellK x c e _ z⟩
  · obtain ⟨v, z⟩ := I.cell x c e
    exact ⟨v, cellK x c e v z⟩
  · obtain ⟨m, ⟨o, _, _, ho, _⟩, _⟩ := I.loc
    exact free _ o (fun z => (hch _ z).2.1 rfl) ho I.free
  · obtain ⟨v, o, ho, hd⟩ := I.cell x c e
    exact free c o (fun z => (hch c z).2.2.1 x c e rfl) ho (I.freeC x c e)
  · obtain ⟨e, n, ne, nf, d⟩ := I.pin p hp
    have nch : p.1 ∉ ch := fun z => (hch p.1 z).2.2.2 p hp rfl
    exact ⟨keep p.1 p.2 ne nf nch e n, free p.1 p.2 nch e n, ne, nf, d⟩
/-- .. where the frame's own object is kept too -/
theorem Inv.un {t' : Nat} (I : Inv X pins σ H s) (u : Un X.fs [] H H' s.heap h') (hok : HOk X.prog X.w H' h') : Inv X pins σ H' { s with heap := h', toks := t' } := by
  obtain ⟨m, ⟨o, es, ep, ho, r⟩, _⟩ := id I.loc
  obtain ⟨sl, hL⟩ := u.any ho I.free (by simp)
  exact I.step (g' := s.gens) (d' := s.drawn) (ch := []) (fun _ z => nomatch z) (fun b o _ hb _ e n => u.keep b o e n hb (by simp)) (fun b o _ hb _ e n => u.slot b o e n hb (by simp)) (fun b o _ e n => u.free b o e n (by simp)) (fun b o _ e => u.there b o e (by simp)) u.tups u.frzs u.tbls (fun m' hm => by
    obtain ⟨o', es', ep', ho', r'⟩ := hm
    rw [ho] at ho'; cases ho'
    exact ⟨_, es', ep', hL, r'⟩) hok I.bare
/-- behind a call (or a comprehension's block): the slots of this frame may have changed too, the records at ch may have turned -/
theorem Inv.call {g' : Array GenState} {t' : Nat} {d' : Drawn} {ch : List Addr} (I : Inv X pins σ H s) (u : Un (frs X.stack) ch H H' s.heap h') (hok : HOk X.prog X.w H' h') (hg : AllBare g')
    (hch : ∀ b ∈ ch, (b ∈ X.ex ∨ X.s₀.heap.objs.size ≤ b) ∧ b ≠ X.env.locals ∧ (∀ x c, X.env.cells.lookup x = some c → c ≠ b) ∧ ∀ p ∈ X.pn ++ pins, p.1 ≠ b) :
    Inv X pins σ H' { s with heap := h', gens := g', drawn := d', toks := t' } := by
  obtain ⟨m, ⟨o, es, ep, ho, r⟩, _⟩ := id I.loc
  obtain ⟨sl, hL⟩ := u.any ho I.free fun z => (hch _ z).2.1 rfl
  exact I.step (ch := ch) hch (fun b o hL hb hc e n => u.keep b o e n (fun z => (List.mem_cons.mp (I.stkSub b z)).elim hL hb) hc) (fun b o _ _ hc e n => u.any e n hc) (fun b o hc e n => u.free b o e n hc) (fun b o hc e => u.there b o e hc) u.tups u.frzs u.tbls (fun m' hm => by
    obtain ⟨o', es', ep', ho', r'⟩ := hm
    rw [ho] at ho'; cases ho'
    exact ⟨_, es', ep', hL, r'⟩) hok hg
/-- an untracked record of ours (an iterator) has turned -/
theorem Inv.turned {t' : Nat} {it : Addr} (I : Inv X pins σ H s) (k : ∀ b o, b ≠ it → s.heap.get? b = some o → h'.get? b = some o) (hn : H it = none) (hL : it ≠ X.env.locals)
    (h1 : it ∈ X.ex ∨ X.s₀.heap.objs.size ≤ it) (h2 : ∀ x c, X.env.cells.lookup x = some c → c ≠ it) (h3 : ∀ p ∈ X.pn ++ pins, p.1 ≠ it) : Inv X pins σ H { s with heap := h', toks := t' } := by
  have nit : ∀ b u, H b = some u → b ≠ it := fun b u e z => by rw [z, hn] at e; cases e
  refine I.step (g' := s.gens) (d' := s.drawn) (ch := [it]) (fun b hb => ?_) (fun b o _ _ hc e _ => k b o (fun z => hc (by simp [z])) e) (fun b o _ _ hc e _ => ⟨o.slots, k b o (fun z => hc (by simp [z])) e⟩) (fun _ _ _ _ n => n)
    (fun b o hc e => ⟨o, k b o (fun z => hc (by simp [z])) e⟩) (fun _ _ e => e) (fun _ _ _ e => e) (fun b ps e => ⟨#[], by rw [e]; simp⟩) (fun m hm => ?_) (fun b u e => ?_) I.bare
  · have e : b = it := by simpa using hb
    subst e
    exact ⟨h1, hL, h2, h3⟩
  · obtain ⟨o, es, ep, ho, r⟩ := hm
    exact ⟨o, es, ep, k _ o (Ne.symm hL) ho, r⟩
  · refine (I.hok b u e).stay (fun c v hc q => k c v ?_ q) (fun _ q => q) fun _ _ q => q
    rcases hc with z | z
    · rw [z]; exact nit b u e
    · exact nit c _ z
theorem Inv.tok (I : Inv X pins σ H s) (t : Nat) : Inv X pins σ H { s with toks := t } := I.un (h' := s.heap) (t' := t) Un.refl I.hok
/-- all objects kept -/
theorem Inv.kept {t' : Nat} (I : Inv X pins σ H s) (k : ∀ b u, s.heap.get? b = some u → h'.get? b = some u) : Inv X pins σ H { s with heap := h', toks := t' } := I.un (Un.kept k) (I.hok.kept k)
/-- a new object laid and tracked -/
theorem Inv.laid {a : Addr} {o : HO} {t' : Nat} (I : Inv X pins σ H s) (k : ∀ b u, s.heap.get? b = some u → h'.get? b = some u) (hp : s.heap.objs.size ≤ a) (new : ObjOk X.prog X.w (upd H a o) h' a o) :
    Inv X pins σ (upd H a o) { s with heap := h', toks := t' } := I.un (Un.laid k hp (I.hok.fresh hp)) (I.hok.laid k hp new)
/-- an object written -/
theorem Inv.write {x e : Addr} {o : HO} {t' : Nat} (I : Inv X pins σ H s) (mu : Mut (H x)) (he : e = x ∨ H e = some (.own x)) (k : ∀ b u, b ≠ e → s.heap.get? b = some u → h'.get? b = some u) (heo : ∃ u, h'.get? e = some u)
    (new : ObjOk X.prog X.w (upd H x o) h' x o) : Inv X pins σ (upd H x o) { s with heap := h', toks := t' } := I.un (Un.write mu he k heo) (I.hok.write mu he k heo new)
theorem Inv.pins_of {pins' : List (Addr × Obj)} (I : Inv X pins σ H s) (h : ∀ p ∈ pins', s.heap.get? p.1 = some p.2 ∧ H p.1 = none ∧ p.1 ≠ X.env.locals ∧ p.1 ∉ X.fs ∧ ∀ v, p.2.data ≠ .cell v) : Inv X pins' σ H s :=
  ⟨I.ok, I.os, I.bare, I.base, I.loc, I.cell, I.free, I.freeC, fun p hp => (List.mem_append.mp hp).elim (fun z => I.pin p (List.mem_append_left _ z)) (h p), I.hok, I.len⟩

theorem nodup_ix {N : List Str} (hN : N.Nodup) {i j : Nat} {x : Str} (a : N[i]? = some x) (b : N[j]? = some x) : i = j := by
  obtain ⟨h1, e1⟩ := List.getElem?_eq_some_iff.mp a
  obtain ⟨h2, e2⟩ := List.getElem?_eq_some_iff.mp b
  exact (List.getElem_inj hN).mp (e1.trans e2.symm)

/-- a name is stored; what changed -/
theorem store_ok2 {M : Model} {A : Around} {E : Value → Shared → Prop} {i : Nat} {x : Str} {v : V} {u : Value} {Q : Unit → Shared → Prop} (I : Inv X pins σ H s) (hN : X.N.Nodup) (hi : X.N[i]? = some x) (hx : Loc X.env.scope x) (r : RelV v u)
    (h : ∀ s', Inv X pins (σ.set i (some v)) H s' → (∃ a, Heap.SameBut a s.heap s'.heap ∧ (a = X.env.locals ∨ X.env.cells.lookup x = some a)) → Q () s') (hf : X.fn x = true ∨ X.env.scope.names.lookup x = some .local := by first | exact .inl rfl | exact .inr rfl | assumption) : wpAny M A (storeName X.env x u) Q E s := by
  obtain ⟨m, hn, hl⟩ := id I.loc
  have hcls : (X.env.scope.kind == .class || (X.env.scope.kind == .module && X.env.locals != X.env.globals)) = false := by rw [I.ok.kind]; rfl
  have hiσ : i < σ.length := by rw [I.len]; exact (List.getElem?_eq_some_iff.mp hi).1
  have cne := I.cne
  have tracked : ∀ {a : Addr} {h' : Heap}, (∃ o, s.heap.get? a = some o ∧ H a = none) → Heap.SameBut a s.heap h' → HOk X.prog X.w H h' := fun {a h'} ha hs b ob e => by
    obtain ⟨_, _, hfree⟩ := ha
    refine (I.hok b ob e).stay (fun c w' hc q => (hs.2 c ?_).trans q) (fun _ q => q) fun _ _ q => q
    rintro rfl
    rcases hc with rfl | hc
    · rw [hfree] at e; cases e
    · rw [hfree] at hc; cases hc
  rcases hx with hk | hk
  · refine wpAny_storeName_local hk hn (fun h' hn' hs => ?_) hcls
    obtain ⟨oL, _, _, hoL, _⟩ := id hn
    refine h _ ⟨I.ok, I.os, I.bare, ⟨fun b o e n hb hx => ?_, fun b o e n hb hx => ?_, I.base.free, fun b o e hx => ?_, I.base.tups, I.base.frzs, I.base.tbls⟩, ⟨_, hn', fun j y v' e1 e2 e3 => ?_⟩, fun y c e => ?_, I.free, I.freeC, fun p hp => ?_, tracked ⟨oL, hoL, I.free⟩ hs, by simpa using I.len⟩ ⟨_, hs, .inl rfl⟩
    · exact (hs.2 b (Nat.ne_of_lt (Nat.lt_of_lt_of_le (Heap.lt_size e) I.ok.above))).trans (I.base.keep b o e n hb hx)
    · obtain ⟨sl, e1⟩ := I.base.slot b o e n hb hx
      exact ⟨sl, (hs.2 b (Nat.ne_of_lt (Nat.lt_of_lt_of_le (Heap.lt_size e) I.ok.above))).trans e1⟩
    · obtain ⟨o', e1⟩ := I.base.there b o e hx
      exact ⟨o', (hs.2 b (Nat.ne_of_lt (Nat.lt_of_lt_of_le (Heap.lt_size e) I.ok.above))).trans e1⟩
    · by_cases hj : j = i
      · subst hj
        rw [hi] at e1; cases e1
        rw [List.getElem?_set_self hiσ] at e2
        cases e2
        exact ⟨u, r, .inl ⟨hk, by simp⟩⟩
      · rw [List.getElem?_set_ne (Ne.symm hj)] at e2
        obtain ⟨u', r', q⟩ := hl j y v' e1 e2 e3
        refine ⟨u', r', ?_⟩
        rcases q with ⟨k, e⟩ | ⟨k, c, e, z⟩
        · refine .inl ⟨k, ?_⟩
          have : y ≠ x := fun e => hj (nodup_ix hN e1 (e ▸ hi))
          simp [this, e]
        · exact .inr ⟨k, c, e, z.sameBut hs (cne y c e)⟩
    · obtain ⟨w', z⟩ := I.cell y c e
      exact ⟨w', z.sameBut hs (cne y c e)⟩
    · obtain ⟨e, n, ne, nf, d⟩ := I.pin p hp
      exact ⟨(hs.2 p.1 ne).trans e, n, ne, nf, d⟩
  · have hfn : X.fn x = true := by
      rcases hf with z | z
      · exact z
      · rw [z] at hk; cases hk
    obtain ⟨c, hc⟩ := I.ok.has x (.inl hk)
    obtain ⟨w', z⟩ := I.cell x c hc
    refine wpAny_storeName_cell I.ok.kind hk hc z (fun h' hc' hs => ?_)
    obtain ⟨oc, hoc, hocd⟩ := id z
    refine h { s with heap := h' } ⟨I.ok, I.os, I.bare, ⟨fun b o e n hb hx => ?_, fun b o e n hb hx => ?_, I.base.free, fun b o e hx => ?_, I.base.tups, I.base.frzs, I.base.tbls⟩, ⟨m, hn.sameBut hs (Ne.symm (cne x c hc)), fun j y v' e1 e2 e3 => ?_⟩, fun y c' e => ?_, I.free, I.freeC, fun p hp => ?_, tracked ⟨oc, hoc, I.freeC x c hc⟩ hs, by simpa using I.len⟩ ⟨c, hs, .inr hc⟩
    · exact (hs.2 b (Nat.ne_of_lt (Nat.lt_of_lt_of_le (Heap.lt_size e) (I.ok.cab x c hfn hc)))).trans (I.base.keep b o e n hb hx)
    · obtain ⟨sl, e1⟩ := I.base.slot b o e n hb hx
      exact ⟨sl, (hs.2 b (Nat.ne_of_lt (Nat.lt_of_lt_of_le (Heap.lt_size e) (I.ok.cab x c hfn hc)))).trans e1⟩
    · obtain ⟨o', e1⟩ := I.base.there b o e hx
      exact ⟨o', (hs.2 b (Nat.ne_of_lt (Nat.lt_of_lt_of_le (Heap.lt_size e) (I.ok.cab x c hfn hc)))).trans e1⟩
    · by_cases hj : j = i
      · subst hj
        rw [hi] at e1; cases e1
        rw [List.getElem?_set_self hiσ] at e2
        cases e2
        exact ⟨u, r, .inr ⟨.inl hk, c, hc, hc'⟩⟩
      · rw [List.getElem?_set_ne (Ne.symm hj)] at e2
        obtain ⟨u', r', q⟩ := hl j y v' e1 e2 e3
        refine ⟨u', r', ?_⟩
        rcases q with q | ⟨k, c', e, z'⟩
        · exact .inl q
        · refine .inr ⟨k, c', e, z'.sameBut hs ?_⟩
          rintro rfl
          exact hj (nodup_ix hN e1 (I.ok.inj _ _ _ e hc ▸ hi))
    · by_cases hcc : c' = c
      · subst hcc; exact ⟨_, hc'⟩
      · obtain ⟨w2, z2⟩ := I.cell y c' e
        exact ⟨w2, z2.sameBut hs hcc⟩
    · obtain ⟨e, n, ne, nf, d⟩ := I.pin p hp
      refine ⟨(hs.2 p.1 ?_).trans e, n, ne, nf, d⟩
      intro q
      rw [q, hoc] at e
      have q' : oc = p.2 := Option.some.inj e
      exact d w' (by rw [← q']; exact hocd)
theorem store_ok {M : Model} {A : Around} {E : Value → Shared → Prop} {i : Nat} {x : Str} {v : V} {u : Value} {Q : Unit → Shared → Prop} (I : Inv X pins σ H s) (hN : X.N.Nodup) (hi : X.N[i]? = some x) (hx : Loc X.env.scope x) (r : RelV v u)
    (h : ∀ s', Inv X pins (σ.set i (some v)) H s' → Q () s') (hf : X.fn x = true ∨ X.env.scope.names.lookup x = some .local := by first | exact .inl rfl | exact .inr rfl | assumption) : wpAny M A (storeName X.env x u) Q E s :=
  store_ok2 I hN hi hx r (fun s' I' _ => h s' I') hf
/-- behind a call or a block, the state as it is -/
theorem Inv.call' {s' : Shared} {ch : List Addr} (I : Inv X pins σ H s) (ho : s'.os = s.os) (u : Un (frs X.stack) ch H H' s.heap s'.heap) (hok : HOk X.prog X.w H' s'.heap) (hg : AllBare s'.gens)
    (hch : ∀ b ∈ ch, (b ∈ X.ex ∨ X.s₀.heap.objs.size ≤ b) ∧ b ≠ X.env.locals ∧ (∀ x c, X.env.cells.lookup x = some c → c ≠ b) ∧ ∀ p ∈ X.pn ++ pins, p.1 ≠ b) : Inv X pins σ H' s' := by
  obtain ⟨h', g', d', t', o'⟩ := s'
  have e : o' = s.os := ho
  subst e
  exact I.call (g' := g') (t' := t') (d' := d') u hok hg hch
end

/-- an exception: its class, its own dict's address (where it has one), the abstract heap behind it -/
abbrev XK := Value → Option Addr → Hp → Prop
abbrev St := List (Option V)
abbrev VK := V → Hp → Prop
/-- an expression's reading; a test's; an argument list's -/
abbrev TE := St → Hp → VK → Prop
abbrev TT := St → Hp → (Bool → Hp → Prop) → Prop
abbrev TA := St → Hp → (List V → Hp → Prop) → Prop
/-- what is wanted behind a statement -/
structure Ends where
  nx : St → Hp → Prop
  rt : VK
  bk : St → Hp → Prop := fun _ _ => False
  ct : St → Hp → Prop := fun _ _ => False
abbrev TS := Ends → St → Hp → Prop

def EP (X : Cx) (pins : List (Addr × Obj)) (σ : St) (Q : VK) (u : Value) (s' : Shared) : Prop := ∃ v H', Inv X pins σ H' s' ∧ RelV v u ∧ Q v H'
def TP (X : Cx) (pins : List (Addr × Obj)) (σ : St) (Q : Bool → Hp → Prop) (b : Bool) (s' : Shared) : Prop := ∃ H', Inv X pins σ H' s' ∧ Q b H'
def AP (X : Cx) (pins : List (Addr × Obj)) (σ : St) (Q : List V → Hp → Prop) (us : List Value) (s' : Shared) : Prop := ∃ vs H', Inv X pins σ H' s' ∧ Vals vs us ∧ Q vs H'
def SP (X : Cx) (pins : List (Addr × Obj)) (D : Ends) (f : Flow) (s' : Shared) : Prop :=
  match f with
  | .next => ∃ σ' H', Inv X pins σ' H' s' ∧ D.nx σ' H'
  | .brk => ∃ σ' H', Inv X pins σ' H' s' ∧ D.bk σ' H'
  | .cont => ∃ σ' H', Inv X pins σ' H' s' ∧ D.ct σ' H'
  | .ret u => ∃ v σ' H', Inv X pins σ' H' s' ∧ RelV v u ∧ D.rt v H'

def PE (X : Cx) (e : Expr) (t : TE) : Prop :=
  ∀ (pins : List (Addr × Obj)) (s : Shared) (σ : St) (H : Hp) (Q : VK), Inv X pins σ H s → t σ H Q → wpAny (model X.prog X.w) X.A (eval e X.env) (EP X pins σ Q) X.xe s
def PT (X : Cx) (e : Expr) (t : TT) : Prop :=
  ∀ (pins : List (Addr × Obj)) (s : Shared) (σ : St) (H : Hp) (Q : Bool → Hp → Prop), Inv X pins σ H s → t σ H Q → wpAny (model X.prog X.w) X.A (isTrue e X.env (eval e X.env)) (TP X pins σ Q) X.xe s
/-- a test whatever its 'whole' is (and, or) -/
def PW (X : Cx) (e : Expr) (t : TT) : Prop :=
  ∀ (whole : Sem Value) (pins : List (Addr × Obj)) (s : Shared) (σ : St) (H : Hp) (Q : Bool → Hp → Prop), Inv X pins σ H s → t σ H Q → wpAny (model X.prog X.w) X.A (isTrue e X.env whole) (TP X pins σ Q) X.xe s
theorem PW.pt {X : Cx} {e : Expr} {t : TT} (h : PW X e t) : PT X e t := h _
/-- an argument list (no star), from the left -/
def PA (X : Cx) (es : List Expr) (t : TA) : Prop :=
  ∀ (pos : Pos) (pins : List (Addr × Obj)) (s : Shared) (σ : St) (H : Hp) (Q : List V → Hp → Prop), Inv X pins σ H s → t σ H Q → wpAny (model X.prog X.w) X.A (spliced (backTo pos (starEach es X.env))) (AP X pins σ Q) X.xe s
def PS (X : Cx) (st : Stmt) (t : TS) : Prop :=
  ∀ (pins : List (Addr × Obj)) (s : Shared) (σ : St) (H : Hp) (D : Ends), Inv X pins σ H s → t D σ H → wpAny (model X.prog X.w) X.A (exec st X.env) (SP X pins D) X.xe s
def PSs (X : Cx) (st : List Stmt) (t : TS) : Prop :=
  ∀ (pins : List (Addr × Obj)) (s : Shared) (σ : St) (H : Hp) (D : Ends), Inv X pins σ H s → t D σ H → wpAny (model X.prog X.w) X.A (execs st X.env) (SP X pins D) X.xe s
/-- weaken the end -/
theorem thn {α : Type} {t : Sem α} {Q Q' : α → Shared → Prop} {M : Model} {A : Around} {E : Value → Shared → Prop} {s : Shared} (h : wpAny M A t Q E s) (hQ : ∀ a s, Q a s → Q' a s) : wpAny M A t Q' E s := wpAny_mono h hQ fun _ _ x => x
end L2

namespace L2
open PySem PySem.Spec PyProof.Rows
section
variable {X : Cx}

/-- two expressions in a row -/
theorem bin {a b : Expr} {ta tb : TE} (ha : PE X a ta) (hb : PE X b tb) {pins : List (Addr × Obj)} {s : Shared} {σ : St} {H : Hp} {R : V → V → Hp → Prop} (I : Inv X pins σ H s) (h : ta σ H fun x H1 => tb σ H1 fun y H2 => R x y H2)
    {α : Type} {Q : α → Shared → Prop} {f : Value → Value → Sem α}
    (hf : ∀ v u s2 x y H2, Inv X pins σ H2 s2 → RelV x v → RelV y u → R x y H2 → wpAny (model X.prog X.w) X.A (f v u) Q X.xe s2) :
    wpAny (model X.prog X.w) X.A (eval a X.env) (fun v s₁ => wpAny (model X.prog X.w) X.A (eval b X.env) (fun u s₂ => wpAny (model X.prog X.w) X.A (f v u) Q X.xe s₂) X.xe s₁) X.xe s := by
  refine thn (ha pins s σ H _ I h) fun v s1 ⟨x, H1, I1, r1, q1⟩ => ?_
  refine thn (hb pins s1 σ H1 _ I1 q1) fun u s2 ⟨y, H2, I2, r2, q2⟩ => ?_
  exact hf v u s2 x y H2 I2 r1 r2 q2

def tVar (i : Nat) : TE := fun σ H Q => ∃ v, σ[i]? = some (some v) ∧ Q v H
def tC (v : V) : TE := fun _ H Q => Q v H
theorem pe_var {i : Nat} {x : Str} {pos : Pos} (hN : X.N[i]? = some x) (hv : Vis X.env.scope x) (hd : (x == ("__debug__" : Str)) = false := by decide) (hcd : (x == ("__classdict__" : Str)) = false := by decide) : PE X (.Name x pos) (tVar i) := by
  intro pins s σ H Q I h
  obtain ⟨v, e, h⟩ := h
  obtain ⟨m, hn, hl⟩ := I.loc
  obtain ⟨u, r, l⟩ := hl i x v hN e hv
  have fin : EP X pins σ Q u s := ⟨v, H, I, r, h⟩
  rcases l with ⟨hk, hm⟩ | ⟨hk, c, hc, hcell⟩
  · exact wpAny_Name (wpAny_loadName_local I.ok.kind hk hn hm fin) hd
  · rcases hk with hk | hk
    · exact wpAny_Name (wpAny_loadName_cell I.ok.kind hk hc hcell fin) hd
    · exact wpAny_Name (wpAny_loadName_free I.ok.kind hk hc hcell fin hcd) hd
theorem pe_int {i j pos} : PE X (.Constant (.int i) j pos) (tC (.int i)) := fun _ _ _ H _ I h => wpAny_Constant_int ⟨.int i, H, I.tok _, ⟨_, rfl⟩, h⟩
theorem pe_bl {b j pos} : PE X (.Constant (.bool b) j pos) (tC (.bl b)) := fun _ _ _ H _ I h => Constant_bool ⟨.bl b, H, I, rfl, h⟩
/-- a global name of the def -/
def Gl (X : Cx) (x : Str) : Prop := X.env.kindOf x = some .globalImplicit
theorem ld_glob {E : Value → Shared → Prop} {pins : List (Addr × Obj)} {s : Shared} {σ : St} {H : Hp} {x : Str} {u : Value} {pos : Pos} {Q : Value → Shared → Prop} (I : Inv X pins σ H s) (hg : Gl X x) (hm : X.mg x = some u) (h : Q u s)
    (hd : (x == ("__debug__" : Str)) = false := by decide) : wpAny (model X.prog X.w) X.A (eval (.Name x pos) X.env) Q E s :=
  Calls.Name_function_global I.ok.kind hg (Calls.loadGlobal_global (by rw [I.ok.glob]; exact I.mod.glob.keeps I.bk) hm h) hd
theorem ld_blt {E : Value → Shared → Prop} {pins : List (Addr × Obj)} {s : Shared} {σ : St} {H : Hp} {x : Str} {u : Value} {pos : Pos} {Q : Value → Shared → Prop} (I : Inv X pins σ H s) (hg : Gl X x) (hm : X.mg x = none) (hv : bootBuiltins x = some u) (h : Q u s)
    (hn : x ≠ "__name__" := by decide) (hd : (x == ("__debug__" : Str)) = false := by decide) : wpAny (model X.prog X.w) X.A (eval (.Name x pos) X.env) Q E s := by
  obtain ⟨mb, h1, h2⟩ := I.mod.blt
  exact Calls.Name_function_global I.ok.kind hg (Calls.loadGlobal_builtin (by rw [I.ok.glob]; exact I.mod.glob.keeps I.bk) hm (by rw [I.ok.blt]; exact h1.keeps I.bk) ((h2 x hn).trans hv) h) hd
/-- a module's constant, a class, a function, as a value -/
theorem pe_glob {x : Str} {v : V} {u : Value} {pos : Pos} (hg : Gl X x) (hm : X.mg x = some u) (r : RelV v u) (hd : (x == ("__debug__" : Str)) = false := by decide) : PE X (.Name x pos) (tC v) :=
  fun _ _ _ H _ I h => ld_glob I hg hm ⟨v, H, I, r, h⟩ hd
theorem pe_bltn {x : Str} {v : V} {u : Value} {pos : Pos} (hg : Gl X x) (hm : X.mg x = none) (hv : bootBuiltins x = some u) (r : RelV v u) (hn : x ≠ "__name__" := by decide) (hd : (x == ("__debug__" : Str)) = false := by decide) : PE X (.Name x pos) (tC v) :=
  fun _ _ _ H _ I h => ld_blt I hg hm hv ⟨v, H, I, r, h⟩ hn hd

variable {a b : Expr} {ta tb : TE} {pos : Pos}
def PC (X : Cx) (op : CmpOp) (a b : Expr) (t : TE) : Prop :=
  ∀ (pins : List (Addr × Obj)) (s : Shared) (σ : St) (H : Hp) (Q : VK), Inv X pins σ H s → t σ H Q →
    wpAny (model X.prog X.w) X.A (eval a X.env) (fun v s₁ => wpAny (model X.prog X.w) X.A (eval b X.env) (fun u s₂ => wpAny (model X.prog X.w) X.A (compareOp op v u) (EP X pins σ Q) X.xe s₂) X.xe s₁) X.xe s
theorem nobehind (b : Expr) {op : CmpOp} (h : op ≠ .In) (h2 : op ≠ .NotIn) : behindInMarks op b = false := by
  have e1 : (op == CmpOp.In) = false := by cases op <;> first | rfl | exact absurd rfl h
  have e2 : (op == CmpOp.NotIn) = false := by cases op <;> first | rfl | exact absurd rfl h2
  cases b <;> simp [behindInMarks, e1, e2]
/-- a comparison as a value, as a test -/
def tB (t : TE) : TT := fun σ H Q => t σ H fun x H1 => ∃ c, x = .bl c ∧ Q c H1
theorem pt_cmp {op : CmpOp} {t : TE} (h : PC X op a b t) (h1 : behindInMarks op b = false := by first | exact nobehind _ (by decide) (by decide) | rfl) : PT X (.Compare a [op] [b] pos) (tB t) := by
  intro pins s σ H Q I hw
  refine wpAny_isTrue_Compare1 (thn (h pins s σ H _ I hw) fun v s1 h1 => thn h1 fun u s2 h2 => thn h2 fun c s3 ⟨x, H1, I1, r1, q1⟩ => ?_) h1
  obtain ⟨d, rfl, q⟩ := q1
  cases r1
  exact wpAny_truthy_bool ⟨H1, I1, q⟩
/-- an expression whose value is a bool, as a test -/
theorem pt_val {e : Expr} {t : TE} (h : PE X e t) (he : ∀ whole, isTrue e X.env whole = (do let v ← whole; standAt e.pos; holding [v] (truthy v)) := by intro _; rfl) : PT X e (tB t) := by
  intro pins s σ H Q I hw
  refine isTrue_plain (thn (h pins s σ H _ I hw) fun v s1 ⟨x, H1, I1, r1, q1⟩ => ?_) (he _)
  obtain ⟨d, rfl, q⟩ := q1
  cases r1
  exact wpAny_truthy_bool ⟨H1, I1, q⟩

variable {tA tB' : TT} {rest : List Expr}
def tAnd (t u : TT) : TT := fun σ H Q => t σ H fun c H1 => if c = true then u σ H1 Q else Q false H1
def tOr (t u : TT) : TT := fun σ H Q => t σ H fun c H1 => if c = true then Q true H1 else u σ H1 Q
def tNot (t : TT) : TT := fun σ H Q => t σ H fun c H1 => Q (!c) H1
theorem pw_and1 (ha : PT X a tA) : PW X (.BoolOp .And [a] pos) tA := by
  intro wh pins s σ H Q I h
  refine isTrue_and (thn (ha pins s σ H Q I h) fun c s1 e => ?_)
  cases c with
  | true => exact isTrue_and_nil e
  | false => exact e
theorem pw_or1 (ha : PT X a tA) : PW X (.BoolOp .Or [a] pos) tA := by
  intro wh pins s σ H Q I h
  refine isTrue_or (thn (ha pins s σ H Q I h) fun c s1 e => ?_)
  cases c with
  | false => exact isTrue_or_nil e
  | true => exact e
theorem pw_and (ha : PT X a tA) (hb : PW X (.BoolOp .And (b :: rest) pos) tB') : PW X (.BoolOp .And (a :: b :: rest) pos) (tAnd tA tB') := by
  intro wh pins s σ H Q I h
  refine isTrue_and (thn (ha pins s σ H _ I h) fun c s1 ⟨H1, I1, q1⟩ => ?_)
  cases c with
  | true => exact hb wh pins s1 σ H1 Q I1 q1
  | false => exact ⟨H1, I1, q1⟩
theorem pw_or (ha : PT X a tA) (hb : PW X (.BoolOp .Or (b :: rest) pos) tB') : PW X (.BoolOp .Or (a :: b :: rest) pos) (tOr tA tB') := by
  intro wh pins s σ H Q I h
  refine isTrue_or (thn (ha pins s σ H _ I h) fun c s1 ⟨H1, I1, q1⟩ => ?_)
  cases c with
  | true => exact ⟨H1, I1, q1⟩
  | false => exact hb wh pins s1 σ H1 Q I1 q1
theorem pt_not (ha : PT X a tA) : PT X (.UnaryOp .Not a pos) (tNot tA) := by
  intro pins s σ H Q I h
  exact isTrue_not (ha pins s σ H (fun c H1 => Q (!c) H1) I h)
/-- .. as values (bools) -/
def tAndV (ta tb : TE) : TE := fun σ H Q => ta σ H fun x H1 => ∃ c, x = .bl c ∧ if c = true then tb σ H1 Q else Q (.bl false) H1
def tOrV (ta tb : TE) : TE := fun σ H Q => ta σ H fun x H1 => ∃ c, x = .bl c ∧ if c = true then Q (.bl true) H1 else tb σ H1 Q
def tNotV (ta : TE) : TE := fun σ H Q => ta σ H fun x H1 => ∃ c, x = .bl c ∧ Q (.bl (!c)) H1
theorem pe_one {op} {t : TE} (h : PE X a t) : PE X (.BoolOp op [a] pos) t := fun pins s σ H Q I hw => BoolOp_one (h pins s σ H Q I hw)
theorem pe_and (ha : PE X a ta) (hb : PE X (.BoolOp .And (b :: rest) pos) tb) : PE X (.BoolOp .And (a :: b :: rest) pos) (tAndV ta tb) := by
  intro pins s σ H Q I h
  refine BoolOp_and (thn (ha pins s σ H _ I h) fun v s1 ⟨x, H1, I1, r1, q1⟩ => ?_)
  obtain ⟨c, rfl, q1⟩ := q1
  cases r1
  refine wpAny_truthy_bool ?_
  cases c with
  | true => exact hb pins s1 σ H1 Q I1 q1
  | false => exact ⟨.bl false, H1, I1, rfl, q1⟩
theorem pe_not (ha : PE X a ta) : PE X (.UnaryOp .Not a pos) (tNotV ta) := by
  intro pins s σ H Q I h
  refine UnaryOp_ (thn (ha pins s σ H _ I h) fun v s1 ⟨x, H1, I1, r1, q1⟩ => ?_)
  obtain ⟨c, rfl, q1⟩ := q1
  cases r1
  exact not_of (wpAny_truthy_bool ⟨.bl (!c), H1, I1, rfl, q1⟩)
/-- a if t else b -/
def tIf (t : TT) (ta tb : TE) : TE := fun σ H Q => t σ H fun c H1 => if c = true then ta σ H1 Q else tb σ H1 Q
theorem pe_ifExp {c : Expr} (hc : PT X c tA) (ha : PE X a ta) (hb : PE X b tb) : PE X (.IfExp c a b pos) (tIf tA ta tb) := by
  intro pins s σ H Q I h
  refine wpAny_IfExp (thn (hc pins s σ H _ I h) fun d s1 ⟨H1, I1, q1⟩ => ?_)
  cases d with
  | true => exact ha pins s1 σ H1 Q I1 q1
  | false => exact hb pins s1 σ H1 Q I1 q1
end
end L2

namespace L2
open PySem PySem.Spec PyProof.Rows

def SqL (K : PySem.W.Frag) (H : Hp) (a : Addr) (xs : List V) : Prop :=
  Rd H a (.lst xs) ∨
    ∃ (o : Obj) (its : Array Value) (n : Nat), K.lookup a = some o ∧ o.cls = .type "list" ∧ o.dict = none ∧ o.data = .seq its n ∧ its.size ≤ sizeLine ∧ Vals xs its.toList
def SqT (K : PySem.W.Frag) (H : Hp) (a : Addr) (xs : List V) : Prop :=
  Rd H a (.tup xs) ∨
    ∃ (o : Obj) (its : Array Value) (n : Nat), K.lookup a = some o ∧ o.cls = .type "tuple" ∧ o.data = .seq its n ∧ its.size ≤ sizeLine ∧ Vals xs its.toList
def absV : Value → Option V
  | .none => some .non
  | .bool b => some (.bl b)
  | .int i _ => some (.int i)
  | .str x _ => some (.str x)
  | .bytes b _ => some (.byt b)
  | .float b _ => some (.flt b)
  | .ref a => some (.ref a)
  | .type n => some (.ty n)
  | _ => none
theorem RelV.abs {x : V} {u : Value} (r : RelV x u) : absV u = some x := by
  cases x with
  | non => cases r; rfl
  | bl _ => cases r; rfl
  | int _ => obtain ⟨t, rfl⟩ := r; rfl
  | str _ => obtain ⟨t, rfl⟩ := r; rfl
  | byt _ => obtain ⟨t, rfl⟩ := r; rfl
  | flt _ => obtain ⟨t, rfl⟩ := r; rfl
  | ref _ => cases r; rfl
  | ty _ => cases r; rfl
theorem RelV.inj {x y : V} {u : Value} (r : RelV x u) (q : RelV y u) : x = y := Option.some.inj (r.abs.symm.trans q.abs)
theorem Vals.inj : ∀ {xs ys : List V} {us : List Value}, Vals xs us → Vals ys us → xs = ys
  | _, _, _, .nil, .nil => rfl
  | _, _, _, .cons r t, .cons r' t' => by rw [r.inj r', Vals.inj t t']
section
variable {X : Cx} {pins : List (Addr × Obj)} {σ : St} {H : Hp} {s : Shared} {a : Addr} {xs ys : List V}
theorem SqL.of {K : PySem.W.Frag} (h : H a = some (.lst xs)) : SqL K H a xs := .inl (.inl h)
theorem SqT.of {K : PySem.W.Frag} (h : H a = some (.tup xs)) : SqT K H a xs := .inl (.inl h)
theorem Inv.list (I : Inv X pins σ H s) (h : SqL X.K H a xs) : ∃ its : List Value, Vals xs its ∧ PlainL s.heap a its.toArray ∧ xs.length ≤ sizeLine := by
  rcases h with h | ⟨o, its, n, hk, hc, hd, hs, hz, r⟩
  · obtain ⟨z, its, n, r, e⟩ := h.ok I.hok
    exact ⟨its, r, ⟨_, n, e, rfl, rfl, rfl⟩, z⟩
  · refine ⟨its.toList, r, ⟨o, n, I.kIn a o hk, hc, hd, by simpa using hs⟩, ?_⟩
    have e := r.length
    simp only [Array.length_toList] at e
    omega
theorem Inv.tuple (I : Inv X pins σ H s) (h : SqT X.K H a xs) : ∃ its : List Value, Vals xs its ∧ IsTup s.heap a its.toArray ∧ xs.length ≤ sizeLine := by
  rcases h with h | ⟨o, its, n, hk, hc, hs, hz, r⟩
  · obtain ⟨z, its, r, p⟩ := h.ok I.hok
    exact ⟨its, r, p, z⟩
  · refine ⟨its.toList, r, ⟨o, I.kIn a o hk, hc, n, by simpa using hs⟩, ?_⟩
    have e := r.length
    simp only [Array.length_toList] at e
    omega
theorem Inv.list_inj (I : Inv X pins σ H s) (h : SqL X.K H a xs) (h' : SqL X.K H a ys) : xs = ys := by
  obtain ⟨its, r, ⟨o, n, e, _, _, d⟩, _⟩ := I.list h
  obtain ⟨its', r', ⟨o', n', e', _, _, d'⟩, _⟩ := I.list h'
  rw [e] at e'; cases e'
  rw [d] at d'
  injection d' with d1 _
  have : its = its' := by simpa using congrArg Array.toList d1
  subst this
  exact r.inj r'
theorem Inv.tuple_inj (I : Inv X pins σ H s) (h : SqT X.K H a xs) (h' : SqT X.K H a ys) : xs = ys := by
  obtain ⟨its, r, ⟨o, e, _, n, d⟩, _⟩ := I.tuple h
  obtain ⟨its', r', ⟨o', e', _, n', d'⟩, _⟩ := I.tuple h'
  rw [e] at e'; cases e'
  rw [d] at d'
  injection d' with d1 _
  have : its = its' := by simpa using congrArg Array.toList d1
  subst this
  exact r.inj r'
end

abbrev Cx.wish (X : Cx) (E : Value → Shared → Prop) : Cx := { X with xe := E }
/-- no exception leaves -/
abbrev Cx.nox (X : Cx) : Cx := X.wish fun _ _ => False
theorem Cx.Ok.wish {X : Cx} (ok : X.Ok) (E : Value → Shared → Prop) : (X.wish E).Ok :=
  ⟨ok.mod, ok.kind, ok.glob, ok.blt, ok.above, ok.inj, ok.has, ok.cab, ok.hd, ok.frames, ok.stk, ok.exf, ok.bs, ok.bsz, ok.noex, ok.exfs, ok.funs, ok.frf⟩
theorem Cx.Ok.unwish {X : Cx} {E : Value → Shared → Prop} (ok : (X.wish E).Ok) : X.Ok :=
  ⟨ok.mod, ok.kind, ok.glob, ok.blt, ok.above, ok.inj, ok.has, ok.cab, ok.hd, ok.frames, ok.stk, ok.exf, ok.bs, ok.bsz, ok.noex, ok.exfs, ok.funs, ok.frf⟩
section
variable {X : Cx} {pins : List (Addr × Obj)} {σ : St} {H : Hp} {s : Shared} {E : Value → Shared → Prop}
theorem Inv.wish (I : Inv X pins σ H s) (E : Value → Shared → Prop) : Inv (X.wish E) pins σ H s := ⟨I.ok.wish E, I.os, I.bare, I.base, I.loc, I.cell, I.free, I.freeC, I.pin, I.hok, I.len⟩
theorem Inv.unwish (I : Inv (X.wish E) pins σ H s) : Inv X pins σ H s := ⟨I.ok.unwish, I.os, I.bare, I.base, I.loc, I.cell, I.free, I.freeC, I.pin, I.hok, I.len⟩
theorem SP.unwish {D : Ends} {f : Flow} {s' : Shared} (h : SP (X.wish E) pins D f s') : SP X pins D f s' := by
  cases f with
  | next => obtain ⟨σ', H', I, q⟩ := h; exact ⟨σ', H', I.unwish, q⟩
  | brk => obtain ⟨σ', H', I, q⟩ := h; exact ⟨σ', H', I.unwish, q⟩
  | cont => obtain ⟨σ', H', I, q⟩ := h; exact ⟨σ', H', I.unwish, q⟩
  | ret u => obtain ⟨v, σ', H', I, r, q⟩ := h; exact ⟨v, σ', H', I.unwish, r, q⟩
theorem PSs.nox {st : List Stmt} {t : TS} (h : PSs X.nox st t) : PSs X st t := fun pins s σ H D I hw =>
  wpAny_mono (h pins s σ H D (I.wish _) hw) (fun _ _ q => q.unwish) fun _ _ z => False.elim z
end

section
variable {X : Cx} {st : Stmt} {rest : List Stmt} {t u : TS} {e : Expr} {te : TE} {pos : Pos}
def tNext : TS := fun D σ H => D.nx σ H
def tSeq (t u : TS) : TS := fun D σ H => t { D with nx := u D } σ H
theorem pss_nil : PSs X [] tNext := fun _ _ σ H _ I h => wpAny_execs_nil ⟨σ, H, I, h⟩
theorem pss_cons (h1 : PS X st t) (h2 : PSs X rest u) : PSs X (st :: rest) (tSeq t u) := by
  intro pins s σ H D I h
  refine wpAny_execs_cons (thn (h1 pins s σ H { D with nx := u D } I h) fun f s1 q => ?_)
  cases f with
  | next =>
    obtain ⟨σ', H', I', q⟩ := q
    exact h2 pins s1 σ' H' D I' q
  | ret v => exact q
  | brk => exact q
  | cont => exact q
theorem pss_one (h1 : PS X st t) : PSs X [st] t := by
  intro pins s σ H D I h
  refine wpAny_execs_cons (thn (h1 pins s σ H D I h) fun f s1 q => ?_)
  cases f with
  | next => exact wpAny_execs_nil q
  | ret v => exact q
  | brk => exact q
  | cont => exact q
/-- in a def's body nothing is shown -/
theorem Inv.quiet {pins : List (Addr × Obj)} {σ : St} {H : Hp} {s : Shared} (I : Inv X pins σ H s) : interactive X.env = false := by simp [interactive, I.ok.kind]
/-- an expression whose value is dropped -/
def tDrop (te : TE) : TS := fun D σ H => te σ H fun _ H1 => D.nx σ H1
theorem ps_expr (he : PE X e te) (hs : swapsWith e none pos.line X.env = pure false := by rfl) : PS X (.Expr e pos) (tDrop te) := by
  intro pins s σ H D I h
  exact wpAny_Expr_any (thn (he pins s σ H _ I h) fun v s1 ⟨x, H1, I1, r1, q1⟩ => ⟨σ, H1, I1, q1⟩) I.quiet hs
def tRet (te : TE) : TS := fun D σ H => te σ H D.rt
theorem ps_ret (he : PE X e te) : PS X (.Return (some e) pos) (tRet te) := by
  intro pins s σ H D I h
  exact wpAny_Return_some (thn (he pins s σ H _ I h) fun v s1 ⟨x, H1, I1, r1, q1⟩ => ⟨x, σ, H1, I1, r1, q1⟩)
def tRetN : TS := fun D _ H => D.rt .non H
def tIfS (c : TT) (t u : TS) : TS := fun D σ H => c σ H fun b H1 => if b = true then t D σ H1 else u D σ H1
theorem ps_if {c : Expr} {a b : List Stmt} {tc : TT} (hc : PT X c tc) (ha : PSs X a t) (hb : PSs X b u) : PS X (.If c a b pos) (tIfS tc t u) := by
  intro pins s σ H D I h
  refine wpAny_If (thn (hc pins s σ H _ I h) fun d s1 ⟨H1, I1, q1⟩ => ?_)
  cases d with
  | true => exact ha pins s1 σ H1 D I1 q1
  | false => exact hb pins s1 σ H1 D I1 q1
/-- code that the proof never comes to -/
def tNever : TS := fun _ _ _ => False
theorem ps_never : PS X st tNever := fun _ _ _ _ _ _ h => h.elim
end

abbrev TG := V → St → Hp → (St → Hp → Prop) → Prop
abbrev TGs := List V → St → Hp → (St → Hp → Prop) → Prop
def PG (X : Cx) (target : Expr) (t : TG) : Prop :=
  ∀ (pins : List (Addr × Obj)) (s : Shared) (σ : St) (H : Hp) (v : V) (u : Value) (Q : St → Hp → Prop), Inv X pins σ H s → RelV v u → t v σ H Q →
    wpAny (model X.prog X.w) X.A (assign target X.env u) (fun _ s' => ∃ σ' H', Inv X pins σ' H' s' ∧ Q σ' H') X.xe s
/-- several targets, one after another -/
def PGs (X : Cx) (ts : List Expr) (t : TGs) : Prop :=
  ∀ (pins : List (Addr × Obj)) (s : Shared) (σ : St) (H : Hp) (vs : List V) (us : List Value) (Q : St → Hp → Prop), Inv X pins σ H s → Vals vs us → t vs σ H Q →
    wpAny (model X.prog X.w) X.A (assignInOrder ((assignEach ts X.env).map (·.2)) us) (fun _ s' => ∃ σ' H', Inv X pins σ' H' s' ∧ Q σ' H') X.xe s
/-- o[i] = v, by values -/
abbrev TSet := V → V → V → Hp → (Hp → Prop) → Prop
section
variable {X : Cx} {pos : Pos}
def gName (i : Nat) : TG := fun v σ H Q => Q (σ.set i (some v)) H
theorem pg_name {i : Nat} {x : Str} (hN : X.N.Nodup) (hi : X.N[i]? = some x) (hx : Loc X.env.scope x) (hf : X.fn x = true ∨ X.env.scope.names.lookup x = some .local := by first | exact .inl rfl | exact .inr rfl | assumption) : PG X (.Name x pos) (gName i) := by
  intro pins s σ H v u Q I r h
  exact wpAny_assign_Name (store_ok I hN hi hx r (fun s' I' => ⟨_, H, I', h⟩) hf)
def gNil : TGs := fun vs σ H Q => vs = [] ∧ Q σ H
def gCons (t : TG) (u : TGs) : TGs := fun vs σ H Q => ∃ v r, vs = v :: r ∧ t v σ H fun σ' H' => u r σ' H' Q
theorem pgs_nil : PGs X [] gNil := by
  intro pins s σ H vs us Q I r h
  obtain ⟨e, h⟩ := h
  subst e
  cases r
  exact assignInOrder_nil ⟨σ, H, I, h⟩
theorem pgs_cons {e : Expr} {es : List Expr} {t : TG} {u : TGs} (h1 : PG X e t) (h2 : PGs X es u)
    (hs : (assignEach (e :: es) X.env).map (·.2) = assign e X.env :: (assignEach es X.env).map (·.2) := by rfl) : PGs X (e :: es) (gCons t u) := by
  intro pins s σ H vs us Q I r h
  obtain ⟨v, vr, e1, h⟩ := h
  subst e1
  cases r with
  | cons r rr =>
    rw [hs]
    refine assignInOrder_cons (thn (h1 pins s σ H _ _ _ I r h) fun _ s1 ⟨σ1, H1, I1, q1⟩ => ?_)
    exact h2 pins s1 σ1 H1 _ _ Q I1 rr q1
/-- (a, b, ..) = a tuple of that length -/
def gTup (K : PySem.W.Frag) (n : Nat) (t : TGs) : TG := fun v σ H Q => ∃ a xs, v = .ref a ∧ SqT K H a xs ∧ xs.length = n ∧ t xs σ H Q
theorem pg_tup {es : List Expr} {k : Nat} {t : TGs} {n : Nat} (hc : X.calm = true) (h : PGs X es t)
    (hn : (assignEach es X.env).length = n := by rfl) (hst : (assignEach es X.env).findIdx? (·.1) = none := by rfl) : PG X (.Tuple es k pos) (gTup X.K n t) := by
  intro pins s σ H v u Q I r hw
  obtain ⟨a, xs, e1, hq, hl, hw⟩ := hw
  subst e1
  cases r
  obtain ⟨its, rv, ht, hz⟩ := I.tuple hq
  refine assign_Tuple_tuple (I.ok.hd hc) ht (by simp [hn, ← hl, rv.length]) hst fun h' hx => ?_
  have I1 : Inv X pins σ H { s with heap := h' } := I.kept (t' := s.toks) fun b o e => hx b o (Nat.ne_of_lt (Heap.lt_size e)) e
  exact h pins _ σ H xs _ Q I1 (by simpa using rv) hw
/-- o[i] = .. -/
def gSub (to ti : TE) (t : TSet) : TG := fun v σ H Q => to σ H fun o H1 => ti σ H1 fun i H2 => t o i v H2 fun H3 => Q σ H3
/-- target = value -/
def tAsg (te : TE) (g : TG) : TS := fun D σ H => te σ H fun x H1 => g x σ H1 D.nx
theorem ps_asg {tg e : Expr} {te : TE} {g : TG} (he : PE X e te) (hg : PG X tg g) (hs : swapsWithSole [tg] e pos.line X.env = pure false := by rfl) (hw : swappedStores [tg] e X.env = pure none := by rfl)
    (h1 : (assignEach [tg] X.env).map (·.2) = [assign tg X.env] := by rfl) : PS X (.Assign [tg] e pos) (tAsg te g) := by
  intro pins s σ H D I h
  refine wpAny_Assign_stores (thn (he pins s σ H _ I h) fun v s1 ⟨x, H1, I1, r1, q1⟩ => ?_) hs hw
  rw [h1]
  exact thn (hg pins s1 σ H1 x v _ I1 r1 q1) fun _ s2 q => q
/-- name = value -/
theorem ps_set {i : Nat} {x : Str} {e : Expr} {te : TE} {pos' : Pos} (hN : X.N.Nodup) (hi : X.N[i]? = some x) (hx : Loc X.env.scope x) (he : PE X e te) (hs : swapsWith e (some (.Name x pos')) pos.line X.env = pure false := by rfl) (hf : X.fn x = true ∨ X.env.scope.names.lookup x = some .local := by first | exact .inl rfl | exact .inr rfl | assumption) :
    PS X (.Assign [.Name x pos'] e pos) (tAsg te (gName i)) := by
  intro pins s σ H D I h
  refine wpAny_Assign_Name (thn (he pins s σ H _ I h) fun v s1 ⟨y, H1, I1, r1, q1⟩ => ?_) hs
  exact store_ok I1 hN hi hx r1 (fun s2 I2 => ⟨_, H1, I2, q1⟩) hf
end

section
variable {X : Cx} {pos : Pos}
/-- the invariant W with its measure -/
def tWhile (c : TT) (tb : TS) : TS := fun D σ H => ∃ W : Nat → St → Hp → Prop, (∃ m, W m σ H) ∧ ∀ m σ H, W m σ H →
  c σ H fun b H1 => if b = true then ∃ N : St → Hp → Prop, (∀ σ' H', N σ' H' → ∃ m', m' < m ∧ W m' σ' H') ∧ tb { D with nx := N, ct := N, bk := D.nx } σ H1 else D.nx σ H1
end

/-- at turn i: it yields x (the heap may grow), or it stops -/
structure It where
  go : Nat → Hp → Prop
  yld : Nat → Hp → V → Hp → Prop
  stop : Nat → Hp → Prop
/-- the iterator's own objects may turn: they are not the frame's, not pinned, younger than the entry (or a comprehension's own) -/
def FpOk (X : Cx) (pins : List (Addr × Obj)) (H : Hp) (b : Addr) : Prop :=
  H b = none ∧ b ≠ X.env.locals ∧ b ∉ X.fs ∧ (b ∈ X.ex ∨ X.s₀.heap.objs.size ≤ b) ∧ (∀ x c, X.env.cells.lookup x = some c → c ≠ b) ∧ ∀ p ∈ X.pn ++ pins, p.1 ≠ b
theorem Inv.fpOk {X : Cx} {pins : List (Addr × Obj)} {σ : St} {H H' : Hp} {s : Shared} {b : Addr} (I : Inv X pins σ H s) (hb : s.heap.objs.size ≤ b) (hn : H' b = none) : FpOk X pins H' b := by
  refine ⟨hn, Nat.ne_of_gt (Nat.lt_of_lt_of_le I.lt hb), I.nofs hb, .inr (Nat.le_trans I.sz hb), fun x c e z => ?_, fun p hp z => ?_⟩
  · obtain ⟨v, q⟩ := I.cell x c e
    exact absurd (Nat.lt_of_lt_of_le q.lt (by rw [z]; exact hb)) (Nat.lt_irrefl _)
  · exact absurd (Nat.lt_of_lt_of_le (Heap.lt_size (I.pin p hp).1) (by rw [z]; exact hb)) (Nat.lt_irrefl _)
structure Turn (P : Program) (w : World) (K : PySem.W.Frag) (tg : Expr) (J : It) (fp : List Addr) (it : Addr) (tn : Nat → Heap → Prop) : Prop where
  mem : it ∈ fp
  obj : ∀ i h, tn i h → ∀ b ∈ fp, ∃ o, h.get? b = some o ∧ ∀ v, o.data ≠ .cell v
  keep : ∀ i h h', tn i h → (∀ b ∈ fp, ∀ o, h.get? b = some o → h'.get? b = some o) → tn i h'
  item : ∀ (X : Cx), X.prog = P → X.w = w → X.K = K → X.calm = true → ∀ (i : Nat) (pins : List (Addr × Obj)) (s : Shared) (σ : St) (H : Hp) (E : Value → Shared → Prop), Inv X pins σ H s → (∀ b ∈ fp, FpOk X pins H b) → tn i s.heap → J.go i H →
    wpAny (model P w) X.A (pyNext (.ref it)) (fun r s1 => ∃ u, r = some u ∧
      wpAny (model P w) X.A (letOwnedTupleGo tg (.ref it) u) (fun _ s2 => ∃ x H', Inv X pins σ H' s2 ∧ RelV x u ∧ J.yld i H x H' ∧ tn (i + 1) s2.heap ∧ ∀ b ∈ fp, H' b = none) E s1) E s
  done : ∀ (X : Cx), X.prog = P → X.w = w → X.K = K → X.calm = true → ∀ (i : Nat) (pins : List (Addr × Obj)) (s : Shared) (σ : St) (H : Hp) (E : Value → Shared → Prop), Inv X pins σ H s → (∀ b ∈ fp, FpOk X pins H b) → tn i s.heap → J.stop i H →
    wpAny (model P w) X.A (pyNext (.ref it)) (fun r s1 => r = none ∧ Inv X pins σ H s1) E s
  self : ∀ (A : Around) (i : Nat) (s : Shared) (Q : Value → Shared → Prop) (E : Value → Shared → Prop), tn i s.heap → Q (.ref it) s → wpAny (model P w) A (pyIter (.ref it)) Q E s
abbrev TI := St → Hp → (It → Hp → Prop) → Prop
/-- an iterator has come -/
def PIE (X : Cx) (pins : List (Addr × Obj)) (σ : St) (tg : Expr) (R : It → Hp → Prop) (itv : Value) (s2 : Shared) : Prop :=
  ∃ (it : Addr) (fp : List Addr) (tn : Nat → Heap → Prop) (J : It) (H' : Hp), itv = .ref it ∧ Inv X pins σ H' s2 ∧ Turn X.prog X.w X.K tg J fp it tn ∧ tn 0 s2.heap ∧ (∀ b ∈ fp, FpOk X pins H' b) ∧ R J H'
def PI (X : Cx) (tg iter : Expr) (wi : TI) : Prop :=
  ∀ (pins : List (Addr × Obj)) (s : Shared) (σ : St) (H : Hp) (R : It → Hp → Prop), Inv X pins σ H s → wi σ H R →
    wpAny (model X.prog X.w) X.A (eval iter X.env) (fun v s1 => wpAny (model X.prog X.w) X.A (pyIter v) (PIE X pins σ tg R) X.xe s1) X.xe s

/-- the step ahead of the store is nothing for an iterator that keeps no tuple -/
theorem go_of {M : Model} {A : Around} {E : Value → Shared → Prop} {s : Shared} {tg : Expr} {it : Addr} {u : Value} {o : Obj} {n : String} {vs : Array Value} {Q : Unit → Shared → Prop} (ho : s.heap.get? it = some o) (hc : o.cls = .type n) (hd : o.data = .fields vs)
    (hn : ["enumerate", "zip", "dict_itemiterator", "dict_reverseitemiterator", "odict_iterator", "itertools.zip_longest", "itertools.pairwise"].contains n = false) (hQ : Q () s) : wpAny M A (letOwnedTupleGo tg (.ref it) u) Q E s := by
  unfold letOwnedTupleGo
  cases tg <;> first
    | exact wpAny_pure hQ
    | (cases u <;> first
        | exact wpAny_pure hQ
        | (refine wpAny_bind (wpAny_load ho ?_)
           rw [hc, hd]
           show wpAny M A (if (["enumerate", "zip", "dict_itemiterator", "dict_reverseitemiterator", "odict_iterator", "itertools.zip_longest", "itertools.pairwise"].contains n && vs[0]? == some (rawInt _)) = true then _ else _) Q E s
           rw [if_neg (by intro h; rw [hn, Bool.false_and] at h; cases h)]
           exact wpAny_pure hQ))

/-- the list at a, as it stands at each turn (a loop may append to it) -/
def Itl (K : PySem.W.Frag) (a : Addr) : It :=
  ⟨fun i H => ∃ xs x, SqL K H a xs ∧ xs[i]? = some x, fun i H x H' => H' = H ∧ ∀ xs, SqL K H a xs → xs[i]? = some x, fun i H => ∃ xs, SqL K H a xs ∧ xs.length ≤ i⟩
def Itt (K : PySem.W.Frag) (a : Addr) : It :=
  ⟨fun i H => ∃ xs x, SqT K H a xs ∧ xs[i]? = some x, fun i H x H' => H' = H ∧ ∀ xs, SqT K H a xs → xs[i]? = some x, fun i H => ∃ xs, SqT K H a xs ∧ xs.length ≤ i⟩
/-- lo, lo + 1, .. (n of them) -/
def Itr (lo : Int) (n : Nat) : It := ⟨fun i _ => i < n, fun i H x H' => H' = H ∧ x = .int (lo + i), fun i _ => n ≤ i⟩
theorem turn_list {P : Program} {w : World} {K : PySem.W.Frag} {tg : Expr} (a it : Addr) : Turn P w K tg (Itl K a) [it] it (fun i h => h.IsListIter it a i) where
  mem := by simp
  obj := fun i h st b hb => by
    have e : b = it := by simpa using hb
    subst e
    obtain ⟨o, e, c, d⟩ := st
    exact ⟨o, e, fun v z => by rw [d] at z; cases z⟩
  keep := fun i h h' st k => st.at fun o e => k it (by simp) o e
  item := by
    intro X hP hw hK hc i pins s σ H E I hf st hg
    subst hP hw hK
    obtain ⟨xs, x, hq, hx⟩ := hg
    obtain ⟨its, rv, p, hz⟩ := I.list hq
    obtain ⟨u, hu, ru⟩ := rv.get hx
    obtain ⟨f0, f1, f2, f3, f4, f5⟩ := hf it (by simp)
    refine wpAny_pyNext_list_item st p.isList (x := u) (by simpa using hu) fun h' st' sb => ?_
    have I1 : Inv X pins σ H { s with heap := h' } := I.turned (t' := s.toks) (fun b o hb e => (sb.2 b hb).trans e) f0 f1 f3 f4 f5
    obtain ⟨o, e, c, d⟩ := id st'
    exact ⟨u, rfl, go_of (s := { s with heap := h' }) e c d (by decide) ⟨x, H, I1, ru, ⟨rfl, fun ys hy => by rw [I.list_inj hy hq]; exact hx⟩, st', fun b hb => (hf b hb).1⟩⟩
  done := by
    intro X hP hw hK hc i pins s σ H E I hf st hg
    subst hP hw hK
    obtain ⟨xs, hq, hx⟩ := hg
    obtain ⟨its, rv, p, hz⟩ := I.list hq
    obtain ⟨f0, f1, f2, f3, f4, f5⟩ := hf it (by simp)
    have hl := rv.length
    exact wpAny_pyNext_list_end (I.ok.hd hc) st p.isList (by simp; omega) fun h' eb => ⟨rfl, I.turned (t' := s.toks) (fun b o hb e => eb b o hb e) f0 f1 f3 f4 f5⟩
  self := fun _ _ _ _ _ st h => wpAny_pyIter_listiter st h
theorem turn_tuple {P : Program} {w : World} {K : PySem.W.Frag} {tg : Expr} (a it : Addr) : Turn P w K tg (Itt K a) [it] it (fun i h => h.IsTupleIter it a i) where
  mem := by simp
  obj := fun i h st b hb => by
    have e : b = it := by simpa using hb
    subst e
    obtain ⟨o, e, c, d⟩ := st
    exact ⟨o, e, fun v z => by rw [d] at z; cases z⟩
  keep := fun i h h' st k => st.at fun o e => k it (by simp) o e
  item := by
    intro X hP hw hK hc i pins s σ H E I hf st hg
    subst hP hw hK
    obtain ⟨xs, x, hq, hx⟩ := hg
    obtain ⟨its, rv, p, hz⟩ := I.tuple hq
    obtain ⟨u, hu, ru⟩ := rv.get hx
    obtain ⟨f0, f1, f2, f3, f4, f5⟩ := hf it (by simp)
    refine wpAny_pyNext_tuple_item st (show s.heap.IsTuple a its.toArray from p) (x := u) (by simpa using hu) fun h' st' sb => ?_
    have I1 : Inv X pins σ H { s with heap := h' } := I.turned (t' := s.toks) (fun b o hb e => (sb.2 b hb).trans e) f0 f1 f3 f4 f5
    obtain ⟨o, e, c, d⟩ := id st'
    exact ⟨u, rfl, go_of (s := { s with heap := h' }) e c d (by decide) ⟨x, H, I1, ru, ⟨rfl, fun ys hy => by rw [I.tuple_inj hy hq]; exact hx⟩, st', fun b hb => (hf b hb).1⟩⟩
  done := by
    intro X hP hw hK hc i pins s σ H E I hf st hg
    subst hP hw hK
    obtain ⟨xs, hq, hx⟩ := hg
    obtain ⟨its, rv, p, hz⟩ := I.tuple hq
    obtain ⟨f0, f1, f2, f3, f4, f5⟩ := hf it (by simp)
    have hl := rv.length
    exact wpAny_pyNext_tuple_end (I.ok.hd hc) st (show s.heap.IsTuple a its.toArray from p) (by simp; omega) fun h' eb => ⟨rfl, I.turned (t' := s.toks) (fun b o hb e => eb b o hb e) f0 f1 f3 f4 f5⟩
  self := fun _ _ _ _ _ st h => wpAny_pyIter_tupleiter st h
theorem turn_range {P : Program} {w : World} {K : PySem.W.Frag} {tg : Expr} (it : Addr) (lo : Int) (n : Nat) : Turn P w K tg (Itr lo n) [it] it (fun i h => IsRangeIter h it (lo + (i : Nat) * 1) ((n : Int) - (i : Nat)) 1) where
  mem := by simp
  obj := fun i h st b hb => by
    have e : b = it := by simpa using hb
    subst e
    exact ⟨_, st, fun v z => by
      have z' : Data.fields _ = Data.cell v := z
      cases z'⟩
  keep := fun i h h' st k => k it (by simp) _ st
  item := by
    intro X hP hw hK hc i pins s σ H E I hf st hg
    subst hP hw hK
    obtain ⟨f0, f1, f2, f3, f4, f5⟩ := hf it (by simp)
    have W := Walks.range (prog := X.prog) (w := X.w) (I.ok.hd hc) it lo 1 n
    refine W.item i s _ _ hg st fun v h' tk hv st' kk => ?_
    obtain ⟨t, rfl⟩ := hv
    have I1 : Inv X pins σ H { s with heap := h', toks := tk } := I.turned (fun b o hb e => kk b o (by simpa using hb) e) f0 f1 f3 f4 f5
    refine ⟨_, rfl, go_of (s := { s with heap := h', toks := tk }) (n := "range_iterator") st' rfl rfl (by decide) ⟨.int (lo + i), H, I1, ⟨t, ?_⟩, ⟨rfl, rfl⟩, st', fun b hb => (hf b hb).1⟩⟩
    rw [Int.mul_one]
  done := by
    intro X hP hw hK hc i pins s σ H E I hf st hg
    subst hP hw hK
    obtain ⟨f0, f1, f2, f3, f4, f5⟩ := hf it (by simp)
    exact wpAny_pyNext_range_end (I.ok.hd hc) st (by have : n ≤ i := hg; omega) fun h' eb => ⟨rfl, I.turned (t' := s.toks) (fun b o hb e => eb b o hb e) f0 f1 f3 f4 f5⟩
  self := fun _ _ _ _ _ st h => wpAny_pyIter_rangeiter st h
end L2

namespace L2
open PySem PySem.Spec PyProof.Rows
section
variable {X : Cx} {tg : Expr}
def iList (K : PySem.W.Frag) (tl : TE) : TI := fun σ H R => tl σ H fun x H1 => ∃ a, x = .ref a ∧ (∃ xs, SqL K H1 a xs) ∧ R (Itl K a) H1
def iTup (K : PySem.W.Frag) (tl : TE) : TI := fun σ H R => tl σ H fun x H1 => ∃ a, x = .ref a ∧ (∃ xs, SqT K H1 a xs) ∧ R (Itt K a) H1
theorem pi_list {l : Expr} {tl : TE} (hl : PE X l tl) : PI X tg l (iList X.K tl) := by
  intro pins s σ H R I h
  refine thn (hl pins s σ H _ I h) fun v s1 ⟨x, H1, I1, r1, q1⟩ => ?_
  obtain ⟨a, e, ⟨xs, hq⟩, q⟩ := q1
  subst e
  cases r1
  obtain ⟨its, rv, p, hz⟩ := I1.list hq
  refine wpAny_pyIter_list p.isList ?_
  refine ⟨s1.heap.objs.size, [s1.heap.objs.size], _, _, H1, rfl, I1.kept (t' := s1.toks) fun b o e => Heap.get?_push_of_some _ e, turn_list a _, ⟨_, Heap.get?_push_size _ rfl, rfl, rfl⟩, fun b hb => ?_, q⟩
  have e : b = s1.heap.objs.size := by simpa using hb
  subst e
  exact I1.fpOk (Nat.le_refl _) (I1.hok.fresh (Nat.le_refl _))
theorem pi_tup {l : Expr} {tl : TE} (hl : PE X l tl) : PI X tg l (iTup X.K tl) := by
  intro pins s σ H R I h
  refine thn (hl pins s σ H _ I h) fun v s1 ⟨x, H1, I1, r1, q1⟩ => ?_
  obtain ⟨a, e, ⟨xs, hq⟩, q⟩ := q1
  subst e
  cases r1
  obtain ⟨its, rv, p, hz⟩ := I1.tuple hq
  refine wpAny_pyIter_tuple (show s1.heap.IsTuple a its.toArray from p) ?_
  refine ⟨s1.heap.objs.size, [s1.heap.objs.size], _, _, H1, rfl, I1.kept (t' := s1.toks) fun b o e => Heap.get?_push_of_some _ e, turn_tuple a _, ⟨_, Heap.get?_push_size _ rfl, rfl, rfl⟩, fun b hb => ?_, q⟩
  have e : b = s1.heap.objs.size := by simpa using hb
  subst e
  exact I1.fpOk (Nat.le_refl _) (I1.hok.fresh (Nat.le_refl _))
/-- a range object just made, walked -/
theorem range_it {pins : List (Addr × Obj)} {σ : St} {H : Hp} {s : Shared} {R : It → Hp → Prop} {E : Value → Shared → Prop} {lo hi : Int} {t u v : Tok} {tk : Nat} (I : Inv X pins σ H s) (h1 : -(2 ^ 62) ≤ lo) (h2 : lo < 2 ^ 62) (h3 : -(2 ^ 62) ≤ hi) (h4 : hi < 2 ^ 62)
    (q : R (Itr lo (hi - lo).toNat) H) : wpAny (model X.prog X.w) X.A (pyIter (.ref s.heap.objs.size)) (PIE X pins σ tg R) E { s with heap := s.heap.push { cls := .type "range", data := .fields #[.int lo t, .int hi u, .int 1 v] }, toks := tk } := by
  refine wpAny_pyIter_range (IsRange.new ..) (small_one h1 h2 h3 h4) ?_
  have I1 : Inv X pins σ H { s with heap := s.heap.push { cls := .type "range", data := .fields #[.int lo t, .int hi u, .int 1 v] }, toks := tk } := I.kept fun b o e => Heap.get?_push_of_some _ e
  refine ⟨(s.heap.push { cls := .type "range", data := .fields #[.int lo t, .int hi u, .int 1 v] }).objs.size, [(s.heap.push { cls := .type "range", data := .fields #[.int lo t, .int hi u, .int 1 v] }).objs.size], _, _, H, rfl,
    I1.kept (t' := tk) fun b o e => Heap.get?_push_of_some _ e, turn_range _ lo (hi - lo).toNat, ?_, fun b hb => ?_, q⟩
  · have e1 : lo + ((0 : Nat) : Int) * 1 = lo := by simp
    have e2 : (((hi - lo).toNat : Nat) : Int) - ((0 : Nat) : Int) = Builtin.Range.rangeSize lo hi 1 := by rw [rangeSize_one]; split <;> omega
    show IsRangeIter _ _ (lo + ((0 : Nat) : Int) * 1) ((((hi - lo).toNat : Nat) : Int) - ((0 : Nat) : Int)) 1
    rw [e1, e2]
    exact Heap.get?_push_size _ rfl
  · have e : b = (s.heap.push { cls := .type "range", data := .fields #[.int lo t, .int hi u, .int 1 v] }).objs.size := by simpa using hb
    subst e
    exact I1.fpOk (Nat.le_refl _) (I1.hok.fresh (Nat.le_refl _))
def iRng1 (ta : TA) : TI := fun σ H R => ta σ H fun vs H1 => ∃ j : Int, vs = [.int j] ∧ -(2 ^ 62) ≤ j ∧ j < 2 ^ 62 ∧ R (Itr 0 j.toNat) H1
def iRng2 (ta : TA) : TI := fun σ H R => ta σ H fun vs H1 => ∃ i j : Int, vs = [.int i, .int j] ∧ (-(2 ^ 62) ≤ i ∧ i < 2 ^ 62 ∧ -(2 ^ 62) ≤ j ∧ j < 2 ^ 62) ∧ R (Itr i (j - i).toNat) H1
theorem pi_range1 {a : Expr} {ta : TA} {p pos : Pos} (hg : Gl X "range") (hm : X.mg "range" = none) (ha : PA X [a] ta) (hs : starEach [a] X.env = [(false, eval a X.env)] := by rfl) : PI X tg (.Call (.Name "range" p) [a] [] pos) (iRng1 ta) := by
  intro pins s σ H R I h
  refine Call_ (ld_blt I hg hm boot_range (PyProof.Rows.callWith_type1 (thn (ha pos pins s σ H _ I h) fun us s1 ⟨vs, H1, I1, r1, q1⟩ => ?_) hs rfl))
  obtain ⟨j, e, q1, q2, q⟩ := q1
  subst e
  cases r1 with
  | cons r rr =>
    cases rr
    obtain ⟨t, rfl⟩ := r
    exact call_range_1 (range_it I1 (by omega) (by omega) q1 q2 (by simpa using q))
/-- W: the invariant by the turn and a measure; N: what the body is to reach -/
def tFor (wi : TI) (g : TG) (tb : TS) : TS := fun D σ H => wi σ H fun J H1 => ∃ W : Nat → Nat → St → Hp → Prop, (∃ m, W 0 m σ H1) ∧ ∀ i m σ H, W i m σ H →
  (J.stop i H ∧ D.nx σ H) ∨ (J.go i H ∧ ∃ N : St → Hp → Prop, (∀ σ' H', N σ' H' → ∃ m', m' < m ∧ W (i + 1) m' σ' H') ∧ ∀ x H', J.yld i H x H' → g x σ H' fun σ2 H2 => tb { D with nx := N, ct := N, bk := D.nx } σ2 H2)
/-- the records at fp as they stand -/
def pinsAt (fp : List Addr) (h : Heap) : List (Addr × Obj) := fp.filterMap fun b => (h.get? b).map fun o => (b, o)
theorem mem_pinsAt {fp : List Addr} {h : Heap} {b : Addr} {o : Obj} (hb : b ∈ fp) (e : h.get? b = some o) : (b, o) ∈ pinsAt fp h := List.mem_filterMap.mpr ⟨b, hb, by rw [e]; rfl⟩
theorem of_pinsAt {fp : List Addr} {h : Heap} {p : Addr × Obj} (hp : p ∈ pinsAt fp h) : p.1 ∈ fp ∧ h.get? p.1 = some p.2 := by
  obtain ⟨b, hb, e⟩ := List.mem_filterMap.mp hp
  cases q : h.get? b with
  | none => rw [q] at e; cases e
  | some o =>
    rw [q] at e
    have e' : (b, o) = p := Option.some.inj e
    subst e'
    exact ⟨hb, q⟩
theorem Inv.pinned {pins : List (Addr × Obj)} {σ : St} {H : Hp} {s : Shared} {fp : List Addr} (I : Inv X pins σ H s) (hf : ∀ b ∈ fp, FpOk X pins H b) (ho : ∀ b ∈ fp, ∃ o, s.heap.get? b = some o ∧ ∀ v, o.data ≠ .cell v) : Inv X (pins ++ pinsAt fp s.heap) σ H s :=
  I.pins_of fun p hp => (List.mem_append.mp hp).elim (fun z => I.pin p (List.mem_append_right _ z)) fun z => by
    obtain ⟨hb, e⟩ := of_pinsAt z
    obtain ⟨f0, f1, f2, _⟩ := hf p.1 hb
    obtain ⟨o, e', d⟩ := ho p.1 hb
    rw [e] at e'; cases e'
    exact ⟨e, f0, f1, f2, d⟩
theorem Inv.unpinned {pins pl : List (Addr × Obj)} {σ : St} {H : Hp} {s : Shared} (I : Inv X (pins ++ pl) σ H s) : Inv X pins σ H s := I.pins_of fun p hp => I.pin p (List.mem_append_right _ (List.mem_append_left _ hp))
theorem ps_for {iter : Expr} {body : List Stmt} {wi : TI} {g : TG} {tb : TS} {pos : Pos} (hp : PassesOwn (model X.prog X.w) X.A X.env X.xe) (hc : X.calm = true) (hi : PI X tg iter wi) (hg : PG X tg g) (hb : PSs X body tb)
    (hs : ∀ x, foldedSetIterable iter X.env x = pure x := by intro _; rfl) : PS X (.For tg iter body [] pos) (tFor wi g tb) := by
  intro pins s σ H D I h
  refine wpAny_For (thn (hi pins s σ H _ I h) fun v s1 h1 => thn h1 fun itv s2 h2 => ?_) hs
  obtain ⟨it, fp, tn, J, H2, e, I2, T, st2, f2, W, ⟨m0, w0⟩, turn⟩ := h2
  subst e
  -- what stays true of the iterator's objects through the loop
  have stat : ∀ {H' : Hp}, (∀ b ∈ fp, H' b = none) → ∀ b ∈ fp, FpOk X pins H' b := fun hn b hb => ⟨hn b hb, (f2 b hb).2⟩
  refine codeAny_forLoop_any (fun n s' => ∃ i σ' H', Inv X pins σ' H' s' ∧ tn i s'.heap ∧ (∀ b ∈ fp, H' b = none) ∧ W i n σ' H') ?_ m0 ⟨0, σ, H2, I2, st2, fun b hb => (f2 b hb).1, w0⟩
  rintro n s3 ⟨i, σ3, H3, I3, st3, fr3, w3⟩
  rcases turn i n σ3 H3 w3 with ⟨stop, qn⟩ | ⟨go, N, hN, step⟩
  · refine wpAny_passesOwn hp (thn (T.done X rfl rfl rfl hc i pins s3 σ3 H3 X.xe I3 (stat fr3) st3 stop) fun r s4 ⟨hr, I4⟩ => ?_)
    subst hr
    exact wpAny_execs_nil ⟨σ3, H3, I4, qn⟩
  · refine wpAny_passesOwn hp (thn (T.item X rfl rfl rfl hc i pins s3 σ3 H3 X.xe I3 (stat fr3) st3 go) fun r s4 ⟨u, hr, h4⟩ => ?_)
    subst hr
    refine wpAny_passesOwn hp (thn h4 fun _ s5 ⟨x, H5, I5, r5, y5, st5, fr5⟩ => ?_)
    have I5' := I5.pinned (stat fr5) (T.obj _ _ st5)
    refine wpAny_passesOwn hp (thn (hg _ s5 σ3 H5 x u _ I5' r5 (step x H5 y5)) fun _ s6 ⟨σ6, H6, I6, q6⟩ => ?_)
    refine wpAny_passesOwn hp (thn (hb _ s6 σ6 H6 _ I6 q6) fun f s7 q7 => ?_)
    have again : ∀ {σ7 : St} {H7 : Hp}, Inv X (pins ++ pinsAt fp s5.heap) σ7 H7 s7 → N σ7 H7 → ∃ m, m < n ∧ ∃ i σ' H', Inv X pins σ' H' s7 ∧ tn i s7.heap ∧ (∀ b ∈ fp, H' b = none) ∧ W i m σ' H' := fun {σ7 H7} I7 n7 => by
      obtain ⟨m', hm, w7⟩ := hN σ7 H7 n7
      refine ⟨m', hm, i + 1, σ7, H7, I7.unpinned, T.keep _ _ _ st5 fun b hb o e => (I7.pin (b, o) (List.mem_append_right _ (List.mem_append_right _ (mem_pinsAt hb e)))).1, fun b hb => ?_, w7⟩
      obtain ⟨o, e, d⟩ := T.obj _ _ st5 b hb
      exact (I7.pin (b, o) (List.mem_append_right _ (List.mem_append_right _ (mem_pinsAt hb e)))).2.1
    cases f with
    | next => obtain ⟨σ7, H7, I7, n7⟩ := q7; exact again I7 n7
    | cont => obtain ⟨σ7, H7, I7, n7⟩ := q7; exact again I7 n7
    | brk => obtain ⟨σ7, H7, I7, q7⟩ := q7; exact ⟨σ7, H7, I7.unpinned, q7⟩
    | ret v => obtain ⟨x7, σ7, H7, I7, r7, q7⟩ := q7; exact ⟨x7, σ7, H7, I7.unpinned, r7, q7⟩
end

end L2

namespace L2
open PySem PySem.Spec PyProof.Rows

abbrev R2 := V → V → Hp → VK → Prop
/-- a two-place operation on values: f is binaryOp op, inplaceOp op or compareOp op -/
def OpR (X : Cx) (f : Value → Value → Sem Value) (r : R2) : Prop :=
  ∀ (pins : List (Addr × Obj)) (s : Shared) (σ : St) (H : Hp) (x y : V) (v u : Value) (Q : VK), Inv X pins σ H s → RelV x v → RelV y u → r x y H Q →
    wpAny (model X.prog X.w) X.A (f v u) (EP X pins σ Q) X.xe s
/-- a one-place operation -/
def UnR (X : Cx) (f : Value → Sem Value) (r : V → Hp → VK → Prop) : Prop :=
  ∀ (pins : List (Addr × Obj)) (s : Shared) (σ : St) (H : Hp) (x : V) (v : Value) (Q : VK), Inv X pins σ H s → RelV x v → r x H Q →
    wpAny (model X.prog X.w) X.A (f v) (EP X pins σ Q) X.xe s
/-- a call of a value that is known (a builtin, a type) with values -/
def CallR (X : Cx) (f : Value) (r : List V → Hp → VK → Prop) : Prop :=
  ∀ (pins : List (Addr × Obj)) (s : Shared) (σ : St) (H : Hp) (xs : List V) (us : List Value) (Q : VK), Inv X pins σ H s → Vals xs us → r xs H Q →
    wpAny (model X.prog X.w) X.A (call f us) (EP X pins σ Q) X.xe s
def tOp (r : R2) (ta tb : TE) : TE := fun σ H Q => ta σ H fun x H1 => tb σ H1 fun y H2 => r x y H2 Q
def tUn (r : V → Hp → VK → Prop) (ta : TE) : TE := fun σ H Q => ta σ H fun x H1 => r x H1 Q
/-- ints in, under C, and a value out -/
def rI (C : Int → Int → Prop) (g : Int → Int → V) : R2 := fun x y H Q => ∃ i j, x = .int i ∧ y = .int j ∧ C i j ∧ Q (g i j) H
def rI0 (g : Int → Int → V) : R2 := fun x y H Q => ∃ i j, x = .int i ∧ y = .int j ∧ Q (g i j) H
def rU (g : Int → V) : V → Hp → VK → Prop := fun x H Q => ∃ i, x = .int i ∧ Q (g i) H

section
variable {X : Cx} {a b c : Expr} {ta tb tc : TE} {pos : Pos}

theorem binT (ha : PE X a ta) (hb : PE X b tb) {pins : List (Addr × Obj)} {s : Shared} {σ : St} {H : Hp} {R : V → V → Hp → Prop} (I : Inv X pins σ H s)
    (h : ta σ H fun x H1 => tb σ H1 fun y H2 => R x y H2) {Q : Value → Shared → Prop} {f : Value → Value → Sem Value}
    (hf : ∀ v u s2 x y H2, Inv X pins σ H2 s2 → RelV x v → RelV y u → R x y H2 → wpAny (model X.prog X.w) X.A (f v u) Q X.xe s2) :
    wpAny (model X.prog X.w) X.A (eval a X.env) (fun v s₁ => wpAny (model X.prog X.w) X.A (eval b X.env) (fun u s₂ => wpAny (model X.prog X.w) X.A (f v u) Q X.xe s₂) X.xe s₁) X.xe s := by
  refine thn (ha pins s σ H _ I h) fun v s1 ⟨x, H1, I1, r1, q1⟩ => ?_
  refine thn (hb pins s1 σ H1 _ I1 q1) fun u s2 ⟨y, H2, I2, r2, q2⟩ => ?_
  exact hf v u s2 x y H2 I2 r1 r2 q2

theorem pe_op {op : Operator} {r : R2} (ho : OpR X (binaryOp op) r) (ha : PE X a ta) (hb : PE X b tb) : PE X (.BinOp a op b pos) (tOp r ta tb) := by
  intro pins s σ H Q I h
  exact wpAny_BinOp (binT ha hb I h fun v u s2 x y H2 I2 rx ry q => ho pins s2 σ H2 x y v u Q I2 rx ry q)
theorem pe_un {op : UnaryOp} {r : V → Hp → VK → Prop} (ho : UnR X (unaryOp op) r) (ha : PE X a ta) : PE X (.UnaryOp op a pos) (tUn r ta) := by
  intro pins s σ H Q I h
  exact UnaryOp_ (thn (ha pins s σ H _ I h) fun v s1 ⟨x, H1, I1, r1, q1⟩ => ho pins s1 σ H1 x v Q I1 r1 q1)
theorem opI {f : Value → Value → Sem Value} {C : Int → Int → Prop} {g : Int → Int → Int}
    (rule : ∀ (i j : Int) (t u : Tok) (s : Shared) (Q : Value → Shared → Prop) (E : Value → Shared → Prop), C i j → Q (.int (g i j) s.toks) { s with toks := s.toks + 1 } → wpAny (model X.prog X.w) X.A (f (.int i t) (.int j u)) Q E s) :
    OpR X f (rI C fun i j => .int (g i j)) := by
  intro pins s σ H x y v u Q I rx ry h
  obtain ⟨i, j, rfl, rfl, hc, q⟩ := h
  obtain ⟨t, rfl⟩ := rx
  obtain ⟨t', rfl⟩ := ry
  exact rule i j t t' s _ _ hc ⟨.int (g i j), H, I.tok _, ⟨_, rfl⟩, q⟩
theorem opI0 {f : Value → Value → Sem Value} {g : Int → Int → Int}
    (rule : ∀ (i j : Int) (t u : Tok) (s : Shared) (Q : Value → Shared → Prop) (E : Value → Shared → Prop), Q (.int (g i j) s.toks) { s with toks := s.toks + 1 } → wpAny (model X.prog X.w) X.A (f (.int i t) (.int j u)) Q E s) :
    OpR X f (rI0 fun i j => .int (g i j)) := by
  intro pins s σ H x y v u Q I rx ry h
  obtain ⟨i, j, rfl, rfl, q⟩ := h
  obtain ⟨t, rfl⟩ := rx
  obtain ⟨t', rfl⟩ := ry
  exact rule i j t t' s _ _ ⟨.int (g i j), H, I.tok _, ⟨_, rfl⟩, q⟩
theorem opB0 {f : Value → Value → Sem Value} {g : Int → Int → Bool}
    (rule : ∀ (i j : Int) (t u : Tok) (s : Shared) (Q : Value → Shared → Prop) (E : Value → Shared → Prop), Q (.bool (g i j)) s → wpAny (model X.prog X.w) X.A (f (.int i t) (.int j u)) Q E s) :
    OpR X f (rI0 fun i j => .bl (g i j)) := by
  intro pins s σ H x y v u Q I rx ry h
  obtain ⟨i, j, rfl, rfl, q⟩ := h
  obtain ⟨t, rfl⟩ := rx
  obtain ⟨t', rfl⟩ := ry
  exact rule i j t t' s _ _ ⟨.bl (g i j), H, I, rfl, q⟩

def CDiv (i j : Int) : Prop := 0 < j ∧ j < 1073741824
def CPow (i j : Int) : Prop := 0 ≤ j ∧ j ≤ 1000000 ∧ i.natAbs < 2 ^ 64
def CMul (i j : Int) : Prop := (-(2 ^ 64) < i ∧ i < 2 ^ 64) ∨ (-(2 ^ 64) < j ∧ j < 2 ^ 64)
theorem CMul.ok {i j : Int} (h : CMul i j) : IntMulOk i j := by
  rcases h with ⟨h1, h2⟩ | ⟨h1, h2⟩
  · exact .of_left (intBits_le_64 h1 h2)
  · exact .of_right (intBits_le_64 h1 h2)
theorem op_add : OpR X (binaryOp .Add) (rI0 fun i j => .int (i + j)) := opI0 fun _ _ _ _ _ _ _ q => add_int q
theorem op_sub : OpR X (binaryOp .Sub) (rI0 fun i j => .int (i - j)) := opI0 fun _ _ _ _ _ _ _ q => sub_int q
theorem op_mul : OpR X (binaryOp .Mult) (rI CMul fun i j => .int (i * j)) := opI fun _ _ _ _ _ _ _ hc q => mul_int q hc.ok
/-- // by a positive divisor -/
theorem op_fdiv : OpR X (binaryOp .FloorDiv) (rI CDiv fun i j => .int (i / j)) := opI fun i j _ _ _ _ _ hc q => by
  have h1 : (0 : Int) < j := hc.1
  have h2 : j < 1073741824 := hc.2
  exact floordiv_int (by omega) (by rw [Int.fdiv_eq_ediv_of_nonneg i (by omega)]; exact q) (.inl (PyProof.noPylong_small (by omega)))
/-- % by a positive divisor of any size -/
theorem op_mod : OpR X (binaryOp .Mod) (rI (fun _ j => 0 < j) fun i j => .int (i % j)) := opI fun i j _ _ _ _ _ hc q => by
  have h1 : (0 : Int) < j := hc
  exact mod_int' (by omega) (by rw [Int.fmod_eq_emod_of_nonneg i (by omega)]; exact q)
theorem op_pow : OpR X (binaryOp .Pow) (rI CPow fun i j => .int (i ^ j.toNat)) := opI fun _ _ _ _ _ _ _ hc q => pow_int_small hc.1 hc.2.1 hc.2.2 q
theorem op_shl : OpR X (binaryOp .LShift) (rI CPow fun i j => .int (i * 2 ^ j.toNat)) := opI fun _ _ _ _ _ _ _ hc q => lshift_int_small hc.1 hc.2.1 hc.2.2 q
theorem op_and : OpR X (binaryOp .BitAnd) (rI0 fun i j => .int (Builtin.bitAnd i j)) := opI0 fun _ _ _ _ _ _ _ q => and_int q
theorem op_or : OpR X (binaryOp .BitOr) (rI0 fun i j => .int (Builtin.bitOr i j)) := opI0 fun _ _ _ _ _ _ _ q => or_int q
theorem unI {f : Value → Sem Value} {g : Int → Int}
    (rule : ∀ (i : Int) (t : Tok) (s : Shared) (Q : Value → Shared → Prop) (E : Value → Shared → Prop), Q (.int (g i) s.toks) { s with toks := s.toks + 1 } → wpAny (model X.prog X.w) X.A (f (.int i t)) Q E s) :
    UnR X f (rU fun i => .int (g i)) := by
  intro pins s σ H x v Q I rx h
  obtain ⟨i, rfl, q⟩ := h
  obtain ⟨t, rfl⟩ := rx
  exact rule i t s _ _ ⟨.int (g i), H, I.tok _, ⟨_, rfl⟩, q⟩
theorem un_neg : UnR X (unaryOp .USub) (rU fun i => .int (-i)) := unI fun _ _ _ _ _ q => neg_int q
end

/-- the scalars that == tells apart as data does -/
def scal : V → V → Bool
  | .non, .non => true | .non, .int _ => true | .int _, .non => true | .non, .bl _ => true | .bl _, .non => true | .non, .str _ => true | .str _, .non => true
  | .int _, .int _ => true | .bl _, .bl _ => true | .str _, .str _ => true | .byt _, .byt _ => true
  | .int _, .str _ => true | .str _, .int _ => true | .bl _, .str _ => true | .str _, .bl _ => true
  | _, _ => false
def rEq : R2 := fun x y H Q => scal x y = true ∧ Q (.bl (decide (x = y))) H
def rNe : R2 := fun x y H Q => scal x y = true ∧ Q (.bl (!decide (x = y))) H

theorem dec_int {i j : Int} : decide (V.int i = V.int j) = (i == j) := by
  rw [Bool.eq_iff_iff]
  simp
theorem dec_bl {i j : Bool} : decide (V.bl i = V.bl j) = (i == j) := by
  rw [Bool.eq_iff_iff]
  simp
theorem dec_str {i j : Str} : decide (V.str i = V.str j) = (i == j) := by
  rw [Bool.eq_iff_iff]
  simp
theorem dec_byt {i j : Array UInt8} : decide (V.byt i = V.byt j) = (i.toList == j.toList) := by
  rw [Bool.eq_iff_iff]
  cases i
  cases j
  simp

section
variable {X : Cx} {a b c : Expr} {ta tb tc : TE} {pos : Pos}
theorem fin_bl {pins : List (Addr × Obj)} {σ : St} {H : Hp} {s : Shared} {Q : VK} {k k' : Bool} (I : Inv X pins σ H s) (q : Q (.bl k) H) (e : k = k') : EP X pins σ Q (.bool k') s := by
  subst e
  exact ⟨.bl k, H, I, rfl, q⟩
theorem op_eq : OpR X (compareOp .Eq) rEq := by
  intro pins s σ H x y v u Q I rx ry h
  obtain ⟨hs, q⟩ := h
  cases x with
  | non =>
    cases rx
    cases y with
    | non => cases ry; exact PySem.EqNone.eq_none_none (fin_bl I q (by simp))
    | bl j => cases ry; exact PySem.EqNone.eq_none_bool (fin_bl I q (by simp))
    | int j => obtain ⟨t', rfl⟩ := ry; exact PySem.EqNone.eq_none_int (fin_bl I q (by simp))
    | str j => obtain ⟨t', rfl⟩ := ry; exact PySem.EqNone.eq_none_str (fin_bl I q (by simp))
    | _ => exact absurd (show false = true from hs) Bool.false_ne_true
  | bl i =>
    cases rx
    cases y with
    | non => cases ry; exact PySem.EqNone.eq_bool_none (fin_bl I q (by simp))
    | bl j => cases ry; exact eq_bool (fin_bl I q dec_bl)
    | str j => obtain ⟨t', rfl⟩ := ry; exact PySem.EqMixed.eq_bool_str (fin_bl I q (by simp))
    | _ => exact absurd (show false = true from hs) Bool.false_ne_true
  | int i =>
    obtain ⟨t, rfl⟩ := rx
    cases y with
    | non => cases ry; exact PySem.EqNone.eq_int_none (fin_bl I q (by simp))
    | int j => obtain ⟨t', rfl⟩ := ry; exact eq_int (fin_bl I q dec_int)
    | str j => obtain ⟨t', rfl⟩ := ry; exact PySem.EqMixed.eq_int_str (fin_bl I q (by simp))
    | _ => exact absurd (show false = true from hs) Bool.false_ne_true
  | str i =>
    obtain ⟨t, rfl⟩ := rx
    cases y with
    | non => cases ry; exact PySem.EqNone.eq_str_none (fin_bl I q (by simp))
    | bl j => cases ry; exact PySem.EqMixed.eq_str_bool (fin_bl I q (by simp))
    | int j => obtain ⟨t', rfl⟩ := ry; exact PySem.EqMixed.eq_str_int (fin_bl I q (by simp))
    | str j => obtain ⟨t', rfl⟩ := ry; exact eq_str (fin_bl I q dec_str)
    | _ => exact absurd (show false = true from hs) Bool.false_ne_true
  | byt i =>
    obtain ⟨t, rfl⟩ := rx
    cases y with
    | byt j => obtain ⟨t', rfl⟩ := ry; exact PySem.W.eq_bytes (fin_bl I q dec_byt)
    | _ => exact absurd (show false = true from hs) Bool.false_ne_true
  | _ => cases y <;> exact absurd (show false = true from hs) Bool.false_ne_true
theorem op_ne : OpR X (compareOp .NotEq) rNe := by
  intro pins s σ H x y v u Q I rx ry h
  obtain ⟨hs, q⟩ := h
  cases x with
  | non =>
    cases rx
    cases y with
    | non => cases ry; exact PySem.EqNone.ne_none_none (fin_bl I q (by simp))
    | bl j => cases ry; exact PySem.EqNone.ne_none_bool (fin_bl I q (by simp))
    | int j => obtain ⟨t', rfl⟩ := ry; exact PySem.EqNone.ne_none_int (fin_bl I q (by simp))
    | str j => obtain ⟨t', rfl⟩ := ry; exact PySem.EqNone.ne_none_str (fin_bl I q (by simp))
    | _ => exact absurd (show false = true from hs) Bool.false_ne_true
  | bl i =>
    cases rx
    cases y with
    | non => cases ry; exact PySem.EqNone.ne_bool_none (fin_bl I q (by simp))
    | bl j => cases ry; exact ne_bool (fin_bl I q (congrArg not dec_bl))
    | str j => obtain ⟨t', rfl⟩ := ry; exact PySem.EqMixed.ne_bool_str (fin_bl I q (by simp))
    | _ => exact absurd (show false = true from hs) Bool.false_ne_true
  | int i =>
    obtain ⟨t, rfl⟩ := rx
    cases y with
    | non => cases ry; exact PySem.EqNone.ne_int_none (fin_bl I q (by simp))
    | int j => obtain ⟨t', rfl⟩ := ry; exact ne_int (fin_bl I q (congrArg not dec_int))
    | str j => obtain ⟨t', rfl⟩ := ry; exact PySem.EqMixed.ne_int_str (fin_bl I q (by simp))
    | _ => exact absurd (show false = true from hs) Bool.false_ne_true
  | str i =>
    obtain ⟨t, rfl⟩ := rx
    cases y with
    | non => cases ry; exact PySem.EqNone.ne_str_none (fin_bl I q (by simp))
    | bl j => cases ry; exact PySem.EqMixed.ne_str_bool (fin_bl I q (by simp))
    | int j => obtain ⟨t', rfl⟩ := ry; exact PySem.EqMixed.ne_str_int (fin_bl I q (by simp))
    | str j => obtain ⟨t', rfl⟩ := ry; exact ne_str (fin_bl I q (congrArg not dec_str))
    | _ => exact absurd (show false = true from hs) Bool.false_ne_true
  | byt i =>
    obtain ⟨t, rfl⟩ := rx
    cases y with
    | byt j => obtain ⟨t', rfl⟩ := ry; exact PySem.W.ne_bytes (fin_bl I q (congrArg not dec_byt))
    | _ => exact absurd (show false = true from hs) Bool.false_ne_true
  | _ => cases y <;> exact absurd (show false = true from hs) Bool.false_ne_true

theorem op_lt : OpR X (compareOp .Lt) (rI0 fun i j => .bl (decide (i < j))) := opB0 fun _ _ _ _ _ _ _ q => lt_int q
theorem op_le : OpR X (compareOp .LtE) (rI0 fun i j => .bl (decide (i ≤ j))) := opB0 fun _ _ _ _ _ _ _ q => le_int q
theorem op_gt : OpR X (compareOp .Gt) (rI0 fun i j => .bl (decide (j < i))) := opB0 fun _ _ _ _ _ _ _ q => gt_int q
theorem op_ge : OpR X (compareOp .GtE) (rI0 fun i j => .bl (decide (j ≤ i))) := opB0 fun _ _ _ _ _ _ _ q => ge_int q
theorem nomark (b : Expr) {op : CmpOp} (h : op ≠ .In := by decide) (h2 : op ≠ .NotIn := by decide) : behindInMarks op b = false := by
  have e1 : (op == CmpOp.In) = false := by cases op <;> first | rfl | exact absurd rfl h
  have e2 : (op == CmpOp.NotIn) = false := by cases op <;> first | rfl | exact absurd rfl h2
  cases b <;> simp [behindInMarks, e1, e2]
/-- a comparison as a value; hm: nomark b, or (for in, not in) by with_unfolding_all rfl -/
theorem pe_cmpR {op : CmpOp} {r : R2} (ho : OpR X (compareOp op) r) (ha : PE X a ta) (hb : PE X b tb) (hm : behindInMarks op b = false) : PE X (.Compare a [op] [b] pos) (tOp r ta tb) := by
  intro pins s σ H Q I h
  exact wpAny_Compare1 (binT ha hb I h fun v u s2 x y H2 I2 rx ry q => ho pins s2 σ H2 x y v u Q I2 rx ry q) hm
/-- a reading of a value as a test -/
def tTest (t : TE) : TT := fun σ H Q => t σ H fun x H' => ∃ k, x = .bl k ∧ Q k H'
theorem pt_cmpR {op : CmpOp} {r : R2} (ho : OpR X (compareOp op) r) (ha : PE X a ta) (hb : PE X b tb) (hm : behindInMarks op b = false) : PT X (.Compare a [op] [b] pos) (tTest (tOp r ta tb)) := by
  intro pins s σ H Q I h
  refine wpAny_isTrue_Compare1 (thn (ha pins s σ H _ I h) fun v s1 ⟨x, H1, I1, r1, q1⟩ => thn (hb pins s1 σ H1 _ I1 q1) fun u s2 ⟨y, H2, I2, r2, q2⟩ =>
    thn (ho pins s2 σ H2 x y v u _ I2 r1 r2 q2) fun c s3 ⟨z, H3, I3, r3, k, e, q3⟩ => ?_) hm
  subst e
  cases r3
  exact wpAny_truthy_bool ⟨H3, I3, q3⟩
/-- a op1 b op2 c -/
def tChain (r r' : R2) (ta tb tc : TE) : TE := fun σ H Q => ta σ H fun x H1 => tb σ H1 fun y H2 => r x y H2 fun z H3 => ∃ k, z = .bl k ∧
  (if k = true then tc σ H3 fun w' H4 => r' y w' H4 Q else Q (.bl false) H3)
theorem pe_chain {op op' : CmpOp} {r r' : R2} (ho : OpR X (compareOp op) r) (ho' : OpR X (compareOp op') r') (ha : PE X a ta) (hb : PE X b tb) (hc : PE X c tc)
    (hm : lastMarks [op, op'] [b, c] = false := by with_unfolding_all rfl) : PE X (.Compare a [op, op'] [b, c] pos) (tChain r r' ta tb tc) := by
  intro pins s σ H Q I h
  refine Compare_chain (thn (ha pins s σ H _ I h) fun v s1 ⟨x, H1, I1, r1, q1⟩ => chain_link (thn (hb pins s1 σ H1 _ I1 q1) fun u s2 ⟨y, H2, I2, r2, q2⟩ =>
    thn (ho pins s2 σ H2 x y v u _ I2 r1 r2 q2) fun d s3 ⟨z, H3, I3, r3, k, e, q3⟩ => ?_)) hm
  subst e
  cases r3
  refine wpAny_truthy_bool ?_
  cases k with
  | false => exact ite_ff ⟨.bl false, H3, I3, rfl, q3⟩
  | true => exact ite_tt (chain_last (thn (hc pins s3 σ H3 _ I3 q3) fun w' s4 ⟨z', H4, I4, r4, q4⟩ => ho' pins s4 σ H4 y z' u w' Q I4 r2 r4 q4))
theorem pt_chain {op op' : CmpOp} {r r' : R2} (ho : OpR X (compareOp op) r) (ho' : OpR X (compareOp op') r') (ha : PE X a ta) (hb : PE X b tb) (hc : PE X c tc)
    (hm : lastMarks [op, op'] [b, c] = false := by with_unfolding_all rfl) : PT X (.Compare a [op, op'] [b, c] pos) (tTest (tChain r r' ta tb tc)) := by
  intro pins s σ H Q I h
  refine isTrue_chain (thn (ha pins s σ H _ I h) fun v s1 ⟨x, H1, I1, r1, q1⟩ => test_link (thn (hb pins s1 σ H1 _ I1 q1) fun u s2 ⟨y, H2, I2, r2, q2⟩ =>
    thn (ho pins s2 σ H2 x y v u _ I2 r1 r2 q2) fun d s3 ⟨z, H3, I3, r3, k, e, q3⟩ => ?_)) hm
  subst e
  cases r3
  refine wpAny_truthy_bool ?_
  cases k with
  | false =>
    obtain ⟨k', e', q'⟩ := q3
    cases e'
    exact ite_ff ⟨H3, I3, q'⟩
  | true =>
    refine ite_tt (test_last (thn (hc pins s3 σ H3 _ I3 q3) fun w' s4 ⟨z', H4, I4, r4, q4⟩ => thn (ho' pins s4 σ H4 y z' u w' _ I4 r2 r4 q4) fun d' s5 ⟨z2, H5, I5, r5, k2, e2, q5⟩ => ?_))
    subst e2
    cases r5
    exact wpAny_truthy_bool ⟨H5, I5, q5⟩

theorem line63 : (sizeLine : Nat) < 2 ^ 63 := by rw [sizeLine_eq]; decide
theorem vals1 {x : V} {us : List Value} (r : Vals [x] us) : ∃ u, us = [u] ∧ RelV x u := by
  cases r with
  | cons r1 r2 => cases r2; exact ⟨_, rfl, r1⟩
theorem vals2 {x y : V} {us : List Value} (r : Vals [x, y] us) : ∃ u w', us = [u, w'] ∧ RelV x u ∧ RelV y w' := by
  cases r with
  | cons r1 r2 =>
    cases r2 with
    | cons r3 r4 => cases r4; exact ⟨_, _, rfl, r1, r3⟩
theorem call_min2 (hc : X.calm = true) : CallR X (.builtin "min") (fun xs H Q => ∃ i j, xs = [.int i, .int j] ∧ Q (.int (if j < i then j else i)) H) := by
  intro pins s σ H xs us Q I r h
  obtain ⟨i, j, rfl, q⟩ := h
  obtain ⟨u, w', rfl, ⟨t, rfl⟩, ⟨t', rfl⟩⟩ := vals2 r
  refine min_two_ints (I.ok.hd hc) fun h' tk k => ⟨_, H, I.kept k, ?_, q⟩
  by_cases hj : j < i
  · rw [if_pos hj, if_pos hj]; exact ⟨_, rfl⟩
  · rw [if_neg hj, if_neg hj]; exact ⟨_, rfl⟩
end
end L2

namespace L2
open PySem PySem.Spec PyProof.Rows

structure ObjM (h : Heap) (x dx C : Addr) (mA : Str → Option Value) : Prop where
  obj : h.get? x = some (PySem.W.instObj C dx)
  ns : h.Ns1 dx mA
  ne : dx ≠ x

theorem lookIn_ns {h : Heap} {dx : Addr} {mA : Str → Option Value} (n : h.Ns1 dx mA) : ∃ od, h.get? dx = some od ∧ ∀ name, PySem.W.lookIn name od = some (mA name) := by
  obtain ⟨o, es, ep, ho, hd, hk, _, hm⟩ := n
  refine ⟨o, ho, fun name => ?_⟩
  have e := hm name
  unfold nsFind findBy at e
  rw [← Array.find?_toList] at e
  unfold PySem.W.lookIn
  rw [hd]
  dsimp only
  split
  · rename_i y q
    rw [q] at e
    exact congrArg some e
  · rename_i q
    rw [q] at e
    have a : es.toList.any (·.refKey) = false := by
      rw [List.any_eq_false]
      intro y hy
      obtain ⟨z, t, hkey⟩ := hk y (Array.mem_toList_iff.mp hy)
      simp [DictEntry.refKey, hkey]
    have a' : ¬ es.toList.any (·.refKey) = true := by rw [a]; exact Bool.false_ne_true
    rw [if_neg a']
    exact congrArg some e

theorem ObjM.look {h : Heap} {x dx C : Addr} {mA : Str → Option Value} (I : ObjM h x dx C mA) : ∃ od, PySem.W.InstAt h x (PySem.W.instObj C dx) C (some od) ∧ ∀ name, PySem.W.lookIn name od = some (mA name) :=
  let ⟨od, ho, hl⟩ := lookIn_ns I.ns
  ⟨od, ⟨I.obj, rfl, rfl, ho⟩, hl⟩

section
variable {prog : Program} {w : World} {A : Around} {E : Value → Shared → Prop} {s : Shared} {K : PySem.W.Frag} {x dx C f : Addr} {mA : Str → Option Value} {name : Str} {v : Value}

theorem get_map {expr : Bool} {Q : Value → Shared → Prop} (X : K.In s.heap) (I : ObjM s.heap x dx C mA) (hg : PySem.W.plainGet K C name = true) (hh : PySem.W.hasDictIn K C = true)
    (ha : PySem.W.findIn K (.ref C) name = some none) (hv : mA name = some v) (hv' : PySem.W.handedIn v = true) (h : Q v { s with toks := s.toks + 1 }) :
    wpAny (model prog w) A (getAttr (.ref x) name expr) Q E s := by
  obtain ⟨od, J, hl⟩ := I.look
  exact PySem.W.get_value X J (PySem.W.plainGet_of hg).1 (PySem.W.findObj_own hh ha rfl (by rw [hl, hv])) hv' h

theorem get_meth {pl : Sem Bool} {Q : Value × List Value → Shared → Prop} (X : K.In s.heap) (I : ObjM s.heap x dx C mA) (hg : PySem.W.plainGet K C name = true)
    (hf : PySem.W.findIn K (.ref C) name = some (some (.ref f))) (ht : PySem.W.isFn K (.ref f) = true) (hv : mA name = none) (h : Q (.ref f, [.ref x]) s) :
    wpAny (model prog w) A (getMethod (.ref x) name pl) Q E s := by
  obtain ⟨od, J, hl⟩ := I.look
  exact PySem.W.method_fn X J (PySem.W.plainGet_of hg).1 (PySem.W.plainGet_of hg).2 hf (beq_iff_eq.mp ht) (by show (PySem.W.lookIn name od).map (·.isSome) = some false; rw [hl, hv]; rfl) h

theorem set_map {ns : List Str} {Q : Unit → Shared → Prop} (X : K.In s.heap) (I : ObjM s.heap x dx C mA)
    (hs : PySem.W.findIn K (.ref C) "__setattr__" = some (some (.builtin "object.__setattr__"))) (hp : PySem.W.plainOver K C = true) (ht : PySem.W.takerIn K C name = some none) (hh : PySem.W.hasDictIn K C = true)
    (hw : PySem.Within mA ns) (hsz : ns.length ≤ sizeLine)
    (h : ∀ h', ObjM h' x dx C (fun y => if y = name then some v else mA y) → Heap.SameBut dx s.heap h' → Q () { s with heap := h', toks := s.toks + 2 }) :
    wpAny (model prog w) A (setAttr (.ref x) name v) Q E s := by
  obtain ⟨od, J, hl⟩ := I.look
  refine PySem.W.set_plain X J hs (PySem.W.osa_open (s := { s with toks := s.toks + 1 }) (r := none) X J hp ht fun b => ?_)
  obtain ⟨cd, hc, hd'⟩ := PySem.W.any_some hh
  have hx : s.heap.get? x = some ⟨.ref C, some dx, .plain, #[]⟩ := I.obj
  refine wpAny_bind (wpAny_pure (wpAny_bind (wpAny_bind (wpAny_loadPart hx (wpAny_bind (PySem.W.Looks.here (s := { s with toks := s.toks + 1 }) (PySem.W.looks_clsIn X hc) ?_))))))
  rw [hd']
  refine wpAny_pure (a := some dx) (wpAny_bind (wpAny_pure (wpAny_bind ?_)))
  refine wpAny_nsSet1 (s := { s with toks := s.toks + 1 }) I.ns fun h' hn2 hs2 => ?_
  obtain ⟨oD, esD, epD, hoD, hdD, hcD⟩ := hn2.count (PySem.Within.cons name v hw)
  refine wpAny_bind (wpAny_lookBehind hoD (by rw [hdD]; exact pastItsLine_dict (Nat.le_trans hcD (by rw [List.length_cons]; omega))) ?_)
  exact wpAny_pure (h _ ⟨(hs2.2 _ (Ne.symm I.ne)).trans I.obj, hn2, I.ne⟩ hs2)

/-- C(..): the dict at the heap's end, the instance behind it; then its __init__ -/
theorem make_map {R : Result → Shared → Prop} {vs : List Value} {kw : List (Str × Value)} (X : K.In s.heap) (hm : PySem.W.makesIn K C = true)
    (hi : PySem.W.findIn K (.ref C) "__init__" = some (some (.ref f))) (hf : PySem.W.typeIn K (.ref f) = some (.type "function"))
    (h : codeAny (model prog w) (A.under (.builtin "type.__call__" ⟨.ref C :: vs, kw⟩)) (.call (.ref f) ⟨.ref (s.heap.objs.size + 1) :: vs, kw⟩) (PySem.W.InitBack (s.heap.objs.size + 1) R)
      { s with heap := (s.heap.push PySem.W.emptyDict).push (PySem.W.instObj C s.heap.objs.size) }) :
    codeAny (model prog w) A (.call (.ref C) ⟨vs, kw⟩) R s := by
  obtain ⟨hh, g, d, t, os⟩ := s
  exact PySem.W.make_core (PySem.W.makes_of X hm) (PySem.W.looks_findIn X hi) (fun self => PySem.W.bind_fn X self hf) (.inl rfl) h
end

def putF (f : Str) (v : V) : List (Str × V) → List (Str × V)
  | [] => [(f, v)]
  | (g, x) :: r => if g = f then (g, v) :: r else (g, x) :: putF f v r
theorem lookup_putF (f g : Str) (v : V) : ∀ fs : List (Str × V), (putF f v fs).lookup g = if g = f then some v else fs.lookup g
  | [] => by
    show List.lookup g [(f, v)] = _
    by_cases h : g = f
    · have hb : (g == f) = true := beq_iff_eq.mpr h
      simp only [List.lookup, hb, if_pos h]
    · have hb : (g == f) = false := beq_eq_false_iff_ne.mpr h
      simp only [List.lookup, hb, if_neg h]
  | (k, x) :: r => by
    have ih := lookup_putF f g v r
    rw [show putF f v ((k, x) :: r) = (if k = f then (k, v) :: r else (k, x) :: putF f v r) from rfl]
    by_cases hk : k = f
    · rw [if_pos hk]
      by_cases h : g = k
      · have hb : (g == k) = true := beq_iff_eq.mpr h
        simp only [List.lookup, hb, if_pos (h.trans hk)]
      · have hb : (g == k) = false := beq_eq_false_iff_ne.mpr h
        simp only [List.lookup, hb, if_neg (fun e : g = f => h (e.trans hk.symm))]
    · rw [if_neg hk]
      by_cases h : g = k
      · have hb : (g == k) = true := beq_iff_eq.mpr h
        simp only [List.lookup, hb, if_neg (fun e : g = f => hk (h.symm.trans e))]
      · have hb : (g == k) = false := beq_eq_false_iff_ne.mpr h
        simp only [List.lookup, hb]
        exact ih
theorem keys_putF (f : Str) (v : V) : ∀ fs : List (Str × V), f ∈ (putF f v fs).map (·.1) ∧ ∀ g, g ∈ fs.map (·.1) → g ∈ (putF f v fs).map (·.1)
  | [] => ⟨by simp [putF], fun g h => by simp at h⟩
  | (k, x) :: r => by
    obtain ⟨i1, i2⟩ := keys_putF f v r
    rw [show putF f v ((k, x) :: r) = (if k = f then (k, v) :: r else (k, x) :: putF f v r) from rfl]
    by_cases hk : k = f
    · rw [if_pos hk]
      subst hk
      exact ⟨by simp, fun g h => by simpa using h⟩
    · rw [if_neg hk]
      refine ⟨?_, fun g h => ?_⟩
      · rw [List.map_cons]
        exact List.mem_cons_of_mem _ i1
      · rw [List.map_cons] at h ⊢
        rcases List.mem_cons.mp h with e | e
        · exact List.mem_cons.mpr (.inl e)
        · exact List.mem_cons_of_mem _ (i2 g e)
theorem length_putF (f : Str) (v : V) : ∀ fs : List (Str × V), (putF f v fs).length ≤ fs.length + 1
  | [] => by simp [putF]
  | (k, x) :: r => by
    have ih := length_putF f v r
    rw [show putF f v ((k, x) :: r) = (if k = f then (k, v) :: r else (k, x) :: putF f v r) from rfl]
    by_cases hk : k = f
    · rw [if_pos hk, List.length_cons, List.length_cons]; omega
    · rw [if_neg hk, List.length_cons, List.length_cons]; omega

theorem RelO.some_of {v : V} {o : Option Value} (r : RelO (some v) o) : ∃ u, o = some u ∧ RelV v u := by
  cases o with
  | none => exact (show False from r).elim
  | some u => exact ⟨u, rfl, r⟩
theorem RelO.none_of {o : Option Value} (r : RelO none o) : o = none := by
  cases o with
  | none => rfl
  | some u => exact (show False from r).elim
theorem handed_of {v : V} {u : Value} (r : RelV v u) : PySem.W.handedIn u = true := by
  cases v with
  | non => cases (show u = Value.none from r); rfl
  | bl b => cases (show u = Value.bool b from r); rfl
  | int i => obtain ⟨t, e⟩ := (show ∃ t, u = Value.int i t from r); cases e; rfl
  | str x => obtain ⟨t, e⟩ := (show ∃ t, u = Value.str x t from r); cases e; rfl
  | byt b => obtain ⟨t, e⟩ := (show ∃ t, u = Value.bytes b t from r); cases e; rfl
  | flt b => obtain ⟨t, e⟩ := (show ∃ t, u = Value.float b t from r); cases e; rfl
  | ref a => cases (show u = Value.ref a from r); rfl
  | ty n => cases (show u = Value.type n from r); rfl

section
variable {P : Program} {w : World} {H H' : Hp} {h h' : Heap} {a C dx : Addr} {fs fs' : List (Str × V)}
theorem ins_get (hok : HOk P w H h) (e : H a = some (.ins C dx fs)) : ∃ mA, ObjM h a dx C mA ∧ (∀ f, RelO (fs.lookup f) (mA f)) ∧ PySem.Within mA (fs.map (·.1)) ∧ fs.length ≤ 1000 ∧ H dx = some (.own a) := by
  obtain ⟨d, z, ne, ob, mA, n, r, q⟩ := (show ObjOk P w H h a (.ins C dx fs) from hok a _ e)
  exact ⟨mA, ⟨ob, n, ne⟩, r, q, z, d⟩
end

structure Cls (K : PySem.W.Frag) (C : Addr) : Prop where
  pg : PySem.W.plainGet K C Str.empty = true
  hd : PySem.W.hasDictIn K C = true
  po : PySem.W.plainOver K C = true
  sa : PySem.W.findIn K (.ref C) "__setattr__" = some (some (.builtin "object.__setattr__"))
theorem Cls.get {K : PySem.W.Frag} {C : Addr} (c : Cls K C) (f : Str) : PySem.W.plainGet K C f = true := c.pg
/-- no class of it has the name -/
def NoAttr (K : PySem.W.Frag) (C : Addr) (f : Str) : Prop := PySem.W.findIn K (.ref C) f = some none
theorem NoAttr.taker {K : PySem.W.Frag} {C : Addr} {f : Str} (n : NoAttr K C f) : PySem.W.takerIn K C f = some none := by
  unfold PySem.W.takerIn
  rw [show PySem.W.findIn K (.ref C) f = some none from n]
  rfl
/-- a method: a plain def of the class or of one above it -/
structure Meth (K : PySem.W.Frag) (C : Addr) (m : Str) (f : Addr) : Prop where
  at_ : PySem.W.findIn K (.ref C) m = some (some (.ref f))
  fn : PySem.W.isFn K (.ref f) = true
  kp : PySem.W.keepIn K (.ref f) = true

section
variable {X : Cx} {pins : List (Addr × Obj)} {σ : St} {H : Hp} {s : Shared} {a C dx : Addr} {fs : List (Str × V)} {f : Str} {v : V} {A : Around} {E : Value → Shared → Prop}

theorem getattr_ok {b : Bool} {Q : Value → Shared → Prop} (I : Inv X pins σ H s) (e : H a = some (.ins C dx fs)) (c : Cls X.K C) (n : NoAttr X.K C f) (l : fs.lookup f = some v)
    (h : ∀ u s', Inv X pins σ H s' → RelV v u → Q u s') : wpAny (model X.prog X.w) A (getAttr (.ref a) f b) Q E s := by
  obtain ⟨mA, O, r, _, _, _⟩ := ins_get I.hok e
  obtain ⟨u, hu, ru⟩ := RelO.some_of (v := v) (o := mA f) (by rw [← l]; exact r f)
  exact get_map I.kIn O (c.get f) c.hd n hu (handed_of ru) (h u _ (I.tok _) ru)

theorem getmeth_ok {m : Str} {g : Addr} {pl : Sem Bool} {Q : Value × List Value → Shared → Prop} (I : Inv X pins σ H s) (e : H a = some (.ins C dx fs)) (c : Cls X.K C) (k : Meth X.K C m g) (l : fs.lookup m = none)
    (h : Q (.ref g, [.ref a]) s) : wpAny (model X.prog X.w) A (getMethod (.ref a) m pl) Q E s := by
  obtain ⟨mA, O, r, _, _, _⟩ := ins_get I.hok e
  have hn : mA m = none := RelO.none_of (by rw [← l]; exact r m)
  exact get_meth I.kIn O (c.get m) k.at_ k.fn hn h

theorem setattr_ok {y : V} {u : Value} {Q : Unit → Shared → Prop} (I : Inv X pins σ H s) (e : H a = some (.ins C dx fs)) (c : Cls X.K C) (n : NoAttr X.K C f) (hl : fs.length < 1000) (ry : RelV y u)
    (h : ∀ s', Inv X pins σ (upd H a (.ins C dx (putF f y fs))) s' → Q () s') : wpAny (model X.prog X.w) A (setAttr (.ref a) f u) Q E s := by
  obtain ⟨mA, O, r, wi, _, ho⟩ := ins_get I.hok e
  have hz : (fs.map (·.1)).length ≤ sizeLine := by rw [List.length_map, sizeLine_eq]; omega
  refine set_map I.kIn O c.sa c.po n.taker c.hd wi hz fun h' O' sb => h _ ?_
  have hd : ∃ o, h'.get? dx = some o := let ⟨o, _, _, e', _⟩ := O'.ns; ⟨o, e'⟩
  refine I.write (x := a) (e := dx) (by rw [e]; exact True.intro) (.inr ho) (fun b q hb z => (sb.2 b hb).trans z) hd ?_
  refine ⟨by rw [upd_ne O.ne]; exact ho, ?_, O.ne, O'.obj, _, O'.ns, fun g => ?_, fun g hg => ?_⟩
  · have := length_putF f y fs; omega
  · show RelO ((putF f y fs).lookup g) (if g = f then some u else mA g)
    rw [lookup_putF]
    by_cases q : g = f
    · rw [if_pos q, if_pos q]; exact ry
    · rw [if_neg q, if_neg q]; exact r g
  · by_cases q : g = f
    · rw [q]; exact (keys_putF f y fs).1
    · refine (keys_putF f y fs).2 g (wi g fun z => hg ?_)
      show (if g = f then some u else mA g) = none
      rw [if_neg q]; exact z

/-- a new instance, tracked, without attributes -/
theorem Inv.made (I : Inv X pins σ H s) : Inv X pins σ (upd (upd H s.heap.objs.size (.own (s.heap.objs.size + 1))) (s.heap.objs.size + 1) (.ins C s.heap.objs.size []))
    { s with heap := (s.heap.push PySem.W.emptyDict).push (PySem.W.instObj C s.heap.objs.size) } := by
  have e1 : (s.heap.push PySem.W.emptyDict).get? s.heap.objs.size = some PySem.W.emptyDict := Heap.get?_push_size s.heap rfl
  have e2 : ((s.heap.push PySem.W.emptyDict).push (PySem.W.instObj C s.heap.objs.size)).get? (s.heap.objs.size + 1) = some (PySem.W.instObj C s.heap.objs.size) := by
    have := Heap.get?_push_size (s.heap.push PySem.W.emptyDict) (o := PySem.W.instObj C s.heap.objs.size) rfl
    rwa [Heap.size_push] at this
  have e3 : (s.heap.push PySem.W.emptyDict).Ns s.heap.objs.size (fun _ => none) := ⟨PySem.W.emptyDict, #[], _, e1, rfl, (fun e he => absurd he (by simp)), fun _ => rfl⟩
  have I1 := I.laid (a := s.heap.objs.size) (o := .own (s.heap.objs.size + 1)) (h' := s.heap.push PySem.W.emptyDict) (t' := s.toks) (fun b u q => Heap.get?_push_of_some _ q) (Nat.le_refl _) ⟨_, e1⟩
  refine I1.laid (a := s.heap.objs.size + 1) (o := .ins C s.heap.objs.size []) (t' := s.toks) (fun b u q => Heap.get?_push_of_some _ q) (Nat.le_of_eq (Heap.size_push _ _)) ?_
  have ne : s.heap.objs.size ≠ s.heap.objs.size + 1 := Nat.ne_of_lt (Nat.lt_succ_self _)
  refine ⟨by rw [upd_ne ne, upd_same], Nat.zero_le _, ne, e2, fun _ => none, (Heap.Ns1.of_empty e3).at fun o q => Heap.get?_push_of_some _ q, fun _ => True.intro, fun y hy => absurd rfl hy⟩

/-- e.f where nothing but the object is asked: through attributeBase (super) and the last hold -/
theorem attr_of {prog : Program} {w : World} {env : Env} {e : Expr} {f : Str} {pos : Pos} {s : Shared} {Q : Value → Shared → Prop} (hb : attributeBase e f env (eval e env) = eval e env)
    (h : wpAny (model prog w) A (eval e env) (fun o s₁ => wpAny (model prog w) A (getAttr o f true) Q E s₁) E s) : wpAny (model prog w) A (eval (.Attribute e f pos) env) Q E s :=
  Attribute_any_ h (by rw [arm_eval_Attribute, hb])
end

/-- e.f, an attribute of the instance -/
def tFld (K : PySem.W.Frag) (ta : TE) (f : Str) : TE := fun σ H Q => ta σ H fun x H1 => ∃ a C dx fs v, x = .ref a ∧ H1 a = some (.ins C dx fs) ∧ Cls K C ∧ NoAttr K C f ∧ fs.lookup f = some v ∧ Q v H1
/-- e.f = value -/
def sFld (K : PySem.W.Frag) (ta tv : TE) (f : Str) : TS := fun D σ H => tv σ H fun y H1 => ta σ H1 fun x H2 => ∃ a C dx fs, x = .ref a ∧ H2 a = some (.ins C dx fs) ∧ Cls K C ∧ NoAttr K C f ∧ fs.length < 1000 ∧
  D.nx σ (upd H2 a (.ins C dx (putF f y fs)))
section
variable {X : Cx} {o e value : Expr} {f : Str} {pos pos' tpos : Pos} {ta tv : TE}
theorem pe_fld (he : PE X e ta) (hb : attributeBase e f X.env (eval e X.env) = eval e X.env) : PE X (.Attribute e f pos) (tFld X.K ta f) := by
  intro pins s σ H Q I h
  refine attr_of hb (thn (he pins s σ H _ I h) fun u s1 ⟨x, H1, I1, rx, a, C, dx, fs, v, ex, ea, c, n, l, q⟩ => ?_)
  subst ex
  obtain rfl : u = Value.ref a := rx
  exact getattr_ok I1 ea c n l fun u' s2 I2 ru => ⟨v, H1, I2, ru, q⟩
theorem ps_fld (ha : PE X o ta) (hv : PE X value tv) (hs : swapsWith value (some (.Attribute o f pos')) pos.line X.env = pure false) : PS X (.Assign [.Attribute o f pos'] value pos) (sFld X.K ta tv f) := by
  intro pins s σ H D I h
  refine plainObj_wpAny_Assign_Attribute (thn (hv pins s σ H _ I h) fun u s1 ⟨y, H1, I1, ry, q⟩ => thn (ha pins s1 σ H1 _ I1 q) fun ov s2 ⟨x, H2, I2, rx, a, C, dx, fs, ex, ea, c, n, l, q2⟩ => ?_) hs
  subst ex
  obtain rfl : ov = Value.ref a := rx
  exact setattr_ok I2 ea c n l ry fun s3 I3 => ⟨σ, _, I3, q2⟩
/-- what is between an instance and its method: the tree of a method call -/
theorem methcall_of {pl : Sem Bool} {m : Str} {apos : Pos} {args : List Expr} {pins : List (Addr × Obj)} {s : Shared} {σ : St} {H : Hp} {Q : Value → Shared → Prop} {te : TE} (he : PE X e te) (I : Inv X pins σ H s)
    (h : te σ H fun x H1 => ∃ a C dx fs g, x = .ref a ∧ H1 a = some (.ins C dx fs) ∧ Cls X.K C ∧ Meth X.K C m g ∧ fs.lookup m = none ∧
      ∀ s1, Inv X pins σ H1 s1 → wpAny (model X.prog X.w) X.A (callWith pos (.ref g) [.ref a] (backTo pos (starEach args X.env)) (backToKw pos (keywordEach [] X.env))) Q X.xe s1)
    (ht : eval (.Call (.Attribute e m apos) args [] pos) X.env = (do
      let ov ← eval e X.env
      standAt apos.atName
      let (f, first) ← holding [ov] (getMethod ov m pl)
      callWith pos f first (backTo pos (starEach args X.env)) (backToKw pos (keywordEach [] X.env)))) :
    wpAny (model X.prog X.w) X.A (eval (.Call (.Attribute e m apos) args [] pos) X.env) Q X.xe s := by
  refine PySem.W.methodCall_KW (pl := pl) (thn (he pins s σ H _ I h) fun u s1 ⟨x, H1, I1, rx, a, C, dx, fs, g, ex, ea, c, k, l, q⟩ => ?_) ht
  subst ex
  obtain rfl : u = Value.ref a := rx
  exact getmeth_ok I1 ea c k l (q s1 I1)
end

section
variable {X : Cx} {pins : List (Addr × Obj)} {σ : St} {H : Hp} {s : Shared} {A : Around} {E : Value → Shared → Prop} {Q : Value → Shared → Prop} {c : Value} {b : Bool}
/-- the type of a value, as the fragment's deciders take it; for an instance its class -/
inductive TyOf (K : PySem.W.Frag) (H : Hp) : V → Value → Prop where
  | non : TyOf K H .non (.type "NoneType")
  | bl (x : Bool) : TyOf K H (.bl x) (.type "bool")
  | int (i : Int) : TyOf K H (.int i) (.type "int")
  | str (x : Str) : TyOf K H (.str x) (.type "str")
  | flt (x : UInt64) : TyOf K H (.flt x) (.type "float")
  | lst {a : Addr} {xs : List V} (e : H a = some (.lst xs)) : TyOf K H (.ref a) (.type "list")
  | frz {a : Addr} {o : Obj} {xs : List V} (e : H a = some (.frz o (.lst xs))) : TyOf K H (.ref a) (.type "list")
  | tup {a : Addr} {xs : List V} (e : H a = some (.tup xs)) : TyOf K H (.ref a) (.type "tuple")
  | dK {a : Addr} {kvs : List (Key × V)} (e : H a = some (.dK kvs)) : TyOf K H (.ref a) (.type "dict")
  | dT {a : Addr} {kvs : List (List Key × V)} (e : H a = some (.dT kvs)) : TyOf K H (.ref a) (.type "dict")
  | ins {a C dx : Addr} {fs : List (Str × V)} (e : H a = some (.ins C dx fs)) (cl : Cls K C) (ha : PySem.W.findIn K (.ref C) "__class__" = some (some (.builtin "object.__class__")))
      (hn : PySem.W.specialIn K (.builtin "object.__class__") "__get__" = some (some (.builtin "getset_descriptor.__get__"))) (htk : PySem.W.takesIn K (.builtin "object.__class__") = some true)
      (hm : PySem.W.mroIn K C (.type "object") = some true) : TyOf K H (.ref a) (.ref C)
/-- isinstance(x, c) for one class c, a built-in or an own one: kitOne's answer -/
theorem isinst_ok {x : V} {u t : Value} (I : Inv X pins σ H s) (rx : RelV x u) (ty : TyOf X.K H x t) (e : PySem.W.kitOne X.K t c = some b) (h : ∀ tk, Q (.bool b) { s with toks := tk }) :
    wpAny (model X.prog X.w) A (call (.builtin "isinstance") [u, c]) Q E s := by
  cases ty with
  | non => cases (show u = Value.none from rx); exact PySem.W.kia_one PySem.W.kitx_none I.kIn True.intro e (fun z => nomatch z) h
  | bl y => cases (show u = Value.bool y from rx); exact PySem.W.kia_one PySem.W.kitx_bool I.kIn True.intro e (fun z => nomatch z) h
  | int i => obtain ⟨t, q⟩ := (show ∃ t, u = Value.int i t from rx); cases q; exact PySem.W.kia_one PySem.W.kitx_int I.kIn True.intro e (fun z => nomatch z) h
  | str y => obtain ⟨t, q⟩ := (show ∃ t, u = Value.str y t from rx); cases q; exact PySem.W.kia_one PySem.W.kitx_str I.kIn True.intro e (fun z => nomatch z) h
  | flt y => obtain ⟨t, q⟩ := (show ∃ t, u = Value.float y t from rx); cases q; exact PySem.W.kia_one PySem.W.kitx_float I.kIn True.intro e (fun z => nomatch z) h
  | @lst a xs ea =>
    cases (show u = Value.ref a from rx)
    obtain ⟨_, _, n, _, h1⟩ := (show ObjOk X.prog X.w H s.heap a (.lst xs) from I.hok a _ ea)
    exact PySem.W.kia_one PySem.W.kitx_list I.kIn ⟨_, h1, rfl⟩ e (fun z => nomatch z) h
  | @frz a ob xs ea =>
    cases (show u = Value.ref a from rx)
    obtain ⟨_, _, _, n, _, h1⟩ := (show ObjOk X.prog X.w H s.heap a (.frz ob (.lst xs)) from I.hok a _ ea)
    exact PySem.W.kia_one PySem.W.kitx_list I.kIn ⟨_, h1, rfl⟩ e (fun z => nomatch z) h
  | @tup a xs ea =>
    cases (show u = Value.ref a from rx)
    obtain ⟨_, _, _, p⟩ := (show ObjOk X.prog X.w H s.heap a (.tup xs) from I.hok a _ ea)
    obtain ⟨o, h1, h2, _⟩ := p
    exact PySem.W.kia_one PySem.W.kitx_tuple I.kIn ⟨o, h1, h2⟩ e (fun z => nomatch z) h
  | @dK a kvs ea =>
    cases (show u = Value.ref a from rx)
    obtain ⟨_, _, vs, _, p⟩ := (show ObjOk X.prog X.w H s.heap a (.dK kvs) from I.hok a _ ea)
    obtain ⟨o, es, ep, h1, h2, _⟩ := p
    exact PySem.W.kia_one PySem.W.kitx_dict I.kIn ⟨o, h1, h2.1⟩ e (fun z => nomatch z) h
  | @dT a kvs ea =>
    cases (show u = Value.ref a from rx)
    obtain ⟨_, _, xs, _, o, es, ep, h1, h2, _⟩ := (show ObjOk X.prog X.w H s.heap a (.dT kvs) from I.hok a _ ea)
    exact PySem.W.kia_one PySem.W.kitx_dict I.kIn ⟨o, h1, h2.1⟩ e (fun z => nomatch z) h
  | @ins a C dx fs ea cl ha hn htk hm =>
    cases (show u = Value.ref a from rx)
    obtain ⟨mA, O, _⟩ := ins_get I.hok ea
    obtain ⟨od, J, _⟩ := O.look
    exact PySem.W.kia_one (PySem.W.kitx_own (cl.get _) cl.hd ha hn htk hm) I.kIn J e (fun z => nomatch z) h
end
end L2

namespace L2
open PySem PySem.Spec PyProof.Rows

structure Room (k : Nat) (A : Around) : Prop where
  hd : A.handled = none
  dp : A.depth + 3 * k + 5 < recursionLimit
  un : A.units + 16 * k + 200 < cLine
theorem Room.mono {j k : Nat} {A : Around} (r : Room k A) (h : j ≤ k) : Room j A := ⟨r.hd, by have := r.dp; omega, by have := r.un; omega⟩
theorem Room.deeper {k : Nat} {A : Around} (r : Room (k + 1) A) (env : Env) : Room k (A.deeper env) :=
  ⟨r.hd, by have := r.dp; show A.depth + 1 + 3 * k + 5 < _; omega, by have := r.un; show A.units + 3 + 16 * k + 200 < _; omega⟩
theorem make_depth {A : Around} {C : Addr} {us : List Value} {kw : List (Str × Value)} : (A.under (.builtin "type.__call__" ⟨.ref C :: us, kw⟩)).depth = A.depth + 1 := by
  first | rfl | simp [Around.under, Code.weight, Code.isCreation, Code.isGuard, Code.isCaller, Code.frames, Code.isFrame, guardIds]
theorem make_units {A : Around} {C : Addr} {us : List Value} {kw : List (Str × Value)} : (A.under (.builtin "type.__call__" ⟨.ref C :: us, kw⟩)).units = A.units + 1 := by
  first | rfl | simp [Around.under, Code.cUnits, Code.frames, Code.isFrame]
theorem Room.make {k : Nat} {A : Around} (r : Room (k + 1) A) (C : Addr) (us : List Value) (kw : List (Str × Value)) : Room k (A.under (.builtin "type.__call__" ⟨.ref C :: us, kw⟩)) :=
  ⟨r.hd, by have := r.dp; rw [make_depth]; omega, by have := r.un; rw [make_units]; omega⟩
theorem Room.depth {k : Nat} {A : Around} (r : Room k A) : A.depth < recursionLimit := by have := r.dp; omega
theorem Room.units {k : Nat} {A : Around} (r : Room k A) : A.units + 64 < cLine := by have := r.un; omega
def tNil : TA := fun _ H Q => Q [] H
def tCons (ta : TE) (tr : TA) : TA := fun σ H Q => ta σ H fun x H1 => tr σ H1 fun xs H2 => Q (x :: xs) H2
section
variable {X : Cx} {e : Expr} {es : List Expr} {te : TE} {t : TA} {pos : Pos}
theorem pa_nil : PA X [] tNil := fun _ _ _ _ H Q I h => Calls.spliced_nil ⟨[], H, I, .nil, h⟩
theorem pa_cons (ha : PE X e te) (hr : PA X es t) (hs : starEach (e :: es) X.env = (false, eval e X.env) :: starEach es X.env := by rfl) : PA X (e :: es) (tCons te t) := by
  intro pos pins s σ H Q I h
  rw [hs]
  show wpAny _ _ (spliced ((false, eval e X.env) :: backTo pos (starEach es X.env))) _ _ s
  refine Calls.spliced_cons (thn (ha pins s σ H _ I h) fun u s1 ⟨x, H1, I1, r1, q1⟩ => ?_)
  exact thn (hr pos pins s1 σ H1 _ I1 q1) fun us s2 ⟨xs, H2, I2, r2, q2⟩ => ⟨x :: xs, H2, I2, .cons r1 r2, q2⟩

/-- a tuple, a list of written items -/
def tTup (t : TA) : TE := fun σ H Q => t σ H fun xs H1 => xs.length ≤ sizeLine ∧ ∀ p, H1 p = none → Q (.ref p) (upd H1 p (.tup xs))
def tLst (t : TA) : TE := fun σ H Q => t σ H fun xs H1 => xs.length ≤ sizeLine ∧ ∀ p, H1 p = none → Q (.ref p) (upd H1 p (.lst xs))
theorem pe_tup {x1} (h : PA X es t) : PE X (.Tuple es x1 pos) (tTup t) := by
  intro pins s σ H Q I hq
  refine wpAny_Tuple_spliced (thn (h pos pins s σ H _ I hq) fun us s1 ⟨xs, H1, I1, r, z, q⟩ => ⟨by rw [← r.length]; exact z, ?_⟩)
  have hf : H1 s1.heap.objs.size = none := I1.hok.fresh (Nat.le_refl _)
  refine ⟨.ref s1.heap.objs.size, upd H1 s1.heap.objs.size (.tup xs), I1.laid (t' := s1.toks) (fun b u e => Heap.get?_push_of_some _ e) (Nat.le_refl _) ?_, rfl, q _ hf⟩
  exact ⟨z, us, r, ⟨_, Heap.get?_push_size _ rfl, rfl, _, rfl⟩⟩
theorem pe_lst (h : PA X es t) : PE X (.List es pos) (tLst t) := by
  intro pins s σ H Q I hq
  refine wpAny_List_spliced (thn (h pos pins s σ H _ I hq) fun us s1 ⟨xs, H1, I1, r, z, q⟩ => ⟨by rw [← r.length]; exact z, ?_⟩)
  have hf : H1 s1.heap.objs.size = none := I1.hok.fresh (Nat.le_refl _)
  refine ⟨.ref s1.heap.objs.size, upd H1 s1.heap.objs.size (.lst xs), I1.laid (t' := s1.toks) (fun b u e => Heap.get?_push_of_some _ e) (Nat.le_refl _) ?_, rfl, q _ hf⟩
  exact ⟨z, us, 0, r, Heap.get?_push_size _ rfl⟩
end

/-- a def's promise: the bound arguments in the parameters' order, the heap, the wanted end, the wanted exception -/
abbrev Sp := List V → Hp → VK → XK → Prop
/-- how an exception lies behind a call (file 08 gives it): the callers' frames, abstract heap and state ahead of the call, the wish, the exception, the state -/
abbrev CXT := List Env → Hp → Shared → XK → Value → Shared → Prop

/-- the state at a call -/
structure Env0 (P : Program) (w : World) (K : PySem.W.Frag) (mg : Str → Option Value) (base : Heap) (A : Around) (outer : List Env) (s : Shared) (H : Hp) : Prop where
  frames : A.frames = some outer
  mod : Mod K mg base
  bs : ∀ b o, base.get? b = some o → s.heap.get? b = some o ∧ H b = none
  bsz : base.objs.size ≤ s.heap.objs.size
  funs : s.heap.FunFrames base outer
  frf : ∀ b ∈ frs outer, H b = none
  hok : HOk P w H s.heap
  bare : AllBare s.gens
/-- a call's end -/
def CE (outer : List Env) (P : Program) (w : World) (H : Hp) (s : Shared) (Q : VK) (u : Value) (s' : Shared) : Prop :=
  ∃ v H', s'.os = s.os ∧ AllBare s'.gens ∧ Un (frs outer) [] H H' s.heap s'.heap ∧ HOk P w H' s'.heap ∧ RelV v u ∧ Q v H'
def CR (CX : CXT) (outer : List Env) (P : Program) (w : World) (H : Hp) (s : Shared) (Q : VK) (E : XK) (r : Result) (s' : Shared) : Prop :=
  match r with
  | .ok (.ret u) => CE outer P w H s Q u s'
  | .ok _ => False
  | .error e => CX outer H s E e s'
structure FnOk (P : Program) (w : World) (K : PySem.W.Frag) (mg : Str → Option Value) (base : Heap) (CX : CXT) (k : Nat) (f : Addr) (fd : FuncData) (ps : List Str) (sp : Sp) : Prop where
  len : ∀ vs H Q E, sp vs H Q E → vs.length = ps.length
  run : ∀ (A : Around) (outer : List Env) (s : Shared) (H : Hp) (args : Args) (us : List Value) (vs : List V) (Q : VK) (E : XK), Room k A → Env0 P w K mg base A outer s H → BindsTo s fd args (ps.zip us) → Vals vs us → sp vs H Q E →
    codeAny (model P w) A (.call (.ref f) args) (CR CX outer P w H s Q E) s
theorem Env0.make {P : Program} {w : World} {K : PySem.W.Frag} {mg : Str → Option Value} {base : Heap} {A : Around} {outer : List Env} {s : Shared} {H : Hp} (e : Env0 P w K mg base A outer s H) (C : Addr) (us : List Value) (kw : List (Str × Value)) :
    Env0 P w K mg base (A.under (.builtin "type.__call__" ⟨.ref C :: us, kw⟩)) outer s H := ⟨by first | exact e.frames | (simpa [Around.under, Code.envs, Code.isFrame, pushEnvs] using e.frames), e.mod, e.bs, e.bsz, e.funs, e.frf, e.hok, e.bare⟩
section
variable {X : Cx} {pins : List (Addr × Obj)} {σ : St} {H : Hp} {s s' : Shared}
/-- from a body: what a callee wants -/
theorem Inv.env0 (I : Inv X pins σ H s) : Env0 X.prog X.w X.K X.mg X.base X.A X.stack s H :=
  ⟨I.ok.frames, I.ok.mod, I.bs, Nat.le_trans I.ok.bsz I.sz, I.stack, I.stkFree, I.hok, I.bare⟩
/-- behind a call -/
theorem Inv.after {Q : VK} {u : Value} (I : Inv X pins σ H s) (h : CE X.stack X.prog X.w H s Q u s') : EP X pins σ Q u s' := by
  obtain ⟨v, H', os, bare, un, hok, r, q⟩ := h
  obtain ⟨hh, g, d, t, os'⟩ := s'
  obtain rfl : os' = s.os := os
  exact ⟨v, H', I.call (h' := hh) (g' := g) (d' := d) (t' := t) (ch := []) un hok bare (fun b z => absurd z (by simp)), r, q⟩
end

/-- f(..): the written arguments, then the defaults dvs; E: what is wanted of an exception -/
def tCall (sp : Sp) (dvs : List V) (E : XK) (t : TA) : TE := fun σ H Q => t σ H fun vs H1 => sp (vs ++ dvs) H1 Q E
/-- o.m(..) of an instance of the class at C -/
def tMeth (C : Addr) (m : Str) (sp : Sp) (dvs : List V) (E : XK) (ta : TE) (t : TA) : TE := fun σ H Q => ta σ H fun x H1 => ∃ a dx fs, x = .ref a ∧ H1 a = some (.ins C dx fs) ∧ fs.lookup m = none ∧
  t σ H1 fun vs H2 => sp (x :: (vs ++ dvs)) H2 Q E
/-- C(..): a new instance and its dict, then __init__ -/
def tMake (C : Addr) (sp : Sp) (dvs : List V) (E : XK) (t : TA) : TE := fun σ H Q => t σ H fun vs H1 => ∀ x dx, H1 x = none → H1 dx = none → dx ≠ x →
  sp (.ref x :: (vs ++ dvs)) (upd (upd H1 dx (.own x)) x (.ins C dx [])) (fun v H2 => v = .non ∧ Q (.ref x) H2) E

/-- how the parameters are bound: us the positional arguments, kw the keywords' values by name, ds the defaults that fill up -/
def Binds (K : PySem.W.Frag) (fd : FuncData) (ps : List Str) (ds : List Value) : Prop :=
  ∀ (s : Shared) (us : List Value), K.In s.heap → (us ++ ds).length = ps.length → BindsTo s fd ⟨us, []⟩ (ps.zip (us ++ ds))
/-- every parameter is given -/
theorem Binds.all {K : PySem.W.Frag} {fd : FuncData} {ps : List Str} (h : ∀ us : List Value, us.length = ps.length → bindArgs fd ⟨us, []⟩ = pure (ps.zip us)) : Binds K fd ps [] := fun s us _ hl => by
  rw [List.append_nil] at hl ⊢
  exact .of_eq (h us hl)

/-- an exception of a callee reaches what this body wants of exceptions -/
def Passes (CX : CXT) (X : Cx) (E : XK) : Prop := ∀ (pins : List (Addr × Obj)) (σ : St) (H : Hp) (s : Shared) (e : Value) (s' : Shared), Inv X pins σ H s → CX X.stack H s E e s' → X.xe e s'

section
variable {X : Cx} {CX : CXT} {k : Nat} {f C : Addr} {fd : FuncData} {ps : List Str} {sp : Sp} {dvs : List V} {ds : List Value} {E : XK} {x m : Str} {p pos apos : Pos} {e o : Expr} {es : List Expr} {ta : TE} {t : TA}

/-- the callee runs -/
theorem run_fn {pins : List (Addr × Obj)} {σ : St} {H : Hp} {s : Shared} {Q : VK} {us : List Value} {vs : List V} (F : FnOk X.prog X.w X.K X.mg X.base CX k f fd ps sp) (hr : Room k X.A) (hb : Binds X.K fd ps ds) (hd : Vals dvs ds) (hx : Passes CX X E)
    (I : Inv X pins σ H s) (r : Vals vs us) (h : sp (vs ++ dvs) H Q E) : wpAny (model X.prog X.w) X.A (call (.ref f) us) (EP X pins σ Q) X.xe s := by
  have r2 : Vals (vs ++ dvs) (us ++ ds) := r.append hd
  have hl : (us ++ ds).length = ps.length := by rw [← r2.length]; exact F.len _ _ _ _ h
  refine wpAny_call (codeAny_mono (F.run X.A X.stack s H ⟨us, []⟩ (us ++ ds) (vs ++ dvs) Q E hr I.env0 (hb s us I.kIn hl) r2 h) fun r s' hq => ?_)
  cases r with
  | error e => exact hx pins σ H s e s' I hq
  | ok fl =>
    cases fl with
    | ret u => exact I.after hq
    | next => exact False.elim hq
    | brk => exact False.elim hq
    | cont => exact False.elim hq

theorem pe_call (F : FnOk X.prog X.w X.K X.mg X.base CX k f fd ps sp) (hr : Room k X.A) (hg : Gl X x) (hm : X.mg x = some (.ref f)) (hk : PySem.W.keepIn X.K (.ref f) = true) (hb : Binds X.K fd ps ds) (hd : Vals dvs ds) (hx : Passes CX X E)
    (ha : PA X (e :: es) t) (hdb : (x == ("__debug__" : Str)) = false := by decide) (he : starEach (e :: es) X.env = (false, eval e X.env) :: starEach es X.env := by rfl) (hpl : (backTo pos (starEach es X.env)).any (·.1) = false := by rfl) :
    PE X (.Call (.Name x p) (e :: es) [] pos) (tCall sp dvs E t) := by
  intro pins s σ H Q I h
  refine wpAny_Call_Name_kw (ld_glob I hg hm ?_ hdb)
  refine PySem.W.callWith_K (h₀ := X.base) I.ok.mod.kin hk (thn (ha pos pins s σ H _ I h) fun us s1 ⟨vs, H1, I1, r, q⟩ => ⟨I1.kIn, ?_⟩) he hpl
  exact run_fn F hr hb hd hx I1 r q
/-- o.m(e, ..) -/
theorem pe_meth {pl : Sem Bool} (he : PE X o ta) (c : Cls X.K C) (hm : Meth X.K C m f) (F : FnOk X.prog X.w X.K X.mg X.base CX k f fd ps sp) (hr : Room k X.A) (hb : Binds X.K fd ps ds) (hd : Vals dvs ds) (hx : Passes CX X E) (ha : PA X (e :: es) t)
    (hst : starEach (e :: es) X.env = (false, eval e X.env) :: starEach es X.env := by rfl) (hpl : (backTo pos (starEach es X.env)).any (·.1) = false := by rfl)
    (ht : eval (.Call (.Attribute o m apos) (e :: es) [] pos) X.env = (do
      let ov ← eval o X.env
      standAt apos.atName
      let (f, first) ← holding [ov] (getMethod ov m pl)
      callWith pos f first (backTo pos (starEach (e :: es) X.env)) (backToKw pos (keywordEach [] X.env))) := by rfl) :
    PE X (.Call (.Attribute o m apos) (e :: es) [] pos) (tMeth C m sp dvs E ta t) := by
  intro pins s σ H Q I h
  refine PySem.W.methodCall_KW (pl := pl) (thn (he pins s σ H _ I h) fun u s1 ⟨x, H1, I1, rx, a, dx, fs, ex, ea, l, q⟩ => ?_) ht
  subst ex
  obtain rfl : u = Value.ref a := rx
  refine getmeth_ok I1 ea c hm l ?_
  refine PySem.W.callWith_K (first := [.ref a]) (h₀ := X.base) I.ok.mod.kin hm.kp (thn (ha pos pins s1 σ H1 _ I1 q) fun us s2 ⟨vs, H2, I2, r, q2⟩ => ⟨I2.kIn, ?_⟩) hst hpl
  exact run_fn (us := .ref a :: us) (vs := .ref a :: vs) F hr hb hd hx I2 (.cons rfl r) q2
/-- what a class must have to be made -/
structure Mk (K : PySem.W.Frag) (C f : Addr) : Prop where
  makes : PySem.W.makesIn K C = true
  init : PySem.W.findIn K (.ref C) "__init__" = some (some (.ref f))
  fn : PySem.W.isFn K (.ref f) = true
  kp : PySem.W.keepIn K (.ref C) = true

theorem run_make {pins : List (Addr × Obj)} {σ : St} {H : Hp} {s : Shared} {Q : VK} {us : List Value} {vs : List V} (M : Mk X.K C f) (F : FnOk X.prog X.w X.K X.mg X.base CX k f fd ps sp) (hr : Room (k + 1) X.A) (hb : Binds X.K fd ps ds) (hd : Vals dvs ds)
    (hx : Passes CX X E) (I : Inv X pins σ H s) (r : Vals vs us)
    (h : ∀ x dx, H x = none → H dx = none → dx ≠ x → sp (.ref x :: (vs ++ dvs)) (upd (upd H dx (.own x)) x (.ins C dx [])) (fun v H2 => v = .non ∧ Q (.ref x) H2) E) :
    wpAny (model X.prog X.w) X.A (call (.ref C) us) (EP X pins σ Q) X.xe s := by
  have hq := h (s.heap.objs.size + 1) s.heap.objs.size (I.hok.fresh (Nat.le_succ _)) (I.hok.fresh (Nat.le_refl _)) (Nat.ne_of_lt (Nat.lt_succ_self _))
  have I2 := Inv.made (C := C) I
  have r2 : Vals (V.ref (s.heap.objs.size + 1) :: (vs ++ dvs)) (Value.ref (s.heap.objs.size + 1) :: (us ++ ds)) := .cons rfl (r.append hd)
  have hl : (Value.ref (s.heap.objs.size + 1) :: us ++ ds).length = ps.length := by
    have e := r2.length
    rw [F.len _ _ _ _ hq] at e
    exact e.symm
  refine wpAny_call (make_map (f := f) I.kIn M.makes M.init (beq_iff_eq.mp M.fn) (codeAny_mono (F.run _ X.stack _ _ ⟨Value.ref (s.heap.objs.size + 1) :: us, []⟩ (Value.ref (s.heap.objs.size + 1) :: (us ++ ds)) _ _ E (hr.make C us [])
    (I2.env0.make C us []) (hb _ (Value.ref (s.heap.objs.size + 1) :: us) I2.kIn hl) r2 hq) fun r s' hq' => ?_))
  cases r with
  | error e => exact hx pins σ _ _ e s' I2 hq'
  | ok fl =>
    cases fl with
    | ret u =>
      obtain ⟨v, H', I3, rv, ev, q3⟩ := I2.after hq'
      subst ev
      exact ⟨rv, ⟨V.ref (s.heap.objs.size + 1), H', I3, rfl, q3⟩⟩
    | next => exact False.elim hq'
    | brk => exact False.elim hq'
    | cont => exact False.elim hq'
theorem pe_make (M : Mk X.K C f) (F : FnOk X.prog X.w X.K X.mg X.base CX k f fd ps sp) (hr : Room (k + 1) X.A) (hg : Gl X x) (hm : X.mg x = some (.ref C)) (hb : Binds X.K fd ps ds) (hd : Vals dvs ds) (hx : Passes CX X E)
    (ha : PA X (e :: es) t) (hdb : (x == ("__debug__" : Str)) = false := by decide) (he : starEach (e :: es) X.env = (false, eval e X.env) :: starEach es X.env := by rfl) (hpl : (backTo pos (starEach es X.env)).any (·.1) = false := by rfl) :
    PE X (.Call (.Name x p) (e :: es) [] pos) (tMake C sp dvs E t) := by
  intro pins s σ H Q I h
  refine wpAny_Call_Name_kw (ld_glob I hg hm ?_ hdb)
  refine PySem.W.callWith_K (h₀ := X.base) I.ok.mod.kin M.kp (thn (ha pos pins s σ H _ I h) fun us s1 ⟨vs, H1, I1, r, q⟩ => ⟨I1.kIn, ?_⟩) he hpl
  exact run_make M F hr hb hd hx I1 r q
end

section
variable {X : Cx} {CX : CXT} {k : Nat} {f C : Addr} {fd : FuncData} {ps ks : List Str} {sp : Sp} {E : XK} {x m : Str} {p pos apos kpos : Pos} {e o : Expr} {es : List Expr} {kws : List Keyword} {te ta : TE} {t tk : TA} {nm : Option Str}
variable {g : List Value → List Value → List Value} {gV : List V → List V → List V}
end

/-- names: the parameters first -/
structure FnScope (N P : List Str) (sc : Scope) : Prop where
  kind : sc.kind = .function
  co : sc.isCoroutine = false
  gen : sc.isGenerator = false
  nd : N.Nodup
  pre : N.take P.length = P
  par : ∀ x ∈ P, sc.names.lookup x = some .local ∨ sc.names.lookup x = some .cell
  nofree : ∀ y ∈ sc.names, y.2 ≠ .free

theorem bindL_out {kindOf : Str → Option NameKind} {x : Str} : ∀ {binds : List (Str × Value)} {m : Str → Option Value}, (∀ v, (x, v) ∉ binds) → bindL kindOf binds m x = m x
  | [], _, _ => rfl
  | (n, v) :: r, m, h => by
    unfold bindL
    rw [bindL_out fun w hw => h w (List.mem_cons_of_mem _ hw)]
    split
    · have : x ≠ n := by rintro rfl; exact h v List.mem_cons_self
      simp [this]
    · rfl
theorem bindC_out {kindOf : Str → Option NameKind} {x : Str} : ∀ {binds : List (Str × Value)} {m : Str → Option Value}, (∀ v, (x, v) ∉ binds) → bindC kindOf binds m x = m x
  | [], _, _ => rfl
  | (n, v) :: r, m, h => by
    unfold bindC
    rw [bindC_out fun w hw => h w (List.mem_cons_of_mem _ hw)]
    split
    · rfl
    · have : x ≠ n := by rintro rfl; exact h v List.mem_cons_self
      simp [this]
theorem bindL_get {kindOf : Str → Option NameKind} {x : Str} {v : Value} : ∀ {P : List Str} {vs : List Value} {i : Nat} {m : Str → Option Value}, P.Nodup → P[i]? = some x → vs[i]? = some v → kindOf x = some .local →
    bindL kindOf (P.zip vs) m x = some v
  | [], _, _, _, _, h, _, _ => by simp at h
  | _ :: _, [], _, _, _, _, h, _ => by simp at h
  | p :: P, w :: vs, 0, m, nd, h1, h2, hk => by
    simp at h1 h2; subst h1; subst h2
    show bindL kindOf ((p, w) :: P.zip vs) m p = _
    unfold bindL
    rw [bindL_out fun v hv => (List.nodup_cons.mp nd).1 (List.of_mem_zip hv).1, if_pos hk]
    simp
  | p :: P, w :: vs, i + 1, m, nd, h1, h2, hk => by
    show bindL kindOf ((p, w) :: P.zip vs) m x = _
    unfold bindL
    exact bindL_get (i := i) (List.nodup_cons.mp nd).2 (by simpa using h1) (by simpa using h2) hk
theorem bindC_get {kindOf : Str → Option NameKind} {x : Str} {v : Value} : ∀ {P : List Str} {vs : List Value} {i : Nat} {m : Str → Option Value}, P.Nodup → P[i]? = some x → vs[i]? = some v → kindOf x ≠ some .local →
    bindC kindOf (P.zip vs) m x = some v
  | [], _, _, _, _, h, _, _ => by simp at h
  | _ :: _, [], _, _, _, _, h, _ => by simp at h
  | p :: P, w :: vs, 0, m, nd, h1, h2, hk => by
    simp at h1 h2; subst h1; subst h2
    show bindC kindOf ((p, w) :: P.zip vs) m p = _
    unfold bindC
    rw [bindC_out fun v hv => (List.nodup_cons.mp nd).1 (List.of_mem_zip hv).1, if_neg hk]
    simp
  | p :: P, w :: vs, i + 1, m, nd, h1, h2, hk => by
    show bindC kindOf ((p, w) :: P.zip vs) m x = _
    unfold bindC
    exact bindC_get (i := i) (List.nodup_cons.mp nd).2 (by simpa using h1) (by simpa using h2) hk

/-- the names' values at the entry -/
def start (N : List Str) (vs : List V) : St := vs.map some ++ List.replicate (N.length - vs.length) none

/-- the context of a def's body, at its entry; an exception leaves the frame, then lies as CX says -/
def cxOf (CX : CXT) (P : Program) (w : World) (K : PySem.W.Frag) (mg : Str → Option Value) (base : Heap) (N : List Str) (qual : Str) (scope : Scope) (f : Addr) (cd : Value) (A : Around) (outer : List Env) (s : Shared) (H : Hp) (E : XK) : Cx where
  prog := P
  w := w
  K := K
  mg := mg
  base := base
  A := A.deeper (envOfC qual scope s.heap.objs.size f cd)
  N := N
  s₀ := s
  H₀ := H
  env := envOfC qual scope s.heap.objs.size f cd
  outer := outer
  stack := envOfC qual scope s.heap.objs.size f cd :: outer
  ex := []
  calm := true
  fn := fun _ => true
  pn := []
  xe := fun e s' => wpAny (model P w) (A.deeper (envOfC qual scope s.heap.objs.size f cd)) (leaving (envOfC qual scope s.heap.objs.size f cd) e) (fun _ s'' => CX outer H s E e s'') (fun e' s'' => CX outer H s E e' s'') s'

theorem cell_has {sc : Scope} {n : Nat} {x : Str} (h : sc.names.lookup x = some .cell) : ∃ c, (cellsFrom n sc.names []).lookup x = some c := by
  have q := PySem.W.cellsFrom_some sc.names n [] (.inl h)
  exact Option.isSome_iff_exists.mp q

theorem inv_start {CX : CXT} {P : Program} {w : World} {K : PySem.W.Frag} {mg : Str → Option Value} {base : Heap} {N ps : List Str} {qual : Str} {scope : Scope} {f : Addr} {cd : Value} {A : Around} {outer : List Env} {s s1 : Shared} {H : Hp} {E : XK} {us : List Value} {vs : List V}
    (S : FnScope N ps scope) (hd : A.handled = none) (e0 : Env0 P w K mg base A outer s H) (hl : vs.length = ps.length) (r : Vals vs us)
    (x : InCallC s s.heap.objs.size (bindL (envOfC qual scope s.heap.objs.size f cd).kindOf (ps.zip us) fun _ => none) (cellsFrom (s.heap.objs.size + 1) scope.names []) (bindC (envOfC qual scope s.heap.objs.size f cd).kindOf (ps.zip us) fun _ => none) s1) :
    Inv (cxOf CX P w K mg base N qual scope f cd A outer s H E) [] (start N vs) H s1 := by
  have hpl : ps.length ≤ N.length := by have := congrArg List.length S.pre; rw [List.length_take] at this; omega
  obtain ⟨h1, tk, rfl, hk⟩ := x.done
  have noA : ∀ b : Addr, b ∉ (cxOf CX P w K mg base N qual scope f cd A outer s H E).ex := fun b z => absurd (show b ∈ ([] : List Addr) from z) (by simp)
  refine ⟨⟨e0.mod, S.kind, rfl, rfl, Nat.le_refl _, fun y z c h1 h2 => ?_, fun y hy => ?_, fun y c _ h => ?_, fun _ => hd, Around.frames_deeper e0.frames, .inr ⟨rfl, rfl⟩, fun b z => absurd z (noA b), e0.bs, e0.bsz, fun b _ _ => noA b, fun b z => absurd z (noA b), e0.funs, e0.frf⟩,
    rfl, e0.bare, Un.kept hk, ⟨_, x.toInCall.ns, fun i y v h1 h2 h3 => ?_⟩, fun y c h => ⟨_, x.cell y c h⟩, e0.hok.fresh (Nat.le_refl _), fun y c h => ?_, fun p hp => absurd (show p ∈ ([] : List (Addr × Obj)) from hp) (by simp), e0.hok.kept hk, ?_⟩
  · exact name_of_addr x.apart (PySem.mem_of_lookup h1) (PySem.mem_of_lookup h2)
  · have hy : scope.names.lookup y = some .cell ∨ scope.names.lookup y = some .free := hy
    rcases hy with hy | hy
    · exact cell_has hy
    · exact absurd rfl (S.nofree _ (PySem.mem_of_lookup hy))
  · exact Nat.le_of_lt (x.above y c (PySem.mem_of_lookup h))
  · have hi : i < vs.length := by
      unfold start at h2
      by_cases hi : i < vs.length
      · exact hi
      · rw [List.getElem?_append_right (by simpa using hi)] at h2
        rw [List.getElem?_replicate] at h2
        split at h2 <;> cases h2
    have ha : vs[i]? = some v := by
      unfold start at h2
      rw [List.getElem?_append_left (by simpa using hi), List.getElem?_map] at h2
      cases e : vs[i]? with
      | none => rw [e] at h2; cases h2
      | some a => rw [e] at h2; cases h2; rfl
    obtain ⟨u, hu, rv⟩ := r.get ha
    have hp : ps[i]? = some y := by
      rw [← S.pre, List.getElem?_take_of_lt (by omega)]; exact h1
    have ndP : ps.Nodup := by rw [← S.pre]; exact S.nd.sublist (List.take_sublist _ _)
    refine ⟨u, rv, ?_⟩
    rcases S.par y (List.mem_of_getElem? hp) with k | k
    · exact .inl ⟨k, bindL_get ndP hp hu k⟩
    · obtain ⟨c, e⟩ := cell_has (n := s.heap.objs.size + 1) k
      refine .inr ⟨.inl k, c, e, ?_⟩
      have q := x.cell y c e
      rw [bindC_get ndP hp hu (by show scope.names.lookup y ≠ _; rw [k]; decide)] at q
      exact q
  · exact e0.hok.fresh (Nat.le_of_lt (x.above y c (PySem.mem_of_lookup h)))
  · unfold start
    show _ = N.length
    rw [List.length_append, List.length_map, List.length_replicate]
    omega

/-- THE RULE: a def (or a method) of the text, by its body. The body's reading t is chosen for each entry; it is run at the parameters' values -/
theorem fn_of {CX : CXT} {P : Program} {w : World} {K : PySem.W.Frag} {mg : Str → Option Value} {base : Heap} {k : Nat} {f : Addr} {name qual : Str} {params : Arguments} {body : List Stmt} {scope : Scope} {dV kV doc pm cdv ct oc : Value} {an od : Option Addr}
    {osl : Array (Option Value)} {N ps : List Str} {sp : Sp} (lk : K.lookup f = some ⟨oc, od, .func (PySem.W.fnOf name qual params body scope dV kV doc pm an cdv ct), osl⟩) (hcd : PySem.W.codeIn K cdv qual = true) (S : FnScope N ps scope)
    (len : ∀ vs H Q E, sp vs H Q E → vs.length = ps.length)
    (hbody : ∀ (A : Around) (outer : List Env) (s : Shared) (H : Hp) (vs : List V) (Q : VK) (E : XK), Room k (A.deeper (envOfC qual scope s.heap.objs.size f cdv)) → sp vs H Q E →
      ∃ t, PSs (cxOf CX P w K mg base N qual scope f cdv A outer s H E) body t ∧ t { nx := fun _ H' => Q .non H', rt := Q } (start N vs) H) :
    FnOk P w K mg base CX (k + 1) f (PySem.W.fnOf name qual params body scope dV kV doc pm an cdv ct) ps sp := by
  refine ⟨len, fun A outer s H args us vs Q E hr e0 hb r hsp => ?_⟩
  have hl := len _ _ _ _ hsp
  have KX : K.In s.heap := e0.mod.kin.keeps fun b o e => (e0.bs b o e).1
  have lim : s.heap.NoLimit := e0.mod.nolimit.keeps fun b o e => (e0.bs b o e).1
  have hkind : ∀ y ∈ ps.zip us, scope.names.lookup y.1 = some .local ∨ (scope.names.lookup y.1 = some .cell ∧ ((cellsFrom (s.heap.objs.size + 1) scope.names []).lookup y.1).isSome = true) := fun ⟨n, v⟩ hy => by
    rcases S.par n (List.of_mem_zip hy).1 with q | q
    · exact .inl q
    · exact .inr ⟨q, PySem.W.cellsFrom_some _ _ _ (.inl q)⟩
  refine codeAny_call_function hr.depth (KX _ _ lk) rfl S.co S.gen rfl (PySem.W.codeRec_of KX hcd) (hb _ _ _ _ ?_)
  refine wpAny_newFunctionEnv_cells S.kind hkind fun env he s1 x => ?_
  subst he
  refine ⟨lim.keeps x.toInCall.keep, codeAny_func ?_⟩
  obtain ⟨t, ht, hq⟩ := hbody A outer s H vs Q E (hr.deeper _) hsp
  have I : Inv (cxOf CX P w K mg base N qual scope f cdv A outer s H E) [] (start N vs) H s1 := inv_start S hr.hd e0 hl r x
  refine wpAny_mono (ht [] s1 (start N vs) H _ I hq) (fun fl s' hs => ?_) fun e s' hs => hs
  have fin : ∀ {σ' : St} {H' : Hp} {v : V} {u : Value}, Inv (cxOf CX P w K mg base N qual scope f cdv A outer s H E) [] σ' H' s' → RelV v u → Q v H' → CE outer P w H s Q u s' :=
    fun {σ' H' v u} J rv q => ⟨v, H', J.os, J.bare, J.base, J.hok, rv, q⟩
  cases fl with
  | ret u =>
    obtain ⟨v, σ', H', J, rv, q⟩ := hs
    exact fin J rv q
  | next =>
    obtain ⟨σ', H', J, q⟩ := hs
    exact fin (v := V.non) (u := Value.none) J rfl q
  | brk =>
    obtain ⟨_, _, _, q⟩ := hs
    exact False.elim q
  | cont =>
    obtain ⟨_, _, _, q⟩ := hs
    exact False.elim q
end L2

namespace L2
open PySem PySem.Spec PyProof.Rows
section
variable {X : Cx} {x : Str} {p pos : Pos} {e : Expr} {es : List Expr} {t : TA} {id T : String} {r : List V → Hp → VK → Prop}

def tCB (r : List V → Hp → VK → Prop) (t : TA) : TE := fun σ H Q => t σ H fun vs H1 => r vs H1 Q
/-- f(e, ..), f a built-in function -/
theorem pe_callB (hc : CallR X (.builtin id) r) (hg : Gl X x) (hm : X.mg x = none) (hv : bootBuiltins x = some (.builtin id)) (ha : PA X (e :: es) t) (hn : x ≠ "__name__" := by decide) (hdb : (x == ("__debug__" : Str)) = false := by decide)
    (he : starEach (e :: es) X.env = (false, eval e X.env) :: starEach es X.env := by rfl) (hpl : (backTo pos (starEach es X.env)).any (·.1) = false := by rfl) : PE X (.Call (.Name x p) (e :: es) [] pos) (tCB r t) := by
  intro pins s σ H Q I h
  refine wpAny_Call_Name_kw (ld_blt I hg hm hv ?_ hn hdb)
  exact PyProof.Rows.callWith_builtin1 (thn (ha pos pins s σ H _ I h) fun us s1 ⟨vs, H1, I1, r1, q1⟩ => hc pins s1 σ H1 vs us Q I1 r1 q1) he hpl
/-- T(e, ..), T a built-in type -/
theorem pe_callTy (hc : CallR X (.type T) r) (hg : Gl X x) (hm : X.mg x = none) (hv : bootBuiltins x = some (.type T)) (ha : PA X (e :: es) t) (hn : x ≠ "__name__" := by decide) (hdb : (x == ("__debug__" : Str)) = false := by decide)
    (he : starEach (e :: es) X.env = (false, eval e X.env) :: starEach es X.env := by rfl) (hpl : (backTo pos (starEach es X.env)).any (·.1) = false := by rfl) : PE X (.Call (.Name x p) (e :: es) [] pos) (tCB r t) := by
  intro pins s σ H Q I h
  refine wpAny_Call_Name_kw (ld_blt I hg hm hv ?_ hn hdb)
  exact PyProof.Rows.callWith_type1 (thn (ha pos pins s σ H _ I h) fun us s1 ⟨vs, H1, I1, r1, q1⟩ => hc pins s1 σ H1 vs us Q I1 r1 q1) he hpl
end
end L2

namespace HT
open PySem PyProof.Rows

section
open PySem.SeqAt
open PySem.AutoSeq1 (wpAny_loadPart')
open PySem.MeetsSeq PySem.MeetsSeq2 PySem.MeetsSeq3

end

section
variable {prog : Program} {w : World} {A : Around} {E : Value → Shared → Prop} {s : Shared}

/-- a slice's bound as a place among n (d where it is left out) -/
def sIx (n d : Nat) : Option Int → Nat
  | none => d
  | some v => if v < 0 then (v + (n : Int)).toNat else min v.toNat n
theorem sIx_none (n d : Nat) : sIx n d none = d := rfl
theorem sIx_nat (n d k : Nat) : sIx n d (some (k : Int)) = min k n := by
  show (if (k : Int) < 0 then ((k : Int) + (n : Int)).toNat else min (k : Int).toNat n) = min k n
  rw [if_neg (by omega), Int.toNat_natCast]
end
end HT

namespace L2
open PySem PySem.Spec PyProof.Rows

abbrev TO := St → Hp → (Option Int → Hp → Prop) → Prop
/-- a slice's part (left out, or an int) -/
def PO (X : Cx) (e : Option Expr) (t : TO) : Prop :=
  ∀ (pins : List (Addr × Obj)) (s : Shared) (σ : St) (H : Hp) (Q : Option Int → Hp → Prop), Inv X pins σ H s → t σ H Q →
    wpAny (model X.prog X.w) X.A (evalPart e X.env) (fun u s' => ∃ o H', Inv X pins σ H' s' ∧ IsPart u o ∧ Q o H') X.xe s
def tNoPart : TO := fun _ H Q => Q none H
def tPart (t : TE) : TO := fun σ H Q => t σ H fun x H1 => ∃ i, x = .int i ∧ Q (some i) H1

theorem intsAre_of {ns : List Int} : ∀ {us : List Value}, Vals (ns.map V.int) us → IntsAre us ns := by
  induction ns with
  | nil => intro us r; rw [List.map_nil] at r; cases r; exact .nil
  | cons n ns ih =>
    intro us r
    rw [List.map_cons] at r
    cases r with
    | cons r1 r2 =>
      obtain ⟨t, e⟩ := r1
      subst e
      exact .cons n t (ih r2)

section
variable {X : Cx} {e : Expr} {te : TE} {lo hi : Option Expr} {tl th : TO} {pos p2 : Pos}

theorem po_none : PO X none tNoPart := by
  intro pins s σ H Q I h
  rw [evalPart_none]
  exact wpAny_pure ⟨none, H, I, .none, h⟩
theorem po_some (h : PE X e te) : PO X (some e) (tPart te) := by
  intro pins s σ H Q I hw
  rw [evalPart_some]
  refine thn (h pins s σ H _ I hw) fun u s1 ⟨x, H1, I1, r1, q1⟩ => ?_
  obtain ⟨i, rfl, q⟩ := q1
  obtain ⟨t, rfl⟩ := r1
  exact ⟨some i, H1, I1, .int i t, q⟩

/-- what a slice of a value is, by values: the slice object stands at sl -/
def SlR (X : Cx) (r : V → Option Int → Option Int → Hp → VK → Prop) : Prop :=
  ∀ (pins : List (Addr × Obj)) (s : Shared) (σ : St) (H : Hp) (x : V) (v vl vu : Value) (lo hi : Option Int) (sl : Addr) (Q : VK), Inv X pins σ H s → RelV x v → s.heap.IsSliceOf sl vl vu .none → IsPart vl lo → IsPart vu hi → r x lo hi H Q →
    ∃ T id, typeLookup (.type T) "__getitem__" = pure (some (.builtin id)) ∧ s.TypeIs v T ∧ wpAny (model X.prog X.w) X.A (getItem v (.ref sl)) (EP X pins σ Q) X.xe s
def tSl (r : V → Option Int → Option Int → Hp → VK → Prop) (te : TE) (tl th : TO) : TE := fun σ H Q => te σ H fun x H1 => tl σ H1 fun l H2 => th σ H2 fun u H3 => r x l u H3 Q
/-- a[lo:hi], any a -/
theorem pe_slice {r : V → Option Int → Option Int → Hp → VK → Prop} (hr : SlR X r) (he : PE X e te) (hl : PO X lo tl) (hu : PO X hi th) : PE X (.Subscript e (.Slice lo hi none p2) pos) (tSl r te tl th) := by
  intro pins s σ H Q I h
  refine Subscript_ (thn (he pins s σ H _ I h) fun v s1 ⟨x, H1, I1, r1, q1⟩ => ?_)
  refine wpAny_Slice (thn (hl pins s1 σ H1 _ I1 q1) fun vl s2 ⟨l, H2, I2, pl, q2⟩ => thn (hu pins s2 σ H2 _ I2 q2) fun vu s3 ⟨u, H3, I3, pu, q3⟩ => ?_)
  rw [evalPart_none]
  refine wpAny_pure ?_
  have I4 : Inv X pins σ H3 { s3 with heap := s3.heap.push { cls := .type "slice", data := .fields #[vl, vu, .none] } } := I3.kept (t' := s3.toks) fun b ob q => Heap.get?_push_of_some _ q
  obtain ⟨T, id, hT, ht, hg⟩ := hr pins { s3 with heap := s3.heap.push { cls := .type "slice", data := .fields #[vl, vu, .none] } } σ H3 x v vl vu l u s3.heap.objs.size Q I4 r1 (Heap.IsSliceOf.new ..) pl pu q3
  show wpAny (model X.prog X.w) X.A (subscriptTail e (.Slice lo hi none p2) v (.ref s3.heap.objs.size)) (EP X pins σ Q) X.xe { s3 with heap := s3.heap.push { cls := .type "slice", data := .fields #[vl, vu, .none] } }
  exact tail_any (ops := [.ref s3.heap.objs.size, v]) ht hT hg (by with_unfolding_all rfl)

/-- the items of xs[lo:hi] -/
def cutV (xs : List V) (lo hi : Option Int) : List V := (xs.drop (HT.sIx xs.length 0 lo)).take (HT.sIx xs.length xs.length hi - HT.sIx xs.length 0 lo)
theorem cutV_length (xs : List V) (lo hi : Option Int) : (cutV xs lo hi).length ≤ xs.length := by
  unfold cutV
  rw [List.length_take, List.length_drop]
  omega
end
end L2

namespace L2
open PySem PySem.Spec PyProof.Rows

/-- the place that an index of any sign means -/
def ixN (n : Nat) (i : Int) : Option Nat := if 0 ≤ i then (if i < n then some i.toNat else none) else if -(n : Int) ≤ i then some (i + n).toNat else none
def atI {α : Type} (xs : List α) (i : Int) : Option α := (ixN xs.length i).bind fun j => xs[j]?
theorem ixN_seq {n : Nat} {i : Int} {j : Nat} (h : ixN n i = some j) : seqIndex? i n = some j ∧ j < n ∧ -(n : Int) ≤ i ∧ i < n := by
  unfold ixN at h
  by_cases h0 : 0 ≤ i
  · rw [if_pos h0] at h
    by_cases h1 : i < n
    · rw [if_pos h1] at h
      have e : i.toNat = j := Option.some.inj h
      exact ⟨by rw [seqIndex_of h0 h1, e], by omega, by omega, h1⟩
    · rw [if_neg h1] at h; cases h
  · rw [if_neg h0] at h
    by_cases h1 : -(n : Int) ≤ i
    · rw [if_pos h1] at h
      have e : (i + n).toNat = j := Option.some.inj h
      exact ⟨by rw [seqIndex_neg (by omega) h1, e], by omega, h1, by omega⟩
    · rw [if_neg h1] at h; cases h
theorem atI_get {α : Type} {xs : List α} {i : Int} {v : α} (h : atI xs i = some v) : ∃ j, seqIndex? i xs.length = some j ∧ xs[j]? = some v ∧ j < xs.length ∧ -(xs.length : Int) ≤ i ∧ i < xs.length := by
  unfold atI at h
  cases e : ixN xs.length i with
  | none => rw [e] at h; cases h
  | some j =>
    rw [e] at h
    obtain ⟨h1, h2, h3, h4⟩ := ixN_seq e
    exact ⟨j, h1, h, h2, h3, h4⟩
theorem atI_nat {α : Type} {xs : List α} {j : Nat} {v : α} (h : xs[j]? = some v) : atI xs (j : Int) = some v := by
  have hj : j < xs.length := (List.getElem?_eq_some_iff.mp h).1
  have e : ixN xs.length (j : Int) = some j := by
    unfold ixN
    rw [if_pos (by omega), if_pos (by omega)]; simp
  unfold atI; rw [e]; exact h
/-- what stands as an index of a plain subscript -/
def PlainIx (b : Expr) : Prop := ∀ o i, subscripted b false o i = operate [o, i] (getItem o i)
/-- a subscript by values -/
def IxR (X : Cx) (r : R2) : Prop :=
  ∀ (value slice : Expr) (pins : List (Addr × Obj)) (s : Shared) (σ : St) (H : Hp) (x y : V) (v u : Value) (Q : VK), Inv X pins σ H s → RelV x v → RelV y u → r x y H Q →
    subscripted slice false v u = operate [v, u] (getItem v u) → wpAny (model X.prog X.w) X.A (subscriptTail value slice v u) (EP X pins σ Q) X.xe s
/-- a call of a builtin's method by values: the receiver, the arguments -/
def MtR (X : Cx) (id : String) (r : V → List V → Hp → VK → Prop) : Prop :=
  ∀ (pins : List (Addr × Obj)) (s : Shared) (σ : St) (H : Hp) (x : V) (xs : List V) (v : Value) (us : List Value) (Q : VK), Inv X pins σ H s → RelV x v → Vals xs us → r x xs H Q →
    wpAny (model X.prog X.w) X.A (call (.builtin id) (v :: us)) (EP X pins σ Q) X.xe s
section
variable {X : Cx} {a b : Expr} {ta tb : TE} {pos : Pos}
/-- a[b] -/
theorem pe_ix {r : R2} (hr : IxR X r) (ha : PE X a ta) (hb : PE X b tb) (hs : PlainIx b) : PE X (.Subscript a b pos) (tOp r ta tb) := by
  intro pins s σ H Q I h
  exact Subscript_ (binT ha hb I h fun v u s2 x y H2 I2 rx ry q => hr a b pins s2 σ H2 x y v u Q I2 rx ry q (hs _ _))

def rIxL (K : PySem.W.Frag) : R2 := fun x y H Q => ∃ p xs i v, x = .ref p ∧ y = .int i ∧ SqL K H p xs ∧ atI xs i = some v ∧ Q v H
def rIxT (K : PySem.W.Frag) : R2 := fun x y H Q => ∃ p xs i v, x = .ref p ∧ y = .int i ∧ SqT K H p xs ∧ atI xs i = some v ∧ Q v H
theorem ix_list : IxR X (rIxL X.K) := by
  intro value slice pins s σ H x y v u Q I rx ry h hs
  obtain ⟨p, xs, i, z, rfl, rfl, hq, he, q⟩ := h
  cases rx
  obtain ⟨t, rfl⟩ := ry
  obtain ⟨its, r, pl, hz⟩ := I.list hq
  obtain ⟨j, h1, h2, h3, h4, h5⟩ := atI_get he
  obtain ⟨w, ew, rw'⟩ := r.get h2
  have hl := r.length
  have hn := line63
  have fin : EP X pins σ Q w s := ⟨z, H, I, rw', q⟩
  by_cases h0 : 0 ≤ i
  · have hj : i.toNat = j := by
      rw [seqIndex_of h0 h5] at h1
      exact Option.some.inj h1
    exact item_listR pl.isList h0 (by omega) (by rw [hj]; simpa using ew) fin hs
  · have hj : (i + (its.toArray.size : Int)).toNat = j := by
      rw [seqIndex_neg (by omega) h4] at h1
      rw [List.size_toArray, ← hl]
      exact Option.some.inj h1
    exact subscriptTail_builtinR (x := w) pl.isList.typeIs slot_list_getitem.lookup
      (wpAny_getItem_list_neg (Q := fun r s' => r = w ∧ EP X pins σ Q r s') pl.isList (by omega) (by rw [List.size_toArray] <;> omega) (by omega) (by rw [hj]; simpa using ew) ⟨rfl, fin⟩) hs
theorem ix_tup : IxR X (rIxT X.K) := by
  intro value slice pins s σ H x y v u Q I rx ry h hs
  obtain ⟨p, xs, i, z, rfl, rfl, hq, he, q⟩ := h
  cases rx
  obtain ⟨t, rfl⟩ := ry
  obtain ⟨its, r, pl, hz⟩ := I.tuple hq
  obtain ⟨j, h1, h2, h3, h4, h5⟩ := atI_get he
  obtain ⟨w, ew, rw'⟩ := r.get h2
  have hl := r.length
  have hn := line63
  have fin : EP X pins σ Q w s := ⟨z, H, I, rw', q⟩
  exact subscriptTail_builtinR (x := w) pl.typeIs slot_tuple_getitem.lookup
    (getItem_tuple (j := j) (Q := fun r s' => r = w ∧ EP X pins σ Q r s') pl (by omega) (by omega) (by rw [List.size_toArray, ← hl]; exact h1) (by simpa using ew) ⟨rfl, fin⟩) hs
def rSetL : V → V → V → Hp → (Hp → Prop) → Prop := fun o i v H Q => ∃ p xs k j, o = .ref p ∧ i = .int k ∧ H p = some (.lst xs) ∧ ixN xs.length k = some j ∧ Q (upd H p (.lst (xs.set j v)))
theorem slice_bounds (lo hi : Option Int) (n : Nat) : (sliceBounds lo hi none n).1 = ((HT.sIx n 0 lo : Nat) : Int) ∧ (sliceBounds lo hi none n).2.1 = ((HT.sIx n n hi : Nat) : Int) ∧ (sliceBounds lo hi none n).2.2 = 1 := by
  refine ⟨?_, ?_, rfl⟩
  · cases lo with
    | none => simp [sliceBounds, HT.sIx]
    | some i =>
      simp only [sliceBounds, HT.sIx, Option.getD_none, show (1 : Int) > 0 by decide, if_true]
      by_cases h : i < 0
      · simp only [h, if_true] <;> omega
      · simp only [h, if_false] <;> omega
  · cases hi with
    | none => simp [sliceBounds, HT.sIx]
    | some i =>
      simp only [sliceBounds, HT.sIx, Option.getD_none, show (1 : Int) > 0 by decide, if_true]
      by_cases h : i < 0
      · simp only [h, if_true] <;> omega
      · simp only [h, if_false] <;> omega
theorem slicePick_cut (its : List Value) (lo hi : Option Int) : slicePick its.toArray lo hi none = ((its.drop (HT.sIx its.length 0 lo)).take (HT.sIx its.length its.length hi - HT.sIx its.length 0 lo)).toArray := by
  obtain ⟨h1, h2, h3⟩ := slice_bounds lo hi its.toArray.size
  unfold slicePick
  rw [h1, h2, h3]
  simp only [sliceRange_one, pick_run, List.size_toArray] <;> rfl
/-- xs[lo:hi] of a list: a new list -/
def rSlL (K : PySem.W.Frag) : V → Option Int → Option Int → Hp → VK → Prop := fun x lo hi H Q => ∃ a xs, x = .ref a ∧ SqL K H a xs ∧ ∀ p, H p = none → Q (.ref p) (upd H p (.lst (cutV xs lo hi)))
theorem sl_list : SlR X (rSlL X.K) := by
  intro pins s σ H x v vl vu lo hi sl Q I rx hs pl pu h
  obtain ⟨a, xs, rfl, hx, q⟩ := h
  cases rx
  obtain ⟨its, r, ht, hz⟩ := I.list hx
  have hlen := r.length
  refine ⟨"list", _, slot_list_getitem.lookup, ht.isList.typeIs, ?_⟩
  refine wpAny_getItem_list_slice ht.isList hs pl pu .none (by simp) ?_ (by rw [List.size_toArray] <;> omega)
  rw [slicePick_cut, ← hlen]
  refine ⟨.ref s.heap.objs.size, _, I.laid (t' := s.toks) (o := .lst (cutV xs lo hi)) (fun b ob q => Heap.get?_push_of_some _ q) (Nat.le_refl _) ?_, rfl, q _ (I.hok.fresh (Nat.le_refl _))⟩
  exact ⟨Nat.le_trans (cutV_length xs lo hi) hz, _, 0, (r.drop (HT.sIx xs.length 0 lo)).take (HT.sIx xs.length xs.length hi - HT.sIx xs.length 0 lo), Heap.get?_push_size _ rfl⟩

theorem call_len_seq : CallR X (.builtin "len") (fun xs H Q => ∃ p ys, xs = [.ref p] ∧ (SqL X.K H p ys ∨ SqT X.K H p ys) ∧ Q (.int ys.length) H) := by
  intro pins s σ H xs us Q I r h
  obtain ⟨p, ys, rfl, hq, q⟩ := h
  obtain ⟨u, rfl, rx⟩ := vals1 r
  cases rx
  have hn := line63
  rcases hq with hq | hq
  · obtain ⟨its, r', pl, hz⟩ := I.list hq
    have hlen := r'.length
    exact Calls.call_len_list pl.isList (by simp only [List.size_toArray] <;> omega) ⟨.int ys.length, H, I.tok _, ⟨s.toks + 1, by rw [List.size_toArray, hlen]⟩, q⟩
  · obtain ⟨its, r', pl, hz⟩ := I.tuple hq
    have hlen := r'.length
    exact len_tuple pl (by simp only [List.size_toArray] <;> omega) ⟨.int ys.length, H, I.tok _, ⟨s.toks + 1, by rw [List.size_toArray, hlen]⟩, q⟩
theorem call_list_of : CallR X (.type "list") (fun xs H Q => ∃ p ys, xs = [.ref p] ∧ (SqL X.K H p ys ∨ SqT X.K H p ys) ∧ ∀ l, H l = none → Q (.ref l) (upd H l (.lst ys))) := by
  intro pins s σ H xs us Q I r h
  obtain ⟨p, ys, rfl, hq, q⟩ := h
  obtain ⟨u, rfl, rx⟩ := vals1 r
  cases rx
  have fin : ∀ (its : List Value), Vals ys its → ys.length ≤ sizeLine → ∀ (h' : Heap) (c' : Nat), (∀ b o', s.heap.get? b = some o' → h'.get? b = some o') →
      h'.get? s.heap.objs.size = some { cls := .type "list", dict := none, data := .seq its.toArray c', slots := #[] } → EP X pins σ Q (.ref s.heap.objs.size) { s with heap := h' } := fun its r' hz h' c' kp e =>
    ⟨.ref s.heap.objs.size, _, I.laid (t' := s.toks) kp (Nat.le_refl _) (show ObjOk X.prog X.w _ h' _ (.lst ys) from ⟨hz, its, c', r', e⟩), rfl, q _ (I.hok.fresh (Nat.le_refl _))⟩
  rcases hq with hq | hq
  · obtain ⟨its, r', pl, hz⟩ := I.list hq
    have hlen := r'.length
    obtain ⟨o, ho, hc, n, hd⟩ := pl.isList
    exact call_list_seq p (.inl rfl) ho hc hd (fun h' c' kp e => fin its r' hz h' c' kp e) (by simp only [List.size_toArray] <;> omega)
  · obtain ⟨its, r', pl, hz⟩ := I.tuple hq
    have hlen := r'.length
    obtain ⟨o, ho, hc, n, hd⟩ := pl
    exact call_list_seq p (.inr rfl) ho hc hd (fun h' c' kp e => fin its r' hz h' c' kp e) (by simp only [List.size_toArray] <;> omega)
theorem call_tuple_of : CallR X (.type "tuple") (fun xs H Q => ∃ p ys, xs = [.ref p] ∧ ((SqL X.K H p ys ∧ ∀ l, H l = none → Q (.ref l) (upd H l (.tup ys))) ∨ (SqT X.K H p ys ∧ Q (.ref p) H))) := by
  intro pins s σ H xs us Q I r h
  obtain ⟨p, ys, rfl, h⟩ := h
  obtain ⟨u, rfl, rx⟩ := vals1 r
  cases rx
  rcases h with ⟨hq, q⟩ | ⟨hq, q⟩
  · obtain ⟨its, r', pl, hz⟩ := I.list hq
    have hlen := r'.length
    refine call_tuple_list pl.isList (fun h' kp => ?_) (by simp only [List.size_toArray] <;> omega)
    have I1 : Inv X pins σ H { s with heap := h' } := I.kept (t' := s.toks) kp
    have I2 : Inv X pins σ (upd H h'.objs.size (.tup ys)) { s with heap := h'.push { cls := .type "tuple", data := .seq its.toArray } } :=
      I1.laid (t' := s.toks) (fun b o e => Heap.get?_push_of_some _ e) (Nat.le_refl _) (show ObjOk X.prog X.w _ _ _ (.tup ys) from ⟨hz, its, r', IsTup.new _ _⟩)
    exact ⟨.ref h'.objs.size, _, I2, rfl, q _ (I1.hok.fresh (Nat.le_refl _))⟩
  · obtain ⟨its, r', pl, hz⟩ := I.tuple hq
    exact call_tuple_same pl ⟨.ref p, H, I, rfl, q⟩

/-- the value is of that builtin type -/
def tyV (K : PySem.W.Frag) (T : String) (x : V) (H : Hp) : Prop := match x with
  | .str _ => T = "str"
  | .int _ => T = "int"
  | .ref p => (T = "list" ∧ ∃ xs, SqL K H p xs) ∨ (T = "tuple" ∧ ∃ o, K.lookup p = some o ∧ o.cls = .type "tuple" ∧ o.dict = none) ∨
      (T = "dict" ∧ ((∃ kvs, H p = some (.dK kvs)) ∨ ∃ kvs, H p = some (.dT kvs))) ∨ (T = "set" ∧ ∃ S n, H p = some (.set S n))
  | _ => False
theorem tyV_is {pins : List (Addr × Obj)} {σ : St} {H : Hp} {s : Shared} {T : String} {x : V} {v : Value} (I : Inv X pins σ H s) (r : RelV x v) (ty : tyV X.K T x H) :
    s.TypeIs v T ∧ ∀ a, v = .ref a → ∃ ob, s.heap.get? a = some ob ∧ ob.dict = none := by
  cases x with
  | str z =>
    obtain ⟨t, rfl⟩ := r
    cases (show T = "str" from ty)
    exact ⟨typeIs_str s z t, fun _ e => nomatch e⟩
  | int i =>
    obtain ⟨t, rfl⟩ := r
    cases (show T = "int" from ty)
    exact ⟨typeIs_int s i t, fun _ e => nomatch e⟩
  | ref p =>
    cases r
    rcases ty with ⟨rfl, xs, hq⟩ | ⟨rfl, o, hk, hc, hd⟩ | ⟨rfl, hk⟩ | ⟨rfl, S, n, hk⟩
    · obtain ⟨its, _, pl, _⟩ := I.list hq
      refine ⟨pl.isList.typeIs, fun a e => ?_⟩
      cases e
      obtain ⟨o, n, e, c, hd, _⟩ := pl
      exact ⟨o, e, hd⟩
    · refine ⟨⟨o, I.kIn p o hk, hc⟩, fun a e => ?_⟩
      cases e
      exact ⟨o, I.kIn _ o hk, hd⟩
    · have z : ∃ o, s.heap.get? p = some o ∧ o.ExactDict := by
        rcases hk with ⟨kvs, hk⟩ | ⟨kvs, hk⟩
        · obtain ⟨_, _, _, _, o, _, _, e, ex, _⟩ := I.hok p _ hk
          exact ⟨o, e, ex⟩
        · obtain ⟨_, _, _, _, o, _, _, e, ex, _⟩ := I.hok p _ hk
          exact ⟨o, e, ex⟩
      obtain ⟨o, e, ex⟩ := z
      refine ⟨⟨o, e, ex.1⟩, fun a e2 => ?_⟩
      cases e2
      exact ⟨o, e, ex.2.1⟩
    · obtain ⟨o, _, _, _, e, ex, _⟩ := I.hok p _ hk
      refine ⟨⟨o, e, ex.1⟩, fun a e2 => ?_⟩
      cases e2
      exact ⟨o, e, ex.2.1⟩
  | _ => exact False.elim ty
def tBM0 (K : PySem.W.Frag) (T : String) (r : V → List V → Hp → VK → Prop) (to : TE) : TE := fun σ H Q => to σ H fun x H1 => tyV K T x H1 ∧ r x [] H1 Q
def tBM (K : PySem.W.Frag) (T : String) (r : V → List V → Hp → VK → Prop) (to : TE) (t : TA) : TE := fun σ H Q => to σ H fun x H1 => tyV K T x H1 ∧ t σ H1 fun xs H2 => r x xs H2 Q
variable {o e : Expr} {es : List Expr} {to : TE} {t : TA} {name : Str} {apos cpos : Pos} {T id : String} {r : V → List V → Hp → VK → Prop}
theorem pe_bm (pa : PlainAttrs T) (slot : Slot T name id) (hty : typeOf (.builtin id) = pure (.type "method_descriptor")) (hm : MtR X id r) (ho : PE X o to) (ha : PA X (e :: es) t)
    (hbase : attributeBase o name X.env (eval o X.env) = eval o X.env := by rfl)
    (hfew : ((backTo cpos (starEach (e :: es) X.env)).all (fun x => !x.1) && (backToKw cpos (keywordEach [] X.env)).all (fun x => x.1.isSome)
      && decide ((e :: es).length + ([] : List Keyword).length + (if ([] : List Keyword).isEmpty then 0 else 1) < 30)) = true := by rfl)
    (hline : (apos.endLine == cpos.line) = true := by rfl) (hs : starEach (e :: es) X.env = (false, eval e X.env) :: starEach es X.env := by rfl) (hplain : (backTo cpos (starEach es X.env)).any (·.1) = false := by rfl) :
    PE X (.Call (.Attribute o name apos) (e :: es) [] cpos) (tBM X.K T r to t) := by
  intro pins s σ H Q I h
  refine wpAny_Call_method_late hbase hfew hline rfl (thn (ho pins s σ H _ I h) fun v s1 ⟨x, H1, I1, r1, ty, q1⟩ => ?_)
  obtain ⟨h1, h2⟩ := tyV_is I1 r1 ty
  refine ⟨T, id, pa, slot, hty, h1, h2, ?_⟩
  have hA := ha cpos pins s1 σ H1 _ I1 q1
  rw [hs] at hA ⊢
  refine Calls.callWith_builtin (by show (false || (backTo cpos (starEach es X.env)).any (·.1)) = false; rw [hplain] <;> rfl) (Calls.evalArgs_plain ?_)
  exact thn hA fun us s2 ⟨vs, H2, I2, r2, q2⟩ => hm pins s2 σ H2 x vs v us Q I2 r1 r2 q2
/- xs.append(e), list.index on a module's tuple .. are MtR facts of 06m -/
end
end L2

namespace L2
open PySem PySem.Spec PyProof.Rows

def MtM (X : Cx) (id : String) (r : V → List V → Hp → VK → Prop) : Prop :=
  ∀ (pins : List (Addr × Obj)) (s : Shared) (σ : St) (H : Hp) (x : V) (xs : List V) (v : Value) (us : List Value) (Q : VK), Inv X pins σ H s → RelV x v → Vals xs us → r x xs H Q →
    wpAny (model X.prog X.w) X.A (call (.builtin id) (v :: us)) (EP X pins σ Q) X.xe s

theorem Vals.one : ∀ {x : V} {us : List Value}, Vals [x] us → ∃ u, us = [u] ∧ RelV x u
  | _, _, .cons r .nil => ⟨_, rfl, r⟩
section
variable {X : Cx} {pins : List (Addr × Obj)} {σ : St} {H : Hp} {s : Shared} {l b : Addr} {xs ys zs : List V}

theorem Inv.lset {its its' : List Value} {n : Nat} {f : Array Value → Array Value} {t' : Nat} (I : Inv X pins σ H s) (hH : H l = some (.lst xs))
    (e : s.heap.get? l = some { cls := .type "list", data := .seq its.toArray n }) (hf : f its.toArray = its'.toArray) (hv : Vals ys its') (hz : ys.length ≤ sizeLine) :
    Inv X pins σ (upd H l (.lst ys)) { s with heap := s.heap.update l (Obj.mapSeq f), toks := t' } := by
  have q := PySem.IsL.update e f
  rw [hf] at q
  refine I.write (x := l) (e := l) (by rw [hH]; exact trivial) (.inl rfl) (fun b' u hb hu => (Heap.get?_update_other s.heap (Obj.mapSeq f) (Ne.symm hb)).trans hu) ⟨_, q⟩ ?_
  exact ⟨hz, its', _, hv, q⟩
theorem Inv.lnew {its : List Value} {t' : Nat} (I : Inv X pins σ H s) (hv : Vals ys its) (hz : ys.length ≤ sizeLine) :
    Inv X pins σ (upd H s.heap.objs.size (.lst ys)) { s with heap := s.heap.push { cls := .type "list", data := .seq its.toArray }, toks := t' } :=
  I.laid (fun _ _ q => Heap.get?_push_of_some _ q) (Nat.le_refl _) ⟨hz, its, 0, hv, Heap.get?_push_size _ rfl⟩
theorem Inv.fresh (I : Inv X pins σ H s) : H s.heap.objs.size = none := I.hok.fresh (Nat.le_refl _)
theorem Inv.lstM (I : Inv X pins σ H s) (hH : H l = some (.lst xs)) : xs.length ≤ sizeLine ∧ ∃ (its : List Value) (n : Nat), Vals xs its ∧ xs.length = its.length ∧ s.heap.get? l = some { cls := .type "list", data := .seq its.toArray n } := by
  obtain ⟨z, its, n, r, e⟩ := I.hok l _ hH
  exact ⟨z, its, n, r, r.length, e⟩

theorem notLongL {n : Nat} (h : n ≤ sizeLine) : Builtin.List.listTooLong n = false := by
  unfold Builtin.List.listTooLong
  exact decide_eq_false (by omega)
end

section
variable {X : Cx}

def rAppend : V → List V → Hp → VK → Prop := fun x vs H Q => ∃ l xs y, x = .ref l ∧ vs = [y] ∧ H l = some (.lst xs) ∧ xs.length < sizeLine ∧ Q .non (upd H l (.lst (xs ++ [y])))
theorem mt_append : MtM X "list.append" rAppend := by
  intro pins s σ H x vs v us Q I rx rv h
  obtain ⟨l, xs, y, rfl, rfl, hH, hz, q⟩ := h
  cases rx
  obtain ⟨u, rfl, ru⟩ := rv.one
  obtain ⟨z, its, n, r, hl, e⟩ := I.lstM hH
  refine call_meets F.slot_list_append ⟨_, e, rfl⟩ F.entry_list_append (F.args_list_append_2 _ _) (PySem.list_append l its.toArray n u (by rw [List.size_toArray]; omega)) ⟨e, ?_⟩
  refine ⟨.non, _, I.lset (its' := its ++ [u]) hH e (by simp) (r.append (.cons ru .nil)) ?_, rfl, q⟩
  rw [List.length_append, List.length_singleton]
  omega

def rExtend : V → List V → Hp → VK → Prop := fun x vs H Q => ∃ l b xs zs, x = .ref l ∧ vs = [.ref b] ∧ H l = some (.lst xs) ∧ H b = some (.lst zs) ∧ xs.length + zs.length ≤ sizeLine ∧ Q .non (upd H l (.lst (xs ++ zs)))
theorem mt_extend : MtM X "list.extend" rExtend := by
  intro pins s σ H x vs v us Q I rx rv h
  obtain ⟨l, b, xs, zs, rfl, rfl, hH, hB, hz, q⟩ := h
  cases rx
  obtain ⟨u, rfl, ru⟩ := rv.one
  cases ru
  obtain ⟨z, its, n, r, hl, e⟩ := I.lstM hH
  obtain ⟨z2, its2, n2, r2, hl2, e2⟩ := I.lstM hB
  have hsz : its.toArray.size + its2.toArray.size ≤ sizeLine := by rw [List.size_toArray, List.size_toArray]; omega
  have hlong : ¬ (!its.toArray.isEmpty && Builtin.List.listTooLong (its.toArray.size + its2.toArray.size)) = true := by
    rw [notLongL hsz, Bool.and_false]
    exact Bool.false_ne_true
  refine call_meets F.slot_list_extend ⟨_, e, rfl⟩ F.entry_list_extend (F.args_list_extend_2 _ _)
    (AutoSeq1.list_extend_list_list_0 l its.toArray n b its2.toArray n2 hlong (by rw [List.size_toArray]; omega) (by omega)) ⟨e, e2, ?_⟩
  refine ⟨.non, _, I.lset (its' := its ++ its2) hH e (by simp) (r.append r2) ?_, rfl, q⟩
  rw [List.length_append]
  omega

def rClear : V → List V → Hp → VK → Prop := fun x vs H Q => ∃ l xs, x = .ref l ∧ vs = [] ∧ H l = some (.lst xs) ∧ Q .non (upd H l (.lst []))
def rCat : R2 := fun x y H Q => ∃ l b xs zs, x = .ref l ∧ y = .ref b ∧ H l = some (.lst xs) ∧ H b = some (.lst zs) ∧ xs.length + zs.length ≤ sizeLine ∧ ∀ p, H p = none → Q (.ref p) (upd H p (.lst (xs ++ zs)))
theorem op_cat : OpR X (binaryOp .Add) rCat := by
  intro pins s σ H x y v u Q I rx ry h
  obtain ⟨l, b, xs, zs, rfl, rfl, hH, hB, hz, q⟩ := h
  cases rx
  cases ry
  obtain ⟨z, its, n, r, hl, e⟩ := I.lstM hH
  obtain ⟨z2, its2, n2, r2, hl2, e2⟩ := I.lstM hB
  refine PySem.P.add_list e e2 ?_ (by rw [List.size_toArray, List.size_toArray]; omega)
  have ea : its.toArray ++ its2.toArray = (its ++ its2).toArray := by simp
  rw [ea]
  exact ⟨.ref _, _, I.lnew (t' := s.toks) (r.append r2) (by rw [List.length_append]; omega), rfl, q _ I.fresh⟩
end

section
variable {prog : Program} {w : World} {A : Around} {E : Value → Shared → Prop} {s : Shared}
end

section
variable {X : Cx}
end
end L2

namespace Att
open PySem PySem.W PySem.Calls PyProof.Rows

theorem ints_of_wellAll {P : Params} {h : Heap} : ∀ (ns : List Int) (vs : List Value), WellAll P h vs (ns.map WData.int) → IntsAre vs ns := by
  intro ns
  induction ns with
  | nil =>
    intro vs w
    rw [List.map_nil] at w
    cases w
    exact .nil
  | cons n ns ih =>
    intro vs w
    rw [List.map_cons] at w
    cases w with
    | cons a b =>
      cases a
      exact .cons _ _ (ih _ b)

theorem script_of {l : OpenLaw} {n : Nat} (hn : l.most = some n) {P : Params} {h : Heap} {args : List WData} {vals : List Value}
    (hpre : l.row.toRowW.claim.pre args = true) (hwl : WellAll P h vals args) :
    ∃ a vs ns, vals = [Value.ref a] ∧ args = [WData.list (ns.map WData.int)] ∧ h.get? a = some { cls := .type "list", data := .seq vs.toArray } ∧ IntsAre vs ns ∧ ns.length ≤ n := by
  have hsh : WShape.hasAll [] args [.list .int] = true := (pre_splitW hpre).1
  have hc : l.pre.holds [] { args := args } = true := (pre_splitW hpre).2
  obtain ⟨d, r, rfl, h1, h2⟩ := hasAllW_cons hsh
  obtain rfl := hasAllW_nil h2
  obtain ⟨xs, rfl, h3⟩ := hasW_list h1
  obtain ⟨ns, rfl⟩ := items_int h3
  have hlen : ns.length ≤ n := by
    unfold OpenLaw.pre at hc
    have h4 : (WTm.not (.lt (.lit (.int (n : Int))) (.len (.arg 0)))).holds [] { args := [.list (ns.map .int)] } = true := by
      have h4 := (holds_andW hc).1
      rw [hn] at h4
      exact h4
    have h5 := condW_of h4 (w_not (w_lt w_lit (w_len_list (w_arg rfl))))
    rw [List.length_map] at h5
    refine Nat.le_of_not_lt fun q => ?_
    have q' : (n : Int) < ((ns.length : Nat) : Int) := by omega
    first
      | (rw [decide_eq_true q'] at h5; exact absurd h5 (by decide))
      | (simp at h5; omega)
  cases hwl with
  | cons w1 w2 =>
    cases w2
    cases w1 with
    | list ho hall => exact ⟨_, _, ns, rfl, rfl, ho, ints_of_wellAll ns _ hall, hlen⟩

theorem post_true (l : OpenLaw) (args : List WData) : l.row.toRowW.claim.post args (.bool true) args = true :=
  postW_of (r := l.row.toRowW) (X := (true == true))
    (show WShape.has [] (.bool true) .bool = true by first | rfl | decide | simp [WShape.has, WShape.arms, WShape.armsAll])
    (show (WTm.eq .res (.lit (.bool true))).value [] { args := args, res := some (.bool true), after := args } = some (.bool (true == true)) from w_eq_bool (w_res rfl) w_lit) rfl

/-- the same from a codeAny of the CALL (for a layer whose function contracts speak of calls) -/
theorem attach_call {l : OpenLaw} {n : Nat} {q : Program} {loose : List Str} {XP : (Str → Option Value) → Heap → Prop} {YP : World → Heap → Prop} {d : DefRec}
    (hn : l.most = some n) (hdf : d.params.defaults = [])
    (call : ∀ (w : World) (s₀ s₁ : Shared) (mg mb : Str → Option Value) (fa : Addr) (o : Obj) (pm cd doc : Value) (a : Addr) (vs : List Value) (ns : List Int),
      Ground q loose [] XP w s₀ mg mb s₁.heap → YP w s₁.heap →
      s₁.heap.get? fa = some o → o.data = .func (docDef d.name d.params d.body d.scope pm cd doc) → s₁.heap.CodeRec cd d.name → mg d.name = some (.ref fa) →
      s₁.heap.get? a = some { cls := .type "list", data := .seq vs.toArray } → IntsAre vs ns → ns.length ≤ n → s₁.gens = #[] →
      codeAny (model l.prog w) callerA (.call (.ref fa) ⟨[.ref a], []⟩) (fun r s' => r = .ok (.ret (.bool true)) ∧ OldK s₁.heap s'.heap ∧ s'.os = s₁.os ∧ AllBare s'.gens) s₁) :
    WalkO q loose XP YP l.row.toRowW d [] (fun f vs => PySem.call f vs) := by
  intro w s₀ s₁ mg mb G Y fa o pm cd doc dV kV ho hd hcd hD hmg hg args vals as hpre hlay hrd hwl hlo
  obtain rfl : dV = .none := Dflts.none hD hdf
  obtain rfl : kV = .none := Dflts.noKw hD
  obtain ⟨a, vs, ns, rfl, rfl, hobj, hints, hlen⟩ := script_of hn hpre hwl
  refine enter_call (codeAny_mono (call w s₀ s₁ mg mb fa o pm cd doc a vs ns G Y ho (fd_plain hd) hcd hmg hobj hints hlen hg) fun r s' hq => ?_)
  obtain ⟨rfl, h2, h3, h4⟩ := hq
  exact ⟨.inl ⟨.bool true, .bool true, [], rfl, fun _ => rfl, .bool true, post_true l _, fun _ => ⟨List.Pairwise.nil, fun _ hm => (nomatch hm)⟩⟩, h2, h3, h4⟩

section
variable {prog : Program} {w : World} {A : Around} {E : Value → Shared → Prop} {s : Shared} {K : Frag}

end
end Att

namespace L2
open PySem PySem.Spec PyProof.Rows

theorem vals_ints : ∀ {vs : List Value} {ns : List Int}, IntsAre vs ns → Vals (ns.map V.int) vs
  | _, _, .nil => .nil
  | _, _, .cons n t h => .cons ⟨t, rfl⟩ (vals_ints h)

/-- nothing is tracked but the script, known to the object (or it is an object of the module) -/
def Only (H : Hp) : Prop := ∀ b, H b = none ∨ ∃ o xs, H b = some (.frz o (.lst xs))

/-- THE HEAD: the law's promise, at the heap behind the top. F, the promise of the law's def, may use that base is part of the heap (so K.In base, base.Ns mainGlobals mg stand in Mod) -/
theorem law_call {P : Program} {w : World} {K : PySem.W.Frag} {mg mb : Str → Option Value} {CX : CXT} {k : Nat} {fa a : Addr} {fd : FuncData} {x : Str} {sp : Sp} {s₁ : Shared} {vs : List Value} {ns : List Int}
    (KX : K.In s₁.heap) (hns : s₁.heap.Ns mainGlobals mg) (hb : s₁.heap.Ns builtinsNs mb) (hbb : ∀ x : Str, x ≠ "__name__" → mb x = bootBuiltins x) (hlim : s₁.heap.NoLimit) (hg : s₁.gens = #[])
    (ha : s₁.heap.get? a = some { cls := .type "list", data := .seq vs.toArray }) (hi : IntsAre vs ns) (hl : ns.length ≤ sizeLine) (hr : Room k callerA)
    (F : ∀ base : Heap, K.In base → base.Ns mainGlobals mg → FnOk P w K mg base CX k fa fd [x] sp) (hbind : ∀ (s : Shared) (u : Value), BindsTo s fd ⟨[u], []⟩ [(x, u)])
    (hsp : ∀ H : Hp, Only H → SqL K H a (ns.map V.int) → sp [.ref a] H (fun v _ => v = .bl true) fun _ _ _ => False)
    (hCX : ∀ H e s', CX [] H s₁ (fun _ _ _ => False) e s' → False) :
    codeAny (model P w) callerA (.call (.ref fa) ⟨[.ref a], []⟩) (fun r s' => r = .ok (.ret (.bool true)) ∧ OldK s₁.heap s'.heap ∧ s'.os = s₁.os ∧ AllBare s'.gens) s₁ := by
  have rv := vals_ints hi
  have lenV := hi.length
  -- from an abstract heap in which nothing but the script may be tracked
  have core : ∀ H : Hp, Only H → SqL K H a (ns.map V.int) → HOk P w H s₁.heap → (∀ b, H b ≠ none → b = a) → (H a ≠ none → K.lookup a = none) →
      codeAny (model P w) callerA (.call (.ref fa) ⟨[.ref a], []⟩) (fun r s' => r = .ok (.ret (.bool true)) ∧ OldK s₁.heap s'.heap ∧ s'.os = s₁.os ∧ AllBare s'.gens) s₁ := by
    intro H hO hS hok hA hK
    have base_of : ∀ {b : Addr} {o : Obj}, s₁.heap.get? b = some o → H b = none → (hidT s₁.heap H).get? b = some o := fun e n => hidT_get e n
    have noA : ∀ {b : Addr} {o : Obj} {es : Array DictEntry} {ep : Nat}, s₁.heap.get? b = some o → o.data = .dict es ep → H b = none := fun {b o es ep} e d => by
      cases q : H b with
      | none => rfl
      | some u =>
        have e' : b = a := hA b (by rw [q]; simp)
        subst e'
        rw [ha] at e; cases e
        have d' : Data.seq vs.toArray _ = Data.dict es ep := d
        cases d'
    have nsK : ∀ {b : Addr} {m : Str → Option Value}, s₁.heap.Ns b m → (hidT s₁.heap H).Ns b m := fun {b m} ⟨o, es, ep, e, d, r⟩ => ⟨o, es, ep, base_of e (noA e d), d, r⟩
    have hKb : K.In (hidT s₁.heap H) := fun b o e => base_of (KX b o e) (by
      cases q : H b with
      | none => rfl
      | some u =>
        have e' : b = a := hA b (by rw [q]; simp)
        subst e'
        rw [hK (by rw [q]; simp)] at e; cases e)
    have hM : Mod K mg (hidT s₁.heap H) := ⟨hKb, nsK hns, ⟨mb, nsK hb, hbb⟩, let ⟨mc, h1, h2⟩ := hlim; ⟨mc, nsK h1, h2⟩⟩
    have e0 : Env0 P w K mg (hidT s₁.heap H) callerA [] s₁ H := ⟨rfl, hM, fun b o e => of_hidT e, Nat.le_of_eq (hidT_size _ _), trivial, fun b hb => absurd (show b ∈ ([] : List Addr) from hb) (by simp), hok, .of_eq hg⟩
    refine codeAny_mono ((F _ hKb (nsK hns)).run callerA [] s₁ H ⟨[.ref a], []⟩ [.ref a] [.ref a] _ _ hr e0 (hbind s₁ (.ref a)) (.cons rfl .nil) (hsp H hO hS)) fun r s' h => ?_
    cases r with
    | error e => exact (hCX H e s' h).elim
    | ok fl =>
      cases fl with
      | next => exact False.elim h
      | brk => exact False.elim h
      | cont => exact False.elim h
      | ret u =>
        obtain ⟨v, H', os, bare, un, hok', r', q⟩ := h
        have q' : v = .bl true := q
        subst q'
        obtain rfl : u = Value.bool true := r'
        refine ⟨rfl, OldK.of_keep fun b o e => ?_, os, bare⟩
        cases q : H b with
        | none => exact un.keep b o e q (by intro z; exact absurd (show b ∈ ([] : List Addr) from z) (by simp)) (by simp)
        | some u =>
          rcases hO b with z | ⟨ob, xs, z⟩
          · rw [q] at z; cases z
          · have z2 := un.frzs b ob _ z
            obtain ⟨e1, _⟩ := hok b _ z
            obtain ⟨e2, _⟩ := hok' b _ z2
            rw [e] at e1; cases e1
            exact e2
  cases hk : K.lookup a with
  | some o =>
    -- the script is one of the module's own objects
    have e := KX a o hk
    rw [ha] at e
    cases e
    refine core (fun _ => none) (fun _ => .inl rfl) (.inr ⟨_, vs.toArray, _, hk, rfl, rfl, rfl, by rw [List.size_toArray, lenV]; exact hl, by simpa using rv⟩) (fun b u z => by have z' : (none : Option HO) = some u := z; cases z') (fun b z => absurd rfl z) fun z => absurd rfl z
  | none =>
    refine core (fun b => if b = a then some (.frz { cls := .type "list", data := .seq vs.toArray } (.lst (ns.map V.int))) else none) (fun b => ?_) (.inl (.inr ⟨{ cls := .type "list", data := .seq vs.toArray }, if_pos rfl⟩)) (fun b u z => ?_) (fun b z => ?_) fun _ => hk
    · by_cases hb : b = a
      · exact .inr ⟨_, _, if_pos hb⟩
      · exact .inl (if_neg hb)
    · by_cases hb : b = a
      · have z' := (if_pos hb).symm.trans z
        cases z'
        subst hb
        exact ⟨ha, by rw [List.length_map]; exact hl, vs, _, rv, ha⟩
      · have z' := (if_neg hb).symm.trans z
        cases z'
    · by_cases hb : b = a
      · exact hb
      · exact absurd (if_neg hb) z
end L2

namespace L2
open PySem PySem.Spec PyProof.Rows

/-- the goal that k_head leaves (case hc), from the law's promise. F gives the function object fd (K's own) once, then the promise over every base -/
theorem walk_of {l : PySem.W.OpenLaw} {n k : Nat} {q : Program} {loose : List Str} {XP : (Str → Option Value) → Heap → Prop} {YP : World → Heap → Prop} {d : DefRec} {K : Params → PySem.W.Frag} {CX : World → CXT} {sp : World → Sp} {x : Str}
    (hn : l.most = some n) (hn2 : n ≤ sizeLine) (hdf : d.params.defaults = []) (hr : Room k callerA)
    (hY : ∀ (w : World) (h : Heap), YP w h → (K w.params).In h)
    (F : ∀ (w : World) (mg : Str → Option Value) (fa : Addr) (h : Heap), (K w.params).In h → h.Ns mainGlobals mg → mg d.name = some (.ref fa) →
      ∃ fd : FuncData, (∀ (s : Shared) (u : Value), BindsTo s fd ⟨[u], []⟩ [(x, u)]) ∧
        ∀ base : Heap, (K w.params).In base → base.Ns mainGlobals mg → FnOk l.prog w (K w.params) mg base (CX w) k fa fd [x] (sp w))
    (hsp : ∀ (w : World) (H : Hp) (a : Addr) (ns : List Int), ns.length ≤ n → Only H → SqL (K w.params) H a (ns.map V.int) → sp w [.ref a] H (fun v _ => v = .bl true) fun _ _ _ => False)
    (hCX : ∀ (w : World) (H : Hp) (s : Shared) (e : Value) (s' : Shared), CX w [] H s (fun _ _ _ => False) e s' → False) :
    PySem.W.WalkO q loose XP YP l.row.toRowW d [] (fun f vs => PySem.call f vs) := by
  refine Att.attach_call hn hdf fun w s₀ s₁ mg mb fa o pm cd doc a vs ns G Y ho hd hcd hmg hobj hints hlen hg => ?_
  have KX := hY w _ Y
  obtain ⟨fd, hb, hF⟩ := F w mg fa _ KX G.T.g hmg
  exact law_call KX G.T.g G.T.b G.T.builtins G.T.nolimit hg hobj hints (Nat.le_trans hlen hn2) hr hF hb (fun H hO hS => hsp w H a ns hlen hO hS) fun H e s' => hCX w H s₁ e s'
end L2

/- THE LAST THEOREM (shape; LID, My.* are yours):
   My.Adr: a structure of the addresses that your layer names (classes, functions); My.Txt K t: a structure (Prop) of the equations over K;
   My.txt_mk : {K} {implicit addresses ..} (e1 : nsIn K mainGlobals "law" = some (some (.ref f))) (e2 : K.lookup f = some ⟨oc, od, .func (fnOf "law" "law" params body scope dV kV doc pm an cdv ct), sl⟩) (e3 : codeIn K cdv "law" = true) .. : ∃ t, My.Txt K t

(the tactic k_is has no namespace: write k_is) -/

namespace L2
open PySem PySem.Spec PyProof.Rows

/-- the j-th statement of a class's body -/
def inClass (s : Stmt) (j : Nat) : Stmt := match s with
  | .ClassDef _ _ _ body _ _ _ _ _ _ _ => body.getD j (.Pass ⟨0, 0, 0, 0⟩)
  | _ => .Pass ⟨0, 0, 0, 0⟩
def defArgs (s : Stmt) : Arguments := match s with
  | .FunctionDef _ a _ _ _ _ _ _ _ _ => a
  | _ => { posonlyargs := [], args := [], vararg := none, kwonlyargs := [], kw_defaults := [], kwarg := none, defaults := [] }
def defBody (s : Stmt) : List Stmt := match s with
  | .FunctionDef _ _ b _ _ _ _ _ _ _ => b
  | _ => []
def defScope (s : Stmt) : Scope := match s with
  | .FunctionDef _ _ _ _ _ _ sc _ _ _ => sc
  | _ => { kind := .function, names := [], isGenerator := false, isCoroutine := false }

abbrev CX0 : CXT := fun _ _ _ _ _ _ => False
abbrev E0 : XK := fun _ _ _ => False
theorem pass0 {X : Cx} : Passes CX0 X E0 := fun _ _ _ _ _ _ _ h => h.elim

structure Fun (K : PySem.W.Frag) (x qual : Str) (st : Stmt) (f : Addr) (fd : FuncData) : Prop where
  ex : ∃ (oc : Value) (od : Option Addr) (kV doc pm : Value) (an : Option Addr) (cdv ct : Value) (osl : Array (Option Value)),
    fd = PySem.W.fnOf x qual (defArgs st) (defBody st) (defScope st) .none kV doc pm an cdv ct ∧ K.lookup f = some ⟨oc, od, .func fd, osl⟩ ∧ PySem.W.codeIn K cdv qual = true
  kp : PySem.W.keepIn K (.ref f) = true
section
variable {P : Program} {w : World} {K : PySem.W.Frag} {mg : Str → Option Value} {base : Heap}
/-- THE RULE for a def: its body as a term of rules, and the reading of that term -/
theorem Fun.ok {x qual : Str} {st : Stmt} {f : Addr} {fd : FuncData} {N ps : List Str} {k : Nat} {sp : Sp} (F : Fun K x qual st f fd) (S : FnScope N ps (defScope st)) (len : ∀ vs H Q E, sp vs H Q E → vs.length = ps.length)
    (hbody : ∀ (cdv : Value) (A : Around) (outer : List Env) (s : Shared) (H : Hp) (vs : List V) (Q : VK) (E : XK), Room k (A.deeper (envOfC qual (defScope st) s.heap.objs.size f cdv)) → sp vs H Q E →
      ∃ t, PSs (cxOf CX0 P w K mg base N qual (defScope st) f cdv A outer s H E).nox (defBody st) t ∧ t { nx := fun _ H' => Q .non H', rt := Q } (start N vs) H) : FnOk P w K mg base CX0 (k + 1) f fd ps sp := by
  obtain ⟨oc, od, kV, doc, pm, an, cdv, ct, osl, rfl, lk, hcd⟩ := F.ex
  refine fn_of lk hcd S len fun A outer s H vs Q E hr hsp => ?_
  obtain ⟨t, h, q⟩ := hbody cdv A outer s H vs Q E hr hsp
  exact ⟨t, h.nox, q⟩
/-- how its arguments bind (no defaults): h is «fun _ _ _ _ _ _ us hl => match us, hl with | [_, _], _ => rfl», one _ a parameter -/
theorem Fun.binds {x qual : Str} {st : Stmt} {f : Addr} {fd : FuncData} {ps : List Str} (F : Fun K x qual st f fd)
    (h : ∀ (kV doc pm : Value) (an : Option Addr) (cdv ct : Value) (us : List Value), us.length = ps.length → bindArgs (PySem.W.fnOf x qual (defArgs st) (defBody st) (defScope st) .none kV doc pm an cdv ct) ⟨us, []⟩ = pure (ps.zip us)) : Binds K fd ps [] := by
  obtain ⟨oc, od, kV, doc, pm, an, cdv, ct, osl, rfl, lk, hcd⟩ := F.ex
  exact .all (h kV doc pm an cdv ct)
theorem fun_mk {x qual : Str} {st : Stmt} {f : Addr} {oc : Value} {od an : Option Addr} {osl : Array (Option Value)} {kV doc pm cdv ct : Value} (l : K.lookup f = some ⟨oc, od, .func (PySem.W.fnOf x qual (defArgs st) (defBody st) (defScope st) .none kV doc pm an cdv ct), osl⟩)
    (c : PySem.W.codeIn K cdv qual = true) (k : PySem.W.keepIn K (.ref f) = true) : Fun K x qual st f (PySem.W.fnOf x qual (defArgs st) (defBody st) (defScope st) .none kV doc pm an cdv ct) := ⟨⟨oc, od, kV, doc, pm, an, cdv, ct, osl, rfl, l, c⟩, k⟩
end
theorem hu_of {A : Around} {k : Nat} (hr : Room k A) : A.units + 1 < cLine := Nat.lt_of_le_of_lt (Nat.add_le_add_left (by decide : 1 ≤ 64) _) hr.units
theorem small1000 {n : Nat} (h : n ≤ 1000) : n < sizeLine := Nat.lt_of_le_of_lt h (by decide)

section
variable {X : Cx}
theorem pv (i : Nat) {x : Str} {pos : Pos} (hN : X.N[i]? = some x := by rfl) (hv : Vis X.env.scope x := by first | exact Or.inl rfl | exact Or.inr (Or.inl rfl) | exact Or.inr (Or.inr rfl)) (hd : (x == ("__debug__" : Str)) = false := by decide)
    (hcd : (x == ("__classdict__" : Str)) = false := by decide) : PE X (.Name x pos) (tVar i) := pe_var hN hv hd hcd
end

/-- all that was tracked is as it was -/
def Same (H H' : Hp) : Prop := ∀ b o, H b = some o → H' b = some o
theorem Same.refl (H : Hp) : Same H H := fun _ _ h => h
theorem Same.trans {H H1 H2 : Hp} (a : Same H H1) (b : Same H1 H2) : Same H H2 := fun c o h => b c o (a c o h)
theorem Same.free {H H' : Hp} (e : Same H H') {l : Addr} (h : H' l = Option.none) : H l = Option.none := by
  cases q : H l with
  | none => rfl
  | some o =>
    rw [e l o q] at h
    cases h
theorem Same.seq {K : PySem.W.Frag} {H H' : Hp} {a : Addr} {xs : List V} (e : Same H H') (h : SqL K H a xs) : SqL K H' a xs := by
  rcases h with (h | ⟨o, h⟩) | h
  · exact .inl (.inl (e _ _ h))
  · exact .inl (.inr ⟨o, e _ _ h⟩)
  · exact .inr h

end L2

set_option Elab.async false
set_option linter.all false
set_option maxRecDepth 100000
set_option maxHeartbeats 4000000
namespace L2
open PySem PySem.Spec PyProof.Rows
structure Cal (P : Program) (w : World) (K : PySem.W.Frag) (mg : Str → Option Value) (base : Heap) (x : Str) (ps : List Str) (k : Nat) (sp : Sp) : Prop where
  ex : ∃ (f : Addr) (fd : FuncData), FnOk P w K mg base CX0 k f fd ps sp ∧ Binds K fd ps [] ∧ PySem.W.keepIn K (.ref f) = true ∧ mg x = some (.ref f)
theorem pe_cal {X : Cx} {x : Str} {ps : List Str} {k : Nat} {sp : Sp} {e : Expr} {es : List Expr} {t : TA} {p pos : Pos} (C : Cal X.prog X.w X.K X.mg X.base x ps k sp) (hr : Room k X.A) (hg : Gl X x) (ha : PA X (e :: es) t)
    (hdb : (x == ("__debug__" : Str)) = false := by decide) (he : starEach (e :: es) X.env = (false, eval e X.env) :: starEach es X.env := by rfl) (hpl : (backTo pos (starEach es X.env)).any (·.1) = false := by rfl) :
    PE X (.Call (.Name x p) (e :: es) [] pos) (tCall sp [] E0 t) := by
  obtain ⟨f, fd, F, b, hk, hm⟩ := C.ex
  exact pe_call F hr hg hm hk b .nil pass0 ha hdb he hpl
def subN (n T : String) : Bool := n == T || (n == "bool" && T == "int")
def tyN (H : Hp) (x : V) (n : String) : Prop := match x with
  | .bl _ => n = "bool"
  | .int _ => n = "int"
  | .str _ => n = "str"
  | .ref a => (n = "list" ∧ ∃ xs, H a = some (.lst xs)) ∨ (n = "tuple" ∧ ∃ xs, H a = some (.tup xs))
  | _ => False
theorem tyN_int {H : Hp} {i : Int} {n : String} : tyN H (.int i) n = (n = "int") := rfl
theorem tyN_bl {H : Hp} {i : Bool} {n : String} : tyN H (.bl i) n = (n = "bool") := rfl
theorem tyN_str {H : Hp} {i : Str} {n : String} : tyN H (.str i) n = (n = "str") := rfl
theorem tyN_ref {H : Hp} {a : Addr} {n : String} : tyN H (.ref a) n = ((n = "list" ∧ ∃ xs, H a = some (.lst xs)) ∨ (n = "tuple" ∧ ∃ xs, H a = some (.tup xs))) := rfl
def okT (T : String) : Prop := T = "int" ∨ T = "bool" ∨ T = "str" ∨ T = "list" ∨ T = "tuple"
theorem kit_sub {K : PySem.W.Frag} {n T : String} (hn : okT n) (hT : okT T) : PySem.W.kitOne K (.type n) (.type T) = some (subN n T) := by
  rcases hn with rfl | rfl | rfl | rfl | rfl <;> rcases hT with rfl | rfl | rfl | rfl | rfl <;> rfl
theorem tyN_of {K : PySem.W.Frag} {H : Hp} {x : V} {n : String} (h : tyN H x n) : TyOf K H x (.type n) ∧ okT n := by
  cases x with
  | bl b => cases (show n = "bool" from h); exact ⟨.bl b, by simp [okT]⟩
  | int i => cases (show n = "int" from h); exact ⟨.int i, by simp [okT]⟩
  | str i => cases (show n = "str" from h); exact ⟨.str i, by simp [okT]⟩
  | ref a =>
    rcases (show (n = "list" ∧ ∃ xs, H a = some (.lst xs)) ∨ (n = "tuple" ∧ ∃ xs, H a = some (.tup xs)) from h) with ⟨rfl, xs, e⟩ | ⟨rfl, xs, e⟩
    · exact ⟨.lst e, by simp [okT]⟩
    · exact ⟨.tup e, by simp [okT]⟩
  | _ => exact False.elim h
theorem okT_int : okT "int" := by simp [okT]
theorem okT_bool : okT "bool" := by simp [okT]
theorem okT_str : okT "str" := by simp [okT]
theorem okT_list : okT "list" := by simp [okT]
theorem okT_tuple : okT "tuple" := by simp [okT]
theorem subN_ii : subN "int" "int" = true := rfl
theorem subN_ib : subN "int" "bool" = false := rfl
theorem subN_bb : subN "bool" "bool" = true := rfl
theorem subN_bi : subN "bool" "int" = true := rfl
theorem subN_ss : subN "str" "str" = true := rfl
theorem subN_ll : subN "list" "list" = true := rfl
theorem subN_tt : subN "tuple" "tuple" = true := rfl
def rIsi : List V → Hp → VK → Prop := fun xs H Q => ∃ x T n, xs = [x, .ty T] ∧ okT T ∧ tyN H x n ∧ Q (.bl (subN n T)) H
theorem call_isi {X : Cx} : CallR X (.builtin "isinstance") rIsi := by
  intro pins s σ H xs us Q I r h
  obtain ⟨x, T, n, rfl, hT, ty, q⟩ := h
  obtain ⟨u, u', rfl, rx, rT⟩ := vals2 r
  obtain rfl : u' = Value.type T := rT
  obtain ⟨ty', hn⟩ := tyN_of (K := X.K) ty
  exact isinst_ok I rx ty' (kit_sub hn hT) fun tk => ⟨.bl _, H, I.tok _, rfl, q⟩
theorem scal_ii {i j : Int} : scal (.int i) (.int j) = true := rfl
theorem scal_bb {i j : Bool} : scal (.bl i) (.bl j) = true := rfl
theorem scal_ss {i j : Str} : scal (.str i) (.str j) = true := rfl
theorem tEqI' {i j : Int} : decide (V.int i = V.int j) = decide (i = j) := by
  by_cases h : i = j
  · subst h; simp
  · have : ¬ V.int i = V.int j := fun e => h (V.int.inj e)
    simp [h, this]
def tCut (t u : TS) : TS := fun D σ H => ∃ R : St → Hp → Prop, t { D with nx := R } σ H ∧ ∀ σ' H', R σ' H' → u D σ' H'
theorem pss_cut {X : Cx} {st : Stmt} {rest : List Stmt} {t u : TS} (h1 : PS X st t) (h2 : PSs X rest u) : PSs X (st :: rest) (tCut t u) := by
  intro pins s σ H D I h
  obtain ⟨R, ha, hb⟩ := h
  refine wpAny_execs_cons (thn (h1 pins s σ H { D with nx := R } I ha) fun f s1 q => ?_)
  cases f with
  | next =>
    obtain ⟨σ', H', I', q⟩ := q
    exact h2 pins s1 σ' H' D I' (hb σ' H' q)
  | ret v => exact q
  | brk => exact q
  | cont => exact q
theorem cut_of {t u : TS} {D : Ends} {σ : St} {H : Hp} (R : St → Hp → Prop) (h1 : t { D with nx := R } σ H) (h2 : ∀ σ' H', R σ' H' → u D σ' H') : tCut t u D σ H := ⟨R, h1, h2⟩
theorem for_rangeW {lo : Int} {n : Nat} {σ : St} {H : Hp} {DN : St → Hp → Prop} {B : (St → Hp → Prop) → V → St → Hp → Prop} (Pv : Nat → St → Hp → Prop) (h0 : Pv 0 σ H)
    (hs : ∀ i σ H, i < n → Pv i σ H → B (Pv (i + 1)) (.int (lo + i)) σ H) (hd : ∀ σ H, Pv n σ H → DN σ H) :
    ∃ W : Nat → Nat → St → Hp → Prop, (∃ m, W 0 m σ H) ∧ ∀ i m σ H, W i m σ H →
      ((Itr lo n).stop i H ∧ DN σ H) ∨ ((Itr lo n).go i H ∧ ∃ N : St → Hp → Prop, (∀ σ' H', N σ' H' → ∃ m', m' < m ∧ W (i + 1) m' σ' H') ∧ ∀ x H', (Itr lo n).yld i H x H' → B N x σ H') := by
  refine ⟨fun i m σ H => m = n - i ∧ i ≤ n ∧ Pv i σ H, ⟨n, by simp, Nat.zero_le _, h0⟩, ?_⟩
  rintro i m σ H ⟨rfl, hi, p⟩
  by_cases hlt : i < n
  · refine .inr ⟨hlt, Pv (i + 1), fun σ' H' p' => ⟨n - (i + 1), by omega, rfl, hlt, p'⟩, fun x H' y => ?_⟩
    obtain ⟨e, y⟩ := y
    subst e y
    exact hs i σ _ hlt p
  · have e : i = n := by lia
    subst e
    exact .inl ⟨Nat.le_refl _, hd σ H p⟩
theorem for_listW {K : PySem.W.Frag} {a : Addr} {xs : List V} {σ : St} {H : Hp} {DN : St → Hp → Prop} {B : (St → Hp → Prop) → V → St → Hp → Prop} (Pv : Nat → St → Hp → Prop) (h0 : Pv 0 σ H)
    (hl : ∀ i σ H, i ≤ xs.length → Pv i σ H → SqL K H a xs)
    (hs : ∀ i x σ H, xs[i]? = some x → Pv i σ H → B (Pv (i + 1)) x σ H) (hd : ∀ σ H, Pv xs.length σ H → DN σ H) :
    ∃ W : Nat → Nat → St → Hp → Prop, (∃ m, W 0 m σ H) ∧ ∀ i m σ H, W i m σ H →
      ((Itl K a).stop i H ∧ DN σ H) ∨ ((Itl K a).go i H ∧ ∃ N : St → Hp → Prop, (∀ σ' H', N σ' H' → ∃ m', m' < m ∧ W (i + 1) m' σ' H') ∧ ∀ x H', (Itl K a).yld i H x H' → B N x σ H') := by
  refine ⟨fun i m σ H => m = xs.length - i ∧ i ≤ xs.length ∧ Pv i σ H, ⟨xs.length, by simp, Nat.zero_le _, h0⟩, ?_⟩
  rintro i m σ H ⟨rfl, hi, p⟩
  have q := hl i σ H hi p
  by_cases hlt : i < xs.length
  · refine .inr ⟨⟨xs, xs[i], q, by simp [hlt]⟩, Pv (i + 1), fun σ' H' p' => ⟨xs.length - (i + 1), by omega, rfl, hlt, p'⟩, fun x H' y => ?_⟩
    obtain ⟨e, y⟩ := y
    subst e
    exact hs i x σ _ (y xs q) p
  · have e : i = xs.length := by lia
    subst e
    exact .inl ⟨⟨xs, q, Nat.le_refl _⟩, hd σ H p⟩
theorem for_tupW {K : PySem.W.Frag} {a : Addr} {xs : List V} {σ : St} {H : Hp} {DN : St → Hp → Prop} {B : (St → Hp → Prop) → V → St → Hp → Prop} (Pv : Nat → St → Hp → Prop) (h0 : Pv 0 σ H)
    (hl : ∀ i σ H, i ≤ xs.length → Pv i σ H → SqT K H a xs)
    (hs : ∀ i x σ H, xs[i]? = some x → Pv i σ H → B (Pv (i + 1)) x σ H) (hd : ∀ σ H, Pv xs.length σ H → DN σ H) :
    ∃ W : Nat → Nat → St → Hp → Prop, (∃ m, W 0 m σ H) ∧ ∀ i m σ H, W i m σ H →
      ((Itt K a).stop i H ∧ DN σ H) ∨ ((Itt K a).go i H ∧ ∃ N : St → Hp → Prop, (∀ σ' H', N σ' H' → ∃ m', m' < m ∧ W (i + 1) m' σ' H') ∧ ∀ x H', (Itt K a).yld i H x H' → B N x σ H') := by
  refine ⟨fun i m σ H => m = xs.length - i ∧ i ≤ xs.length ∧ Pv i σ H, ⟨xs.length, by simp, Nat.zero_le _, h0⟩, ?_⟩
  rintro i m σ H ⟨rfl, hi, p⟩
  have q := hl i σ H hi p
  by_cases hlt : i < xs.length
  · refine .inr ⟨⟨xs, xs[i], q, by simp [hlt]⟩, Pv (i + 1), fun σ' H' p' => ⟨xs.length - (i + 1), by omega, rfl, hlt, p'⟩, fun x H' y => ?_⟩
    obtain ⟨e, y⟩ := y
    subst e
    exact hs i x σ _ (y xs q) p
  · have e : i = xs.length := by lia
    subst e
    exact .inl ⟨⟨xs, q, Nat.le_refl _⟩, hd σ H p⟩
end L2

set_option Elab.async false
set_option linter.all false
set_option maxRecDepth 100000
set_option maxHeartbeats 4000000
namespace L2
open PySem PySem.Spec PyProof.Rows
def clStep (env : Env) (cs : List (Str × Addr)) (y : Str × NameKind) : List (Str × Addr) := if y.2 == .free then (y.1, (env.cells.lookup y.1).getD 0) :: cs else cs
def clOf (names : List (Str × NameKind)) (env : Env) : List (Str × Addr) := names.foldl (clStep env) []
theorem closure_go {env : Env} : ∀ (names : List (Str × NameKind)) (acc : List (Str × Addr)), (∀ y ∈ names, y.2 = .free → ∃ c, env.cells.lookup y.1 = some c) →
    (forIn names acc fun (x : Str × NameKind) (cs : List (Str × Addr)) => if (x.2 == NameKind.free) = true then (do let a ← cellOf env x.1; pure (ForInStep.yield ((x.1, a) :: cs))) else (pure (ForInStep.yield cs) : Sem (ForInStep (List (Str × Addr))))) = pure (names.foldl (clStep env) acc)
  | [], _, _ => rfl
  | y :: r, acc, h => by
    have ih := closure_go (env := env) r
    rw [List.forIn_cons]
    by_cases hk : y.2 = .free
    · obtain ⟨c, hc⟩ := h y List.mem_cons_self hk
      have hb : (y.2 == NameKind.free) = true := by rw [hk]; rfl
      have e : cellOf env y.1 = pure c := by unfold cellOf; rw [hc]
      rw [if_pos hb, e]
      show (forIn r ((y.1, c) :: acc) _ : Sem _) = _
      rw [ih _ fun z hz => h z (List.mem_cons_of_mem _ hz), List.foldl_cons]
      show _ = pure (r.foldl (clStep env) (if (y.2 == NameKind.free) = true then (y.1, (env.cells.lookup y.1).getD 0) :: acc else acc))
      rw [if_pos hb, hc]; rfl
    · have hb : ¬ (y.2 == NameKind.free) = true := by simpa using hk
      rw [if_neg hb]
      show (forIn r acc _ : Sem _) = _
      rw [ih _ fun z hz => h z (List.mem_cons_of_mem _ hz), List.foldl_cons]
      show _ = pure (r.foldl (clStep env) (if (y.2 == NameKind.free) = true then (y.1, (env.cells.lookup y.1).getD 0) :: acc else acc))
      rw [if_neg hb]
theorem closure_is {scope : Scope} {env : Env} (h : ∀ y ∈ scope.names, y.2 = .free → ∃ c, env.cells.lookup y.1 = some c) : closureFor scope env = pure (clOf scope.names env) := by
  have e := closure_go scope.names [] h
  unfold closureFor clOf
  refine Eq.trans ?_ (congrArg (fun t => t >>= fun (r : List (Str × Addr)) => (pure r : Sem (List (Str × Addr)))) e)
  rfl
theorem mem_cl {env : Env} : ∀ {names : List (Str × NameKind)} {acc : List (Str × Addr)} {p : Str × Addr}, p ∈ names.foldl (clStep env) acc → p ∈ acc ∨ ((p.1, NameKind.free) ∈ names ∧ p.2 = (env.cells.lookup p.1).getD 0)
  | [], _, _, h => .inl h
  | y :: r, acc, p, h => by
    rw [List.foldl_cons] at h
    rcases mem_cl h with h | ⟨h, e⟩
    · unfold clStep at h
      split at h
      · rename_i hk
        rcases List.mem_cons.mp h with rfl | h
        · have : y.2 = .free := by simpa using hk
          exact .inr ⟨by rw [← this]; exact List.mem_cons_self, rfl⟩
        · exact .inl h
      · exact .inl h
    · exact .inr ⟨List.mem_cons_of_mem _ h, e⟩
theorem cl_mem {env : Env} {x : Str} : ∀ {names : List (Str × NameKind)} {acc : List (Str × Addr)}, ((∃ c, (x, c) ∈ acc) ∨ (x, NameKind.free) ∈ names) → ∃ c, (x, c) ∈ names.foldl (clStep env) acc
  | [], _, h => by
    rcases h with h | h
    · exact h
    · cases h
  | y :: r, acc, h => by
    rw [List.foldl_cons]
    refine cl_mem ?_
    rcases h with ⟨c, h⟩ | h
    · refine .inl ⟨c, ?_⟩
      unfold clStep
      split
      · exact List.mem_cons_of_mem _ h
      · exact h
    · rcases List.mem_cons.mp h with rfl | h
      · refine .inl ⟨(env.cells.lookup x).getD 0, ?_⟩
        unfold clStep
        exact List.mem_cons_self
      · exact .inr h
theorem lookup_some_of_mem {x : Str} {c : Addr} : ∀ {l : List (Str × Addr)}, (x, c) ∈ l → ∃ c', l.lookup x = some c'
  | [], h => by cases h
  | (y, d) :: r, h => by
    rw [List.lookup_cons]
    by_cases e : x == y
    · rw [e]; exact ⟨d, rfl⟩
    · have e' : (x == y) = false := by simpa using e
      rw [e']
      rcases List.mem_cons.mp h with z | z
      · cases z; simp at e
      · exact lookup_some_of_mem z

def Cx.comp (X : Cx) (scope : Scope) (N' : List Str) (s₀ : Shared) (H₀ : Hp) (fp : List Addr) (C : Addr) : Cx where
  prog := X.prog
  w := X.w
  K := X.K
  mg := X.mg
  base := X.base
  A := X.A
  N := N'
  s₀ := s₀
  H₀ := H₀
  env := compEnvC scope (clOf scope.names X.env) C X.env
  outer := X.stack
  stack := X.stack
  ex := fp
  fn := fun _ => false
  calm := X.calm
  pn := []
  xe := fun _ _ => False
/-- what is asked of the scopes (all by rfl) -/
structure CompSc (X : Cx) (scope : Scope) (N' own fnames : List Str) (fr : List Nat) : Prop where
  kind : scope.kind = .function
  nocell : (scope.names.all fun y => y.2 != .cell) = true
  free : (scope.names.all fun y => y.2 != .free || X.env.kindOf y.1 == some .cell) = true
  loc : (scope.names.all fun y => y.2 != .local || scope.names.lookup y.1 == some .local) = true
  fn : (fnames.all fun x => X.env.kindOf x == some .cell && (relabel scope X.env).names.lookup x == some .cell) = true
  N : N' = own ++ fnames
  fr : fr.map (fun j => X.N[j]?) = fnames.map some
/-- the block's first names: its own are unset, the free ones as they stand -/
def compSt (k : Nat) (fr : List Nat) (σ : St) : St := List.replicate k none ++ fr.map fun j => (σ[j]?).getD none

/-- the tests of a comprehension -/
def PTs (X : Cx) (ifs : List Expr) (t : TT) : Prop :=
  ∀ (pins : List (Addr × Obj)) (s : Shared) (σ : St) (H : Hp) (Q : Bool → Hp → Prop), Inv X pins σ H s → t σ H Q →
    wpAny (model X.prog X.w) X.A (forIn ifs true fun c r => if r = true then do let ok ← isTrue c X.env (eval c X.env); pure (ForInStep.yield ok) else pure (ForInStep.yield r)) (TP X pins σ Q) X.xe s
def tTrue : TT := fun _ H Q => Q true H
theorem pts_nil {X : Cx} : PTs X [] tTrue := fun pins s σ H Q I h => wpAny_pure ⟨H, I, h⟩
theorem pts_one {X : Cx} {c : Expr} {t : TT} (hc : PT X c t) : PTs X [c] t := by
  intro pins s σ H Q I h
  rw [List.forIn_cons]
  refine wpAny_bind ?_
  rw [if_pos rfl]
  refine wpAny_bind (thn (hc pins s σ H Q I h) fun b s1 q => wpAny_pure ?_)
  exact wpAny_pure q

section
variable {X : Cx} {scope : Scope} {N' own fnames : List Str} {fr : List Nat} {pins : List (Addr × Obj)} {σ : St} {H : Hp} {s₃ : Shared} {fp : List Addr}
theorem CompSc.has (S : CompSc X scope N' own fnames fr) (ok : X.Ok) : ∀ y ∈ scope.names, y.2 = .free → ∃ c, X.env.cells.lookup y.1 = some c := fun y hy hf => by
  have h := List.all_eq_true.mp S.free y hy
  rw [hf] at h
  exact ok.has _ (.inl (by simpa using h))
theorem CompSc.cell (S : CompSc X scope N' own fnames fr) (ok : X.Ok) {y : Str} {c : Addr} (h : (clOf scope.names X.env).lookup y = some c) : X.env.cells.lookup y = some c := by
  rcases mem_cl (PySem.mem_of_lookup h) with z | ⟨z, e⟩
  · cases z
  · obtain ⟨d, hd⟩ := S.has ok _ z rfl
    have hd' : X.env.cells.lookup y = some d := hd
    have e' : c = (X.env.cells.lookup y).getD 0 := e
    rw [hd'] at e'
    rw [hd', e']; rfl
theorem mem_of_lookupK {x : Str} {k : NameKind} : ∀ {l : List (Str × NameKind)}, l.lookup x = some k → (x, k) ∈ l
  | [], h => by simp at h
  | (y, d) :: r, h => by
    rw [List.lookup_cons] at h
    by_cases e : x == y
    · rw [e] at h
      have e1 : x = y := by simpa using e
      cases h; subst e1
      exact List.mem_cons_self
    · have e' : (x == y) = false := by simpa using e
      rw [e'] at h
      exact List.mem_cons_of_mem _ (mem_of_lookupK h)
theorem CompSc.names (S : CompSc X scope N' own fnames fr) {y : Str} {k : NameKind} (h : (relabel scope X.env).names.lookup y = some k) (hk : k = .cell ∨ k = .free) : (y, NameKind.free) ∈ scope.names := by
  have hm := mem_of_lookupK h
  unfold relabel at hm
  obtain ⟨⟨n, k0⟩, hn, e⟩ := List.mem_map.mp hm
  dsimp only at e
  split at e
  · rename_i hc
    have : k0 = .free := by
      simp only [Bool.and_eq_true, beq_iff_eq] at hc
      exact hc.1.1
    cases e; subst this; exact hn
  · cases e
    rcases hk with rfl | rfl
    · have := List.all_eq_true.mp S.nocell _ hn
      simp at this
    · exact hn
/-- the block's context is in order -/
theorem comp_ok {C : Addr} (S : CompSc X scope N' own fnames fr) (I : Inv X pins σ H s₃) (hC : s₃.heap.objs.size ≤ C) (hf : ∀ b ∈ fp, FpOk X pins H b) (hlt : ∀ b ∈ fp, b < s₃.heap.objs.size) : (X.comp scope N' s₃ H fp C).Ok := by
  have cellI : ∀ y c, (clOf scope.names X.env).lookup y = some c → X.env.cells.lookup y = some c := fun y c h => S.cell I.ok h
  refine ⟨I.ok.mod, S.kind, I.ok.glob, I.ok.blt, hC, fun x y c h1 h2 => I.ok.inj x y c (cellI x c h1) (cellI y c h2), fun x hx => ?_, fun x c h => (by cases h), I.ok.hd, I.ok.frames, .inl rfl, fun b hb => ⟨?_, fun x c h => (hf b hb).2.2.2.2.1 x c (cellI x c h)⟩, fun b o e => I.bs b o e, Nat.le_trans I.ok.bsz I.sz, fun b o e hb => ?_, fun b hb hb' => ?_, I.stack, I.stkFree⟩
  · have hm : (x, NameKind.free) ∈ scope.names := by
      rcases hx with h | h
      · exact S.names (show (relabel scope X.env).names.lookup x = some .cell from h) (.inl rfl)
      · exact S.names (show (relabel scope X.env).names.lookup x = some .free from h) (.inr rfl)
    obtain ⟨c, hc⟩ := cl_mem (env := X.env) (acc := []) (.inr hm)
    exact lookup_some_of_mem hc
  · intro z
    have h1 := hlt b hb
    have z' : b = C := z
    rw [z'] at h1
    exact absurd (Nat.lt_of_lt_of_le h1 hC) (Nat.lt_irrefl _)
  · obtain ⟨_, _, _, h3, _⟩ := hf b hb
    rcases h3 with h3 | h3
    · exact I.ok.noex b o e h3
    · exact absurd (Nat.lt_of_lt_of_le (Heap.lt_size e) (Nat.le_trans I.ok.bsz h3)) (Nat.lt_irrefl _)
  · obtain ⟨_, h1, h2, _⟩ := hf b hb
    rcases List.mem_cons.mp (I.stkSub b hb') with z | z
    · exact h1 z
    · exact h2 z
theorem comp_start {h₄ : Heap} {t₄ : Nat} {m : Str → Option Value} (S : CompSc X scope N' own fnames fr) (I : Inv X pins σ H s₃) (hf : ∀ b ∈ fp, FpOk X pins H b) (hlt : ∀ b ∈ fp, b < s₃.heap.objs.size)
    (k : ∀ b o, s₃.heap.get? b = some o → h₄.get? b = some o) (hn : h₄.Ns s₃.heap.objs.size m) :
    Inv (X.comp scope N' s₃ H fp s₃.heap.objs.size) [] (compSt own.length fr σ) H { s₃ with heap := h₄, toks := t₄ } := by
  have hlen : fr.length = fnames.length := by simpa using congrArg List.length S.fr
  refine ⟨comp_ok S I (Nat.le_refl _) hf hlt, rfl, I.bare, Un.kept k, ⟨m, hn, fun i x v e1 e2 e3 => ?_⟩, fun y c h => ?_, I.hok.fresh (Nat.le_refl _), fun y c h => I.freeC y c (S.cell I.ok h), fun p hp => absurd (show p ∈ ([] : List (Addr × Obj)) from hp) (by simp), I.hok.kept k, ?_⟩
  · have e1' : (own ++ fnames)[i]? = some x := by rw [← S.N]; exact e1
    have hi : own.length ≤ i := by
      refine Nat.le_of_not_lt fun z => ?_
      unfold compSt at e2
      rw [List.getElem?_append_left (by simpa using z), List.getElem?_replicate, if_pos z] at e2
      cases e2
    unfold compSt at e2
    rw [List.getElem?_append_right (by simpa using hi), List.length_replicate, List.getElem?_map] at e2
    rw [List.getElem?_append_right hi] at e1'
    cases q : fr[i - own.length]? with
    | none => rw [q] at e2; cases e2
    | some t =>
      rw [q] at e2
      have e2' : (σ[t]?).getD none = some v := Option.some.inj e2
      have hσ : σ[t]? = some (some v) := by
        cases z : σ[t]? with
        | none => rw [z] at e2'; cases e2'
        | some o => rw [z] at e2'; exact congrArg some e2'
      have hN : X.N[t]? = some x := by
        have z := congrArg (fun l => l[i - own.length]?) S.fr
        simp only [List.getElem?_map, q, e1', Option.map_some] at z
        exact Option.some.inj z
      have hx : x ∈ fnames := List.mem_of_getElem? e1'
      have hk := List.all_eq_true.mp S.fn x hx
      simp only [Bool.and_eq_true, beq_iff_eq] at hk
      obtain ⟨mX, _, hl⟩ := I.loc
      obtain ⟨u, r, l⟩ := hl t x v hN hσ (.inr (.inl hk.1))
      refine ⟨u, r, ?_⟩
      rcases l with ⟨kl, _⟩ | ⟨_, c, hc, o, ho, hd⟩
      · rw [hk.1] at kl; cases kl
      · obtain ⟨d, hd'⟩ := cl_mem (env := X.env) (acc := []) (.inr (S.names hk.2 (.inl rfl)))
        obtain ⟨c', hc'⟩ := lookup_some_of_mem hd'
        have z := S.cell I.ok hc'
        rw [hc] at z
        cases z
        exact .inr ⟨.inl hk.2, c, hc', o, k c o ho, hd⟩
  · obtain ⟨v, o, ho, hd⟩ := I.cell y c (S.cell I.ok h)
    exact ⟨v, o, k c o ho, hd⟩
  · unfold compSt
    show _ = N'.length
    rw [S.N, List.length_append, List.length_append, List.length_replicate, List.length_map, hlen]

/-- the block: what is wanted of its turns -/
def tBlk (k : Nat) (fr : List Nat) (g : TG) (tt : TT) (te : TE) (J : It) (σ : St) (H1 : Hp) (Q : VK) : Prop :=
  ∀ D, H1 D = none → ∃ W : Nat → Nat → St → Hp → Prop, (∃ m, W 0 m (compSt k fr σ) (upd H1 D (.lst []))) ∧ ∀ i m σ' H', W i m σ' H' →
    (J.stop i H' ∧ Q (.ref D) H') ∨ (J.go i H' ∧ ∃ N : St → Hp → Prop, (∀ σ2 H2, N σ2 H2 → ∃ m', m' < m ∧ W (i + 1) m' σ2 H2) ∧ ∀ x H2, J.yld i H' x H2 →
      g x σ' H2 fun σ2 H3 => tt σ2 H3 fun b H4 => if b = true then te σ2 H4 fun v H5 => ∃ xs, H5 D = some (.lst xs) ∧ xs.length < sizeLine ∧ N σ2 (upd H5 D (.lst (xs ++ [v]))) else N σ2 H4)
def tComp (wi : TI) (k : Nat) (fr : List Nat) (g : TG) (tt : TT) (te : TE) : TE := fun σ H Q => wi σ H fun J H1 => tBlk k fr g tt te J σ H1 Q

theorem comp_run {elt tg iter : Expr} {ifs : List Expr} {pos : Pos} {g : TG} {tt : TT} {te : TE} {s₂ : Shared} {H2 : Hp} {J : It} {it : Addr} {tn : Nat → Heap → Prop} {RR : Value → Addr → Result → Shared → Prop} {E : Value → Shared → Prop} {Q : VK}
    (S : CompSc X scope N' own fnames fr) (hc : X.calm = true)
    (hb : ∀ (s₀ : Shared) (H₀ : Hp) (fp : List Addr) (C : Addr), PG (X.comp scope N' s₀ H₀ fp C) tg g ∧ PTs (X.comp scope N' s₀ H₀ fp C) ifs tt ∧ PE (X.comp scope N' s₀ H₀ fp C) elt te)
    (I2 : Inv X pins σ H2 s₂) (T : Turn X.prog X.w X.K tg J fp it tn) (st2 : tn 0 s₂.heap) (f2 : ∀ b ∈ fp, FpOk X pins H2 b) (hq : tBlk own.length fr g tt te J σ H2 Q)
    (hRR : ∀ D C H' s', Inv X pins σ H' s' → (∃ m, s'.heap.Ns C m) → FpOk X pins H' C → Q (.ref D) H' → RR (.ref D) C (.ok .next) s') :
    wpAny (model X.prog X.w) X.A (newList []) (fun acc s₃ => wpAny (model X.prog X.w) X.A (newFunctionEnv scope X.env.globals (clOf scope.names X.env) [] X.env.qual none .none (some X.env)) (fun cenv s₄ =>
      codeAny (model X.prog X.w) X.A (.compStart (.ListComp elt [⟨tg, iter, ifs, 0⟩] scope pos) 0 (.ref it) acc { cenv with scope := relabel scope X.env }) (RR acc cenv.locals) s₄) E s₃) E s₂ := by
  have nocell : ∀ y ∈ scope.names, y.2 ≠ .cell := fun y hy z => by
    have := List.all_eq_true.mp S.nocell y hy
    rw [z] at this
    simp at this
  refine wpAny_newObj_type (wpAny_newFunctionEnv nocell (by intro y hy; simp at hy) (fun h₁ hns₁ hsb₁ => ?_) S.kind)
  have hlt2 : ∀ b ∈ fp, b < s₂.heap.objs.size := fun b hb' => by
    obtain ⟨o, e, _⟩ := T.obj _ _ st2 b hb'
    exact Heap.lt_size e
  have I3 : Inv X pins σ (upd H2 s₂.heap.objs.size (.lst [])) { s₂ with heap := s₂.heap.push { cls := .type "list", data := .seq ([] : List Value).toArray }, toks := s₂.toks } := I2.lnew (its := []) (ys := []) .nil (Nat.zero_le _)
  have hD : H2 s₂.heap.objs.size = none := I2.fresh
  obtain ⟨W, ⟨m0, w0⟩, turn⟩ := hq _ hD
  generalize hs3 : ({ s₂ with heap := s₂.heap.push { cls := .type "list", data := .seq ([] : List Value).toArray }, toks := s₂.toks } : Shared) = s₃ at I3
  have eh : s₃.heap = s₂.heap.push { cls := .type "list", data := .seq ([] : List Value).toArray } := by rw [← hs3]
  have hsz : s₃.heap.objs.size = s₂.heap.objs.size + 1 := by rw [eh, Heap.size_push]
  have f3 : ∀ b ∈ fp, FpOk X pins (upd H2 s₂.heap.objs.size (.lst [])) b := fun b hb' => by
    refine ⟨?_, (f2 b hb').2⟩
    rw [upd_ne (Nat.ne_of_lt (hlt2 b hb'))]
    exact (f2 b hb').1
  have hlt3 : ∀ b ∈ fp, b < s₃.heap.objs.size := fun b hb' => by rw [hsz]; exact Nat.lt_succ_of_lt (hlt2 b hb')
  have old : ∀ b o, s₃.heap.get? b = some o → h₁.get? b = some o := fun b o e => by
    have hb1 : b ≠ s₃.heap.objs.size := Nat.ne_of_lt (Heap.lt_size e)
    refine hsb₁.extBut b o ?_ ?_
    · show b ≠ (s₂.heap.push _).objs.size
      rw [← eh]; exact hb1
    · show (Heap.push (s₂.heap.push _) _).get? b = some o
      rw [← eh]
      exact Heap.get?_push_of_some _ e
  have hns : ∃ m, h₁.Ns s₃.heap.objs.size m := ⟨_, by rw [eh]; exact hns₁⟩
  obtain ⟨m1, hns⟩ := hns
  have I4 : Inv (X.comp scope N' s₃ (upd H2 s₂.heap.objs.size (.lst [])) fp s₃.heap.objs.size) [] (compSt own.length fr σ) (upd H2 s₂.heap.objs.size (.lst [])) { s₃ with heap := h₁, toks := s₂.toks + ([] : List (Str × Value)).length } :=
    comp_start S I3 f3 hlt3 old hns
  have st4 : tn 0 h₁ := T.keep _ _ _ st2 fun b hb' o e => old b o (by rw [eh]; exact Heap.get?_push_of_some _ e)
  obtain ⟨hpg, hpt, hpe⟩ := hb s₃ (upd H2 s₂.heap.objs.size (.lst [])) fp s₃.heap.objs.size
  have fpok : ∀ {H' : Hp}, (∀ b ∈ fp, H' b = none) → ∀ b ∈ fp, FpOk (X.comp scope N' s₃ (upd H2 s₂.heap.objs.size (.lst [])) fp s₃.heap.objs.size) [] H' b := fun hn b hb' =>
    ⟨hn b hb', fun z => by
        have h1 := hlt3 b hb'
        have z' : b = s₃.heap.objs.size := z
        rw [z'] at h1
        exact absurd h1 (Nat.lt_irrefl _), fun z => I4.ok.exfs b hb' z, .inl hb', fun x c e => (I4.ok.exf b hb').2 x c e, fun p hp => absurd (show p ∈ ([] : List (Addr × Obj)) from hp) (by simp)⟩
  have loop : ∀ s4 : Shared, s4 = { s₃ with heap := h₁, toks := s₂.toks + ([] : List (Str × Value)).length } →
      codeAny (model X.prog X.w) X.A (.compLoop (.ListComp elt [⟨tg, iter, ifs, 0⟩] scope pos) 0 (.ref it) (.ref s₂.heap.objs.size) (compEnvC scope (clOf scope.names X.env) s₃.heap.objs.size X.env)) (RR (.ref s₂.heap.objs.size) s₃.heap.objs.size) s4 := by
    rintro s4 rfl
    refine codeAny_loop rfl (fun n s => ∃ i σ' H', Inv (X.comp scope N' s₃ (upd H2 s₂.heap.objs.size (.lst [])) fp s₃.heap.objs.size) [] σ' H' s ∧ tn i s.heap ∧ (∀ b ∈ fp, H' b = none) ∧ W i n σ' H') ?_ m0
      ⟨0, _, _, I4, st4, fun b hb' => (f3 b hb').1, w0⟩
    rintro n s5 ⟨i, σ5, H5, I5, st5, fr5, w5⟩
    show wpAny _ X.A ((compTurn (.ListComp elt [⟨tg, iter, ifs, 0⟩] scope pos) 0 (.ref it) (.ref s₂.heap.objs.size) (compEnvC scope (clOf scope.names X.env) s₃.heap.objs.size X.env)).onRaise (fun x => do noteFrame x (compEnvC scope (clOf scope.names X.env) s₃.heap.objs.size X.env); theTreesLotGoes x)) _ _ s5
    refine wpAny_noted ?_
    rw [compTurn_list]
    refine wpAny_bind (wpAny_standAt (wpAny_bind ?_))
    rcases turn i n σ5 H5 w5 with ⟨stop, q⟩ | ⟨go, N, hN, step⟩
    · refine wpAny_mono (T.done (X.comp scope N' s₃ (upd H2 s₂.heap.objs.size (.lst [])) fp s₃.heap.objs.size) rfl rfl rfl hc i [] s5 σ5 H5 (fun _ _ => False) I5 (fpok fr5) st5 stop) (fun r s6 hr => ?_) fun _ _ z => z.elim
      obtain ⟨rfl, I6⟩ := hr
      refine wpAny_pure ?_
      obtain ⟨m6, hn6, _⟩ := id I6.loc
      have I7 : Inv X pins σ H5 s6 := I3.call' (ch := fp) I6.os I6.base I6.hok I6.bare fun b hb' => by
        obtain ⟨_, h1, _, h3, h4, h5⟩ := f3 b hb'
        exact ⟨h3, h1, h4, h5⟩
      exact hRR _ _ H5 s6 I7 ⟨m6, hn6⟩ (I3.fpOk (Nat.le_refl _) I6.free) q
    · refine wpAny_mono (T.item (X.comp scope N' s₃ (upd H2 s₂.heap.objs.size (.lst [])) fp s₃.heap.objs.size) rfl rfl rfl hc i [] s5 σ5 H5 (fun _ _ => False) I5 (fpok fr5) st5 go) (fun r s6 hr => ?_) fun _ _ z => z.elim
      obtain ⟨u, rfl, h6⟩ := hr
      refine wpAny_bind (wpAny_mono h6 (fun _ s7 h7 => ?_) fun _ _ z => z.elim)
      obtain ⟨x, H7, I7, r7, y7, st7, fr7⟩ := h7
      have I7' := I7.pinned (fpok fr7) (T.obj _ _ st7)
      refine wpAny_bind (wpAny_mono (hpg _ s7 σ5 H7 x u _ I7' r7 (step x H7 y7)) (fun _ s8 h8 => ?_) fun _ _ z => z.elim)
      obtain ⟨σ8, H8, I8, q8⟩ := h8
      have again' : ∀ {σ9 : St} {H9 : Hp} {s9 : Shared}, Inv (X.comp scope N' s₃ (upd H2 s₂.heap.objs.size (.lst [])) fp s₃.heap.objs.size) ([] ++ pinsAt fp s7.heap) σ9 H9 s9 → N σ9 H9 →
          ∃ m, m < n ∧ ∃ i σ' H', Inv (X.comp scope N' s₃ (upd H2 s₂.heap.objs.size (.lst [])) fp s₃.heap.objs.size) [] σ' H' s9 ∧ tn i s9.heap ∧ (∀ b ∈ fp, H' b = none) ∧ W i m σ' H' := fun {σ9 H9 s9} I9 n9 => by
        obtain ⟨m', hm, w9⟩ := hN σ9 H9 n9
        refine ⟨m', hm, i + 1, σ9, H9, I9.unpinned, T.keep _ _ _ st7 fun b hb' o e => (I9.pin (b, o) (List.mem_append_right _ (List.mem_append_right _ (mem_pinsAt hb' e)))).1, fun b hb' => ?_, w9⟩
        obtain ⟨o, e, d⟩ := T.obj _ _ st7 b hb'
        exact (I9.pin (b, o) (List.mem_append_right _ (List.mem_append_right _ (mem_pinsAt hb' e)))).2.1
      refine wpAny_bind (wpAny_mono (hpt _ s8 σ8 H8 _ I8 q8) (fun b s9 h9 => ?_) fun _ _ z => z.elim)
      obtain ⟨H9, I9, q9⟩ := h9
      cases b with
      | false =>
        rw [if_neg Bool.false_ne_true] at q9
        exact wpAny_pure ⟨rfl, again' I9 q9⟩
      | true =>
        rw [if_pos rfl] at q9
        refine wpAny_bind (wpAny_bind (wpAny_mono (hpe _ s9 σ8 H9 _ I9 q9) (fun v s10 h10 => ?_) fun _ _ z => z.elim))
        obtain ⟨y, H10, I10, r10, xs, hx, hz, q10⟩ := h10
        refine wpAny_bind (wpAny_mono (mt_append (X := X.comp scope N' s₃ (upd H2 s₂.heap.objs.size (.lst [])) fp s₃.heap.objs.size) _ s10 σ8 H10 (.ref s₂.heap.objs.size) [y] (.ref s₂.heap.objs.size) [v] (fun _ H' => N σ8 H') I10 rfl (.cons r10 .nil) ⟨_, xs, y, rfl, rfl, hx, hz, q10⟩) (fun r s11 h11 => ?_) fun _ _ z => z.elim)
        obtain ⟨_, H11, I11, _, q11⟩ := h11
        exact wpAny_pure (wpAny_pure ⟨rfl, again' I11 q11⟩)
  have e3 : ({ s₂ with heap := s₂.heap.push { cls := .type "list", data := .seq ([] : List Value).toArray } } : Shared) = s₃ := hs3
  have go4 := codeAny_compStart_list (loop _ rfl) (T.self X.A 0 _ _ _ st4 (loop _ rfl))
  subst hs3
  exact go4
theorem pe_comp {elt tg iter : Expr} {ifs : List Expr} {pos : Pos} {wi : TI} {g : TG} {tt : TT} {te : TE} (S : CompSc X scope N' own fnames fr) (hc : X.calm = true) (hi : PI X tg iter wi)
    (hb : ∀ (s₀ : Shared) (H₀ : Hp) (fp : List Addr) (C : Addr), PG (X.comp scope N' s₀ H₀ fp C) tg g ∧ PTs (X.comp scope N' s₀ H₀ fp C) ifs tt ∧ PE (X.comp scope N' s₀ H₀ fp C) elt te)
    (hs : ∀ x, foldedSetIterable iter X.env x = pure x := by intro _; rfl) : PE X (.ListComp elt [⟨tg, iter, ifs, 0⟩] scope pos) (tComp wi own.length fr g tt te) := by
  intro pins s σ H Q I h
  rw [eval_ListComp]
  refine wpAny_comprehension_free (use := none) rfl hs (closure_is (S.has I.ok)) S.kind (fun y hy hl => ?_) (wpAny_mono (hi pins s σ H _ I h) (fun xv s₁ h₁ => wpAny_mono h₁ (fun itv s₂ h₂ => ?_) fun _ _ e => e) fun _ _ e => e)
  · have := List.all_eq_true.mp S.loc y hy
    rw [hl] at this
    simpa using this
  · obtain ⟨it, fp, tn, J, H2, rfl, I2, T, st2, f2, q2⟩ := h₂
    refine comp_run S hc hb I2 T st2 f2 q2 (RR := fun acc C => compPost (model X.prog X.w) X.A X.xe none (EP X pins σ Q) acc C) fun D C H' s' I' hn fC q => ?_
    obtain ⟨m, hn⟩ := hn
    obtain ⟨f0, f1, f2', f3, f4, f5⟩ := fC
    exact ⟨m, hn, fun h' hs' => ⟨.ref D, H', I'.turned (t' := s'.toks) (fun b o hb' e => (hs'.2 b hb').trans e) f0 f1 f3 f4 f5, rfl, q⟩⟩
/-- x = [..]: the name is stored ahead of the block's end -/
theorem ps_comp {i : Nat} {x : Str} {pos' spos : Pos} {elt tg iter : Expr} {ifs : List Expr} {pos : Pos} {wi : TI} {g : TG} {tt : TT} {te : TE} (hN : X.N.Nodup) (hi' : X.N[i]? = some x) (hx : X.env.scope.names.lookup x = some .local) (S : CompSc X scope N' own fnames fr) (hc : X.calm = true) (hi : PI X tg iter wi)
    (hb : ∀ (s₀ : Shared) (H₀ : Hp) (fp : List Addr) (C : Addr), PG (X.comp scope N' s₀ H₀ fp C) tg g ∧ PTs (X.comp scope N' s₀ H₀ fp C) ifs tt ∧ PE (X.comp scope N' s₀ H₀ fp C) elt te)
    (hsw : swapsWith (.ListComp elt [⟨tg, iter, ifs, 0⟩] scope pos) (some (.Name x pos')) spos.line X.env = pure true := by rfl)
    (hs : ∀ x, foldedSetIterable iter X.env x = pure x := by intro _; rfl) : PS X (.Assign [.Name x pos'] (.ListComp elt [⟨tg, iter, ifs, 0⟩] scope pos) spos) (tAsg (tComp wi own.length fr g tt te) (gName i)) := by
  intro pins s σ H D I h
  rw [exec_Assign_Name_used _ _ _ _ hsw]
  refine wpAny_bind (wpAny_standAt (wpAny_bind ?_))
  show wpAny _ X.A (do let _ ← comprehension (.ListComp elt [⟨tg, iter, ifs, 0⟩] scope pos) scope X.env _ (newList []) false (eval iter X.env) (some (assign (.Name x pos') X.env))) _ _ s
  refine wpAny_bind (wpAny_mono (wpAny_comprehension_free (use := some (assign (.Name x pos') X.env)) (Q := fun _ s' => SP X pins D .next s') rfl hs (closure_is (S.has I.ok)) S.kind (fun y hy hl => ?_)
    (wpAny_mono (hi pins s σ H _ I h) (fun xv s₁ h₁ => wpAny_mono h₁ (fun itv s₂ h₂ => ?_) fun _ _ e => e) fun _ _ e => e)) (fun _ s' hq => wpAny_pure (wpAny_pure hq)) fun _ _ e => e)
  · have := List.all_eq_true.mp S.loc y hy
    rw [hl] at this
    simpa using this
  · obtain ⟨it, fp, tn, J, H2, rfl, I2, T, st2, f2, q2⟩ := h₂
    refine comp_run S hc hb I2 T st2 f2 q2 (RR := fun acc C => compPost (model X.prog X.w) X.A X.xe (some (assign (.Name x pos') X.env)) (fun _ s' => SP X pins D .next s') acc C) fun D' C H' s' I' hn fC q => ?_
    obtain ⟨m, hn⟩ := hn
    obtain ⟨f0, f1, f2', f3, f4, f5⟩ := fC
    show wpAny _ X.A (assign (.Name x pos') X.env (.ref D')) _ _ _
    refine wpAny_assign_Name (store_ok2 I' hN hi' (.inl hx) (v := .ref D') rfl (fun s'' I'' hch => ?_) (.inr hx))
    obtain ⟨a, hsa, hca⟩ := hch
    have hCa : C ≠ a := by
      rcases hca with z | z
      · rw [z]; exact f1
      · exact fun e => f4 x a z e.symm
    refine ⟨m, hn.sameBut hsa hCa, fun h' hs' => ⟨_, H', I''.turned (t' := s''.toks) (fun b o hb' e => (hs'.2 b hb').trans e) f0 f1 f3 f4 f5, q⟩⟩
end
end L2

set_option Elab.async false
set_option linter.all false
set_option maxRecDepth 100000
set_option maxHeartbeats 4000000
namespace L2
open PySem PySem.Spec PyProof.Rows
inductive DV where
  | int (i : Int) | bl (b : Bool) | str (x : Str) | non | lst (xs : List DV) | tup (xs : List DV)
def Den (K : PySem.W.Frag) (H : Hp) : Nat → V → DV → Prop
  | _, .int i, .int j => i = j
  | _, .bl i, .bl j => i = j
  | _, .str i, .str j => i = j
  | _, .non, .non => True
  | n + 1, .ref a, .lst ds => ∃ xs, SqL K H a xs ∧ Paired (Den K H n) xs ds
  | n + 1, .ref a, .tup ds => ∃ xs, SqT K H a xs ∧ Paired (Den K H n) xs ds
  | _, _, _ => False
/-- two data that are compared place by place -/
def Like : Nat → DV → DV → Prop
  | _, .int _, .int _ => True
  | _, .bl _, .bl _ => True
  | _, .str _, .str _ => True
  | _, .non, .non => True
  | n + 1, .lst ds, .lst es => ds.length = es.length → ∀ (i : Nat) d e, ds[i]? = some d → es[i]? = some e → Like n d e
  | n + 1, .tup ds, .tup es => ∀ (i : Nat) d e, ds[i]? = some d → es[i]? = some e → Like n d e
  | _, _, _ => False
theorem Paired.get' {α β : Type} {F : α → β → Prop} : ∀ {xs : List α} {ys : List β} {i : Nat} {x : α}, Paired F xs ys → xs[i]? = some x → ∃ y, ys[i]? = some y ∧ F x y
  | _, _, _, _, .nil, e => by simp at e
  | _, _, 0, _, .cons r _, e => by simp at e; subst e; exact ⟨_, rfl, r⟩
  | _, _, i + 1, x, .cons _ t, e => by
    obtain ⟨u, h1, h2⟩ := Paired.get' (i := i) (x := x) t (by simpa using e)
    exact ⟨u, by simpa using h1, h2⟩
section
variable {X : Cx} {pins : List (Addr × Obj)} {σ : St} {H : Hp} {s : Shared}
theorem paired_inj {α β : Type} {F : α → β → Prop} (hF : ∀ x d e, F x d → F x e → d = e) : ∀ {xs : List α} {ds es : List β}, Paired F xs ds → Paired F xs es → ds = es
  | _, _, _, .nil, .nil => rfl
  | _, _, _, .cons a b, .cons c d => by rw [hF _ _ _ a c, paired_inj hF b d]
theorem not_both (I : Inv X pins σ H s) {a : Addr} {xs ys : List V} (h : SqL X.K H a xs) (h' : SqT X.K H a ys) : False := by
  obtain ⟨its, _, ⟨o, n, e, c, _⟩, _⟩ := I.list h
  obtain ⟨its', _, ⟨o', e', c', _⟩, _⟩ := I.tuple h'
  rw [e] at e'; cases e'
  rw [c] at c'
  exact absurd c' (by decide)
theorem den_inj (I : Inv X pins σ H s) : ∀ (n : Nat) (x : V) (d e : DV), Den X.K H n x d → Den X.K H n x e → d = e := by
  intro n
  induction n with
  | zero =>
    intro x d e h1 h2
    cases x <;> cases d <;> simp only [Den] at h1 <;> cases e <;> simp only [Den] at h2 <;> first | rfl | (subst h1; subst h2; rfl)
  | succ n ih =>
    intro x d e h1 h2
    cases x with
    | ref a =>
      cases d with
      | lst ds =>
        obtain ⟨xs, hs, hp⟩ : ∃ xs, SqL X.K H a xs ∧ Paired (Den X.K H n) xs ds := h1
        cases e with
        | lst es =>
          obtain ⟨ys, hs', hp'⟩ : ∃ xs, SqL X.K H a xs ∧ Paired (Den X.K H n) xs es := h2
          rw [I.list_inj hs' hs] at hp'
          rw [paired_inj ih hp hp']
        | tup es =>
          obtain ⟨ys, hs', hp'⟩ : ∃ xs, SqT X.K H a xs ∧ Paired (Den X.K H n) xs es := h2
          exact (not_both I hs hs').elim
        | _ => exact False.elim h2
      | tup ds =>
        obtain ⟨xs, hs, hp⟩ : ∃ xs, SqT X.K H a xs ∧ Paired (Den X.K H n) xs ds := h1
        cases e with
        | tup es =>
          obtain ⟨ys, hs', hp'⟩ : ∃ xs, SqT X.K H a xs ∧ Paired (Den X.K H n) xs es := h2
          rw [I.tuple_inj hs' hs] at hp'
          rw [paired_inj ih hp hp']
        | lst es =>
          obtain ⟨ys, hs', hp'⟩ : ∃ xs, SqL X.K H a xs ∧ Paired (Den X.K H n) xs es := h2
          exact (not_both I hs' hs).elim
        | _ => exact False.elim h2
      | _ => exact False.elim h1
    | int i => cases d <;> simp only [Den] at h1 <;> cases e <;> simp only [Den] at h2 <;> (subst h1; subst h2; rfl)
    | bl i => cases d <;> simp only [Den] at h1 <;> cases e <;> simp only [Den] at h2 <;> (subst h1; subst h2; rfl)
    | str i => cases d <;> simp only [Den] at h1 <;> cases e <;> simp only [Den] at h2 <;> (subst h1; subst h2; rfl)
    | non => cases d <;> simp only [Den] at h1 <;> cases e <;> simp only [Den] at h2 <;> rfl
    | _ => cases d <;> exact False.elim h1
open Classical in
/-- the answer of == -/
noncomputable def eqD (d e : DV) : Bool := decide (d = e)
theorem eqD_same (d : DV) : eqD d d = true := by simp [eqD]
theorem all_places {ds es : List DV} (h : ds.length = es.length) : ((List.range ds.length).all fun j => eqD (ds[j]?.getD (.int 0)) (es[j]?.getD (.int 0))) = eqD (.lst ds) (.lst es) := by
  rw [Bool.eq_iff_iff]
  simp only [List.all_eq_true, List.mem_range, eqD, decide_eq_true_eq, DV.lst.injEq]
  constructor
  · intro hj
    refine List.ext_getElem? fun i => ?_
    by_cases hi : i < ds.length
    · have := hj i hi
      rw [List.getElem?_eq_getElem hi, List.getElem?_eq_getElem (by lia : i < es.length)] at this ⊢
      simpa using this
    · rw [List.getElem?_eq_none (by lia), List.getElem?_eq_none (by lia)]
  · rintro rfl j _
    rfl
theorem all_placesT {ds es : List DV} : (((List.range (min ds.length es.length)).all fun j => eqD (ds[j]?.getD (.int 0)) (es[j]?.getD (.int 0))) && ds.length == es.length) = eqD (.tup ds) (.tup es) := by
  by_cases h : ds.length = es.length
  · have e : eqD (.tup ds) (.tup es) = eqD (.lst ds) (.lst es) := by simp [eqD]
    rw [e, ← all_places h, h]
    simp [h]
  · have : ¬ ds = es := fun e => h (congrArg List.length e)
    have e : eqD (.tup ds) (.tup es) = false := by simp [eqD, this]
    rw [e]
    simp [h]
theorem eqAt_D (I : Inv X pins σ H s) : ∀ (n : Nat) (A : Around) (x y : V) (d e : DV) (u v : Value), Den X.K H n x d → Den X.K H n y e → Like n d e → RelV x u → RelV y v → A.units + n < cLine → SeqAt.EqAt A s u v (eqD d e) := by
  intro n
  have leaf : ∀ (n : Nat) (A : Around) (x y : V) (d e : DV) (u v : Value), (∀ a, x ≠ .ref a) → Den X.K H n x d → Den X.K H n y e → Like n d e → RelV x u → RelV y v → SeqAt.EqAt A s u v (eqD d e) := by
    intro n A x y d e u v hx h1 h2 hl r1 r2
    cases x with
    | ref a => exact absurd rfl (hx a)
    | non =>
      cases d <;> simp only [Den] at h1
      cases e <;> simp only [Like] at hl
      cases y <;> simp only [Den] at h2
      cases r1
      cases r2
      rw [eqD_same]
      exact SeqAt.EqAt.same _
    | int i =>
      cases d <;> simp only [Den] at h1
      subst h1
      cases e <;> simp only [Like] at hl
      cases y <;> simp only [Den] at h2
      subst h2
      obtain ⟨t, rfl⟩ := r1
      obtain ⟨t', rfl⟩ := r2
      rename_i j
      have e1 : eqD (.int i) (.int j) = (i == j) := by
        rw [Bool.eq_iff_iff]; simp [eqD]
      rw [e1]
      exact SeqAt.EqAt.int_int i t j t'
    | bl i =>
      cases d <;> simp only [Den] at h1
      subst h1
      cases e <;> simp only [Like] at hl
      cases y <;> simp only [Den] at h2
      subst h2
      cases r1
      cases r2
      rename_i j
      have e1 : eqD (.bl i) (.bl j) = (i == j) := by
        rw [Bool.eq_iff_iff]; simp [eqD]
      rw [e1]
      exact SeqAt.EqAt.bool_bool i j
    | str i =>
      cases d <;> simp only [Den] at h1
      subst h1
      cases e <;> simp only [Like] at hl
      cases y <;> simp only [Den] at h2
      subst h2
      obtain ⟨t, rfl⟩ := r1
      obtain ⟨t', rfl⟩ := r2
      rename_i j
      have e1 : eqD (.str i) (.str j) = (i == j) := by
        rw [Bool.eq_iff_iff]; simp [eqD]
      rw [e1]
      exact SeqAt.EqAt.str_str i t j t'
    | _ => cases n <;> cases d <;> exact False.elim h1
  induction n with
  | zero =>
    intro A x y d e u v h1 h2 hl r1 r2 hu
    refine leaf 0 A x y d e u v (fun a z => ?_) h1 h2 hl r1 r2
    subst z
    cases d <;> exact False.elim h1
  | succ n ih =>
    intro A x y d e u v h1 h2 hl r1 r2 hu
    cases x with
    | ref a =>
      cases r1
      cases d with
      | lst ds =>
        obtain ⟨xs, hs, hp⟩ : ∃ xs, SqL X.K H a xs ∧ Paired (Den X.K H n) xs ds := h1
        cases e with
        | lst es =>
          cases y with
          | ref b =>
            cases r2
            obtain ⟨ys, hs', hp'⟩ : ∃ xs, SqL X.K H b xs ∧ Paired (Den X.K H n) xs es := h2
            by_cases hab : a = b
            · subst hab
              rw [I.list_inj hs' hs] at hp'
              rw [paired_inj (den_inj I n) hp hp', eqD_same]
              exact SeqAt.EqAt.same _
            · refine SeqAt.EqAt.of_refs hab ?_
              obtain ⟨its, ri, pl, _⟩ := I.list hs
              obtain ⟨its', ri', pl', _⟩ := I.list hs'
              have l1 := ri.length
              have l2 := ri'.length
              have l3 : xs.length = ds.length := Paired.length hp
              have l4 : ys.length = es.length := Paired.length hp'
              by_cases hlen : ds.length = es.length
              · rw [← all_places hlen]
                have hsz : its.toArray.size = its'.toArray.size := by rw [List.size_toArray, List.size_toArray]; lia
                have := SeqAt.RcAt.lists (e := fun j => eqD (ds[j]?.getD (.int 0)) (es[j]?.getD (.int 0))) pl.isList pl'.isList hsz (by lia : A.units < cLine) (fun j h1' h2' => ?_)
                · rw [List.size_toArray, ← l1, l3] at this
                  exact this
                · rw [List.size_toArray] at h1' h2'
                  have hj1 : xs[j]? = some xs[j] := List.getElem?_eq_getElem (by lia)
                  have hj2 : ys[j]? = some ys[j] := List.getElem?_eq_getElem (by lia)
                  obtain ⟨d', hd, hdd⟩ := Paired.get' hp hj1
                  obtain ⟨e', he, hee⟩ := Paired.get' hp' hj2
                  obtain ⟨u', hu', ru'⟩ := ri.get hj1
                  obtain ⟨v', hv', rv'⟩ := ri'.get hj2
                  have eu : its.toArray[j] = u' := by
                    have : its[j]? = some its[j] := List.getElem?_eq_getElem h1'
                    rw [this] at hu'; simpa using Option.some.inj hu'
                  have ev : its'.toArray[j] = v' := by
                    have : its'[j]? = some its'[j] := List.getElem?_eq_getElem h2'
                    rw [this] at hv'; simpa using Option.some.inj hv'
                  rw [eu, ev, hd, he]
                  exact ih A.in1 _ _ d' e' u' v' hdd hee (hl hlen j d' e' hd he) ru' rv' (by show A.units + 1 + n < cLine; lia)
              · have hne : ¬ ds = es := fun z => hlen (congrArg List.length z)
                have e1 : eqD (.lst ds) (.lst es) = false := by simp [eqD, hne]
                rw [e1]
                exact SeqAt.RcAt.lists_lengths pl.isList pl'.isList (by simp only [List.size_toArray, bne_iff_ne, ne_eq]; lia) (by lia)
          | _ => exact False.elim h2
        | _ => exact False.elim hl
      | tup ds =>
        obtain ⟨xs, hs, hp⟩ : ∃ xs, SqT X.K H a xs ∧ Paired (Den X.K H n) xs ds := h1
        cases e with
        | tup es =>
          cases y with
          | ref b =>
            cases r2
            obtain ⟨ys, hs', hp'⟩ : ∃ xs, SqT X.K H b xs ∧ Paired (Den X.K H n) xs es := h2
            by_cases hab : a = b
            · subst hab
              rw [I.tuple_inj hs' hs] at hp'
              rw [paired_inj (den_inj I n) hp hp', eqD_same]
              exact SeqAt.EqAt.same _
            · refine SeqAt.EqAt.of_refs hab ?_
              obtain ⟨its, ri, pl, _⟩ := I.tuple hs
              obtain ⟨its', ri', pl', _⟩ := I.tuple hs'
              have l1 := ri.length
              have l2 := ri'.length
              have l3 : xs.length = ds.length := Paired.length hp
              have l4 : ys.length = es.length := Paired.length hp'
              rw [← all_placesT]
              have := SeqAt.RcAt.tuples (e := fun j => eqD (ds[j]?.getD (.int 0)) (es[j]?.getD (.int 0))) (show s.heap.IsTuple a its.toArray from pl) (show s.heap.IsTuple b its'.toArray from pl') (by lia : A.units < cLine) (fun j h1' h2' => ?_)
              · rw [List.size_toArray, List.size_toArray, ← l1, l3, ← l2, l4] at this
                exact this
              · rw [List.size_toArray] at h1' h2'
                have hj1 : xs[j]? = some xs[j] := List.getElem?_eq_getElem (by lia)
                have hj2 : ys[j]? = some ys[j] := List.getElem?_eq_getElem (by lia)
                obtain ⟨d', hd, hdd⟩ := Paired.get' hp hj1
                obtain ⟨e', he, hee⟩ := Paired.get' hp' hj2
                obtain ⟨u', hu', ru'⟩ := ri.get hj1
                obtain ⟨v', hv', rv'⟩ := ri'.get hj2
                have eu : its.toArray[j] = u' := by
                  have : its[j]? = some its[j] := List.getElem?_eq_getElem h1'
                  rw [this] at hu'; simpa using Option.some.inj hu'
                have ev : its'.toArray[j] = v' := by
                  have : its'[j]? = some its'[j] := List.getElem?_eq_getElem h2'
                  rw [this] at hv'; simpa using Option.some.inj hv'
                rw [eu, ev, hd, he]
                exact ih A.in1 _ _ d' e' u' v' hdd hee (hl j d' e' hd he) ru' rv' (by show A.units + 1 + n < cLine; lia)
          | _ => exact False.elim h2
        | _ => exact False.elim hl
      | _ => exact False.elim h1
    | int i => exact leaf (n + 1) A (.int i) y d e u v (fun _ z => nomatch z) h1 h2 hl r1 r2
    | bl i => exact leaf (n + 1) A (.bl i) y d e u v (fun _ z => nomatch z) h1 h2 hl r1 r2
    | str i => exact leaf (n + 1) A (.str i) y d e u v (fun _ z => nomatch z) h1 h2 hl r1 r2
    | non => exact leaf (n + 1) A .non y d e u v (fun _ z => nomatch z) h1 h2 hl r1 r2
    | _ => cases d <;> exact False.elim h1
end
section
variable {X : Cx} {pins : List (Addr × Obj)} {σ : St} {H : Hp} {s : Shared}
theorem rc_lists (I : Inv X pins σ H s) {n : Nat} {A : Around} {a b : Addr} {ds es : List DV} (h1 : Den X.K H (n + 1) (.ref a) (.lst ds)) (h2 : Den X.K H (n + 1) (.ref b) (.lst es)) (hl : Like (n + 1) (.lst ds) (.lst es)) (hu : A.units + n + 1 < cLine) :
    SeqAt.RcAt A s (.ref a) (.ref b) (eqD (.lst ds) (.lst es)) ∧ SeqAt.RcNeAt A s (.ref a) (.ref b) (!eqD (.lst ds) (.lst es)) := by
  obtain ⟨xs, hs, hp⟩ : ∃ xs, SqL X.K H a xs ∧ Paired (Den X.K H n) xs ds := h1
  obtain ⟨ys, hs', hp'⟩ : ∃ xs, SqL X.K H b xs ∧ Paired (Den X.K H n) xs es := h2
  obtain ⟨its, ri, pl, _⟩ := I.list hs
  obtain ⟨its', ri', pl', _⟩ := I.list hs'
  have l1 := ri.length
  have l2 := ri'.length
  have l3 : xs.length = ds.length := Paired.length hp
  have l4 : ys.length = es.length := Paired.length hp'
  have go : ∀ j (h1' : j < its.toArray.size) (h2' : j < its'.toArray.size), ds.length = es.length → SeqAt.EqAt A.in1 s its.toArray[j] its'.toArray[j] (eqD (ds[j]?.getD (.int 0)) (es[j]?.getD (.int 0))) := fun j h1' h2' hlen => by
    rw [List.size_toArray] at h1' h2'
    have hj1 : xs[j]? = some xs[j] := List.getElem?_eq_getElem (by lia)
    have hj2 : ys[j]? = some ys[j] := List.getElem?_eq_getElem (by lia)
    obtain ⟨d', hd, hdd⟩ := Paired.get' hp hj1
    obtain ⟨e', he, hee⟩ := Paired.get' hp' hj2
    obtain ⟨u', hu', ru'⟩ := ri.get hj1
    obtain ⟨v', hv', rv'⟩ := ri'.get hj2
    have eu : its.toArray[j] = u' := by
      have : its[j]? = some its[j] := List.getElem?_eq_getElem h1'
      rw [this] at hu'; simpa using Option.some.inj hu'
    have ev : its'.toArray[j] = v' := by
      have : its'[j]? = some its'[j] := List.getElem?_eq_getElem h2'
      rw [this] at hv'; simpa using Option.some.inj hv'
    rw [eu, ev, hd, he]
    exact eqAt_D I n A.in1 _ _ d' e' u' v' hdd hee (hl hlen j d' e' hd he) ru' rv' (by show A.units + 1 + n < cLine; lia)
  by_cases hlen : ds.length = es.length
  · rw [← all_places hlen]
    have hsz : its.toArray.size = its'.toArray.size := by rw [List.size_toArray, List.size_toArray]; lia
    have r1 := SeqAt.RcAt.lists (e := fun j => eqD (ds[j]?.getD (.int 0)) (es[j]?.getD (.int 0))) pl.isList pl'.isList hsz (by lia : A.units < cLine) (fun j h1' h2' => go j h1' h2' hlen)
    have r2 := SeqAt.RcNeAt.lists (e := fun j => eqD (ds[j]?.getD (.int 0)) (es[j]?.getD (.int 0))) pl.isList pl'.isList hsz (by lia : A.units < cLine) (fun j h1' h2' => go j h1' h2' hlen)
    rw [List.size_toArray, ← l1, l3] at r1 r2
    exact ⟨r1, r2⟩
  · have hne : ¬ ds = es := fun z => hlen (congrArg List.length z)
    have e1 : eqD (.lst ds) (.lst es) = false := by simp [eqD, hne]
    rw [e1]
    exact ⟨SeqAt.RcAt.lists_lengths pl.isList pl'.isList (by simp only [List.size_toArray, bne_iff_ne, ne_eq]; lia) (by lia), SeqAt.RcNeAt.lists_lengths pl.isList pl'.isList (by simp only [List.size_toArray, bne_iff_ne, ne_eq]; lia) (by lia)⟩
theorem rc_tuples (I : Inv X pins σ H s) {n : Nat} {A : Around} {a b : Addr} {ds es : List DV} (h1 : Den X.K H (n + 1) (.ref a) (.tup ds)) (h2 : Den X.K H (n + 1) (.ref b) (.tup es)) (hl : Like (n + 1) (.tup ds) (.tup es)) (hu : A.units + n + 1 < cLine) :
    SeqAt.RcAt A s (.ref a) (.ref b) (eqD (.tup ds) (.tup es)) ∧ SeqAt.RcNeAt A s (.ref a) (.ref b) (!eqD (.tup ds) (.tup es)) := by
  obtain ⟨xs, hs, hp⟩ : ∃ xs, SqT X.K H a xs ∧ Paired (Den X.K H n) xs ds := h1
  obtain ⟨ys, hs', hp'⟩ : ∃ xs, SqT X.K H b xs ∧ Paired (Den X.K H n) xs es := h2
  obtain ⟨its, ri, pl, _⟩ := I.tuple hs
  obtain ⟨its', ri', pl', _⟩ := I.tuple hs'
  have l1 := ri.length
  have l2 := ri'.length
  have l3 : xs.length = ds.length := Paired.length hp
  have l4 : ys.length = es.length := Paired.length hp'
  have go : ∀ j (h1' : j < its.toArray.size) (h2' : j < its'.toArray.size), SeqAt.EqAt A.in1 s its.toArray[j] its'.toArray[j] (eqD (ds[j]?.getD (.int 0)) (es[j]?.getD (.int 0))) := fun j h1' h2' => by
    rw [List.size_toArray] at h1' h2'
    have hj1 : xs[j]? = some xs[j] := List.getElem?_eq_getElem (by lia)
    have hj2 : ys[j]? = some ys[j] := List.getElem?_eq_getElem (by lia)
    obtain ⟨d', hd, hdd⟩ := Paired.get' hp hj1
    obtain ⟨e', he, hee⟩ := Paired.get' hp' hj2
    obtain ⟨u', hu', ru'⟩ := ri.get hj1
    obtain ⟨v', hv', rv'⟩ := ri'.get hj2
    have eu : its.toArray[j] = u' := by
      have : its[j]? = some its[j] := List.getElem?_eq_getElem h1'
      rw [this] at hu'; simpa using Option.some.inj hu'
    have ev : its'.toArray[j] = v' := by
      have : its'[j]? = some its'[j] := List.getElem?_eq_getElem h2'
      rw [this] at hv'; simpa using Option.some.inj hv'
    rw [eu, ev, hd, he]
    exact eqAt_D I n A.in1 _ _ d' e' u' v' hdd hee (hl j d' e' hd he) ru' rv' (by show A.units + 1 + n < cLine; lia)
  rw [← all_placesT]
  have r1 := SeqAt.RcAt.tuples (e := fun j => eqD (ds[j]?.getD (.int 0)) (es[j]?.getD (.int 0))) (show s.heap.IsTuple a its.toArray from pl) (show s.heap.IsTuple b its'.toArray from pl') (by lia : A.units < cLine) go
  have r2 := SeqAt.RcNeAt.tuples (e := fun j => eqD (ds[j]?.getD (.int 0)) (es[j]?.getD (.int 0))) (show s.heap.IsTuple a its.toArray from pl) (show s.heap.IsTuple b its'.toArray from pl') (by lia : A.units < cLine) go
  rw [List.size_toArray, List.size_toArray, ← l1, l3, ← l2, l4] at r1 r2
  exact ⟨r1, r2⟩
end
/-- == of two lists, two tuples by what they hold -/
def rEqD (K : PySem.W.Frag) (n : Nat) : R2 := fun x y H Q => ∃ a b d e, x = .ref a ∧ y = .ref b ∧ Den K H (n + 1) (.ref a) d ∧ Den K H (n + 1) (.ref b) e ∧ Like (n + 1) d e ∧ Q (.bl (eqD d e)) H
theorem op_eqD {X : Cx} {k : Nat} (n : Nat) (hr : Room k X.A) (hn : n ≤ 9 := by decide) : OpR X (compareOp .Eq) (rEqD X.K n) := by
  intro pins s σ H x y v u Q I rx ry h
  obtain ⟨a, b, d, e, rfl, rfl, hd, he, hl, q⟩ := h
  cases rx; cases ry
  have hu := hr.units
  cases d with
  | lst ds =>
    cases e with
    | lst es => exact (rc_lists I (A := X.A) hd he hl (by lia)).1 _ _ _ _ ⟨.bl _, H, I, rfl, q⟩
    | _ => exact False.elim hl
  | tup ds =>
    cases e with
    | tup es => exact (rc_tuples I (A := X.A) hd he hl (by lia)).1 _ _ _ _ ⟨.bl _, H, I, rfl, q⟩
    | _ => exact False.elim hl
  | _ => exact False.elim hd
theorem paired_ints {F : V → DV → Prop} (hF : ∀ i : Int, F (.int i) (.int i)) : ∀ ns : List Int, Paired F (ns.map V.int) (ns.map DV.int)
  | [] => .nil
  | i :: r => .cons (hF i) (paired_ints hF r)
theorem den_int {K : PySem.W.Frag} {H : Hp} {n : Nat} {i : Int} : Den K H n (.int i) (.int i) := by cases n <;> rfl
theorem den_ints {K : PySem.W.Frag} {H : Hp} {n : Nat} {a : Addr} {ns : List Int} (h : SqL K H a (ns.map V.int)) : Den K H (n + 1) (.ref a) (.lst (ns.map DV.int)) := ⟨_, h, paired_ints (fun _ => den_int) ns⟩
end L2

set_option Elab.async false
set_option linter.all false
set_option maxRecDepth 100000
set_option maxHeartbeats 4000000
namespace L2
open PySem PySem.Spec PyProof.Rows
section
variable {X : Cx}
end
end L2

set_option Elab.async false
set_option linter.all false
set_option maxRecDepth 100000
set_option maxHeartbeats 4000000
namespace L2
open PySem PySem.Spec PyProof.Rows
section
variable {prog : Program} {w : World} {A : Around} {E : Value → Shared → Prop} {s : Shared}
theorem nextOf_tup {it tp : Addr} {j : Nat} {vs : Array Value} {y : Value} {R : Value → Shared → Prop} (hi : s.heap.IsTupleIter it tp j) (ht : s.heap.IsTuple tp vs) (hy : vs[j]? = some y)
    (k : ∀ g, g.IsTupleIter it tp (j + 1) → Heap.SameBut it s.heap g → R y { s with heap := g }) : wpAny (model prog w) A (Builtin.SmallTypes.nextOf (.ref it)) R E s := by
  obtain ⟨oi, ei, ci, di⟩ := id hi
  obtain ⟨ot, et, _, nt, dt⟩ := ht
  unfold Builtin.SmallTypes.nextOf
  refine wpAny_bind (wpAny_callSpecial?_slot (name := Str.ofString "__next__") hi.typeIs F.slot_tuple_iterator_next (wpAny_call_entry F.slot_tuple_iterator_next hi.typeIs F.entry_tuple_iterator_next ?_ (F.args_tuple_iterator_next_1 _)))
  show wpAny (model prog w) A.in1 (field (.ref it) 0 >>= _) _ _ s
  refine wpAny_bind (wpAny_field ei di (x := .ref tp) rfl ?_)
  show wpAny (model prog w) A.in1 (if (Value.ref tp == Value.none) = true then _ else _) _ _ s
  rw [if_neg (show ¬ (Value.ref tp == Value.none) = true from Bool.false_ne_true)]
  show wpAny (model prog w) A.in1 (field (.ref it) 1 >>= _) _ _ s
  refine wpAny_bind (wpAny_field ei di (x := .int j 0) rfl ?_)
  show wpAny (model prog w) A.in1 (seqItems? (.ref tp) >>= _) _ _ s
  refine wpAny_bind (wpAny_seqItems et dt ?_)
  simp only [Int.toNat_natCast, hy]
  refine wpAny_bind (wpAny_setField ei di (by simp) (wpAny_pure ⟨y, rfl, wpAny_pure (k _ ⟨_, Heap.get?_update_self _ ei (Obj.isFreed_of_fields (Obj.data_mapFields di _)), (Obj.cls_mapFields ..).trans ci, ?_⟩ (Heap.SameBut.update ..))⟩))
  rw [Obj.data_mapFields di]
  simp [rawInt]
theorem nextOf_tup_end {it tp : Addr} {j : Nat} {vs : Array Value} {R : Value → Shared → Prop} (hh : A.handled = none) (hi : s.heap.IsTupleIter it tp j) (ht : s.heap.IsTuple tp vs) (hy : vs[j]? = none)
    (k : ∀ g x, Heap.ExtBut it s.heap g → (∃ o, g.get? x = some o ∧ o.cls = .type "StopIteration") → E (.ref x) { s with heap := g }) : wpAny (model prog w) A (Builtin.SmallTypes.nextOf (.ref it)) R E s := by
  obtain ⟨oi, ei, ci, di⟩ := id hi
  obtain ⟨ot, et, _, nt, dt⟩ := ht
  unfold Builtin.SmallTypes.nextOf
  refine wpAny_bind (wpAny_callSpecial?_slot (name := Str.ofString "__next__") hi.typeIs F.slot_tuple_iterator_next (wpAny_call_entry F.slot_tuple_iterator_next hi.typeIs F.entry_tuple_iterator_next ?_ (F.args_tuple_iterator_next_1 _)))
  show wpAny (model prog w) A.in1 (field (.ref it) 0 >>= _) _ _ s
  refine wpAny_bind (wpAny_field ei di (x := .ref tp) rfl ?_)
  show wpAny (model prog w) A.in1 (if (Value.ref tp == Value.none) = true then _ else _) _ _ s
  rw [if_neg (show ¬ (Value.ref tp == Value.none) = true from Bool.false_ne_true)]
  show wpAny (model prog w) A.in1 (field (.ref it) 1 >>= _) _ _ s
  refine wpAny_bind (wpAny_field ei di (x := .int j 0) rfl ?_)
  show wpAny (model prog w) A.in1 (seqItems? (.ref tp) >>= _) _ _ s
  refine wpAny_bind (wpAny_seqItems et dt ?_)
  simp only [Int.toNat_natCast, hy]
  refine wpAny_bind (wpAny_rule (wpAny_bind (wpAny_setField ei di (by simp) ?_)))
  show wpAny (model prog w) A.in1 (newExc (.type "StopIteration") [] >>= _) _ _ _
  refine wpAny_bind ?_
  simp only [newExc, newTuple]
  refine wpAny_bind (wpAny_newObj_type (wpAny_bind (m := firstArgMember _ _) (wpAny_of_eq (a := Value.none) (by first | rfl | (simp only [firstArgMember]; rfl)) (wpAny_newObj_type ?_ (by size_fits)))) (by size_fits))
  simp only [raiseNew]
  refine wpAny_bind (wpAny_handled ?_)
  rw [show A.in1.handled = none from hh]
  refine wpAny_bind (wpAny_pure (wpAny_throw (k _ _ (((Heap.SameBut.update ..).extBut.push _).push _) ⟨_, Heap.get?_push_size _ rfl, rfl⟩)))
end
set_option maxHeartbeats 4000000 in
theorem enum_newL (l : Addr) (vs : Array Value) (t : Tok) :
    Meets (Builtin.«enumerate.__new__» ⟨[.type "enumerate", .ref l], [("start", .int 1 t)]⟩) (fun _ R s => s.heap.IsList l vs ∧
      R (.ok (.ret (.ref (s.heap.push { cls := .type "list_iterator", data := .fields #[.ref l, .int 0 0] }).objs.size)))
        { s with heap := (s.heap.push { cls := .type "list_iterator", data := .fields #[.ref l, .int 0 0] }).push { cls := .type "enumerate", data := .fields #[.none, .bool false, .ref s.heap.objs.size, rawInt 1, .none, .none] } }) :=
  .of_wp fun prog w A R s h => by
    obtain ⟨hp, g, d, tk, os⟩ := s; obtain ⟨hL, h⟩ := h
    obtain ⟨⟨c, dc, dt, sl⟩, hl, hc, n, hd⟩ := id hL
    replace hc : c = .type "list" := hc
    replace hd : dt = .seq vs n := hd
    subst hc hd
    have hsub := sub_enumerate
    wp_walk using PySem.AutoSeq1.wpAny_loadPart' hl
    refine wpAny_stack_any fun st => wpAny_pure ?_
    dsimp only
    split
    · split
      all_goals
        refine wpAny_bind (wpAny_of_eq (a := (Value.ref l, some (Value.int 1 t))) ?e ?_)
        case e => rfl
        show wpAny _ _ (Builtin.SmallTypes.indexObject _ (Value.int 1 t) >>= _) _ _ _
        wp_walk using wpAny_pyIter_list hL
        exact ⟨_, rfl, h⟩
    · rw [if_neg Bool.false_ne_true]
      refine wpAny_bind (wpAny_of_eq (a := (Value.ref l, some (Value.int 1 t))) ?e ?_)
      case e => rfl
      show wpAny _ _ (Builtin.SmallTypes.indexObject _ (Value.int 1 t) >>= _) _ _ _
      wp_walk using wpAny_pyIter_list hL
      exact ⟨_, rfl, h⟩
set_option maxHeartbeats 4000000 in
theorem enum_newT (l : Addr) (vs : Array Value) (t : Tok) :
    Meets (Builtin.«enumerate.__new__» ⟨[.type "enumerate", .ref l], [("start", .int 1 t)]⟩) (fun _ R s => s.heap.IsTuple l vs ∧
      R (.ok (.ret (.ref (s.heap.push { cls := .type "tuple_iterator", data := .fields #[.ref l, .int 0 0] }).objs.size)))
        { s with heap := (s.heap.push { cls := .type "tuple_iterator", data := .fields #[.ref l, .int 0 0] }).push { cls := .type "enumerate", data := .fields #[.none, .bool false, .ref s.heap.objs.size, rawInt 1, .none, .none] } }) :=
  .of_wp fun prog w A R s h => by
    obtain ⟨hp, g, d, tk, os⟩ := s; obtain ⟨hL, h⟩ := h
    obtain ⟨⟨c, dc, dt, sl⟩, hl, hc, n, hd⟩ := id hL
    replace hc : c = .type "tuple" := hc
    replace hd : dt = .seq vs n := hd
    subst hc hd
    have hsub := sub_enumerate
    wp_walk using PySem.AutoSeq1.wpAny_loadPart' hl
    refine wpAny_stack_any fun st => wpAny_pure ?_
    dsimp only
    split
    · split
      all_goals
        refine wpAny_bind (wpAny_of_eq (a := (Value.ref l, some (Value.int 1 t))) ?e ?_)
        case e => rfl
        show wpAny _ _ (Builtin.SmallTypes.indexObject _ (Value.int 1 t) >>= _) _ _ _
        wp_walk using wpAny_pyIter_tuple hL
        exact ⟨_, rfl, h⟩
    · rw [if_neg Bool.false_ne_true]
      refine wpAny_bind (wpAny_of_eq (a := (Value.ref l, some (Value.int 1 t))) ?e ?_)
      case e => rfl
      show wpAny _ _ (Builtin.SmallTypes.indexObject _ (Value.int 1 t) >>= _) _ _ _
      wp_walk using wpAny_pyIter_tuple hL
      exact ⟨_, rfl, h⟩
section
variable {prog : Program} {w : World} {A : Around} {E : Value → Shared → Prop} {s : Shared}
/-- T(a, .., k=v) of a built-in type that has a __new__ of its own and object's __init__ -/
theorem callTyK {T newId : String} {Bn : Builtin} {a : Value} {args : List Value} {kw : List (Str × Value)} {S : PySem.Spec} {R : Value → Shared → Prop} (ft : TypeCalled T newId "object.__init__") (hne : (some newId != some "object.__new__") = true)
    (hct : checkTypeCall T ⟨a :: args, kw⟩ = pure ()) (hcn : checkBuiltinCall newId ⟨.type T :: a :: args, kw⟩ = pure ()) (hok : ∀ obj, argsOk "object.__init__" ⟨obj :: a :: args, kw⟩) (eN : entryFor table newId = some Bn) (gN : Meets (Bn ⟨.type T :: a :: args, kw⟩) S)
    (h : S A.in1 (wants (fun obj s1 => s1.TypeIs obj T ∧ R obj s1) E) s) : wpAny (model prog w) A (call (.type T) (a :: args) kw) R E s := by
  obtain ⟨c, tl, hmro⟩ := ft.mro
  have hmade := ft.made
  have hsub := ft.sub
  refine wpAny_call (codeAny_of_tree ?_)
  show wpAny (model prog w) _ (callAny (.type T) _) _ _ _
  refine wpAny_pure ⟨Code.quiet_builtin _ (by decide +kernel), codeAny_builtin F.entry_type_call ?_⟩
  rw [Around.under_plain (weight_type_call_type T (a :: args) kw) (units_type_call_type T (a :: args) kw)]
  have h1 := ft.notType
  have h2 := ft.canCreate
  repeat (any_goals (first | assumption | wp_step))
  refine codeAny_mono (codeAny_call_builtin ft.plain eN (wpAny_of_eq hcn (gN prog w A.in1 _ s h))) fun r s1 hr => ?_
  cases r with
  | error e => exact hr
  | ok fl =>
    cases fl with
    | ret obj =>
      obtain ⟨hT, hq⟩ := hr
      have hli := ft.init.lookup
      have hbi := ft.init.bind obj
      repeat (any_goals (first | assumption | wp_step))
      have gi : Meets (Builtin.«object.__init__» ⟨obj :: a :: args, kw⟩) (fun _ R s => s.TypeIs obj T ∧ R (.ok (.ret .none)) s) := by
        refine Meets.of_wp fun prog w A R s hs => ?_
        obtain ⟨hT, hq⟩ := hs
        have hm := ft.made
        have hl := ft.init.lookup
        repeat (any_goals (first | assumption | wp_step))
        exact ⟨_, rfl, hq⟩
      refine codeAny_mono (codeAny_call_builtin ft.init.plain F.entry_object_init (ft.init.check _ _ _ _ _ _ _ _ hT (hok obj) (gi prog w A.in1 (wants (fun r s2 => r = .none ∧ R obj s2) E) s1 ⟨hT, rfl, hq⟩))) fun r2 s2 hr2 => ?_
      cases r2 with
      | error e => exact hr2
      | ok fl2 =>
        cases fl2 with
        | ret r =>
          obtain ⟨rfl, hq⟩ := hr2
          repeat (any_goals (first | assumption | wp_step))
        | _ => exact hr2.elim
    | _ => exact hr.elim
theorem ck_enum (a v : Value) : checkTypeCall "enumerate" ⟨[a], [("start", v)]⟩ = pure () := by kernel_rfl
theorem cn_enum (a v : Value) : checkBuiltinCall "enumerate.__new__" ⟨[.type "enumerate", a], [("start", v)]⟩ = pure () := by kernel_rfl
theorem ci_enum (o a v : Value) : argsOk "object.__init__" ⟨[o, a], [("start", v)]⟩ := by unfold argsOk; kernel_rfl
theorem call_enumL {l : Addr} {vs : Array Value} {t : Tok} {R : Value → Shared → Prop} (hL : s.heap.IsList l vs)
    (k : ∀ g, IsEnum g (s.heap.objs.size + 1) s.heap.objs.size 1 .none → g.IsListIter s.heap.objs.size l 0 → (∀ b o, s.heap.get? b = some o → g.get? b = some o) → R (.ref (s.heap.objs.size + 1)) { s with heap := g }) :
    wpAny (model prog w) A (call (.type "enumerate") [.ref l] [("start", .int 1 t)]) R E s := by
  refine callTyK F.called_enumerate (by decide) (ck_enum _ _) (cn_enum _ _) (fun o => ci_enum o _ _) F.entry_enumerate_new (enum_newL l vs t) ⟨hL, ?_⟩
  have hz : (s.heap.push { cls := .type "list_iterator", data := .fields #[.ref l, .int 0 0] }).objs.size = s.heap.objs.size + 1 := Heap.size_push ..
  have he := Heap.get?_push_size (s.heap.push { cls := .type "list_iterator", data := .fields #[.ref l, .int 0 0] }) (o := { cls := .type "enumerate", data := .fields #[.none, .bool false, .ref s.heap.objs.size, rawInt 1, .none, .none] }) rfl
  show _ ∧ _
  rw [hz] at he ⊢
  exact ⟨⟨_, he, rfl⟩, k _ he ⟨_, Heap.get?_push_of_some _ (Heap.get?_push_size _ rfl), rfl, rfl⟩ fun b o q => Heap.get?_push_of_some _ (Heap.get?_push_of_some _ q)⟩
theorem call_enumT {l : Addr} {vs : Array Value} {t : Tok} {R : Value → Shared → Prop} (hL : s.heap.IsTuple l vs)
    (k : ∀ g, IsEnum g (s.heap.objs.size + 1) s.heap.objs.size 1 .none → g.IsTupleIter s.heap.objs.size l 0 → (∀ b o, s.heap.get? b = some o → g.get? b = some o) → R (.ref (s.heap.objs.size + 1)) { s with heap := g }) :
    wpAny (model prog w) A (call (.type "enumerate") [.ref l] [("start", .int 1 t)]) R E s := by
  refine callTyK F.called_enumerate (by decide) (ck_enum _ _) (cn_enum _ _) (fun o => ci_enum o _ _) F.entry_enumerate_new (enum_newT l vs t) ⟨hL, ?_⟩
  have hz : (s.heap.push { cls := .type "tuple_iterator", data := .fields #[.ref l, .int 0 0] }).objs.size = s.heap.objs.size + 1 := Heap.size_push ..
  have he := Heap.get?_push_size (s.heap.push { cls := .type "tuple_iterator", data := .fields #[.ref l, .int 0 0] }) (o := { cls := .type "enumerate", data := .fields #[.none, .bool false, .ref s.heap.objs.size, rawInt 1, .none, .none] }) rfl
  show _ ∧ _
  rw [hz] at he ⊢
  exact ⟨⟨_, he, rfl⟩, k _ he ⟨_, Heap.get?_push_of_some _ (Heap.get?_push_size _ rfl), rfl, rfl⟩ fun b o q => Heap.get?_push_of_some _ (Heap.get?_push_of_some _ q)⟩
end
end L2

set_option Elab.async false
set_option linter.all false
set_option maxRecDepth 100000
set_option maxHeartbeats 400000
namespace L2
open PySem PySem.Spec PyProof.Rows
def Iten (S : Hp → Addr → List V → Prop) (a : Addr) (k : Nat) : It :=
  ⟨fun i H => ∃ xs x, S H a xs ∧ xs[i]? = some x, fun i H x H' => ∃ t y, x = .ref t ∧ H t = none ∧ H' = upd H t (.tup [.int (((k + i : Nat)) : Int), y]) ∧ ∀ xs, S H a xs → xs[i]? = some y, fun i H => ∃ xs, S H a xs ∧ xs.length = i⟩
section
variable {X : Cx} {pins : List (Addr × Obj)} {σ : St} {H : Hp} {s : Shared}
/-- two records turn, a pair is laid -/
theorem Inv.pair {e it t : Addr} {g : Heap} {tk : Nat} {o : HO} (I : Inv X pins σ H s) (fe : FpOk X pins H e) (fi : FpOk X pins H it) (ht : s.heap.objs.size ≤ t)
    (k : ∀ b o, b ≠ e → b ≠ it → s.heap.get? b = some o → g.get? b = some o) (new : ObjOk X.prog X.w (upd H t o) g t o) : Inv X pins σ (upd H t o) { s with heap := g, toks := tk } := by
  have hn : H t = none := I.hok.fresh ht
  obtain ⟨e0, e1, e2, e3, e4, e5⟩ := fe
  obtain ⟨i0, i1, i2, i3, i4, i5⟩ := fi
  have nt : ∀ b o, s.heap.get? b = some o → b ≠ t := fun b o q z => by
    subst z
    exact absurd (Nat.lt_of_lt_of_le (Heap.lt_size q) ht) (Nat.lt_irrefl _)
  have nch : ∀ b, b ∉ [e, it] → b ≠ e ∧ b ≠ it := fun b hb => ⟨fun z => hb (by simp [z]), fun z => hb (by simp [z])⟩
  have ne : ∀ b u, H b = some u → b ≠ e ∧ b ≠ it := fun b u q => ⟨ne_of_none q e0, ne_of_none q i0⟩
  refine I.step (g' := s.gens) (d' := s.drawn) (ch := [e, it]) (fun b hb => ?_) (fun b o _ _ hc q _ => k b o (nch b hc).1 (nch b hc).2 q) (fun b o _ _ hc q _ => ⟨o.slots, k b o (nch b hc).1 (nch b hc).2 q⟩) (fun b o _ q n => by rw [upd_ne (nt b o q)]; exact n)
    (fun b o hc q => ⟨o, k b o (nch b hc).1 (nch b hc).2 q⟩) (fun b xs q => by rw [upd_ne (ne_of_none q hn)]; exact q) (fun b o u q => by rw [upd_ne (ne_of_none q hn)]; exact q) (fun b ps q => ⟨#[], by rw [upd_ne (ne_of_none q hn), q]; simp⟩) (fun m hm => ?_) (fun b u q => ?_) I.bare
  · rcases List.mem_cons.mp hb with z | z
    · subst z; exact ⟨e3, e1, e4, e5⟩
    · have z' : b = it := by simpa using z
      subst z'; exact ⟨i3, i1, i4, i5⟩
  · obtain ⟨ol, es, ep, ho, r⟩ := hm
    exact ⟨ol, es, ep, k _ ol (Ne.symm e1) (Ne.symm i1) ho, r⟩
  · by_cases hb : b = t
    · subst hb; rw [upd_same] at q; cases q; exact new
    · rw [upd_ne hb] at q
      refine (I.hok b u q).stay (fun c v hc z => k c v ?_ ?_ z) (fun c z => by rw [upd_ne (ne_of_none z hn)]; exact z) fun c xs z => by rw [upd_ne (ne_of_none z hn)]; exact z
      · rcases hc with z' | z'
        · rw [z']; exact (ne b u q).1
        · exact (ne c _ z').1
      · rcases hc with z' | z'
        · rw [z']; exact (ne b u q).2
        · exact (ne c _ z').2
end
/-- what draws from the sequence at a by the iterator at it -/
structure SrcOk (P : Program) (w : World) (K : PySem.W.Frag) (S : Hp → Addr → List V → Prop) (a it : Addr) (sq : Heap → Array Value → Prop) (ti : Nat → Heap → Prop) : Prop where
  obj : ∀ i h, ti i h → ∃ o, h.get? it = some o ∧ ∀ v, o.data ≠ .cell v
  keep : ∀ i h h', ti i h → (∀ o, h.get? it = some o → h'.get? it = some o) → ti i h'
  sk : ∀ h h' vs, sq h vs → (∀ o, h.get? a = some o → h'.get? a = some o) → sq h' vs
  ne : ∀ h vs i, sq h vs → ti i h → a ≠ it
  nee : ∀ h vs e j old, sq h vs → IsEnum h e it j old → a ≠ e
  abs : ∀ (X : Cx) (pins : List (Addr × Obj)) (σ : St) (H : Hp) (s : Shared) (xs : List V), X.K = K → Inv X pins σ H s → S H a xs → ∃ its : List Value, Vals xs its ∧ sq s.heap its.toArray
  one : ∀ (X : Cx) (pins : List (Addr × Obj)) (σ : St) (H : Hp) (s : Shared) (xs ys : List V), X.K = K → Inv X pins σ H s → S H a xs → S H a ys → xs = ys
  item : ∀ (A : Around) (i : Nat) (s : Shared) (vs : Array Value) (u : Value) (Q : Value → Shared → Prop) (E : Value → Shared → Prop), ti i s.heap → sq s.heap vs → vs[i]? = some u →
    (∀ g, ti (i + 1) g → Heap.SameBut it s.heap g → Q u { s with heap := g }) → wpAny (model P w) A (Builtin.SmallTypes.nextOf (.ref it)) Q E s
  done : ∀ (A : Around) (i : Nat) (s : Shared) (vs : Array Value) (Q : Value → Shared → Prop) (E : Value → Shared → Prop), A.handled = none → ti i s.heap → sq s.heap vs → vs[i]? = none →
    (∀ g e, Heap.ExtBut it s.heap g → (∃ o, g.get? e = some o ∧ o.cls = .type "StopIteration") → E (.ref e) { s with heap := g }) → wpAny (model P w) A (Builtin.SmallTypes.nextOf (.ref it)) Q E s
theorem src_list {P : Program} {w : World} {K : PySem.W.Frag} (a it : Addr) : SrcOk P w K (SqL K) a it (fun h vs => h.IsList a vs) (fun i h => h.IsListIter it a i) where
  obj := fun i h st => by
    obtain ⟨o, e, c, d⟩ := st
    exact ⟨o, e, fun v z => by rw [d] at z; cases z⟩
  keep := fun i h h' st k => st.at k
  sk := fun h h' vs q k => q.at k
  ne := fun h vs i q st z => by
    obtain ⟨o, e, c, _⟩ := q
    obtain ⟨o', e', c', _⟩ := st
    rw [z, e'] at e
    cases e
    rw [c'] at c
    exact absurd (Value.type.inj c) (by decide)
  nee := fun h vs e j old q en z => by
    obtain ⟨o, q, c, _⟩ := q
    subst z
    rw [show h.get? a = _ from en] at q
    cases q
    exact absurd (Value.type.inj c) (by decide)
  abs := fun X pins σ H s xs hK I hq => by
    subst hK
    obtain ⟨its, rv, p, hz⟩ := I.list hq
    exact ⟨its, rv, p.isList⟩
  one := fun X pins σ H s xs ys hK I h1 h2 => by subst hK; exact I.list_inj h1 h2
  item := fun A i s vs u Q E st q hx k => wpAny_nextOf_list_item st q hx k
  done := fun A i s vs Q E hh st q hx k => wpAny_nextOf_list_end hh st q hx k
theorem src_tup {P : Program} {w : World} {K : PySem.W.Frag} (a it : Addr) : SrcOk P w K (SqT K) a it (fun h vs => h.IsTuple a vs) (fun i h => h.IsTupleIter it a i) where
  obj := fun i h st => by
    obtain ⟨o, e, c, d⟩ := st
    exact ⟨o, e, fun v z => by rw [d] at z; cases z⟩
  keep := fun i h h' st k => by
    obtain ⟨o, e, r⟩ := st
    exact ⟨o, k o e, r⟩
  sk := fun h h' vs q k => by
    obtain ⟨o, e, r⟩ := q
    exact ⟨o, k o e, r⟩
  ne := fun h vs i q st z => by
    obtain ⟨o, e, c, _⟩ := q
    obtain ⟨o', e', c', _⟩ := st
    rw [z, e'] at e
    cases e
    rw [c'] at c
    exact absurd (Value.type.inj c) (by decide)
  nee := fun h vs e j old q en z => by
    obtain ⟨o, q, c, _⟩ := q
    subst z
    rw [show h.get? a = _ from en] at q
    cases q
    exact absurd (Value.type.inj c) (by decide)
  abs := fun X pins σ H s xs hK I hq => by
    subst hK
    obtain ⟨its, rv, p, hz⟩ := I.tuple hq
    exact ⟨its, rv, p⟩
  one := fun X pins σ H s xs ys hK I h1 h2 => by subst hK; exact I.tuple_inj h1 h2
  item := fun A i s vs u Q E st q hx k => nextOf_tup st q hx k
  done := fun A i s vs Q E hh st q hx k => nextOf_tup_end hh st q hx k
theorem SrcOk.draws {P : Program} {w : World} {K : PySem.W.Frag} {S : Hp → Addr → List V → Prop} {a it : Addr} {sq : Heap → Array Value → Prop} {ti : Nat → Heap → Prop} (O : SrcOk P w K S a it sq ti) {A : Around} (hh : A.handled = none) (k : Nat) (vs : Array Value) :
    Draws P w A it [it, a] (k + vs.size) (fun j y => ∃ i, j = k + i ∧ vs[i]? = some y) (fun j h => ∃ i, j = k + i ∧ ti i h ∧ sq h vs) where
  live := fun j h q => by
    obtain ⟨i, _, st, _⟩ := q
    obtain ⟨o, e, _⟩ := O.obj i h st
    exact ⟨o, e⟩
  frame := fun j h h' q kk => by
    obtain ⟨i, e, st, sv⟩ := q
    exact ⟨i, e, O.keep i h h' st fun o z => kk it (by simp) o z, O.sk h h' vs sv fun o z => kk a (by simp) o z⟩
  item := fun j s Q E hj q kq => by
    obtain ⟨i, rfl, st, sv⟩ := q
    have hi : i < vs.size := by lia
    refine O.item A i s vs vs[i] Q E st sv (by simp [hi]) fun g st' sb => ?_
    exact kq _ g s.toks ⟨i, rfl, by simp [hi]⟩ ⟨i + 1, by lia, st', O.sk _ _ vs sv fun o z => (sb.2 a (O.ne _ vs i sv st)).trans z⟩ sb
  done := fun s Q E q kq => by
    obtain ⟨i, hi, st, sv⟩ := q
    have : i = vs.size := by lia
    subst this
    exact O.done A _ s vs Q E hh st sv (by simp) kq
theorem turn_enum {P : Program} {w : World} {K : PySem.W.Frag} {S : Hp → Addr → List V → Prop} {elts : List Expr} {x1 : Nat} {tp : Pos} (a e it : Addr) (k : Nat) (hei : e ≠ it) {sq : Heap → Array Value → Prop} {ti : Nat → Heap → Prop} (O : SrcOk P w K S a it sq ti) :
    Turn P w K (.Tuple elts x1 tp) (Iten S a k) [e, it] e (fun i h => (∃ old, IsEnum h e it (((k + i : Nat)) : Int) old) ∧ ti i h) where
  mem := by simp
  obj := fun i h st b hb => by
    obtain ⟨⟨old, he⟩, st⟩ := st
    rcases List.mem_cons.mp hb with z | z
    · subst z
      exact ⟨_, he, fun v z => by
        have z' : Data.fields _ = Data.cell v := z
        cases z'⟩
    · have z' : b = it := by simpa using z
      subst z'
      exact O.obj i h st
  keep := fun i h h' st kk => by
    obtain ⟨⟨old, he⟩, st⟩ := st
    exact ⟨⟨old, kk e (by simp) _ he⟩, O.keep i h h' st fun o q => kk it (by simp) o q⟩
  item := by
    intro X hP hw hK hc i pins s σ H E I hf st hg
    obtain ⟨⟨old, he⟩, st⟩ := st
    obtain ⟨xs, x, hq, hx⟩ := hg
    have fe := hf e (by simp)
    have fi := hf it (by simp)
    obtain ⟨its, rv, sv⟩ := O.abs X pins σ H s xs hK I hq
    obtain ⟨u, hu, ru⟩ := rv.get hx
    have hlt : i < its.toArray.size := by
      rw [List.size_toArray]
      exact (List.getElem?_eq_some_iff.mp hu).1
    have hef : e ∉ [it, a] := fun z => by
      rcases List.mem_cons.mp z with z | z
      · exact hei z
      · exact O.nee _ _ _ _ _ sv he (by simpa using z : e = a).symm
    have hel : e < s.heap.objs.size := Heap.lt_size he
    have hil : it < s.heap.objs.size := by obtain ⟨o, q, _⟩ := O.obj i _ st; exact Heap.lt_size q
    refine wpAny_pyNext_enum_itemD (O.draws (A := X.A.in1) (I.ok.hd hc) k its.toArray) he ⟨i, rfl, st, sv⟩ (by lia) hei hef fun y g tk hy ho hst hT hsz hk => ?_
    obtain ⟨i', e1, hy⟩ := hy
    have e2 : i' = i := by lia
    subst e2
    have e3 : y = u := by
      have hu' : its.toArray[i']? = some u := by simpa using hu
      rw [hu'] at hy
      exact (Option.some.inj hy).symm
    subst e3
    refine ⟨_, rfl, wpAny_letOwnedTupleGo_enum ho fun g2 he2 hs2 => ?_⟩
    have nse : s.heap.objs.size ≠ e := Nat.ne_of_gt hel
    have hT2 : g2.get? s.heap.objs.size = some { cls := .type "tuple", data := .seq #[.int ((k + i' : Nat) : Int) tk, y] } := (hs2.2 _ nse).trans hT
    have I2 : Inv X pins σ (upd H s.heap.objs.size (.tup [.int (((k + i' : Nat)) : Int), x])) { s with heap := g2, toks := tk + 1 } := by
      refine I.pair fe fi (Nat.le_refl _) (fun b o h1 h2 q => (hs2.2 b h1).trans (hk b o h1 h2 q)) ?_
      exact ⟨by show 2 ≤ sizeLine; decide, [.int ((k + i' : Nat) : Int) tk, y], .cons ⟨tk, rfl⟩ (.cons ru .nil), ⟨_, hT2, rfl, 0, rfl⟩⟩
    obtain ⟨i2, e4, st2, _⟩ := hst
    have e5 : i2 = i' + 1 := by lia
    subst e5
    refine ⟨.ref s.heap.objs.size, _, I2, rfl, ⟨_, x, rfl, I.fresh, rfl, fun ys hys => ?_⟩, ⟨⟨y, ?_⟩, O.keep _ _ _ st2 fun o q => (hs2.2 it (Ne.symm hei)).trans q⟩, fun b hb => ?_⟩
    · rw [O.one X pins σ H s ys xs hK I hys hq]
      exact hx
    · have : (((k + (i' + 1) : Nat)) : Int) = ((k + i' : Nat) : Int) + 1 := by lia
      rw [this]
      exact he2
    · rcases List.mem_cons.mp hb with z | z
      · subst z
        rw [upd_ne (Ne.symm nse)]
        exact fe.1
      · have z' : b = it := by simpa using z
        subst z'
        rw [upd_ne (Nat.ne_of_lt hil)]
        exact fi.1
  done := by
    intro X hP hw hK hc i pins s σ H E I hf st hg
    obtain ⟨⟨old, he⟩, st⟩ := st
    obtain ⟨xs, hq, hx⟩ := hg
    obtain ⟨its, rv, sv⟩ := O.abs X pins σ H s xs hK I hq
    have hl := rv.length
    obtain ⟨f0, f1, f2, f3, f4, f5⟩ := hf it (by simp)
    exact wpAny_pyNext_enum_endD (O.draws (A := X.A.in1) (I.ok.hd hc) k its.toArray) he ⟨i, by simp; lia, st, sv⟩ fun g eb => ⟨rfl, I.turned (t' := s.toks) (fun b o hb q => eb b o hb q) f0 f1 f3 f4 f5⟩
  self := fun A i s Q E st h => by
    obtain ⟨⟨old, he⟩, st⟩ := st
    exact wpAny_pyIter_enum he h
theorem for_enumW {S : Hp → Addr → List V → Prop} {a : Addr} {k : Nat} {xs : List V} {σ : St} {H : Hp} {DN : St → Hp → Prop} {B : (St → Hp → Prop) → V → St → Hp → Prop} (Pv : Nat → St → Hp → Prop) (h0 : Pv 0 σ H)
    (hl : ∀ i σ H, i ≤ xs.length → Pv i σ H → S H a xs)
    (hs : ∀ i x σ H t, xs[i]? = some x → Pv i σ H → H t = none → B (Pv (i + 1)) (.ref t) σ (upd H t (.tup [.int (((k + i : Nat)) : Int), x]))) (hd : ∀ σ H, Pv xs.length σ H → DN σ H) :
    ∃ W : Nat → Nat → St → Hp → Prop, (∃ m, W 0 m σ H) ∧ ∀ i m σ H, W i m σ H →
      ((Iten S a k).stop i H ∧ DN σ H) ∨ ((Iten S a k).go i H ∧ ∃ N : St → Hp → Prop, (∀ σ' H', N σ' H' → ∃ m', m' < m ∧ W (i + 1) m' σ' H') ∧ ∀ x H', (Iten S a k).yld i H x H' → B N x σ H') := by
  refine ⟨fun i m σ H => m = xs.length - i ∧ i ≤ xs.length ∧ Pv i σ H, ⟨xs.length, by simp, Nat.zero_le _, h0⟩, ?_⟩
  rintro i m σ H ⟨rfl, hi, p⟩
  have q := hl i σ H hi p
  by_cases hlt : i < xs.length
  · refine .inr ⟨⟨xs, xs[i], q, by simp [hlt]⟩, Pv (i + 1), fun σ' H' p' => ⟨xs.length - (i + 1), by omega, rfl, hlt, p'⟩, fun x H' y => ?_⟩
    obtain ⟨t, y, e, ht, e', hy⟩ := y
    subst e e'
    exact hs i y σ _ t (hy xs q) p ht
  · have e : i = xs.length := by lia
    subst e
    exact .inl ⟨⟨xs, q, rfl⟩, hd σ H p⟩
def iEnL (K : PySem.W.Frag) (k : Nat) (te : TE) : TI := fun σ H R => te σ H fun x H1 => ∃ a, x = .ref a ∧ (∃ xs, SqL K H1 a xs) ∧ R (Iten (SqL K) a k) H1
def iEnT (K : PySem.W.Frag) (k : Nat) (te : TE) : TI := fun σ H R => te σ H fun x H1 => ∃ a, x = .ref a ∧ (∃ xs, SqT K H1 a xs) ∧ R (Iten (SqT K) a k) H1
section
variable {X : Cx} {elts : List Expr} {x1 : Nat} {tp : Pos}
/-- an enumerate object has come, over the iterator at it -/
theorem enum_pie {S : Hp → Addr → List V → Prop} {sq : Heap → Array Value → Prop} {ti : Nat → Heap → Prop} {pins : List (Addr × Obj)} {σ : St} {H : Hp} {s : Shared} {R : It → Hp → Prop} {E : Value → Shared → Prop} {a : Addr} {k : Nat} {g : Heap} {c : Int} (I : Inv X pins σ H s)
    (O : SrcOk X.prog X.w X.K S a s.heap.objs.size sq ti) (hc : c = (k : Int)) (he : IsEnum g (s.heap.objs.size + 1) s.heap.objs.size c .none) (hi : ti 0 g) (hk : ∀ b o, s.heap.get? b = some o → g.get? b = some o) (q : R (Iten S a k) H) :
    wpAny (model X.prog X.w) X.A (pyIter (.ref (s.heap.objs.size + 1))) (PIE X pins σ (.Tuple elts x1 tp) R) E { s with heap := g } := by
  subst hc
  refine wpAny_pyIter_enum he ⟨s.heap.objs.size + 1, [s.heap.objs.size + 1, s.heap.objs.size], _, _, H, rfl, I.kept (t' := s.toks) hk, turn_enum a _ _ k (Nat.succ_ne_self _) O, ⟨⟨_, he⟩, hi⟩, fun b hb => ?_, q⟩
  rcases List.mem_cons.mp hb with z | z
  · subst z
    exact I.fpOk (Nat.le_succ _) (I.hok.fresh (Nat.le_succ _))
  · have z' : b = s.heap.objs.size := by simpa using z
    subst z'
    exact I.fpOk (Nat.le_refl _) (I.hok.fresh (Nat.le_refl _))
theorem pi_enum_list {e : Expr} {te : TE} {p pos : Pos} (hg : Gl X "enumerate") (hm : X.mg "enumerate" = none) (he : PE X e te) (hs : starEach [e] X.env = [(false, eval e X.env)] := by rfl) : PI X (.Tuple elts x1 tp) (.Call (.Name "enumerate" p) [e] [] pos) (iEnL X.K 0 te) := by
  intro pins s σ H R I h
  refine Call_ (ld_blt I hg hm boot_enumerate (PyProof.Rows.callWith_type1 ?_ hs rfl))
  rw [hs]
  refine Calls.spliced_cons (thn (he pins s σ H _ I h) fun v s1 ⟨x, H1, I1, rx, q1⟩ => Calls.spliced_nil ?_)
  obtain ⟨a, rfl, ⟨xs, hq⟩, q⟩ := q1
  cases rx
  obtain ⟨its, rv, pl, _⟩ := I1.list hq
  exact call_enumerate_list pl.isList fun g e1 e2 _ hk => enum_pie I1 (src_list a _) rfl e1 e2 hk q
/-- T(e, k=v ..) -/
theorem callWith_tyK {M : Model} {A : Around} {E : Value → Shared → Prop} {s : Shared} {env : Env} {pos : Pos} {T : String} {x : Sem Value} {rest : List (Bool × Sem Value)} {kws : List (Option Str × Sem Value)} {Q : Value → Shared → Prop} (h1 : rest.any (·.1) = false) (h2 : kws.all (·.1.isSome) = true) (h3 : kws.any (·.1.isNone) = false)
    (h : wpAny M A (spliced ((false, x) :: rest)) (fun vs s1 => wpAny M A (evalAll (kws.map (·.2))) (fun ks s2 => wpAny M A (call (.type T) vs ((kws.filterMap (·.1)).zip ks)) Q E s2) E s1) E s) : wpAny M A (callWith pos (.type T) [] ((false, x) :: rest) kws) Q E s := by
  unfold callWith
  refine wpAny_bind (wpAny_holding (wpAny_mono (evalArgs_kwB h2 (Q := fun a s1 => wpAny M A (call (.type T) ([] ++ a.pos) a.kw) Q E s1) h) (fun a s1 z => wpAny_bind (wpAny_standAt ?_)) fun _ _ z => z))
  simp only [List.any_cons, h1, h3, Bool.or_false, Bool.false_or]
  exact wpAny_bind (wpAny_pure (wpAny_bind (wpAny_mono z (fun r s2 hr => wpAny_bind (wpAny_holding (wpAny_point (wpAny_pure hr)))) fun _ _ z => z)))
theorem enum1_call {e : Expr} {te : TE} {p pos kp ip : Pos} {j : Nat} {pins : List (Addr × Obj)} {s : Shared} {σ : St} {H : Hp} {Q : VK} {R : Value → Shared → Prop} (hg : Gl X "enumerate") (hm : X.mg "enumerate" = none) (he : PE X e te) (hs : starEach [e] X.env = [(false, eval e X.env)])
    (I : Inv X pins σ H s) (h : te σ H Q) (k : ∀ x v H1 s1 t, Inv X pins σ H1 s1 → RelV x v → Q x H1 → wpAny (model X.prog X.w) X.A (call (.type "enumerate") [v] [("start", .int 1 t)]) R X.xe s1) :
    wpAny (model X.prog X.w) X.A (eval (.Call (.Name "enumerate" p) [e] [⟨some "start", .Constant (.int 1) j ip, kp⟩] pos) X.env) R X.xe s := by
  refine wpAny_Call_Name_kw (ld_blt I hg hm boot_enumerate ?_)
  rw [hs]
  refine callWith_tyK (env := X.env) (rest := []) rfl rfl rfl ?_
  refine Calls.spliced_cons (thn (he pins s σ H Q I h) fun v s1 ⟨x, H1, I1, rx, q⟩ => Calls.spliced_nil ?_)
  refine kws_cons (wpAny_Constant_int (kws_nil ?_))
  exact k x v H1 _ _ (I1.tok _) rx q
theorem pi_enum1_list {e : Expr} {te : TE} {p pos kp ip : Pos} {j : Nat} (hg : Gl X "enumerate") (hm : X.mg "enumerate" = none) (he : PE X e te) (hs : starEach [e] X.env = [(false, eval e X.env)] := by rfl) : PI X (.Tuple elts x1 tp) (.Call (.Name "enumerate" p) [e] [⟨some "start", .Constant (.int 1) j ip, kp⟩] pos) (iEnL X.K 1 te) := by
  intro pins s σ H R I h
  refine enum1_call hg hm he hs I h fun x v H1 s1 t I1 rx q1 => ?_
  obtain ⟨a, rfl, ⟨xs, hq⟩, q⟩ := q1
  cases rx
  obtain ⟨its, rv, pl, _⟩ := I1.list hq
  exact call_enumL pl.isList fun g e1 e2 hk => enum_pie I1 (src_list a _) rfl e1 e2 hk q
theorem pi_enum1_tup {e : Expr} {te : TE} {p pos kp ip : Pos} {j : Nat} (hg : Gl X "enumerate") (hm : X.mg "enumerate" = none) (he : PE X e te) (hs : starEach [e] X.env = [(false, eval e X.env)] := by rfl) : PI X (.Tuple elts x1 tp) (.Call (.Name "enumerate" p) [e] [⟨some "start", .Constant (.int 1) j ip, kp⟩] pos) (iEnT X.K 1 te) := by
  intro pins s σ H R I h
  refine enum1_call hg hm he hs I h fun x v H1 s1 t I1 rx q1 => ?_
  obtain ⟨a, rfl, ⟨xs, hq⟩, q⟩ := q1
  cases rx
  obtain ⟨its, rv, pl, _⟩ := I1.tuple hq
  exact call_enumT pl fun g e1 e2 hk => enum_pie I1 (src_tup a _) rfl e1 e2 hk q
end
structure CalI (P : Program) (w : World) (K : PySem.W.Frag) (mg : Str → Option Value) (base : Heap) (x : Str) (C : Addr) (ps : List Str) (k : Nat) (sp : Sp) : Prop where
  ex : ∃ (f : Addr) (fd : FuncData), FnOk P w K mg base CX0 k f fd ps sp ∧ Binds K fd ps [] ∧ Mk K C f ∧ mg x = some (.ref C)
structure CalM (P : Program) (w : World) (K : PySem.W.Frag) (mg : Str → Option Value) (base : Heap) (C : Addr) (m : Str) (ps : List Str) (k : Nat) (sp : Sp) : Prop where
  ex : ∃ (f : Addr) (fd : FuncData), FnOk P w K mg base CX0 k f fd ps sp ∧ Binds K fd ps [] ∧ Meth K C m f ∧ Cls K C
theorem pe_makeC {X : Cx} {x : Str} {C : Addr} {ps : List Str} {k : Nat} {sp : Sp} {e : Expr} {es : List Expr} {t : TA} {p pos : Pos} (c : CalI X.prog X.w X.K X.mg X.base x C ps k sp) (hr : Room (k + 1) X.A) (hg : Gl X x) (ha : PA X (e :: es) t)
    (hdb : (x == ("__debug__" : Str)) = false := by decide) (he : starEach (e :: es) X.env = (false, eval e X.env) :: starEach es X.env := by rfl) (hpl : (backTo pos (starEach es X.env)).any (·.1) = false := by rfl) :
    PE X (.Call (.Name x p) (e :: es) [] pos) (tMake C sp [] E0 t) := by
  obtain ⟨f, fd, F, b, m, hm⟩ := c.ex
  exact pe_make m F hr hg hm b .nil pass0 ha hdb he hpl
theorem pe_methC {X : Cx} {m : Str} {C : Addr} {ps : List Str} {k : Nat} {sp : Sp} {o e : Expr} {es : List Expr} {ta : TE} {t : TA} {apos pos : Pos} {pl : Sem Bool} (c : CalM X.prog X.w X.K X.mg X.base C m ps k sp) (hr : Room k X.A) (ho : PE X o ta) (ha : PA X (e :: es) t)
    (he : starEach (e :: es) X.env = (false, eval e X.env) :: starEach es X.env := by rfl) (hpl : (backTo pos (starEach es X.env)).any (·.1) = false := by rfl)
    (ht : eval (.Call (.Attribute o m apos) (e :: es) [] pos) X.env = (do
      let v ← eval o X.env
      standAt apos.atName
      let (g, first) ← holding [v] (getMethod v m pl)
      callWith pos g first (backTo pos (starEach (e :: es) X.env)) (backToKw pos (keywordEach [] X.env))) := by rfl) : PE X (.Call (.Attribute o m apos) (e :: es) [] pos) (tMeth C m sp [] E0 ta t) := by
  obtain ⟨f, fd, F, b, hm, cl⟩ := c.ex
  exact pe_meth ho cl hm F hr b .nil pass0 ha he hpl ht
/-- a number of the module -/
theorem pe_globI {X : Cx} {x : Str} {n : Int} {pos : Pos} (hg : Gl X x) (hm : ∃ tk, X.mg x = some (.int n tk)) (hd : (x == ("__debug__" : Str)) = false := by decide) : PE X (.Name x pos) (tC (.int n)) := by
  obtain ⟨tk, hm⟩ := hm
  exact pe_glob hg hm ⟨tk, rfl⟩ hd
def rInsert : V → List V → Hp → VK → Prop := fun x vs H Q => ∃ l xs i y, x = .ref l ∧ vs = [.int i, y] ∧ H l = some (.lst xs) ∧ 0 ≤ i ∧ i ≤ xs.length ∧ xs.length < sizeLine ∧ Q .non (upd H l (.lst (xs.take i.toNat ++ y :: xs.drop i.toNat)))
end L2
namespace L2
open PySem PySem.Spec PyProof.Rows
section
variable {X : Cx} {K : PySem.W.Frag}
theorem ix_listK (hK : X.K = K) : IxR X (rIxL K) := by subst hK; exact ix_list
theorem ix_tupK (hK : X.K = K) : IxR X (rIxT K) := by subst hK; exact ix_tup
theorem pg_tupK {es : List Expr} {k : Nat} {t : TGs} {n : Nat} {pos : Pos} (hK : X.K = K) (hc : X.calm = true) (h : PGs X es t) (hn : (assignEach es X.env).length = n := by rfl) (hst : (assignEach es X.env).findIdx? (·.1) = none := by rfl) : PG X (.Tuple es k pos) (gTup K n t) := by
  subst hK; exact pg_tup hc h hn hst
def rLen (K : PySem.W.Frag) : List V → Hp → VK → Prop := fun xs H Q => ∃ p ys, xs = [.ref p] ∧ (SqL K H p ys ∨ SqT K H p ys) ∧ Q (.int ys.length) H
theorem call_lenK (hK : X.K = K) : CallR X (.builtin "len") (rLen K) := by subst hK; exact call_len_seq
def rListOf (K : PySem.W.Frag) : List V → Hp → VK → Prop := fun xs H Q => ∃ p ys, xs = [.ref p] ∧ (SqL K H p ys ∨ SqT K H p ys) ∧ ∀ l, H l = none → Q (.ref l) (upd H l (.lst ys))
theorem call_listK (hK : X.K = K) : CallR X (.type "list") (rListOf K) := by subst hK; exact call_list_of
def rTupL (K : PySem.W.Frag) : List V → Hp → VK → Prop := fun xs H Q => ∃ p ys, xs = [.ref p] ∧ SqL K H p ys ∧ ∀ l, H l = none → Q (.ref l) (upd H l (.tup ys))
/-- tuple(x) of a list -/
theorem call_tuple_L (hK : X.K = K) : CallR X (.type "tuple") (rTupL K) := by
  subst hK
  intro pins s σ H xs us Q I r h
  obtain ⟨p, ys, e, hs, q⟩ := h
  exact call_tuple_of pins s σ H xs us Q I r ⟨p, ys, e, .inl ⟨hs, q⟩⟩
end
theorem SqL.off {K : PySem.W.Frag} {H : Hp} {a x : Addr} {xs : List V} {o : HO} (h : SqL K H a xs) (h1 : ∀ ys, H x ≠ some (.lst ys)) (h2 : ∀ v u, H x ≠ some (.frz v u)) : SqL K (upd H x o) a xs := by
  rcases h with (h | ⟨v, h⟩) | h
  · have ne : a ≠ x := fun z => h1 _ (z ▸ h)
    exact .inl (.inl (by rw [upd_ne ne]; exact h))
  · have ne : a ≠ x := fun z => h2 _ _ (z ▸ h)
    exact .inl (.inr ⟨v, by rw [upd_ne ne]; exact h⟩)
  · exact .inr h
end L2
namespace L2
/-- one statement of a block; the rest waits under a name -/
theorem seq_of {t u : TS} {D : Ends} {σ : St} {H : Hp} (h : ∀ U : TS, U = u → t { D with nx := U D } σ H) : tSeq t u D σ H := h u rfl
end L2

set_option Elab.async false
set_option linter.all false
set_option maxRecDepth 100000
set_option maxHeartbeats 4000000
namespace My
open PySem L2
/-- a new list r, all else as it was -/
def New (H H' : Hp) (r : Addr) (xs : List V) : Prop := Same H H' ∧ H r = none ∧ H' r = some (.lst xs)
theorem same_new {H : Hp} {p : Addr} (h : H p = none) (o : HO) : Same H (upd H p o) := fun b u q => by rw [upd_ne (ne_of_none q h)]; exact q
theorem same_upd {H H' : Hp} {p : Addr} (h : H p = none) (g : Same H H') (o : HO) : Same H (upd H' p o) := fun b u q => by rw [upd_ne (ne_of_none q h)]; exact g b u q
theorem item_of {ns : List Int} {k : Int} (h0 : 0 ≤ k) (h : k < (ns.length : Int)) : ∃ v : Int, atI (ns.map V.int) k = some (.int v) := by
  have hk : k.toNat < ns.length := by omega
  have q : atI (ns.map V.int) ((k.toNat : Nat) : Int) = some (.int ns[k.toNat]) := atI_nat (by rw [List.getElem?_map, List.getElem?_eq_getElem hk] <;> rfl)
  rw [show ((k.toNat : Nat) : Int) = k by lia] at q
  exact ⟨_, q⟩
theorem small1000' {n : Nat} (h : n ≤ 1000) : n ≤ sizeLine := Nat.le_of_lt (small1000 h)
abbrev Pst := Int × Int × Int
def PostV (H : Hp) (v : V) (q : Pst) : Prop := ∃ t, v = .ref t ∧ H t = some (.tup [.int q.1, .int q.2.1, .int q.2.2])
def okH (h : Int) : Prop := 0 ≤ h ∧ h < 1073741824
def okP (q : Pst) : Prop := (0 ≤ q.1 ∧ q.1 < 1073741824) ∧ (0 ≤ q.2.1 ∧ q.2.1 ≤ 1000000000) ∧ (0 ≤ q.2.2 ∧ q.2.2 ≤ 1)
structure Ok (d : Int) (hs : List Int) (ps : List Pst) : Prop where
  d1 : 1 ≤ d
  d2 : d ≤ 31
  h : ∀ x ∈ hs, okH x
  hl : hs.length ≤ 8
  p : ∀ q ∈ ps, okP q
  pl : ps.length ≤ 6
theorem PostV.mono {H H' : Hp} {v : V} {q : Pst} (g : Same H H') (h : PostV H v q) : PostV H' v q := by
  obtain ⟨t, e, h⟩ := h
  exact ⟨t, e, g _ _ h⟩
abbrev Posts (H : Hp) : List V → List Pst → Prop := Paired (PostV H)
theorem Posts.mono {H H' : Hp} (g : Same H H') {ts : List V} {ps : List Pst} (h : Posts H ts ps) : Posts H' ts ps := Paired.mapP h fun _ _ => PostV.mono g
theorem Posts.off {H : Hp} {l : Addr} {o : HO} {ts : List V} {ps : List Pst} (hl : ∀ xs, H l ≠ some (.tup xs)) (h : Posts H ts ps) : Posts (upd H l o) ts ps := Paired.mapP h fun _ _ ⟨t, e, q⟩ => ⟨t, e, by
  have ne : t ≠ l := fun z => hl _ (z ▸ q)
  rw [upd_ne ne]
  exact q⟩
theorem Posts.at' {H : Hp} {ts : List V} {ps : List Pst} (h : Posts H ts ps) {i : Nat} {v : V} (e : ts[i]? = some v) : ∃ q, ps[i]? = some q ∧ PostV H v q := Paired.get' h e
theorem Posts.len {H : Hp} {ts : List V} {ps : List Pst} (h : Posts H ts ps) : ts.length = ps.length := Paired.length h
theorem Posts.get {H : Hp} {ts : List V} {ps : List Pst} (h : Posts H ts ps) {i : Nat} {q : Pst} (e : ps[i]? = some q) : ∃ t, ts[i]? = some (.ref t) ∧ H t = some (.tup [.int q.1, .int q.2.1, .int q.2.2]) := by
  have hi : i < ts.length := by rw [h.len]; exact (List.getElem?_eq_some_iff.mp e).1
  have e1 : ts[i]? = some ts[i] := List.getElem?_eq_getElem hi
  obtain ⟨q', e2, t, et, ht⟩ := h.at' e1
  rw [e] at e2
  cases e2
  exact ⟨t, by rw [e1, et], ht⟩
theorem n1 : ¬ (("days" : Str) = "hands") := by decide +kernel
theorem n2 : ¬ (("days" : Str) = "posts") := by decide +kernel
theorem n3 : ¬ (("hands" : Str) = "posts") := by decide +kernel
def wf (d : Int) (h p : Addr) : List (Str × V) := putF "posts" (.ref p) (putF "hands" (.ref h) (putF "days" (.int d) []))
theorem wf_days (d : Int) (h p : Addr) : (wf d h p).lookup ("days" : Str) = some (.int d) := by
  unfold wf
  rw [lookup_putF, if_neg n2, lookup_putF, if_neg n1, lookup_putF, if_pos rfl]
theorem wf_hands (d : Int) (h p : Addr) : (wf d h p).lookup ("hands" : Str) = some (.ref h) := by
  unfold wf
  rw [lookup_putF, if_neg n3, lookup_putF, if_pos rfl]
theorem wf_posts (d : Int) (h p : Addr) : (wf d h p).lookup ("posts" : Str) = some (.ref p) := by
  unfold wf
  rw [lookup_putF, if_pos rfl]
/-- a ward stands at x -/
structure WardAt (C : Addr) (H : Hp) (x : Addr) (d : Int) (hs : List Int) (ps : List Pst) : Prop where
  ex : ∃ dx ha pa ts, H x = some (.ins C dx (wf d ha pa)) ∧ H ha = some (.tup (hs.map V.int)) ∧ H pa = some (.tup ts) ∧ Posts H ts ps
theorem WardAt.mono {C : Addr} {H H' : Hp} {x : Addr} {d : Int} {hs : List Int} {ps : List Pst} (g : Same H H') (w : WardAt C H x d hs ps) : WardAt C H' x d hs ps := by
  obtain ⟨dx, ha, pa, ts, h1, h2, h3, h4⟩ := w.ex
  exact ⟨dx, ha, pa, ts, g _ _ h1, g _ _ h2, g _ _ h3, h4.mono g⟩
theorem WardAt.off {C : Addr} {H : Hp} {x : Addr} {d : Int} {hs : List Int} {ps : List Pst} {l : Addr} {xs : List V} {o : HO} (hl : H l = some (.lst xs)) (w : WardAt C H x d hs ps) : WardAt C (upd H l o) x d hs ps := by
  obtain ⟨dx, ha, pa, ts, h1, h2, h3, h4⟩ := w.ex
  refine ⟨dx, ha, pa, ts, ?_, ?_, ?_, h4.off fun ys z => by rw [hl] at z; cases z⟩
  · rw [upd_ne (ne_of h1 hl (by intro z; cases z))]; exact h1
  · rw [upd_ne (ne_of h2 hl (by intro z; cases z))]; exact h2
  · rw [upd_ne (ne_of h3 hl (by intro z; cases z))]; exact h3
def cv (h n : Int) : Bool := decide (Builtin.bitAnd h n = n)
def post0 : Pst := (0, 0, 0)
def chI (h : Int) (ps : List Pst) (i : Nat) : List Int := ((List.range i).filter fun j => cv h (ps[j]?.getD post0).1).map fun j : Nat => (j : Int) + 1
def ch (h : Int) (ps : List Pst) : List Int := 0 :: chI h ps ps.length
theorem chI_succ (h : Int) (ps : List Pst) (i : Nat) : chI h ps (i + 1) = chI h ps i ++ if cv h (ps[i]?.getD post0).1 then [(i : Int) + 1] else [] := by
  unfold chI
  rw [List.range_succ, List.filter_append, List.map_append]
  congr 1
  by_cases e : cv h (ps[i]?.getD post0).1 <;> simp [e]
theorem chI_len (h : Int) (ps : List Pst) (i : Nat) : (chI h ps i).length ≤ i := by
  unfold chI
  rw [List.length_map]
  have := List.length_filter_le (fun j => cv h (ps[j]?.getD post0).1) (List.range i)
  simpa using this
theorem ch_len (h : Int) (ps : List Pst) : (ch h ps).length ≤ ps.length + 1 := by
  unfold ch
  rw [List.length_cons]
  have := chI_len h ps ps.length
  lia
def ngt (ps : List Pst) : Nat → Bool
  | 0 => false
  | k + 1 => decide ((ps[k]?.getD post0).2.2 = 1)
def tb (d : Int) (hs : List Int) (ps : List Pst) : Nat → Int
  | 0 => 1
  | i + 1 => tb d hs ps i * ((ch (hs[i]?.getD 0) ps).length : Int) ^ d.toNat
theorem lt30 {n : Int} (h : okH n) : n.toNat < 2 ^ 30 := by
  have e : (2 : Nat) ^ 30 = 1073741824 := by decide
  have := h.1; have := h.2
  lia
theorem okH_of {n : Nat} (h : n < 2 ^ 30) : okH (n : Int) := by
  have e : (2 : Nat) ^ 30 = 1073741824 := by decide
  exact ⟨by lia, by omega⟩
theorem or_nat {x y : Int} (hx : 0 ≤ x) (hy : 0 ≤ y) : Builtin.bitOr x y = ((x.toNat ||| y.toNat : Nat) : Int) := by
  rw [PyProof.Rows.bitOr_and, PyProof.Rows.bitAnd_pp hx hy]
  have e := PyProof.Rows.nat_or_add_and x.toNat y.toNat
  omega
theorem okH_or {x y : Int} (hx : okH x) (hy : okH y) : okH (Builtin.bitOr x y) := by
  rw [or_nat hx.1 hy.1]
  exact okH_of (Nat.or_lt_two_pow (lt30 hx) (lt30 hy))
theorem Paired.getR {α β : Type} {F : α → β → Prop} : ∀ {xs : List α} {ys : List β} {i : Nat} {y : β}, Paired F xs ys → ys[i]? = some y → ∃ x, xs[i]? = some x ∧ F x y
  | _, _, _, _, .nil, e => by simp at e
  | _, _, 0, _, .cons r _, e => by simp at e; subst e; exact ⟨_, rfl, r⟩
  | _, _, i + 1, y, .cons _ t, e => by
    obtain ⟨u, h1, h2⟩ := Paired.getR (i := i) (y := y) t (by simpa using e)
    exact ⟨u, by simpa using h1, h2⟩
theorem like_den {K : PySem.W.Frag} {H : Hp} : ∀ (n : Nat) (x : V) (d : DV), Den K H n x d → Like n d d := by
  intro n
  induction n with
  | zero =>
    intro x d h
    cases d with
    | lst ds => cases x <;> exact False.elim h
    | tup ds => cases x <;> exact False.elim h
    | _ => exact True.intro
  | succ n ih =>
    intro x d h
    cases d with
    | lst ds =>
      cases x with
      | ref a =>
        obtain ⟨xs, _, hp⟩ : ∃ xs, SqL K H a xs ∧ Paired (Den K H n) xs ds := h
        intro _ i d e h1 h2
        rw [h1] at h2
        cases h2
        obtain ⟨y, _, hy⟩ := Paired.getR hp h1
        exact ih y d hy
      | _ => exact False.elim h
    | tup ds =>
      cases x with
      | ref a =>
        obtain ⟨xs, _, hp⟩ : ∃ xs, SqT K H a xs ∧ Paired (Den K H n) xs ds := h
        intro i d e h1 h2
        rw [h1] at h2
        cases h2
        obtain ⟨y, _, hy⟩ := Paired.getR hp h1
        exact ih y d hy
      | _ => exact False.elim h
    | _ => exact True.intro
end My

set_option Elab.async false
set_option linter.all false
set_option maxRecDepth 100000
set_option maxHeartbeats 1000000
namespace My
open PySem L2
def RowV (H : Hp) (v : V) (row : List Int) : Prop := ∃ t, v = .ref t ∧ H t = some (.lst (row.map V.int))
abbrev Rows (H : Hp) : List V → List (List Int) → Prop := Paired (RowV H)
theorem Rows.mono {H H' : Hp} (g : Same H H') {ts : List V} {rows : List (List Int)} (h : Rows H ts rows) : Rows H' ts rows := Paired.mapP h fun _ _ ⟨t, e, q⟩ => ⟨t, e, g _ _ q⟩
theorem Rows.len {H : Hp} {ts : List V} {rows : List (List Int)} (h : Rows H ts rows) : ts.length = rows.length := Paired.length h
theorem Rows.at' {H : Hp} {ts : List V} {rows : List (List Int)} (h : Rows H ts rows) {i : Nat} {v : V} (e : ts[i]? = some v) : ∃ row, rows[i]? = some row ∧ RowV H v row := Paired.get' h e
theorem Rows.get {H : Hp} {ts : List V} {rows : List (List Int)} (h : Rows H ts rows) {i : Nat} {row : List Int} (e : rows[i]? = some row) : ∃ t, ts[i]? = some (.ref t) ∧ H t = some (.lst (row.map V.int)) := by
  obtain ⟨v, e1, t, rfl, q⟩ := Paired.getR h e
  exact ⟨t, e1, q⟩
theorem Rows.snoc {H : Hp} {ts : List V} {rows : List (List Int)} {v : V} {row : List Int} (h : Rows H ts rows) (hv : RowV H v row) : Rows H (ts ++ [v]) (rows ++ [row]) := by
  induction h with
  | nil => exact .cons hv .nil
  | cons a _ ih => exact .cons a ih
theorem Rows.off {H : Hp} {ts : List V} {rows : List (List Int)} {l : Addr} {o : HO} (h : Rows H ts rows) (hl : V.ref l ∉ ts) : Rows (upd H l o) ts rows := by
  induction h with
  | nil => exact .nil
  | cons a _ ih =>
    obtain ⟨t, rfl, q⟩ := a
    have ne : t ≠ l := fun z => hl (by rw [z]; exact List.mem_cons_self)
    exact .cons ⟨t, rfl, by rw [upd_ne ne]; exact q⟩ (ih fun z => hl (List.mem_cons_of_mem _ z))
theorem Rows.tracked {H : Hp} {ts : List V} {rows : List (List Int)} (h : Rows H ts rows) {l : Addr} (hl : V.ref l ∈ ts) : ∃ row : List Int, H l = some (.lst (row.map V.int)) := by
  induction h with
  | nil => cases hl
  | cons a _ ih =>
    obtain ⟨t, rfl, q⟩ := a
    rcases List.mem_cons.mp hl with z | z
    · cases z
      exact ⟨_, q⟩
    · exact ih z
/-- row i's list is changed -/
theorem Rows.put {H : Hp} : ∀ {ts : List V} {rows : List (List Int)} {i : Nat} {t : Addr} {row : List Int}, Rows H ts rows → ts.Nodup → ts[i]? = some (.ref t) → Rows (upd H t (.lst (row.map V.int))) ts (rows.set i row)
  | _, _, _, _, _, .nil, _, e => by simp at e
  | _, _, 0, t, row, .cons a r, nd, e => by
    simp at e
    subst e
    have hn := (List.nodup_cons.mp nd).1
    exact .cons ⟨t, rfl, upd_same⟩ (Rows.off r hn)
  | v :: ts, _ :: rows, i + 1, t, row, .cons a r, nd, e => by
    have hn := (List.nodup_cons.mp nd)
    obtain ⟨t', rfl, q⟩ := a
    have e' : ts[i]? = some (.ref t) := by simpa using e
    have ne : t' ≠ t := fun z => hn.1 (by rw [z]; exact List.mem_of_getElem? e')
    exact .cons ⟨t', rfl, by rw [upd_ne ne]; exact q⟩ (Rows.put r hn.2 e')
def rD (row : List Int) : DV := .lst (row.map DV.int)
def tD (rows : List (List Int)) : DV := .lst (rows.map rD)
theorem den_rows {K : PySem.W.Frag} {H : Hp} {n : Nat} {a : Addr} {ts : List V} {rows : List (List Int)} (h : SqL K H a ts) (hT : Rows H ts rows) : Den K H (n + 2) (.ref a) (tD rows) := by
  refine ⟨_, h, ?_⟩
  clear h
  induction hT with
  | nil => exact .nil
  | cons a _ ih =>
    obtain ⟨t, rfl, q⟩ := a
    exact .cons (den_ints (SqL.of q)) ih
theorem like_nil {n : Nat} {ds : List DV} : Like (n + 1) (.lst ds) (.lst []) := fun _ i d e _ h2 => by simp at h2
structure RotaOk (d : Int) (n m : Nat) (rows : List (List Int)) : Prop where
  len : rows.length = n
  rl : ∀ r ∈ rows, (r.length : Int) = d
  v : ∀ r ∈ rows, ∀ x ∈ r, 0 ≤ x ∧ x ≤ (m : Int)
def val (rows : List (List Int)) (j day : Nat) : Int := ((rows[j]?.getD [])[day]?).getD 0
def held (rows : List (List Int)) (day : Nat) (post : Int) (i : Nat) : List Int := ((List.range i).filter fun j => decide (val rows j day = post)).map fun j : Nat => (j : Int)
theorem val_of {rows : List (List Int)} {j day : Nat} {row : List Int} (h : rows[j]? = some row) (hd : day < row.length) : val rows j day = row[day] := by
  unfold val
  rw [h, Option.getD_some, List.getElem?_eq_getElem hd, Option.getD_some]
end My

set_option Elab.async false
set_option linter.all false
set_option maxRecDepth 100000
set_option maxHeartbeats 400000
namespace L2
open PySem PySem.Spec PyProof.Rows
theorem ObjOk.there {P : Program} {w : World} {H : Hp} {h : Heap} {a : Addr} {o : HO} (x : ObjOk P w H h a o) : ∃ ob, h.get? a = some ob := by
  cases o with
  | lst xs => obtain ⟨_, _, _, _, e⟩ := x; exact ⟨_, e⟩
  | tup xs => obtain ⟨_, _, _, ob, e, _⟩ := x; exact ⟨_, e⟩
  | dK kvs => obtain ⟨_, _, _, _, o, _, _, e, _⟩ := x; exact ⟨_, e⟩
  | dT kvs => obtain ⟨_, _, _, _, o, _, _, e, _⟩ := x; exact ⟨_, e⟩
  | set S n => obtain ⟨o, _, _, _, e, _⟩ := x; exact ⟨_, e⟩
  | ins C dx fs => obtain ⟨_, _, _, e, _⟩ := x; exact ⟨_, e⟩
  | own y => exact x
  | xd fs => obtain ⟨_, ⟨o, _, _, e, _⟩, _⟩ := x; exact ⟨_, e⟩
  | rng lo hi => obtain ⟨_, _, _, e⟩ := x; exact ⟨_, e⟩
  | frz ob u => exact ⟨_, x.1⟩
  | tbl ps => exact ⟨_, x⟩
  | met f y => exact ⟨_, x⟩
  | ext φ => exact x.2.1
section
variable {P : Program} {w : World} {l : List Env} {H H' : Hp} {s s' : Shared} {B h'' : Heap} {a : Addr} {cls a0 : Value}
end
section
variable {X : Cx} {pins : List (Addr × Obj)} {σ : St} {H H' : Hp} {s s' : Shared} {B : Heap} {a : Addr} {cls a0 : Value}
end
section
variable {P : Program} {w : World} {K : PySem.W.Frag} {mg : Str → Option Value} {base : Heap} {N : List Str} {qual : Str} {scope : Scope} {f : Addr} {cd : Value} {A : Around} {outer : List Env} {s₀ : Shared} {H₀ : Hp} {E : XK}
end
def tRaise (E : XK) (C : Addr) (ta : TA) : TS := fun _ σ H => ta σ H fun vs H1 => vs.length ≤ sizeLine ∧ E (.ref C) none H1
def tCallX (sp : Sp) (t : TA) : St → Hp → VK → XK → Prop := fun σ H Q E => t σ H fun vs H1 => sp (vs ++ []) H1 Q E
def tDropX (te : St → Hp → VK → XK → Prop) : Ends → St → Hp → XK → Prop := fun D σ H E => te σ H (fun _ H1 => D.nx σ H1) E
def tSetX (i : Nat) (te : St → Hp → VK → XK → Prop) : Ends → St → Hp → XK → Prop := fun D σ H E => te σ H (fun v H1 => D.nx (σ.set i (some v)) H1) E
def tTry0 (C : Addr) (tb : Ends → St → Hp → XK → Prop) (ts to : TS) : TS := fun D σ H => tb { D with nx := to D } σ H fun cls _ H' => cls = .ref C ∧ ts D σ H'
end L2

set_option Elab.async false
set_option linter.all false
set_option maxRecDepth 100000
set_option maxHeartbeats 1000000
namespace My
open PySem L2
theorem cut_take (xs : List V) (k : Nat) : cutV xs none (some (k : Int)) = xs.take k := by
  unfold cutV
  rw [HT.sIx_none, HT.sIx_nat, List.drop_zero, Nat.sub_zero]
  by_cases h : k ≤ xs.length
  · rw [Nat.min_eq_left h]
  · rw [Nat.min_eq_right (by lia), List.take_length, List.take_of_length_le (by lia)]
end My

set_option Elab.async false
set_option linter.all false
set_option maxRecDepth 100000
set_option maxHeartbeats 400000
namespace L2
open PySem PySem.Spec PySem.Calls PyProof.Rows
/-- what of an own exception class is looked at -/
structure ExcG (K : PySem.W.Frag) (C : Addr) : Prop where
  ga : PySem.W.findIn K (.ref C) "__getattribute__" = some (some (.builtin "BaseException.__getattribute__"))
  cl : PySem.W.findIn K (.ref C) "__class__" = some (some (.builtin "object.__class__"))
  no : PySem.W.findIn K (.ref C) "__getattr__" = some none
  be : PySem.W.mroIn K C (.type "BaseException") = some true
  ob : PySem.W.mroIn K C (.type "object") = some true
section
variable {K : PySem.W.Frag} {prog : Program} {w : World} {A : Around} {E : Value → Shared → Prop} {h : Heap} {g : Array GenState} {d : Drawn} {t : Nat} {os : OsState} {a C : Addr} {o : Obj}
end

theorem ExcG.cls {K : PySem.W.Frag} {C : Addr} (Z : ExcG K C) : ∃ c' d' cd sl, K.lookup C = some ⟨c', d', .cls cd, sl⟩ := by
  have e := Z.be
  unfold PySem.W.mroIn PySem.W.clsIn at e
  split at e
  · rename_i c' d' cd' sl' ho
    exact ⟨_, _, _, _, ho⟩
  · cases e
abbrev IsExc (a C : Addr) (h : Heap) : Prop := ∃ o, h.get? a = some o ∧ o.cls = .ref C
abbrev excO (a C : Addr) : HO := .ext (IsExc a C)
def vO : V → Value
  | .ref a => .ref a
  | .ty n => .type n
  | _ => .none
def rIsx (K : PySem.W.Frag) : List V → Hp → VK → Prop := fun xs H Q => ∃ a D c b, xs = [.ref a, c] ∧ H a = some (excO a D) ∧ ExcG K D ∧ PySem.W.kitOne K (.ref D) (vO c) = some b ∧ Q (.bl b) H
def rExc (C : Addr) : List V → Hp → VK → Prop := fun xs H Q => xs.length ≤ sizeLine ∧ ∀ a, H a = none → Q (.ref a) (upd H a (excO a C))
end L2

set_option Elab.async false
set_option linter.all false
set_option maxRecDepth 100000
set_option maxHeartbeats 1000000
namespace My
open PySem L2 PySem.Spec PyProof.Rows
section
variable {X : Cx}
def rRng2 : List V → Hp → VK → Prop := fun xs H Q => ∃ i j : Int, xs = [.int i, .int j] ∧ ∀ p, H p = none → Q (.ref p) (upd H p (.rng i j))
def upto (i : Int) (n : Nat) : List Int := (List.range n).map fun k : Nat => i + (k : Int)
def rListR : List V → Hp → VK → Prop := fun xs H Q => ∃ p, ∃ i j : Int, xs = [.ref p] ∧ H p = some (.rng i j) ∧ -1000 ≤ i ∧ i ≤ 1000 ∧ j ≤ 1000 ∧ -1000 ≤ j ∧ ∀ l, H l = none → Q (.ref l) (upd H l (.lst ((upto i (j - i).toNat).map V.int)))
def rStr : List V → Hp → VK → Prop := fun xs H Q => (∃ i : Int, xs = [.int i] ∧ i.natAbs.log2 < 1920 ∧ Q (.str (toString i)) H) ∨ ∃ z, xs = [.str z] ∧ Q (.str z) H
end
end My
namespace My
open PySem L2
end My

set_option Elab.async false
set_option linter.all false
set_option maxRecDepth 100000
set_option maxHeartbeats 400000
namespace L2
open PySem PySem.Spec PySem.Calls PyProof.Rows
/-- what an except looks at: the class W of the text, the class C that flies -/
structure ExcM (K : PySem.W.Frag) (mg : Str → Option Value) (x : Str) (W C : Addr) : Prop where
  at_ : mg x = some (.ref W)
  ty : PySem.W.typeIn K (.ref W) = some (.type "type")
  be : PySem.W.mroIn K W (.type "BaseException") = some true
  sub : PySem.W.mroIn K C (.ref W) = some true
section
variable {X : Cx} {pins : List (Addr × Obj)} {σ : St} {H H' : Hp} {s s' : Shared} {B : Heap} {a : Addr} {cls a0 : Value}
end
/-- the name of an except is gone behind it -/
def Ends.gone (D : Ends) (i : Nat) : Ends := { nx := fun σ H => D.nx (σ.set i none) H, rt := D.rt, bk := fun σ H => D.bk (σ.set i none) H, ct := fun σ H => D.ct (σ.set i none) H }
def tTryA (i : Nat) (K : PySem.W.Frag) (mg : Str → Option Value) (x : Str) (W : Addr) (tb : Ends → St → Hp → XK → Prop) (ts to : TS) : TS := fun D σ H =>
  tb { D with nx := to D } σ H fun cls _ H' => ∃ C, cls = .ref C ∧ ExcM K mg x W C ∧ ∀ a, H' a = none → ts (D.gone i) (σ.set i (some (.ref a))) (upd H' a (excO a C))
end L2

set_option Elab.async false
set_option linter.all false
set_option maxRecDepth 100000
set_option maxHeartbeats 1000000
namespace My
open PySem L2
section
variable {d : Int} {hs : List Int} {ps : List Pst} {i : Nat} {rows : List (List Int)} {row : List Int} {x : Int}
end
section
variable {H : Hp} {us : List V} {rows : List (List Int)} {v : V} {row : List Int}
end
def CellV (H : Hp) (v : V) (q : Int × Int) : Prop := ∃ t, v = .ref t ∧ H t = some (.tup [.int q.1, .int q.2])
abbrev Cells (H : Hp) : List V → List (Int × Int) → Prop := Paired (CellV H)
theorem Cells.len {H : Hp} {ts : List V} {qs : List (Int × Int)} (h : Cells H ts qs) : ts.length = qs.length := Paired.length h
theorem Cells.get' {H : Hp} {ts : List V} {qs : List (Int × Int)} (h : Cells H ts qs) {i : Nat} {v : V} (e : ts[i]? = some v) : ∃ q, qs[i]? = some q ∧ CellV H v q := Paired.get' h e
theorem Cells.off {H : Hp} {ts : List V} {qs : List (Int × Int)} {l : Addr} {o : HO} (h : Cells H ts qs) (hl : ∀ xs, H l ≠ some (.tup xs)) : Cells (upd H l o) ts qs := Paired.mapP h fun _ _ ⟨t, e, q⟩ => ⟨t, e, by rw [upd_ne fun z => hl _ (by rw [← z]; exact q)]; exact q⟩
def cl (n k : Nat) : List (Int × Int) := (List.range k).map fun j => (((j % n : Nat) : Int), ((j / n : Nat) : Int))
section
variable {H H' H'' : Hp} {r : Addr} {us us' : List V} {rows rows' : List (List Int)} {n L : Nat}
end
end My

set_option Elab.async false
set_option linter.all false
set_option maxRecDepth 100000
set_option maxHeartbeats 1000000
namespace My
open PySem L2
theorem paired_snoc {α β : Type} {F : α → β → Prop} {xs : List α} {ys : List β} {x : α} {y : β} (h : Paired F xs ys) (hx : F x y) : Paired F (xs ++ [x]) (ys ++ [y]) := by
  induction h with
  | nil => exact .cons hx .nil
  | cons a _ ih => exact .cons a ih
theorem paired_get {α β : Type} {F : α → β → Prop} {xs : List α} {ys : List β} (h : Paired F xs ys) {i : Nat} {y : β} (e : ys[i]? = some y) : ∃ x, xs[i]? = some x ∧ F x y := by
  have hi : i < xs.length := by rw [Paired.length h]; exact (List.getElem?_eq_some_iff.mp e).1
  have e1 : xs[i]? = some xs[i] := List.getElem?_eq_getElem hi
  obtain ⟨y', e2, hf⟩ := Paired.get' h e1
  rw [e] at e2
  cases e2
  exact ⟨_, e1, hf⟩
theorem take_one {α : Type} {xs : List α} {i : Nat} {x : α} (h : xs[i]? = some x) : xs.take (i + 1) = xs.take i ++ [x] := by
  rw [List.take_succ, h]
  rfl
def Tups (H H' : Hp) : Prop := ∀ a xs, H a = some (.tup xs) → H' a = some (.tup xs)
theorem tups_same {H H' : Hp} (g : Same H H') : Tups H H' := fun a xs e => g _ _ e
theorem Tups.trans {H H' H'' : Hp} (g : Tups H H') (g' : Tups H' H'') : Tups H H'' := fun a xs e => g' _ _ (g _ _ e)
theorem tups_upd {H : Hp} {l : Addr} {o : HO} (h : ∀ xs, H l ≠ some (.tup xs)) : Tups H (upd H l o) := fun a xs e => by
  have ne : a ≠ l := fun z => h xs (by rw [← z]; exact e)
  rw [upd_ne ne]; exact e
theorem tups_lst {H : Hp} {l : Addr} {ys : List V} {o : HO} (h : H l = some (.lst ys)) : Tups H (upd H l o) := tups_upd fun xs z => by rw [h] at z; cases z
structure Prt where
  h : Int
  d : Int
  p : Int
  n : Int
def PrtV (H : Hp) (v : V) (q : Prt) : Prop := ∃ t, v = .ref t ∧ H t = some (.tup [.int q.h, .int q.d, .int q.p, .int q.n])
abbrev Prts (H : Hp) : List V → List Prt → Prop := Paired (PrtV H)
theorem Prts.mono {H H' : Hp} (g : Tups H H') {ts : List V} {qs : List Prt} (h : Prts H ts qs) : Prts H' ts qs := Paired.mapP h fun _ _ ⟨t, e, q⟩ => ⟨t, e, g _ _ q⟩
structure Lin where
  ps : List Prt
  b : Int
def LinV (H : Hp) (v : V) (l : Lin) : Prop := ∃ t u ts, v = .ref t ∧ H t = some (.tup [.ref u, .int l.b]) ∧ H u = some (.tup ts) ∧ Prts H ts l.ps
theorem LinV.mono {H H' : Hp} (g : Tups H H') {v : V} {l : Lin} (h : LinV H v l) : LinV H' v l := by
  obtain ⟨t, u, ts, e, h1, h2, h3⟩ := h
  exact ⟨t, u, ts, e, g _ _ h1, g _ _ h2, h3.mono g⟩
def hit (rows : List (List Int)) (h : Int) (ps : List Int) (d : Int) : Bool := decide (val rows h.toNat d.toNat ∈ ps)
def npI (ps : List Pst) (i : Nat) : List Int := ((List.range i).filter fun j => ngt ps (j + 1)).map fun j : Nat => 1 + (j : Int)
def np (ps : List Pst) : List Int := npI ps ps.length
end My
namespace My
open PySem L2
def hm (h m : Int) : List (Str × V) := putF "many" (.int m) (putF "hand" (.int h) [])
end My
namespace My
open PySem L2
end My
namespace My
open PySem L2
end My

set_option Elab.async false
set_option linter.all false
set_option maxRecDepth 100000
set_option maxHeartbeats 1000000
namespace My
open PySem L2
def at_ (bs : List Bool) (j : Nat) : Bool := bs[j]?.getD false
def nk (ps : List Pst) (v : Int) : Bool := ngt ps v.toNat
end My
namespace My
open PySem L2
theorem RotaOk.setv {d : Int} {n m : Nat} {rows : List (List Int)} (h : RotaOk d n m rows) {i j : Nat} {row : List Int} {v : Int} (hr : rows[i]? = some row) (v0 : 0 ≤ v) (v1 : v ≤ (m : Int)) : RotaOk d n m (rows.set i (row.set j v)) := by
  refine ⟨by rw [List.length_set]; exact h.len, fun r hr' => ?_, fun r hr' x hx => ?_⟩
  · rcases List.mem_or_eq_of_mem_set hr' with z | z
    · exact h.rl r z
    · rw [z, List.length_set]
      exact h.rl row (List.mem_of_getElem? hr)
  · rcases List.mem_or_eq_of_mem_set hr' with z | z
    · exact h.v r z x hx
    · rw [z] at hx
      rcases List.mem_or_eq_of_mem_set hx with y | y
      · exact h.v row (List.mem_of_getElem? hr) x y
      · rw [y]
        exact ⟨v0, v1⟩
theorem ixN_lt {n e : Nat} (h : e < n) : ixN n (e : Int) = some e := by
  unfold ixN
  rw [if_pos (by lia), if_pos (by lia), Int.toNat_natCast]
end My
namespace My
open PySem L2
end My
namespace My
open PySem L2
theorem for_of {wi : TI} {g : TG} {tb : TS} {D : Ends} {σ : St} {H : Hp} (h : ∀ B : TS, B = tb → tFor wi g B D σ H) : tFor wi g tb D σ H := h tb rfl
end My

set_option Elab.async false
set_option linter.all false
set_option maxRecDepth 100000
namespace L2
open PySem PySem.Spec PyProof.Rows

section
variable {κ : Type} [DecidableEq κ]
def valV (kvs : List (κ × V)) (k : κ) : Option V := (kvs.find? fun kv => decide (kv.1 = k)).map (·.2)
/-- in its place, or at the end -/
def putK (kvs : List (κ × V)) (k : κ) (v : V) : List (κ × V) :=
  if (kvs.any fun kv => decide (kv.1 = k)) = true then kvs.map (fun kv => if kv.1 = k then (kv.1, v) else kv) else kvs ++ [(k, v)]
def dropK (kvs : List (κ × V)) (k : κ) : List (κ × V) := kvs.filter fun kv => decide (kv.1 ≠ k)

theorem valV_pos {p : κ × V} {r : List (κ × V)} {k : κ} (e : p.1 = k) : valV (p :: r) k = some p.2 := by simp [valV, List.find?_cons, e]
theorem valV_neg {p : κ × V} {r : List (κ × V)} {k : κ} (e : ¬ p.1 = k) : valV (p :: r) k = valV r k := by simp [valV, List.find?_cons, e]
theorem valV_any (k : κ) : ∀ kvs : List (κ × V), (kvs.any fun kv => decide (kv.1 = k)) = (valV kvs k).isSome
  | [] => rfl
  | p :: r => by
    rw [List.any_cons]
    by_cases e : p.1 = k
    · simp only [valV_pos e, decide_eq_true e, Bool.true_or, Option.isSome_some]
    · rw [valV_neg e, decide_eq_false e, Bool.false_or]; exact valV_any k r
theorem valV_map (k j : κ) (y : V) : ∀ kvs : List (κ × V), valV (kvs.map fun kv => if kv.1 = k then (kv.1, y) else kv) j = (valV kvs j).map fun x => if j = k then y else x
  | [] => rfl
  | p :: r => by
    have ih := valV_map k j y r
    rw [List.map_cons]
    by_cases h : p.1 = k
    · rw [if_pos h]
      by_cases e : p.1 = j
      · rw [valV_pos (p := (p.1, y)) e, valV_pos e, Option.map_some, if_pos (e.symm.trans h)]
      · rw [valV_neg (p := (p.1, y)) e, valV_neg e, ih]
    · rw [if_neg h]
      by_cases e : p.1 = j
      · rw [valV_pos (p := p) e, valV_pos e, Option.map_some, if_neg (fun z => h (e.trans z))]
      · rw [valV_neg (p := p) e, valV_neg e, ih]
theorem valV_snoc (k j : κ) (y : V) : ∀ kvs : List (κ × V), valV kvs k = none → valV (kvs ++ [(k, y)]) j = if j = k then some y else valV kvs j
  | [], _ => by
    by_cases e : k = j
    · rw [if_pos e.symm]; exact valV_pos (p := (k, y)) e
    · rw [if_neg (fun z => e z.symm)]; exact valV_neg (p := (k, y)) e
  | p :: r, hn => by
    rw [List.cons_append]
    have hk : ¬ p.1 = k := fun z => by rw [valV_pos z] at hn; cases hn
    rw [valV_neg hk] at hn
    have ih := valV_snoc k j y r hn
    by_cases e : p.1 = j
    · rw [valV_pos e, valV_pos e, if_neg (fun z => hk (e.trans z))]
    · rw [valV_neg e, valV_neg e, ih]
theorem valV_put (kvs : List (κ × V)) (k j : κ) (y : V) : valV (putK kvs k y) j = if j = k then some y else valV kvs j := by
  unfold putK
  by_cases a : (kvs.any fun kv => decide (kv.1 = k)) = true
  · rw [if_pos a, valV_map]
    rw [valV_any] at a
    by_cases e : j = k
    · obtain ⟨x, hx⟩ := Option.isSome_iff_exists.mp a
      rw [if_pos e, e, hx, Option.map_some, if_pos rfl]
    · rw [if_neg e]
      cases valV kvs j with
      | none => rfl
      | some x => rw [Option.map_some, if_neg e]
  · rw [if_neg a]
    refine valV_snoc k j y kvs ?_
    rw [valV_any] at a
    cases q : valV kvs k with
    | none => rfl
    | some x => rw [q] at a; exact (a rfl).elim
theorem length_putK (kvs : List (κ × V)) (k : κ) (v : V) : (putK kvs k v).length ≤ kvs.length + 1 := by
  unfold putK
  split
  · rw [List.length_map]; omega
  · rw [List.length_append, List.length_cons, List.length_nil]; omega
theorem RelO.isSome_eq {o : Option V} {u : Option Value} (r : RelO o u) : o.isSome = u.isSome := by
  cases o with
  | none => cases u with
    | none => rfl
    | some _ => exact (show False from r).elim
  | some _ => cases u with
    | none => exact (show False from r).elim
    | some _ => rfl
theorem RelO.getD {o : Option V} {u : Option Value} {d : V} {d' : Value} (r : RelO o u) (rd : RelV d d') : RelV (o.getD d) (u.getD d') := by
  cases o with
  | none => cases u with
    | none => exact rd
    | some _ => exact (show False from r).elim
  | some _ => cases u with
    | none => exact (show False from r).elim
    | some _ => exact r

/-- raw tables of the same keys -/
theorem KV.val {kvs : List (κ × V)} {vs : List (κ × Value)} (r : KV kvs vs) (k : κ) : RelO (valV kvs k) (valueAt vs k) := by
  unfold KV at r
  induction r with
  | nil => exact True.intro
  | @cons p q ps qs h t ih =>
    obtain ⟨h1, h2⟩ := h
    by_cases e : p.1 = k
    · have e' : q.1 = k := h1.symm.trans e
      have b : valueAt (q :: qs) k = some q.2 := by simp [valueAt, List.find?_cons, e']
      rw [valV_pos e, b]; exact h2
    · have e' : ¬ q.1 = k := fun z => e (h1.trans z)
      have b : valueAt (q :: qs) k = valueAt qs k := by simp [valueAt, List.find?_cons, e']
      rw [valV_neg e, b]; exact ih
theorem KV.any {kvs : List (κ × V)} {vs : List (κ × Value)} (r : KV kvs vs) (k : κ) : (kvs.any fun kv => decide (kv.1 = k)) = vs.any fun kv => decide (kv.1 = k) := by
  unfold KV at r
  induction r with
  | nil => rfl
  | cons h t ih => rw [List.any_cons, List.any_cons, ih, h.1]
theorem KV.repl {kvs : List (κ × V)} {vs : List (κ × Value)} (r : KV kvs vs) (k : κ) {y : V} {u : Value} (ry : RelV y u) :
    KV (kvs.map fun kv => if kv.1 = k then (kv.1, y) else kv) (vs.map fun kv => if kv.1 = k then (kv.1, u) else kv) := by
  unfold KV at r ⊢
  induction r with
  | nil => exact .nil
  | @cons p q ps qs h t ih =>
    rw [List.map_cons, List.map_cons]
    refine .cons ?_ ih
    obtain ⟨h1, h2⟩ := h
    by_cases e : p.1 = k
    · rw [if_pos e, if_pos (h1.symm.trans e)]; exact ⟨h1, ry⟩
    · rw [if_neg e, if_neg (fun z => e (h1.trans z))]; exact ⟨h1, h2⟩
theorem KV.put {kvs : List (κ × V)} {vs : List (κ × Value)} (r : KV kvs vs) (k : κ) {y : V} {u : Value} (ry : RelV y u) : KV (putK kvs k y) (stored vs k u) := by
  unfold putK stored
  rw [r.any k]
  by_cases e : (vs.any fun kv => decide (kv.1 = k)) = true
  · rw [if_pos e, if_pos e]; exact r.repl k ry
  · rw [if_neg e, if_neg e]; exact Paired.snoc r ⟨rfl, ry⟩
theorem KV.drop {kvs : List (κ × V)} {vs : List (κ × Value)} (r : KV kvs vs) (k : κ) : KV (dropK kvs k) (without vs k) := by
  unfold KV at r ⊢
  unfold dropK without
  induction r with
  | nil => exact .nil
  | @cons p q ps qs h t ih =>
    obtain ⟨h1, h2⟩ := h
    rw [List.filter_cons, List.filter_cons]
    by_cases e : p.1 = k
    · have a : ¬ decide (p.1 ≠ k) = true := by simp [e]
      have b : ¬ decide (q.1 ≠ k) = true := by simp [h1.symm.trans e]
      rw [if_neg a, if_neg b]; exact ih
    · have e' : ¬ q.1 = k := fun z => e (h1.trans z)
      have a : decide (p.1 ≠ k) = true := by simp [e]
      have b : decide (q.1 ≠ k) = true := by simp [e']
      rw [if_pos a, if_pos b]; exact .cons ⟨h1, h2⟩ ih
theorem KV.length {kvs : List (κ × V)} {vs : List (κ × Value)} (r : KV kvs vs) : kvs.length = vs.length := Paired.length r
end


theorem kV_is {P : Program} {w : World} {k : Key} {u : Value} (r : RelV (kV k) u) : (mixKind P w).is k u = true := by
  cases k with
  | inl i => obtain ⟨t, e⟩ := (show ∃ t, u = Value.int i t from r); subst e; exact mixKind_int P w i t
  | inr x => obtain ⟨t, e⟩ := (show ∃ t, u = Value.str x t from r); subst e; exact mixKind_str P w x t
theorem items_are {P : Program} {w : World} : ∀ {ks : List Key} {us : List Value}, Vals (ks.map kV) us → ItemsAre (mixKind P w) ks us
  | [], _, r => by rw [List.map_nil] at r; cases r; exact .nil
  | k :: ks, _, r => by
    rw [List.map_cons] at r
    cases r with
    | cons h t => exact .cons (kV_is h) (items_are t)

/-- raw entries of a dict with tuple keys -/
abbrev KT (H : Hp) : List (List Key × V) → List (List Key × Addr × Value) → Prop := Paired fun p q => p.1 = q.1 ∧ H q.2.1 = some (.tup (p.1.map kV)) ∧ RelV p.2 q.2.2
theorem KT.val {H : Hp} {kvs : List (List Key × V)} {xs : List (List Key × Addr × Value)} (r : KT H kvs xs) (k : List Key) : RelO (valV kvs k) ((atKey xs k).map (·.2)) := by
  induction r with
  | nil => exact True.intro
  | @cons p q ps qs h t ih =>
    obtain ⟨h1, _, h2⟩ := h
    by_cases e : p.1 = k
    · have e' : q.1 = k := h1.symm.trans e
      have b : atKey (q :: qs) k = some q.2 := by simp [atKey, List.find?_cons, e']
      rw [valV_pos e, b]; exact h2
    · have e' : ¬ q.1 = k := fun z => e (h1.trans z)
      have b : atKey (q :: qs) k = atKey qs k := by simp [atKey, List.find?_cons, e']
      rw [valV_neg e, b]; exact ih
theorem KT.repl {H : Hp} {kvs : List (List Key × V)} {xs : List (List Key × Addr × Value)} (r : KT H kvs xs) (k : List Key) {y : V} {u : Value} (ry : RelV y u) :
    KT H (kvs.map fun kv => if kv.1 = k then (kv.1, y) else kv) (xs.map (putAt k u)) := by
  induction r with
  | nil => exact .nil
  | @cons p q ps qs h t ih =>
    rw [List.map_cons, List.map_cons]
    refine .cons ?_ ih
    obtain ⟨h1, h2, h3⟩ := h
    unfold putAt
    by_cases e : p.1 = k
    · rw [if_pos e, if_pos (h1.symm.trans e)]; exact ⟨h1, h2, ry⟩
    · rw [if_neg e, if_neg (fun z => e (h1.trans z))]; exact ⟨h1, h2, h3⟩
theorem KT.put {H : Hp} {kvs : List (List Key × V)} {xs : List (List Key × Addr × Value)} (r : KT H kvs xs) (k : List Key) {b : Addr} {y : V} {u : Value} (hb : H b = some (.tup (k.map kV))) (ry : RelV y u) :
    KT H (putK kvs k y) (storedH xs k b u) := by
  have e : (kvs.any fun kv => decide (kv.1 = k)) = (atKey xs k).isSome := by
    rw [valV_any, (r.val k).isSome_eq, Option.isSome_map]
  unfold putK storedH
  rw [e]
  by_cases q : (atKey xs k).isSome = true
  · rw [if_pos q, if_pos q]; exact r.repl k ry
  · rw [if_neg q, if_neg q]; exact Paired.snoc r ⟨rfl, hb, ry⟩
theorem KT.keeps {H H' : Hp} {kvs : List (List Key × V)} {xs : List (List Key × Addr × Value)} (r : KT H kvs xs) (ht : ∀ b ys, H b = some (.tup ys) → H' b = some (.tup ys)) : KT H' kvs xs :=
  Paired.mapP r fun _ _ z => ⟨z.1, ht _ _ z.2.1, z.2.2⟩

section
variable {P : Program} {w : World} {H : Hp} {h : Heap} {a : Addr}
theorem rd_of {u : HO} (ok : HOk P w H h) (e : Rd H a u) : ObjOk P w H h a u := e.ok ok
theorem dk_rd {kvs : List (Key × V)} (ok : HOk P w H h) (e : Rd H a (.dK kvs)) : kvs.length ≤ sizeLine ∧ (a == sysModules) = false ∧ ∃ vs, KV kvs vs ∧ h.DictOf (mixKind P w) a vs :=
  show ObjOk P w H h a (.dK kvs) from rd_of ok e
theorem dk_of {kvs : List (Key × V)} (ok : HOk P w H h) (e : H a = some (.dK kvs)) : kvs.length ≤ sizeLine ∧ (a == sysModules) = false ∧ ∃ vs, KV kvs vs ∧ h.DictOf (mixKind P w) a vs := dk_rd ok (.inl e)
/-- a tracked tuple of ints and texts is a key -/
theorem key_of {ks : List Key} (ok : HOk P w H h) (e : H a = some (.tup (ks.map kV))) : (tupleKind (mixKind P w)).is h ks a := by
  obtain ⟨_, its, r, o, h1, h2, n, h3⟩ := (show ObjOk P w H h a (.tup (ks.map kV)) from ok a _ e)
  exact ⟨o, its.toArray, n, h1, h2, h3, by simpa using items_are r⟩
theorem dt_rd {kvs : List (List Key × V)} (ok : HOk P w H h) (e : Rd H a (.dT kvs)) : kvs.length ≤ sizeLine ∧ (a == sysModules) = false ∧
    ∃ xs, KT H kvs xs ∧ h.DictOfH (tupleKind (mixKind P w)) a xs := by
  obtain ⟨z, y, xs, r, o, es, ep, h1, h2, h3, h4, h5⟩ := (show ObjOk P w H h a (.dT kvs) from rd_of ok e)
  refine ⟨z, y, xs, r, o, es, ep, h1, h2, h3, h4, fun x hx => ?_, h5⟩
  have all : ∀ {l : List (List Key × V)} {m : List (List Key × Addr × Value)}, KT H l m → ∀ x ∈ m, (tupleKind (mixKind P w)).is h x.1 x.2.1 := by
    intro l m q
    induction q with
    | nil => intro x hx; exact nomatch hx
    | @cons p q ps qs hq t ih =>
      intro x hx
      rcases List.mem_cons.mp hx with e | hx
      · subst e
        exact key_of ok (by rw [← hq.1]; exact hq.2.1)
      · exact ih x hx
  exact all r x hx
theorem dt_of {kvs : List (List Key × V)} (ok : HOk P w H h) (e : H a = some (.dT kvs)) : kvs.length ≤ sizeLine ∧ (a == sysModules) = false ∧
    ∃ xs, KT H kvs xs ∧ h.DictOfH (tupleKind (mixKind P w)) a xs := dt_rd ok (.inl e)
end

/-- what the dict at a holds at the key y -/
def DGet (H : Hp) (a : Addr) (y : V) (r : Option V) : Prop :=
  (∃ kvs k, Rd H a (.dK kvs) ∧ y = kV k ∧ r = valV kvs k) ∨ ∃ kvs k b, Rd H a (.dT kvs) ∧ y = .ref b ∧ H b = some (.tup (k.map kV)) ∧ r = valV kvs k
/-- the heap behind a[y] = v -/
def DPut (H : Hp) (a : Addr) (y v : V) (H' : Hp) : Prop :=
  (∃ kvs k, H a = some (.dK kvs) ∧ y = kV k ∧ kvs.length < sizeLine ∧ H' = upd H a (.dK (putK kvs k v))) ∨
  ∃ kvs k b, H a = some (.dT kvs) ∧ y = .ref b ∧ H b = some (.tup (k.map kV)) ∧ kvs.length < sizeLine ∧ H' = upd H a (.dT (putK kvs k v))
theorem DGet.t {H : Hp} {a b : Addr} {kvs : List (List Key × V)} {k : List Key} (e : H a = some (.dT kvs)) (eb : H b = some (.tup (k.map kV))) : DGet H a (.ref b) (valV kvs k) := .inr ⟨kvs, k, b, .inl e, rfl, eb, rfl⟩
theorem DPut.t {H : Hp} {a b : Addr} {kvs : List (List Key × V)} {k : List Key} {v : V} (e : H a = some (.dT kvs)) (eb : H b = some (.tup (k.map kV))) (hl : kvs.length < sizeLine) :
    DPut H a (.ref b) v (upd H a (.dT (putK kvs k v))) := .inr ⟨kvs, k, b, e, rfl, eb, hl, rfl⟩


section
variable {X : Cx} {pins : List (Addr × Obj)} {σ : St} {H : Hp} {s : Shared} {a : Addr} {y v : V} {u r : Value} {o : Option V} {A : Around} {E : Value → Shared → Prop}

theorem Inv.big (I : Inv X pins σ H s) : sysModules < s.heap.objs.size := by
  have h : mainGlobals < s.heap.objs.size := (I.mod.glob.keeps I.bk).lt
  exact Nat.lt_trans (by decide) h

/-- d[y], there -/
theorem d_getItem {Q : Value → Shared → Prop} (hu : A.units + 1 < cLine) (I : Inv X pins σ H s) (g : DGet H a y (some v)) (ry : RelV y u) (h : ∀ w' s', Inv X pins σ H s' → RelV v w' → Q w' s') :
    wpAny (model X.prog X.w) A (getItem (.ref a) u) Q E s := by
  rcases g with ⟨kvs, k, e, ey, l⟩ | ⟨kvs, k, b, e, ey, eb, l⟩
  · subst ey
    obtain ⟨z, hd, vs, rel, dd⟩ := dk_rd I.hok e
    obtain ⟨w', hw, rw'⟩ := RelO.some_of (v := v) (o := valueAt vs k) (by rw [l]; exact rel.val k)
    exact wpAny_getItem_of (kV_is ry) dd.mapOf hw (h w' _ (I.tok _) rw')
  · subst ey
    cases (show u = Value.ref b from ry)
    obtain ⟨z, hd, xs, rel, dd⟩ := dt_rd I.hok e
    obtain ⟨w', hw, rw'⟩ := RelO.some_of (v := v) (o := (atKey xs k).map (·.2)) (by rw [l]; exact rel.val k)
    obtain ⟨p, hp, hp2⟩ := Option.map_eq_some_iff.mp hw
    refine wpAny_getItem_heap (tupleKind_room_in1 hu) (key_of I.hok eb) dd hp ?_
    rw [hp2]
    exact h w' _ (I.tok _) rw'
/-- y in d -/
theorem d_in {Q : Value → Shared → Prop} (hu : A.units + 1 < cLine) (I : Inv X pins σ H s) (g : DGet H a y o) (ry : RelV y u) (h : ∀ s', Inv X pins σ H s' → Q (.bool o.isSome) s') :
    wpAny (model X.prog X.w) A (compareOp .In u (.ref a)) Q E s := by
  rcases g with ⟨kvs, k, e, ey, l⟩ | ⟨kvs, k, b, e, ey, eb, l⟩
  · subst ey
    obtain ⟨z, hd, vs, rel, dd⟩ := dk_rd I.hok e
    refine wpAny_in_of (kV_is ry) hd dd.mapOf ?_
    rw [← (rel.val k).isSome_eq, ← l]
    exact h _ (I.tok _)
  · subst ey
    cases (show u = Value.ref b from ry)
    obtain ⟨z, hd, xs, rel, dd⟩ := dt_rd I.hok e
    refine wpAny_in_heap (tupleKind_room_in1 hu) (key_of I.hok eb) hd dd ?_
    have q := (rel.val k).isSome_eq
    rw [Option.isSome_map] at q
    rw [← q, ← l]
    exact h _ (I.tok _)
/-- a dict's object is replaced -/
theorem d_write {h' : Heap} {t' : Nat} {ob : HO} (I : Inv X pins σ H s) (mu : Mut (H a)) (hs : Heap.SameBut a s.heap h') (he : ∃ q, h'.get? a = some q) (new : ObjOk X.prog X.w (upd H a ob) h' a ob) :
    Inv X pins σ (upd H a ob) { s with heap := h', toks := t' } :=
  I.write (x := a) (e := a) mu (.inl rfl) (fun b q hb z => (hs.2 b hb).trans z) he new
theorem dk_new {P : Program} {w : World} {H' : Hp} {h' : Heap} {kvs : List (Key × V)} {vs : List (Key × Value)} (z : kvs.length ≤ sizeLine) (hd : (a == sysModules) = false) (rel : KV kvs vs) (dd : h'.DictOf (mixKind P w) a vs) :
    ObjOk P w H' h' a (.dK kvs) := ⟨z, hd, vs, rel, dd⟩
/-- d[y] = v -/
theorem d_setItem {H' : Hp} {Q : Unit → Shared → Prop} (hu : A.units + 1 < cLine) (I : Inv X pins σ H s) (g : DPut H a y v H') (ry : RelV y u) (rv : RelV v r) (h : ∀ s', Inv X pins σ H' s' → Q () s') :
    wpAny (model X.prog X.w) A (setItem (.ref a) u r) Q E s := by
  rcases g with ⟨kvs, k, e, ey, l, eH⟩ | ⟨kvs, k, b, e, ey, eb, l, eH⟩
  · subst ey eH
    obtain ⟨z, hd, vs, rel, dd⟩ := dk_of I.hok e
    have hz : vs.length ≤ sizeLine := by rw [← rel.length]; exact z
    have hl : (putK kvs k v).length ≤ sizeLine := by have := length_putK kvs k v; omega
    refine wpAny_setItem_pairs (hsz := hz) (kV_is ry) dd fun h' dd' hs => h _ ?_
    have he : ∃ q, h'.get? a = some q := let ⟨q, _, _, hq, _⟩ := dd'; ⟨q, hq⟩
    exact d_write I (by rw [e]; exact True.intro) hs he (dk_new hl hd (rel.put k rv) dd')
  · subst ey eH
    cases (show u = Value.ref b from ry)
    obtain ⟨z, hd, xs, rel, dd⟩ := dt_of I.hok e
    have hz : xs.length ≤ sizeLine := by rw [← Paired.length rel]; exact z
    have hl : (putK kvs k v).length ≤ sizeLine := by have := length_putK kvs k v; omega
    refine wpAny_setItem_heap (hsz := hz) (tupleKind_room_in1 hu) (key_of I.hok eb) dd fun h' dd' hs => h _ ?_
    obtain ⟨q, es, ep, hq, h2, h3, h4, _, h5⟩ := dd'
    refine d_write I (by rw [e]; exact True.intro) hs ⟨q, hq⟩ ⟨hl, hd, _, (rel.put k eb rv).keeps fun c ys ec => ?_, q, es, ep, hq, h2, h3, h4, h5⟩
    rw [upd_ne (ne_of ec e (fun z => nomatch z))]
    exact ec
end

section
variable {X : Cx} {pins : List (Addr × Obj)} {σ : St} {H : Hp} {s : Shared} {a : Addr} {kvs : List (Key × V)} {k : Key} {u : Value} {A : Around} {E : Value → Shared → Prop}
end


/-- the element of a subscription, not a slice -/
def NoSl (i : Expr) : Prop := ∀ ov iv, subscripted i false ov iv = operate [ov, iv] (getItem ov iv)
theorem subD_of {prog : Program} {w : World} {A : Around} {E : Value → Shared → Prop} {s : Shared} {env : Env} {value slice : Expr} {pos : Pos} {T id : String} {Q : Value → Shared → Prop}
    (hl : typeLookup (.type T) "__getitem__" = pure (some (.builtin id))) (hs : NoSl slice)
    (h : wpAny (model prog w) A (eval value env) (fun o s₁ => wpAny (model prog w) A (eval slice env) (fun i s₂ => s₂.TypeIs o T ∧ wpAny (model prog w) A (getItem o i) Q E s₂) E s₁) E s) :
    wpAny (model prog w) A (eval (.Subscript value slice pos) env) Q E s := by
  refine Subscript_ (wpAny_mono h (fun o s₁ h₁ => wpAny_mono h₁ (fun i s₂ h₂ => ?_) fun _ _ x => x) fun _ _ x => x)
  obtain ⟨hT, h₂⟩ := h₂
  unfold subscriptTail
  refine wpAny_bind ?_
  rw [getitemInPython_of_ne hT.not_modules]
  refine wpAny_bind (wpAny_specialOf hT hl ?_)
  have fin : wpAny (model prog w) A (subscripted slice false o i) (fun r s₃ => wpAny (model prog w) A (letTemporaryGo value o r >>= fun _ => pure r) Q E s₃) E s₂ := by
    rw [hs o i]
    exact wpAny_operating (wpAny_mono h₂ (fun r s₃ h₃ => wpAny_bind (wpAny_letTemporaryGo (wpAny_pure h₃))) fun _ _ x => x)
  first
    | exact wpAny_pure (wpAny_bind fin)
    | exact wpAny_bind (wpAny_pure (wpAny_bind fin))
    | exact wpAny_bind fin

theorem dict_typeIs {X : Cx} {pins : List (Addr × Obj)} {σ : St} {H : Hp} {s : Shared} {a : Addr} {y : V} {o : Option V} (I : Inv X pins σ H s) (g : DGet H a y o) : s.TypeIs (.ref a) "dict" := by
  rcases g with ⟨kvs, k, e, _, _⟩ | ⟨kvs, k, b, e, _, _, _⟩
  · obtain ⟨_, _, vs, _, dd⟩ := dk_rd I.hok e
    exact dd.typeIs
  · obtain ⟨_, _, xs, _, dd⟩ := dt_rd I.hok e
    exact dd.typeIs
/-- d[y] -/
def tDGet (td ty : TE) : TE := fun σ H Q => td σ H fun x H1 => ty σ H1 fun y H2 => ∃ a v, x = .ref a ∧ DGet H2 a y (some v) ∧ Q v H2
/-- y in d, y not in d -/
def tDIn (ty td : TE) : TE := fun σ H Q => ty σ H fun y H1 => td σ H1 fun x H2 => ∃ a o, x = .ref a ∧ DGet H2 a y o ∧ Q (.bl o.isSome) H2
def tDNotIn (ty td : TE) : TE := fun σ H Q => ty σ H fun y H1 => td σ H1 fun x H2 => ∃ a o, x = .ref a ∧ DGet H2 a y o ∧ Q (.bl (!o.isSome)) H2
/-- d[y] = v -/
def sDPut (td ty tv : TE) : TS := fun D σ H => tv σ H fun v H1 => td σ H1 fun x H2 => ty σ H2 fun y H3 => ∃ a H4, x = .ref a ∧ DPut H3 a y v H4 ∧ D.nx σ H4
section
variable {X : Cx} {o i e value : Expr} {pos pos' tpos : Pos} {td ty tv : TE}
theorem pe_dget (hu : X.A.units + 1 < cLine) (ho : PE X o td) (hi : PE X i ty) (hs : NoSl i) : PE X (.Subscript o i pos) (tDGet td ty) := by
  intro pins s σ H Q I h
  refine subD_of PySem.F.slot_dict_getitem.lookup hs (thn (ho pins s σ H _ I h) fun u s1 ⟨x, H1, I1, rx, q1⟩ => thn (hi pins s1 σ H1 _ I1 q1) fun iv s2 ⟨y, H2, I2, ry, a, v, ex, g, q2⟩ => ?_)
  subst ex
  obtain rfl : u = Value.ref a := rx
  exact ⟨dict_typeIs I2 g, d_getItem hu I2 g ry fun w' s3 I3 rw' => ⟨v, H2, I3, rw', q2⟩⟩
theorem pc_din (hu : X.A.units + 1 < cLine) (hi : PE X i ty) (ho : PE X o td) : PC X .In i o (tDIn ty td) := by
  intro pins s σ H Q I h
  refine thn (hi pins s σ H _ I h) fun iv s1 ⟨y, H1, I1, ry, q1⟩ => thn (ho pins s1 σ H1 _ I1 q1) fun u s2 ⟨x, H2, I2, rx, a, ov, ex, g, q2⟩ => ?_
  subst ex
  obtain rfl : u = Value.ref a := rx
  exact d_in hu I2 g ry fun s3 I3 => ⟨.bl ov.isSome, H2, I3, rfl, q2⟩
theorem ps_dput (hu : X.A.units + 1 < cLine) (ho : PE X o td) (hi : PE X i ty) (hv : PE X value tv) (hs : swapsWith value (some (.Subscript o i pos')) pos.line X.env = pure false) :
    PS X (.Assign [.Subscript o i pos'] value pos) (sDPut td ty tv) := by
  intro pins s σ H D I h
  refine wpAny_Assign_Subscript (thn (hv pins s σ H _ I h) fun r s1 ⟨v, H1, I1, rv, q1⟩ => thn (ho pins s1 σ H1 _ I1 q1) fun u s2 ⟨x, H2, I2, rx, q2⟩ => thn (hi pins s2 σ H2 _ I2 q2) fun iv s3 ⟨y, H3, I3, ry, a, H4, ex, g, q3⟩ => ?_) hs
  subst ex
  obtain rfl : u = Value.ref a := rx
  exact d_setItem hu I3 g ry rv fun s4 I4 => ⟨σ, H4, I4, q3⟩
end


theorem dt_empty {P : Program} {w : World} {H : Hp} (h : Heap) (hb : sysModules < h.objs.size) : ObjOk P w H (h.push { cls := .type "dict", data := .dict #[] }) h.objs.size (.dT []) :=
  ⟨Nat.zero_le _, beq_eq_false_iff_ne.mpr (Ne.symm (Nat.ne_of_lt hb)), [], .nil, _, #[], 0, Heap.get?_push_size _ rfl, ⟨rfl, rfl, rfl⟩, rfl, rfl, List.nodup_nil⟩
def tDNewT : TE := fun _ H Q => ∀ p, H p = none → Q (.ref p) (upd H p (.dT []))
section
variable {X : Cx} {pos : Pos}
theorem pe_dnewT : PE X (.Dict [] [] pos) tDNewT := fun pins s σ H Q I h =>
  wpAny_Dict_empty ⟨.ref s.heap.objs.size, _, I.laid (a := s.heap.objs.size) (o := .dT []) (t' := s.toks) (fun _ _ q => Heap.get?_push_of_some _ q) (Nat.le_refl _) (dt_empty s.heap I.big), rfl, h _ (I.hok.fresh (Nat.le_refl _))⟩
end

structure M2 (X : Cx) (o : Expr) (m : Str) (apos : Pos) (e f : Expr) (cpos : Pos) : Prop where
  base : attributeBase o m X.env (eval o X.env) = eval o X.env
  few : ((backTo cpos (starEach [e, f] X.env)).all (fun x => !x.1) && (backToKw cpos (keywordEach [] X.env)).all (fun x => x.1.isSome)
    && decide (([e, f] : List Expr).length + ([] : List Keyword).length + (if ([] : List Keyword).isEmpty then 0 else 1) < 30)) = true
  line : (apos.endLine == cpos.line) = true
  trees : backTo cpos (starEach [e, f] X.env) = [(false, eval e X.env), (false, eval f X.env)]

/-- a is a dict, whatever its keys -/
def IsD (H : Hp) (a : Addr) : Prop := (∃ kvs, Rd H a (.dK kvs)) ∨ ∃ kvs, Rd H a (.dT kvs)
theorem isD_at {X : Cx} {pins : List (Addr × Obj)} {σ : St} {H : Hp} {s : Shared} {a : Addr} (I : Inv X pins σ H s) (d : IsD H a) :
    s.TypeIs (.ref a) "dict" ∧ (∀ b, Value.ref a = .ref b → ∃ ob, s.heap.get? b = some ob ∧ ob.dict = none) ∧ (a == sysModules) = false := by
  rcases d with ⟨kvs, e⟩ | ⟨kvs, e⟩
  · obtain ⟨_, hd, vs, _, dd⟩ := dk_rd I.hok e
    refine ⟨dd.typeIs, fun b q => ?_, hd⟩
    cases q
    obtain ⟨ob, _, _, h1, h2, _⟩ := dd
    exact ⟨ob, h1, h2.2.1⟩
  · obtain ⟨_, hd, xs, _, dd⟩ := dt_rd I.hok e
    refine ⟨dd.typeIs, fun b q => ?_, hd⟩
    cases q
    obtain ⟨ob, _, _, h1, h2, _⟩ := dd
    exact ⟨ob, h1, h2.2.1⟩

section
variable {X : Cx} {pins : List (Addr × Obj)} {σ : St} {H : Hp} {s : Shared} {a : Addr} {y d : V} {u r : Value} {o : Option V} {A : Around} {E : Value → Shared → Prop}
/-- d.get(y, x) -/
theorem d_get2 {Q : Value → Shared → Prop} (hu : A.units + 1 < cLine) (I : Inv X pins σ H s) (g : DGet H a y o) (ry : RelV y u) (rd : RelV d r) (h : ∀ w' s', Inv X pins σ H s' → RelV (o.getD d) w' → Q w' s') :
    wpAny (model X.prog X.w) A (call (.builtin "dict.get") [.ref a, u, r]) Q E s := by
  rcases g with ⟨kvs, k, e, ey, l⟩ | ⟨kvs, k, b, e, ey, eb, l⟩
  · subst ey
    obtain ⟨z, hd, vs, rel, dd⟩ := dk_rd I.hok e
    refine call_meetsIn PySem.F.slot_dict_get dd.typeIs PySem.F.entry_dict_get (PySem.F.args_dict_get_3 _ _ _) (meets_dict_get_default (mixKind X.prog X.w) a (kV_is ry) hd r) ⟨_, dd.mapOf, h _ _ (I.tok _) ?_⟩
    rw [l]
    exact (rel.val k).getD rd
  · subst ey
    cases (show u = Value.ref b from ry)
    obtain ⟨z, hd, xs, rel, dd⟩ := dt_rd I.hok e
    refine call_meetsIn PySem.F.slot_dict_get dd.typeIs PySem.F.entry_dict_get (PySem.F.args_dict_get_3 _ _ _) (meetsH_dict_get_default (tupleKind (mixKind X.prog X.w)) a b hd r) ⟨tupleKind_room_in1 hu, k, xs, key_of I.hok eb, dd, h _ _ (I.tok _) ?_⟩
    rw [l]
    exact (rel.val k).getD rd
end

def tDGet2 (td ty tx : TE) : TE := fun σ H Q => td σ H fun x H1 => ∃ a, x = .ref a ∧ IsD H1 a ∧ ty σ H1 fun y H2 => tx σ H2 fun z H3 => ∃ o, DGet H3 a y o ∧ Q (o.getD z) H3
section
variable {X : Cx} {o e f : Expr} {apos cpos : Pos} {td ty tx : TE}
theorem pe_dget2 (hu : X.A.units + 1 < cLine) (ho : PE X o td) (he : PE X e ty) (hf : PE X f tx) (m : M2 X o "get" apos e f cpos) : PE X (.Call (.Attribute o "get" apos) [e, f] [] cpos) (tDGet2 td ty tx) := by
  intro pins s σ H Q I h
  refine wpAny_Call_method m.base m.few m.line PySem.F.plainAttrs_dict PySem.F.slot_dict_get PySem.F.type_dict_get (thn (ho pins s σ H _ I h) fun u s1 ⟨x, H1, I1, rx, a, ex, d, q1⟩ => ?_)
  subst ex
  obtain rfl : u = Value.ref a := rx
  obtain ⟨t1, t2, _⟩ := isD_at I1 d
  refine ⟨t1, t2, ?_⟩
  rw [m.trees]
  refine Calls.callWith_builtin rfl (Calls.evalArgs_plain (Calls.spliced_cons (thn (he pins s1 σ H1 _ I1 q1) fun iv s2 ⟨y, H2, I2, ry, q2⟩ =>
    Calls.spliced_cons (thn (hf pins s2 σ H2 _ I2 q2) fun fv s3 ⟨z, H3, I3, rz, ov, g, q3⟩ => Calls.spliced_nil ?_))))
  exact d_get2 hu I3 g ry rz fun w' s4 I4 rw' => ⟨_, H3, I4, rw', q3⟩
end

section
variable {X : Cx} {pins : List (Addr × Obj)} {σ : St} {H : Hp} {s : Shared} {a : Addr} {kvs : List (Key × V)} {A : Around} {E : Value → Shared → Prop}
end


section
variable {X : Cx} {pins : List (Addr × Obj)} {σ : St} {H : Hp} {s : Shared} {a : Addr} {y : V} {u : Value} {A : Around} {E : Value → Shared → Prop}
end
end L2

set_option Elab.async false
set_option linter.all false
set_option maxRecDepth 100000
set_option maxHeartbeats 1000000
namespace L2
open PySem PySem.Spec PyProof.Rows
section
variable {prog : Program} {w : World} {A : Around} {E : Value → Shared → Prop} {s : Shared} {it d : Addr} {i ep : Nat} {es : Array DictEntry} {o : Obj}
theorem raw_iter {Q : Value → Shared → Prop} (hs : (d == sysModules) = false) (hd : s.heap.get? d = some o) (hx : o.ExactDict) (ht : s.TypeIs (.ref d) "dict") (hdat : o.data = .dict es ep)
    (hQ : Q (.ref s.heap.objs.size) { s with heap := s.heap.push { cls := .type "dict_keyiterator", data := .fields #[.ref d, .int 0 0, .int es.size 0, .int ep 0] } }) :
    wpAny (model prog w) A (pyIter (.ref d)) Q E s := by
  refine wpAny_pyIter_slot ht F.slot_dict_iter (wpAny_call_entry F.slot_dict_iter ht F.entry_dict_iter ?_ (F.args_dict_iter_1 _))
  unfold Builtin.«dict.__iter__» Builtin.Dict.dictSlotNone Builtin.Dict.showsAll
  refine wpAny_bind (wpAny_bind (wpAny_notOrdered_dict ht (wpAny_pure ?_)))
  show wpAny _ _ ((if (d == sysModules) = true then _ else _) >>= _) _ _ s
  rw [if_neg (by rw [hs]; exact Bool.false_ne_true)]
  refine wpAny_bind (wpAny_pure (wpAny_bind (wpAny_dictEntries hd hdat (wpAny_bind (wpAny_dictEpoch hd hdat ?_)))))
  refine wpAny_bind (wpAny_newObj_type (wpAny_pure ⟨_, rfl, "dict_keyiterator", _, ⟨_, Heap.get?_push_size _ rfl, rfl⟩, F.slot_dict_keyiterator_next.lookup, ?_⟩))
  simpa [rawInt] using hQ
theorem raw_next {Q : Option Value → Shared → Prop} (hit : s.heap.IsKeyIter it d i es.size ep) (hd : s.heap.get? d = some o) (hdat : o.data = .dict es ep) (hlt : i < es.size)
    (hQ : ∀ h', h'.IsKeyIter it d (i + 1) es.size ep → Heap.SameBut it s.heap h' → Q (some es[i].key) { s with heap := h' }) :
    wpAny (model prog w) A (pyNext (.ref it)) Q E s := by
  obtain ⟨oi, ho, hc, hf⟩ := id hit
  have hown : Builtin.Dict_items.ownsTuple "dict_keyiterator" = false := by decide
  unfold pyNext
  refine wpAny_bind (wpAny_attempt (wpAny_callSpecial?_slot (name := Str.ofString "__next__") hit.typeIs F.slot_dict_keyiterator_next
    (wpAny_call_entry F.slot_dict_keyiterator_next hit.typeIs F.entry_dict_keyiterator_next (wpAny_bind (wpAny_pure (wpAny_bind (wpAny_bind ?_)))) (F.args_dict_keyiterator_next_1 _))))
  refine wpAny_bind (wpAny_typeNameOfWhole_keyiter hit.typeIs (wpAny_pure (wpAny_bind (wpAny_fieldsOf ho hf ?_))))
  simp only [hown, Bool.false_eq_true, if_false]
  show wpAny _ _ (if (Value.ref d == Value.none) = true then _ else _) _ _ s
  rw [if_neg (show ¬ ((Value.ref d == Value.none) = true) from Bool.false_ne_true)]
  refine wpAny_bind (wpAny_pure (wpAny_bind (wpAny_dictEntries hd hdat ?_)))
  rw [if_neg (by simp)]
  refine wpAny_bind (wpAny_pure (wpAny_bind (wpAny_dictEpoch hd hdat ?_)))
  rw [if_neg (by simp)]
  refine wpAny_pure ?_
  simp only [show ¬ ((i : Int) < 0) from by lia, if_false, Int.toNat_natCast, Array.getElem?_eq_getElem hlt]
  refine wpAny_bind (wpAny_bind (wpAny_typeNameOfWhole_keyiter hit.typeIs (wpAny_pure (wpAny_bind (wpAny_isOneOf_keyiter hit.typeIs ?_)))))
  show wpAny _ _ (setField (.ref it) 1 (rawInt ((i : Int) + 1)) >>= _) _ _ s
  refine wpAny_bind (wpAny_setField ho hf (by simp) ?_)
  have hit2 : (s.heap.update it (Obj.mapFields (·.setIfInBounds 1 (rawInt ((i : Int) + 1))))).IsKeyIter it d (i + 1) es.size ep :=
    ⟨_, Heap.get?_update_self _ ho (Obj.isFreed_of_fields (Obj.data_mapFields hf _)), (Obj.cls_mapFields ..).trans hc, by rw [Obj.data_mapFields hf]; simp [rawInt]⟩
  refine wpAny_bind (wpAny_holding (wpAny_bind (wpAny_isOneOf_keyiter (s := { s with heap := s.heap.update it (Obj.mapFields (·.setIfInBounds 1 (rawInt ((i : Int) + 1)))) }) hit2.typeIs ?_)))
  show wpAny _ _ (pure es[i].key) _ _ _
  exact wpAny_pure (wpAny_pure ⟨_, rfl, wpAny_pure (hQ _ hit2 (Heap.SameBut.update ..))⟩)
theorem raw_end {Q : Option Value → Shared → Prop} (hh : A.handled = none) (hit : s.heap.IsKeyIter it d i es.size ep) (hd : s.heap.get? d = some o) (hdat : o.data = .dict es ep) (hge : es.size ≤ i)
    (hQ : ∀ h', Heap.ExtBut it s.heap h' → Q none { s with heap := h' }) : wpAny (model prog w) A (pyNext (.ref it)) Q E s := by
  obtain ⟨oi, ho, hc, hf⟩ := id hit
  have hown : Builtin.Dict_items.ownsTuple "dict_keyiterator" = false := by decide
  unfold pyNext
  refine wpAny_bind (wpAny_attempt (wpAny_callSpecial?_slot (name := Str.ofString "__next__") hit.typeIs F.slot_dict_keyiterator_next
    (wpAny_call_entry F.slot_dict_keyiterator_next hit.typeIs F.entry_dict_keyiterator_next (wpAny_bind (wpAny_pure (wpAny_bind (wpAny_bind ?_)))) (F.args_dict_keyiterator_next_1 _))))
  refine wpAny_bind (wpAny_typeNameOfWhole_keyiter hit.typeIs (wpAny_pure (wpAny_bind (wpAny_fieldsOf ho hf ?_))))
  simp only [hown, Bool.false_eq_true, if_false]
  show wpAny _ _ (if (Value.ref d == Value.none) = true then _ else _) _ _ s
  rw [if_neg (show ¬ ((Value.ref d == Value.none) = true) from Bool.false_ne_true)]
  refine wpAny_bind (wpAny_pure (wpAny_bind (wpAny_dictEntries hd hdat ?_)))
  rw [if_neg (by simp)]
  refine wpAny_bind (wpAny_pure (wpAny_bind (wpAny_dictEpoch hd hdat ?_)))
  rw [if_neg (by simp)]
  refine wpAny_pure ?_
  simp only [show ¬ ((i : Int) < 0) from by lia, if_false, Int.toNat_natCast, Array.getElem?_eq_none hge]
  refine wpAny_bind (wpAny_bind (wpAny_typeNameOfWhole_keyiter hit.typeIs (wpAny_pure ?_)))
  show wpAny _ _ (setField (.ref it) 0 .none >>= _) _ _ s
  refine wpAny_bind (wpAny_setField ho hf (by simp) ?_)
  show wpAny _ _ (newExc (.type "StopIteration") [] >>= _) _ _ _
  simp only [newExc, newTuple]
  refine wpAny_bind (wpAny_bind (wpAny_newObj_type ?_ (by size_fits)))
  refine wpAny_bind (m := firstArgMember _ _) (wpAny_of_eq (a := Value.none) (by first | rfl | (simp only [firstArgMember]; rfl)) (wpAny_newObj_type ?_ (by size_fits)))
  simp only [raiseNew]
  refine wpAny_bind (wpAny_handled ?_)
  rw [show A.in1.handled = none from hh]
  refine wpAny_bind (wpAny_pure (wpAny_throw ?_))
  refine wpAny_bind (wpAny_isInstance (T := "StopIteration") (b := true) ⟨_, Heap.get?_push_size _ rfl, rfl⟩ isSubtype_stop ?_)
  exact wpAny_pure (hQ _ (((Heap.SameBut.update ..).extBut.push _).push _))
end
/-- the keys of the dict at d, which stays the very object ob -/
def Itd (d : Addr) (ob : Obj) (kvs : List (List Key × V)) : It :=
  ⟨fun i H => H d = some (.frz ob (.dT kvs)) ∧ i < kvs.length, fun i H x H' => H' = H ∧ ∃ b k v, kvs[i]? = some (k, v) ∧ x = .ref b ∧ H b = some (.tup (k.map kV)), fun i H => H d = some (.frz ob (.dT kvs)) ∧ kvs.length ≤ i⟩
theorem turn_dictT {P : Program} {w : World} {K : PySem.W.Frag} {tg : Expr} (d it : Addr) (ob : Obj) (es : Array DictEntry) (ep : Nat) (kvs : List (List Key × V)) (hdat : ob.data = .dict es ep) (hsz : es.size = kvs.length) :
    Turn P w K tg (Itd d ob kvs) [it] it (fun i h => h.IsKeyIter it d i es.size ep) where
  mem := by simp
  obj := fun i h st b hb => by
    have e : b = it := by simpa using hb
    subst e
    obtain ⟨o, e, c, dd⟩ := st
    exact ⟨o, e, fun v z => by rw [dd] at z; cases z⟩
  keep := fun i h h' st k => st.at fun o e => k it (by simp) o e
  item := by
    intro X hP hw hK hc i pins s σ H E I hf st hg
    subst hP hw hK
    obtain ⟨hH, hlt⟩ := hg
    obtain ⟨f0, f1, f2, f3, f4, f5⟩ := hf it (by simp)
    obtain ⟨hob, hz, hsm, xs, rel, o', es', ep', g1, g2, g3, g4, g5⟩ := (show ObjOk X.prog X.w H s.heap d (.frz ob (.dT kvs)) from I.hok d _ hH)
    rw [hob] at g1
    cases g1
    rw [hdat] at g3
    cases g3
    have hlt' : i < es.size := by lia
    refine raw_next st hob hdat hlt' fun h' st' sb => ?_
    have I1 : Inv X pins σ H { s with heap := h' } := I.turned (t' := s.toks) (fun b o hb e => (sb.2 b hb).trans e) f0 f1 f3 f4 f5
    have hxl : xs.length = kvs.length := (Paired.length rel).symm
    have hxi : xs[i]? = some xs[i] := List.getElem?_eq_getElem (by lia)
    have hki : kvs[i]? = some kvs[i] := List.getElem?_eq_getElem hlt
    obtain ⟨q, hq, r1, r2, r3⟩ := Paired.get' rel hki
    rw [hxi] at hq
    have hq' : xs[i] = q := Option.some.inj hq
    have hkey : es[i].key = .ref q.2.1 := by
      have z : es.toList[i]? = (xs.map (entryOfKey (tupleKind (mixKind X.prog X.w))))[i]? := by rw [g4]
      rw [List.getElem?_map, hxi, Array.getElem?_toList, Array.getElem?_eq_getElem hlt'] at z
      have z' := Option.some.inj z
      rw [z', hq']
      rfl
    rw [hkey]
    obtain ⟨oi, ei, ci, di⟩ := id st'
    exact ⟨_, rfl, go_of (s := { s with heap := h' }) ei ci di (by decide) ⟨.ref q.2.1, H, I1, rfl, ⟨rfl, q.2.1, kvs[i].1, kvs[i].2, hki, rfl, r2⟩, st', fun b hb => (hf b hb).1⟩⟩
  done := by
    intro X hP hw hK hc i pins s σ H E I hf st hg
    subst hP hw hK
    obtain ⟨hH, hge⟩ := hg
    obtain ⟨f0, f1, f2, f3, f4, f5⟩ := hf it (by simp)
    obtain ⟨hob, _⟩ := (show ObjOk X.prog X.w H s.heap d (.frz ob (.dT kvs)) from I.hok d _ hH)
    exact raw_end (I.ok.hd hc) st hob hdat (by lia) fun h' eb => ⟨rfl, I.turned (t' := s.toks) (fun b o hb e => eb b o hb e) f0 f1 f3 f4 f5⟩
  self := fun _ _ _ _ _ st h => wpAny_pyIter_keyiter st h
section
variable {X : Cx} {pins : List (Addr × Obj)} {σ : St} {H : Hp} {s : Shared} {d : Addr} {kvs : List (List Key × V)}
theorem dT_off {P : Program} {w : World} {h : Heap} {o : HO} (n : ∀ xs, H d ≠ some (.tup xs)) (x : ObjOk P w H h d (.dT kvs)) : ObjOk P w (upd H d o) h d (.dT kvs) := by
  obtain ⟨hz, hsm, xs, rel, rest⟩ := x
  refine ⟨hz, hsm, xs, ?_, rest⟩
  clear rest hz hsm
  induction rel with
  | nil => exact .nil
  | cons a _ ih => exact .cons ⟨a.1, by rw [upd_ne fun z => n _ (by rw [← z]; exact a.2.1)]; exact a.2.1, a.2.2⟩ ih
theorem Inv.freeze {ob : Obj} (I : Inv X pins σ H s) (e : H d = some (.dT kvs)) (g : s.heap.get? d = some ob) : Inv X pins σ (upd H d (.frz ob (.dT kvs))) s :=
  I.write (t' := s.toks) (x := d) (e := d) (by rw [e]; exact True.intro) (.inl rfl) (fun _ _ _ q => q) ⟨_, g⟩ ⟨g, dT_off (fun xs z => by rw [e] at z; cases z) (I.hok d _ e)⟩
theorem Inv.thaw {ob : Obj} (I : Inv X pins σ H s) (e : H d = some (.frz ob (.dT kvs))) (hb : ∀ o u, X.H₀ d ≠ some (.frz o u)) : Inv X pins σ (upd H d (.dT kvs)) s := by
  have up : ∀ b u, H b = some u → b ≠ d → upd H d (.dT kvs) b = some u := fun b u q z => by rw [upd_ne z]; exact q
  have no : ∀ b, H b = none → upd H d (.dT kvs) b = none := fun b q => by rw [upd_ne fun z => by rw [z, e] at q; cases q]; exact q
  refine ⟨I.ok, I.os, I.bare, ⟨I.base.keep, I.base.slot, fun b o e1 n hx => no b (I.base.free b o e1 n hx), I.base.there, fun b xs q => ?_, fun b o u q => ?_, fun b ps q => ?_⟩, I.loc, I.cell, no _ I.free, fun x c q => no _ (I.freeC x c q), fun p hp => ?_, fun b u q => ?_, I.len⟩
  · have z := I.base.tups b xs q
    exact up b _ z fun y => by rw [y, e] at z; cases z
  · exact up b _ (I.base.frzs b o u q) fun y => hb o u (by rw [← y]; exact q)
  · obtain ⟨m, z⟩ := I.base.tbls b ps q
    exact ⟨m, up b _ z fun y => by rw [y, e] at z; cases z⟩
  · obtain ⟨p1, p2, p3⟩ := I.pin p hp
    exact ⟨p1, no _ p2, p3⟩
  · by_cases z : b = d
    · subst z
      rw [upd_same] at q
      cases q
      exact dT_off (fun xs y => by rw [e] at y; cases y) (show ObjOk X.prog X.w H s.heap b (.frz ob (.dT kvs)) from I.hok b _ e).2
    · rw [upd_ne z] at q
      exact (I.hok b u q).stay (fun c v _ y => y) (fun c y => up _ _ y fun w => by rw [w, e] at y; cases y) fun c xs y => up _ _ y fun w => by rw [w, e] at y; cases y
end
def iDT (te : TE) : TI := fun σ H R => te σ H fun x H1 => ∃ d kvs, x = .ref d ∧ H1 d = some (.dT kvs) ∧ ∀ ob, R (Itd d ob kvs) (upd H1 d (.frz ob (.dT kvs)))
theorem pi_dictT {X : Cx} {tg : Expr} {e : Expr} {te : TE} (he : PE X e te) : PI X tg e (iDT te) := by
  intro pins s σ H R I h
  refine thn (he pins s σ H _ I h) fun v s1 ⟨x, H1, I1, r1, q1⟩ => ?_
  obtain ⟨d, kvs, rfl, hd, q⟩ := q1
  cases r1
  obtain ⟨hz, hsm, xs, rel, o, es, ep, g1, g2, g3, g4, g5⟩ := id (show ObjOk X.prog X.w H1 s1.heap d (.dT kvs) from I1.hok d _ hd)
  have hxl : xs.length = kvs.length := (Paired.length rel).symm
  have hsz : es.size = kvs.length := by
    rw [← hxl, ← Array.length_toList, g4, List.length_map]
  have hty : s1.TypeIs (.ref d) "dict" := ⟨o, g1, g2.1⟩
  have I2 := I1.freeze hd g1
  refine raw_iter hsm g1 g2 hty g3 ?_
  refine ⟨s1.heap.objs.size, [s1.heap.objs.size], _, _, _, rfl, I2.kept (t' := s1.toks) fun b o e => Heap.get?_push_of_some _ e, turn_dictT d _ o es ep kvs g3 hsz, ⟨_, Heap.get?_push_size _ rfl, rfl, rfl⟩, fun b hb => ?_, q o⟩
  have e : b = s1.heap.objs.size := by simpa using hb
  subst e
  exact I2.fpOk (Nat.le_refl _) (I2.hok.fresh (Nat.le_refl _))
/-- behind the loop the dict is as it was -/
def tThaw (H0 : Hp) (t : TS) : TS := fun D σ H => ∃ d ob kvs, H d = some (.frz ob (.dT kvs)) ∧ (∀ o u, H0 d ≠ some (.frz o u)) ∧ t D σ (upd H d (.dT kvs))
theorem pss_thaw {X : Cx} {sts : List Stmt} {t : TS} (h : PSs X sts t) : PSs X sts (tThaw X.H₀ t) := by
  intro pins s σ H D I hq
  obtain ⟨d, ob, kvs, e, hb, q⟩ := hq
  exact h pins s σ _ D (I.thaw e hb) q
end L2
namespace My
open PySem L2
theorem for_dictW {d : Addr} {ob : Obj} {kvs : List (List Key × V)} {σ : St} {H : Hp} {DN : St → Hp → Prop} {B : (St → Hp → Prop) → V → St → Hp → Prop} (Pv : Nat → St → Hp → Prop) (h0 : Pv 0 σ H)
    (hl : ∀ i σ H, i ≤ kvs.length → Pv i σ H → H d = some (.frz ob (.dT kvs)))
    (hs : ∀ i b k v σ H, kvs[i]? = some (k, v) → H b = some (.tup (k.map kV)) → Pv i σ H → B (Pv (i + 1)) (.ref b) σ H) (hd : ∀ σ H, Pv kvs.length σ H → DN σ H) :
    ∃ W : Nat → Nat → St → Hp → Prop, (∃ m, W 0 m σ H) ∧ ∀ i m σ H, W i m σ H →
      ((Itd d ob kvs).stop i H ∧ DN σ H) ∨ ((Itd d ob kvs).go i H ∧ ∃ N : St → Hp → Prop, (∀ σ' H', N σ' H' → ∃ m', m' < m ∧ W (i + 1) m' σ' H') ∧ ∀ x H', (Itd d ob kvs).yld i H x H' → B N x σ H') := by
  refine ⟨fun i m σ H => m = kvs.length - i ∧ i ≤ kvs.length ∧ Pv i σ H, ⟨kvs.length, by simp, Nat.zero_le _, h0⟩, ?_⟩
  rintro i m σ H ⟨rfl, hi, p⟩
  have q := hl i σ H hi p
  by_cases hlt : i < kvs.length
  · refine .inr ⟨⟨q, hlt⟩, Pv (i + 1), fun σ' H' p' => ⟨kvs.length - (i + 1), by omega, rfl, hlt, p'⟩, fun x H' y => ?_⟩
    obtain ⟨e, b, k, v, h1, h2, h3⟩ := y
    subst e h2
    exact hs i b k v σ _ h1 h3 p
  · have e : i = kvs.length := by lia
    subst e
    exact .inl ⟨⟨q, Nat.le_refl _⟩, hd σ H p⟩
end My

set_option Elab.async false
set_option linter.all false
set_option maxRecDepth 100000
set_option maxHeartbeats 1000000
namespace L2
open PySem PySem.Spec PyProof.Rows
variable {X : Cx}
def rIsd : List V → Hp → VK → Prop := fun xs H Q => ∃ a kvs, xs = [.ref a, .ty "dict"] ∧ H a = some (.dT kvs) ∧ Q (.bl true) H
def rClearT : V → List V → Hp → VK → Prop := fun x vs H Q => ∃ a kvs, x = .ref a ∧ vs = [] ∧ H a = some (.dT kvs) ∧ Q .non (upd H a (.dT []))
end L2

set_option Elab.async false
set_option linter.all false
set_option maxRecDepth 100000
set_option maxHeartbeats 1000000
namespace PySem
section
variable {prog : Program} {w : World} {K : Type} [DecidableEq K] {A : Around} {E : Value → Shared → Prop} {s : Shared}
theorem wpAny_quietEq_tuple {b : Addr} {Q : Bool → Shared → Prop} (ht : s.TypeIs (.ref b) "tuple") (h : Q false s) : wpAny (model prog w) A (Builtin.Dict.quietEq (.ref b)) Q E s := by
  unfold Builtin.Dict.quietEq
  refine wpAny_bind (wpAny_specialOf ht F.slot_tuple_eq.lookup ?_)
  exact wpAny_pure h
theorem wpAny_entriesForEmptyT {id : String} {d : Addr} {o : Obj} {es ep} {Q : Array DictEntry → Shared → Prop} (ho : s.heap.get? d = some o) (hd : o.data = .dict es ep)
    (hk : ∀ e ∈ es.toList, ∃ b, e.key = .ref b ∧ s.TypeIs (.ref b) "tuple") (hh : ∀ e ∈ es.toList, (es.filter (·.hash == e.hash)).size ≤ 1) (h : Q es s) :
    wpAny (model prog w) A (Builtin.Dict.entriesForEmpty id d) Q E s := by
  unfold Builtin.Dict.entriesForEmpty
  refine wpAny_bind (wpAny_dictEntries ho hd ?_)
  refine wpAny_bind ?_
  rw [← Array.forIn_toList]
  refine wpAny_forIn_list _ (fun rest _ s' => s' = s ∧ ∃ pre, pre ++ rest = es.toList) _ ?_ ?_ _ _ ⟨rfl, [], rfl⟩
  · rintro e rest b s' ⟨rfl, pre, hp⟩
    have he : e ∈ es.toList := by rw [← hp]; simp
    obtain ⟨b, hb, ht⟩ := hk e he
    rw [hb]
    refine wpAny_bind (wpAny_quietEq_tuple ht ?_)
    have := hh e he
    rw [if_pos (by decide), if_neg (by omega)]
    exact wpAny_pure ⟨rfl, pre ++ [e], by rw [← hp]; simp⟩
  · rintro b s' ⟨rfl, _⟩
    exact wpAny_pure h
theorem filter_one {es : Array DictEntry} {hs : List Int} (he : es.toList.map (·.hash) = hs) (hn : hs.Nodup) : ∀ e ∈ es.toList, (es.filter (·.hash == e.hash)).size ≤ 1 := fun e hem => by
  rw [← Array.length_toList, Array.toList_filter]
  subst he
  generalize es.toList = l at hem hn
  clear hem
  induction l with
  | nil => exact Nat.zero_le _
  | cons x xs ih =>
    rw [List.map_cons, List.nodup_cons] at hn
    rw [List.filter_cons]
    by_cases z : (x.hash == e.hash) = true
    · rw [if_pos z, List.length_cons]
      have e0 : xs.filter (·.hash == e.hash) = [] := by
        rw [List.filter_eq_nil_iff]
        intro y hy w
        have h1 : x.hash = e.hash := by simpa using z
        have h2 : y.hash = e.hash := by simpa using w
        exact hn.1 (List.mem_map.mpr ⟨y, hy, by rw [h2, h1]⟩)
      rw [e0]
      exact Nat.le_refl _
    · rw [if_neg z]
      exact ih hn.2
variable {kx : KeyKind prog w K}
theorem wpAny_mergeDictT {nm : String} {d o : Addr} {xs : List (List K × Addr × Value)} {Q : Unit → Shared → Prop} (hdo : d ≠ o) (hoS : (o == sysModules) = false)
    (hd : s.heap.DictOfH (tupleKind kx) d []) (ho : s.heap.DictOfH (tupleKind kx) o xs) (hh : (xs.map fun x => (tupleKind kx).hash x.1).Nodup) (hsz : xs.length ≤ sizeLine)
    (hQ : ∀ h', h'.DictOfH (tupleKind kx) d xs → Heap.SameBut d s.heap h' → Q () { s with heap := h' }) :
    wpAny (model prog w) A (Builtin.Dict.mergeDict nm d o) Q E s := by
  obtain ⟨od, esd, epd, hod, hcd, hdd, hed, hid, hnd⟩ := id hd
  obtain ⟨oo, eso, epo, hoo, hco, hdo', heo, hio, hno⟩ := id ho
  have hlen := size_of_entries heo
  have hd0 : esd = #[] := by
    have := size_of_entries hed
    exact Array.eq_empty_of_size_eq_zero this
  unfold Builtin.Dict.mergeDict
  rw [if_neg (by simpa using hdo)]
  unfold Builtin.Dict.showsAll
  rw [if_neg (by rw [hoS]; exact Bool.false_ne_true)]
  refine wpAny_bind (wpAny_pure ?_)
  refine wpAny_bind (wpAny_dictEntries hoo hdo' ?_)
  dsimp only
  cases xs with
  | nil =>
    have ho0 : eso = #[] := Array.eq_empty_of_size_eq_zero hlen
    subst ho0
    rw [if_neg (by simp)]
    refine wpAny_bind (wpAny_dictEpoch hoo hdo' ?_)
    refine wpAny_bind (wpAny_dictEntries hoo hdo' ?_)
    refine wpAny_bind ?_
    rw [Std.Legacy.Range.forIn_eq_forIn_range']
    simp only [Std.Legacy.Range.size, Nat.sub_zero, Nat.add_sub_cancel, Nat.div_one]
    refine wpAny_forIn_list _ (fun rest _ s' => rest = [] ∧ s' = s) _ (fun _ _ _ _ z => by cases z.1) (fun b s' z => ?_) _ _ ⟨rfl, rfl⟩
    obtain ⟨_, rfl⟩ := z
    exact wpAny_pure (hQ _ hd (Heap.SameBut.refl _ _))
  | cons x xs =>
    have h0 : eso[0]? = some (entryOfKey (tupleKind kx) x) := by rw [entry_at heo 0]; rfl
    have hlt : 0 < eso.size := by rw [hlen]; exact Nat.succ_pos _
    have hall : (eso.all fun e => (keyPart e.key).isSome) = false := by
      rw [← Array.all_toList, heo, List.map_cons, List.all_cons]
      rfl
    rw [hall, Bool.and_false, Bool.not_false, if_pos rfl]
    refine wpAny_bind (wpAny_dictEntries hod hdd ?_)
    rw [hd0, if_pos (by rfl)]
    have hk : ∀ e ∈ eso.toList, ∃ b, e.key = .ref b ∧ s.TypeIs (.ref b) "tuple" := fun e he => by
      rw [heo] at he
      obtain ⟨y, hy, rfl⟩ := List.mem_map.mp he
      exact ⟨y.2.1, rfl, IsTupleKey.typeIs (hio y hy)⟩
    have hhs : eso.toList.map (·.hash) = (x :: xs).map fun x => (tupleKind kx).hash x.1 := by
      rw [heo, List.map_map]
      rfl
    refine wpAny_bind (wpAny_entriesForEmptyT hoo hdo' hk (filter_one hhs hh) ?_)
    rw [if_pos (by
      have : eso.isEmpty = false := by rw [Array.isEmpty_eq_false_iff]; intro z; rw [z] at hlt; exact absurd hlt (by decide)
      rw [this]; rfl)]
    have hsb := Heap.SameBut.update (h := s.heap) (a := d) (f := Obj.mapDictKeys fun _ => eso)
    refine wpAny_bind (wpAny_updateDictKeysTo hod hdd (wpAny_pure (hQ _ ⟨_, eso, epd + 1, Heap.get?_update_self _ hod (Obj.isFreed_of_dict (Obj.data_mapDictKeys hdd _)), hcd.mapDictKeys _, Obj.data_mapDictKeys hdd _, heo, fun y hy => (tupleKind kx).keeps (hio y hy) hod hdd (Heap.SameBut.update ..), hno⟩ (Heap.SameBut.update ..))) ?_)
    rw [hlen]
    omega
theorem kt_call_dictT {o : Addr} {xs : List (List K × Addr × Value)} {Q : Value → Shared → Prop} (hoS : (o == sysModules) = false) (ho : s.heap.DictOfH (tupleKind kx) o xs) (hh : (xs.map fun x => (tupleKind kx).hash x.1).Nodup) (hsz : xs.length ≤ sizeLine)
    (h : ∀ h', h'.DictOfH (tupleKind kx) s.heap.objs.size xs → Heap.SameBut s.heap.objs.size (s.heap.push { cls := .type "dict", data := .dict #[] }) h' → Q (.ref s.heap.objs.size) { s with heap := h' }) :
    wpAny (model prog w) A (call (.type "dict") [.ref o]) Q E s := by
  refine callType_codes (Q₁ := fun obj s₁ => obj = .ref s.heap.objs.size ∧ s₁ = { s with heap := s.heap.push { cls := .type "dict", data := .dict #[] } }) F.kt_called_dict (F.kt_typeCall_dict_1 _) F.entry_dict_init (kt_code_dict_new _ ⟨rfl, rfl⟩) ?_
  rintro obj s₁ ⟨rfl, rfl⟩
  have hnew : (s.heap.push { cls := .type "dict", data := .dict #[] }).DictOfH (tupleKind kx) s.heap.objs.size [] := Heap.DictOfH.new s.heap
  have hdo : s.heap.objs.size ≠ o := by
    obtain ⟨_, _, _, hg, _⟩ := ho
    exact fun e => absurd (Heap.lt_size hg) (by rw [e]; exact Nat.lt_irrefl _)
  have ho' : (s.heap.push { cls := .type "dict", data := .dict #[] }).DictOfH (tupleKind kx) o xs := by
    obtain ⟨oo, es, ep, h1, h2, h3, h4, h5, h6⟩ := ho
    refine ⟨oo, es, ep, Heap.get?_push_of_some _ h1, h2, h3, h4, fun x hx => ?_, h6⟩
    obtain ⟨ot, its, n, k1, k2, k3, k4⟩ := h5 x hx
    exact ⟨ot, its, n, Heap.get?_push_of_some _ k1, k2, k3, k4⟩
  refine ⟨hnew.typeIs, F.args_dict_init_2 _ _, ?_⟩
  unfold Builtin.«dict.__init__»
  refine wpAny_bind ?_
  unfold Builtin.Dict.selfAndRest
  refine wpAny_bind (wpAny_notOrdered_dict hnew.typeIs ?_)
  show wpAny _ _ (pure (s.heap.objs.size, [Value.ref o])) _ _ _
  refine wpAny_pure ?_
  show wpAny _ _ (Builtin.Dict.updateFrom "dict.__init__" s.heap.objs.size (.ref o) [] .none) _ _ _
  unfold Builtin.Dict.updateFrom
  refine wpAny_bind (wpAny_typeOf ho'.typeIs ?_)
  rw [if_neg (by decide)]
  refine wpAny_bind ?_
  unfold Builtin.Dict.merge
  refine wpAny_bind ?_
  unfold Builtin.Dict.readDirectly
  refine wpAny_bind (wpAny_isInstance ho'.typeIs isSubtype_dict_dict ?_)
  simp only [Bool.not_true, Bool.false_eq_true, if_false]
  refine wpAny_bind (wpAny_specialOf ho'.typeIs F.slot_dict_iter.lookup (wpAny_pure ?_))
  simp only [beq_self_eq_true, if_true]
  refine wpAny_bind (wpAny_pure ?_)
  refine wpAny_mergeDictT hdo hoS hnew ho' hh hsz fun h' hd' hs' => ?_
  show wpAny _ _ (Builtin.Dict.addKeywords s.heap.objs.size [] >>= _) _ _ _
  exact wpAny_bind (wpAny_pure (wpAny_pure ⟨rfl, h h' hd' hs'⟩))
end
end PySem
namespace L2
open PySem PySem.Spec PyProof.Rows
/-- the hash of a tuple of whole numbers -/
def tHash (ns : List Int) : Int := reduceHash (Builtin.Tuple.tupleHashOf (ns.map hashInt))
section
variable {X : Cx}
/-- dict(d) of a dict by tuples, whose hashes are apart -/
def rCopyT (X : Cx) : List V → Hp → VK → Prop := fun xs H Q => ∃ a kvs, xs = [.ref a] ∧ H a = some (.dT kvs) ∧ (kvs.map fun kv => tupleKeyHash (mixKind X.prog X.w) kv.1).Nodup ∧ ∀ p, H p = none → Q (.ref p) (upd H p (.dT kvs))
theorem KT.hashes {P : Program} {w : World} {H : Hp} : ∀ {kvs : List (List Key × V)} {xs : List (List Key × Addr × Value)}, KT H kvs xs → (xs.map fun x => (tupleKind (mixKind P w)).hash x.1) = kvs.map fun kv => tupleKeyHash (mixKind P w) kv.1
  | _, _, .nil => rfl
  | _, _, .cons h r => by rw [List.map_cons, List.map_cons, KT.hashes r, h.1]; rfl
theorem call_copyT : CallR X (.type "dict") (rCopyT X) := by
  intro pins s σ H xs us Q I r h
  obtain ⟨a, kvs, rfl, e, hn, q⟩ := h
  obtain ⟨u, rfl, rx⟩ := Vals.one r
  cases rx
  obtain ⟨z, hd, xs, rel, dd⟩ := dt_of I.hok e
  have hl : kvs.length = xs.length := Paired.length rel
  refine kt_call_dictT hd dd (by rw [KT.hashes rel]; exact hn) (by omega) fun h' dd' hs => ?_
  refine ⟨.ref s.heap.objs.size, _, I.laid (a := s.heap.objs.size) (o := .dT kvs) (t' := s.toks) (fun b q hq => ?_) (Nat.le_refl _) ?_, rfl, q _ (I.hok.fresh (Nat.le_refl _))⟩
  · exact (hs.2 b (Nat.ne_of_lt (Heap.lt_size hq))).trans (Heap.get?_push_of_some _ hq)
  · obtain ⟨o', es, ep, k1, k2, k3, k4, _, k6⟩ := dd'
    exact ⟨z, beq_eq_false_iff_ne.mpr (Ne.symm (Nat.ne_of_lt I.big)), xs, KT.keeps rel (fun b ys eb => by rw [upd_ne (ne_of_none eb (I.hok.fresh (Nat.le_refl _)))]; exact eb), o', es, ep, k1, k2, k3, k4, k6⟩
end
/-- keys of whole numbers -/
def kN (ns : List Int) : List Key := ns.map Sum.inl
theorem hash_kN (P : Program) (w : World) (ns : List Int) : tupleKeyHash (mixKind P w) (kN ns) = tHash ns := by
  unfold tupleKeyHash tHash kN
  rw [List.map_map]
  rfl
end L2

set_option Elab.async false
set_option linter.all false
set_option maxRecDepth 100000
set_option maxHeartbeats 1000000
namespace PySem
open Sem (wp)
namespace F
theorem lk_list_keys : typeLookup (.type "list") "keys" = pure none := by rw [typeLookup_type, builtinLookup_eq_fast]; kernel_rfl
theorem lk_list_hook : typeLookup (.type "list") "__getattr__" = pure none := by rw [typeLookup_type, builtinLookup_eq_fast]; kernel_rfl
end F
section
variable {prog : Program} {w : World} {A : Around} {E : Value → Shared → Prop} {h : Heap} {g : Array GenState} {d : Drawn} {t : Nat} {os : OsState} {a : Addr} {o : Obj}
theorem keys_entry_list {tk : Tok} {Q : Fin → Shared → Prop} {E : Value → Shared → Prop} (hx : h.get? a = some o) (hc : o.cls = .type "list") {its : Array Value} {n : Nat} (hdt : o.data = .seq its n) (hdc : o.dict = none) (hh : A.handled = none) (hq : ∀ (e : Addr) (h' : Heap) (t' : Nat), (∀ b ob, h.get? b = some ob → h'.get? b = some ob) → (∃ oe, h'.get? e = some oe ∧ oe.cls = .type "AttributeError") → E (.ref e) ⟨h', g, d, t', os⟩) :
    wpAny (model prog w) A (Builtin.«object.__getattribute__» ⟨[.ref a, .str "keys" tk], []⟩) Q E ⟨h, g, d, t, os⟩ := by
  have hT : (⟨h, g, d, t, os⟩ : Shared).TypeIs (.ref a) "list" := ⟨_, hx, hc⟩
  have f4 := F.lk_list_keys
  repeat (any_goals (first | assumption | wp_step))
  rw [hdt]
  dsimp only
  unfold instanceDict
  repeat (any_goals (first | assumption | wp_step))
  rw [hc, hdc]
  dsimp only
  rw [if_pos (by rfl)]
  refine wpAny_pure ?_
  unfold Builtin.ObjectAttr.inDict
  dsimp only
  repeat (any_goals (first | assumption | wp_step))
  unfold raiseAttrError
  have hm : ¬ ((Str.ofString (toString "'" ++ toString ((Manifest.find? "list").elim "list" fun x => x.tpName) ++ toString "' object has no attribute '") ++ Str.ofString "keys" ++ Str.ofString "'").length > sizeLine) := by decide +kernel
  generalize (Str.ofString (toString "'" ++ toString ((Manifest.find? "list").elim "list" fun x => x.tpName) ++ toString "' object has no attribute '") ++ Str.ofString "keys" ++ Str.ofString "'") = msg at hm
  refine wpAny_bind ?_
  unfold mkStr
  rw [if_neg hm]
  have fsub : isSubtype (.type "AttributeError") (.type "AttributeError") = pure true := by rw [isSubtype_type]; kernel_rfl
  have fman : ((Manifest.find? "AttributeError").elim false fun t => t.mro.contains "StopIteration" || t.mro.contains "SystemExit") = false := by kernel_rfl
  have fown : ownMembersOf (.type "AttributeError") [Value.str msg t] = #[unsetMember, unsetMember] := by rfl
  repeat (any_goals (first | assumption | wp_step))
  rw [fman, fown]
  have kp : ∀ (f : Obj → Obj) b ob, h.get? b = some ob → (((h.push { cls := Value.type "tuple", data := Data.seq #[Value.str msg t] }).push { cls := Value.type "AttributeError", data := Data.fields (#[Value.ref h.objs.size, Value.none, Value.none, Value.none, Value.bool false, if false = true then [Value.str msg t].headD Value.none else Value.none] ++ #[unsetMember, unsetMember]) }).update (h.push { cls := Value.type "tuple", data := Data.seq #[Value.str msg t] }).objs.size f).get? b = some ob := fun f b ob hb => by
    have hlt := Heap.lt_size hb
    refine (Heap.get?_update_ne _ b _ f ?_).trans (Heap.get?_push_of_some _ (Heap.get?_push_of_some _ hb))
    have e1 : (h.push { cls := Value.type "tuple", data := Data.seq #[Value.str msg t] }).objs.size = h.objs.size + 1 := by simp [Heap.push]
    exact Nat.ne_of_lt (by rw [e1]; exact Nat.lt_succ_of_lt hlt)
  unfold raiseNew
  refine wpAny_bind (wpAny_handled ?_)
  rw [hh]
  dsimp only
  refine wpAny_bind (wpAny_pure (wpAny_throw (hq _ _ _ (kp _) ?_)))
  exact ⟨_, Heap.get?_update_self _ (Heap.get?_push_size _ rfl) (by rfl), rfl⟩
theorem keys_call_list {tk : Tok} {R : Result → Shared → Prop} (hx : h.get? a = some o) (hc : o.cls = .type "list") {its : Array Value} {n : Nat} (hdt : o.data = .seq its n) (hdc : o.dict = none) (hh : A.handled = none)
    (hq : ∀ (e : Addr) (h' : Heap) (t' : Nat), (∀ b ob, h.get? b = some ob → h'.get? b = some ob) → (∃ oe, h'.get? e = some oe ∧ oe.cls = .type "AttributeError") → R (.error (.ref e)) ⟨h', g, d, t', os⟩) :
    codeAny (model prog w) A (.call (.builtin "list.__getattribute__") ⟨[.ref a, .str "keys" tk], []⟩) R ⟨h, g, d, t, os⟩ :=
  codeAny_call_builtin F.slot_list_getattribute.plain F.entry_list_ga (F.slot_list_getattribute.check _ _ _ _ _ _ _ _ (show (⟨h, g, d, t, os⟩ : Shared).TypeIs (.ref a) "list" from ⟨_, hx, hc⟩) (F.args_list_getattribute_2 _ _) (keys_entry_list hx hc hdt hdc hh hq))
theorem keys_by_list {tk : Tok} {Q : Value → Shared → Prop} {E : Value → Shared → Prop} (hx : h.get? a = some o) (hc : o.cls = .type "list") {its : Array Value} {n : Nat} (hdt : o.data = .seq its n) (hdc : o.dict = none) (hh : A.handled = none)
    (hq : ∀ (e : Addr) (h' : Heap) (t' : Nat), (∀ b ob, h.get? b = some ob → h'.get? b = some ob) → (∃ oe, h'.get? e = some oe ∧ oe.cls = .type "AttributeError") → E (.ref e) ⟨h', g, d, t', os⟩) : wpAny (model prog w) A (getAttrBy (.ref a) (.str "keys" tk) false) Q E ⟨h, g, d, t, os⟩ := by
  have hT : (⟨h, g, d, t, os⟩ : Shared).TypeIs (.ref a) "list" := ⟨_, hx, hc⟩
  have f2 := F.slot_list_getattribute.lookup
  have f3 := F.slot_list_getattribute.bind (.ref a)
  repeat (any_goals (first | assumption | wp_step))
  refine keys_call_list hx hc hdt hdc hh fun e h' t' k1 k2 => ?_
  dsimp only
  obtain ⟨oe, he, hec⟩ := id k2
  have hTe : (⟨h', g, d, t', os⟩ : Shared).TypeIs (.ref e) "AttributeError" := ⟨_, he, hec⟩
  have fsub : isSubtype (.type "AttributeError") (.type "AttributeError") = pure true := by rw [isSubtype_type]; kernel_rfl
  have fhk := F.lk_list_hook
  unfold getattributeRaised
  repeat (any_goals (first | assumption | wp_step))
  exact hq e h' t' k1 k2
theorem keys_attr_list {Q : Option Value → Shared → Prop} (hx : h.get? a = some o) (hc : o.cls = .type "list") {its : Array Value} {n : Nat} (hdt : o.data = .seq its n) (hdc : o.dict = none) (hh : A.handled = none)
    (hq : ∀ (h' : Heap) (t' : Nat), (∀ b ob, h.get? b = some ob → h'.get? b = some ob) → Q none ⟨h', g, d, t', os⟩) : wpAny (model prog w) A (getAttr? (.ref a) "keys") Q E ⟨h, g, d, t, os⟩ := by
  have fsub : isSubtype (.type "AttributeError") (.type "AttributeError") = pure true := by rw [isSubtype_type]; kernel_rfl
  unfold getAttr? getAttrBy?
  refine wpAny_bind ?_
  unfold mkText
  repeat (any_goals (first | assumption | (with_reducible apply keys_by_list hx hc hdt hdc hh) | wp_step))
  intro e h' t' k1 k2
  obtain ⟨oe, he, hec⟩ := id k2
  have hTe : (⟨h', g, d, t', os⟩ : Shared).TypeIs (.ref e) "AttributeError" := ⟨_, he, hec⟩
  dsimp only
  repeat (any_goals (first | assumption | wp_step))
  exact hq h' t' k1
end
end PySem

set_option Elab.async false
set_option linter.all false
set_option maxRecDepth 100000
set_option maxHeartbeats 1000000
namespace PySem
open Sem (wp)
namespace F
theorem entry_dict_loop : entryFor table "dict.update.loop" = some Builtin.«dict.update.loop» := entryFor_of_tree (by kernel_rfl)
end F
/-- an item of a list of pairs: a tuple of a key and a value -/
structure PairAt {prog : Program} {w : World} {K : Type} [DecidableEq K] (kx : KeyKind prog w K) (h : Heap) (x : Value) (p : List K × Addr × Value) : Prop where
  ex : ∃ t o n, x = .ref t ∧ h.get? t = some o ∧ o.cls = .type "tuple" ∧ o.data = .seq #[.ref p.2.1, p.2.2] n
  key : (tupleKind kx).is h p.1 p.2.1
section
variable {prog : Program} {w : World} {K : Type} [DecidableEq K] {kx : KeyKind prog w K} {A : Around}
/-- what lies in h0 stays, but for the two -/
def Keeps2 (a b : Addr) (h0 h : Heap) : Prop := ∀ c o, h0.get? c = some o → c ≠ a → c ≠ b → h.get? c = some o
theorem dictH_ext {h h' : Heap} {d it l : Addr} {i : Nat} {xs : List (List K × Addr × Value)} (hD : h.DictOfH (tupleKind kx) d xs) (hI : h.IsListIter it l i) (hx : Heap.ExtBut it h h') (hne : it ≠ d) : h'.DictOfH (tupleKind kx) d xs := by
  obtain ⟨o, es, ep, h1, h2, h3, h4, h5, h6⟩ := hD
  obtain ⟨oi, i1, i2, i3⟩ := hI
  refine ⟨o, es, ep, hx _ _ (Ne.symm hne) h1, h2, h3, h4, fun x hx' => ?_, h6⟩
  obtain ⟨ot, its, n, k1, k2, k3, k4⟩ := h5 x hx'
  refine ⟨ot, its, n, hx _ _ (fun z => ?_) k1, k2, k3, k4⟩
  rw [z, i1] at k1
  cases k1
  rw [i2] at k2
  injection k2 with k2
  exact absurd k2 (by decide)
theorem pairs_loop {h0 : Heap} {d it l : Addr} {items : Array Value} {ps : List (List K × Addr × Value)} {R : Result → Shared → Prop} (hu2 : ∀ args, (A.under (.builtin "dict.update.loop" args)).units < cLine) (hh : A.handled = none)
    (hit : ∀ b o, h0.get? b = some o → b ≠ it ∧ b ≠ d) (hl : h0.IsList l items) (hlen : ps.length = items.size) (hp : ∀ (j : Nat) x p, items[j]? = some x → ps[j]? = some p → PairAt kx h0 x p)
    (hne : it ≠ d) :
    ∀ (m i : Nat) (xs : List (List K × Addr × Value)) (s : Shared), m + i = items.size → s.heap.IsListIter it l i → Keeps2 it d h0 s.heap → s.heap.DictOfH (tupleKind kx) d xs → xs.length + m ≤ sizeLine →
      (∀ h' t', h'.DictOfH (tupleKind kx) d ((ps.drop i).foldl (fun acc p => storedH acc p.1 p.2.1 p.2.2) xs) → Keeps2 it d h0 h' → R (.ok (.ret .none)) { s with heap := h', toks := t' }) →
      codeAny (model prog w) A (.builtin "dict.update.loop" ⟨[.ref d, .ref it, .int i 0, .none], []⟩) R s
  | 0, i, xs, s, hm, hI, hK, hD, hz, hR => by
    obtain ⟨ol, g1, g2, n, g3⟩ := id hl
    obtain ⟨n1, n2⟩ := hit l ol g1
    have hL : s.heap.IsList l items := ⟨ol, hK l ol g1 n1 n2, g2, n, g3⟩
    refine codeAny_builtin F.entry_dict_loop ?_
    unfold Builtin.«dict.update.loop»
    dsimp only
    refine wpAny_bind (wpAny_pyNext_list_end (by exact hh) hI hL (Array.getElem?_eq_none (by omega)) fun h' hx => ?_)
    dsimp only
    show wpAny _ _ (Builtin.Dict.addKeywords d [] >>= _) _ _ _
    have e0 : ps.drop i = [] := List.drop_eq_nil_of_le (by omega)
    rw [e0] at hR
    exact wpAny_bind (wpAny_pure (wpAny_pure (hR h' s.toks (dictH_ext hD hI hx hne) fun c o e c1 c2 => hx _ _ c1 (hK c o e c1 c2))))
  | m + 1, i, xs, s, hm, hI, hK, hD, hz, hR => by
    obtain ⟨ol, g1, g2, n, g3⟩ := id hl
    obtain ⟨n1, n2⟩ := hit l ol g1
    have hL : s.heap.IsList l items := ⟨ol, hK l ol g1 n1 n2, g2, n, g3⟩
    have hi : i < items.size := by omega
    have hi2 : i < ps.length := by omega
    have P := hp i _ _ (Array.getElem?_eq_getElem hi) (List.getElem?_eq_getElem hi2)
    obtain ⟨t, o, n', ex, k1, k2, k3⟩ := P.ex
    obtain ⟨n3, n4⟩ := hit t o k1
    refine codeAny_builtin F.entry_dict_loop ?_
    unfold Builtin.«dict.update.loop»
    dsimp only
    refine wpAny_bind (wpAny_pyNext_list_item hI hL (Array.getElem?_eq_getElem hi) fun h' hI' hs => ?_)
    have hext : Heap.ExtBut it s.heap h' := fun b o nb e => by rw [hs.2 b nb]; exact e
    have hD' := dictH_ext hD hI hext hne
    have hK' : Keeps2 it d h0 h' := fun c o e c1 c2 => hext _ _ c1 (hK c o e c1 c2)
    dsimp only
    refine wpAny_bind (wpAny_holding ?_)
    refine wpAny_bind (wpAny_tryCatch ?_)
    rw [ex]
    have hT : ({ s with heap := h' } : Shared).TypeIs (.ref t) "tuple" := ⟨o, hK' t o k1 n3 n4, k2⟩
    unfold Builtin.Dict.pairItems
    refine wpAny_bind (wpAny_typeOf hT ?_)
    rw [if_pos (by rfl)]
    refine wpAny_bind (wpAny_seqItems (hK' t o k1 n3 n4) k3 (wpAny_pure ?_))
    show wpAny _ _ (holding [Value.ref ps[i].2.1, ps[i].2.2] (dictSet d (Value.ref ps[i].2.1) ps[i].2.2)) _ _ _
    obtain ⟨ok, ik, nk, q1, q2, q3, q4⟩ := P.key
    obtain ⟨n5, n6⟩ := hit _ ok q1
    have hkey : (tupleKind kx).is h' ps[i].1 ps[i].2.1 := ⟨ok, ik, nk, hK' _ ok q1 n5 n6, q2, q3, q4⟩
    refine wpAny_holding (wpAny_dictSet_heap (knd := tupleKind kx) (hu2 _) hkey hD' (fun h'' hD'' hs'' => ?_) (by omega))
    refine wpAny_pure ⟨Code.quiet_builtin _ (by decide +kernel), ?_⟩
    have hstep : (ps.drop i).foldl (fun acc p => storedH acc p.1 p.2.1 p.2.2) xs = (ps.drop (i + 1)).foldl (fun acc p => storedH acc p.1 p.2.1 p.2.2) (storedH xs ps[i].1 ps[i].2.1 ps[i].2.2) := by
      rw [List.drop_eq_getElem_cons hi2, List.foldl_cons]
    rw [hstep] at hR
    have hsl : (storedH xs ps[i].1 ps[i].2.1 ps[i].2.2).length ≤ xs.length + 1 := by
      unfold storedH
      split
      · rw [List.length_map]; omega
      · rw [List.length_append]; exact Nat.le_refl _
    refine pairs_loop hu2 hh hit hl hlen hp hne m (i + 1) _ _ (by omega) ?_ ?_ hD'' (by omega) ?_
    · obtain ⟨oi, i1, i2, i3⟩ := hI'
      exact ⟨oi, (hs''.2 it hne).trans i1, i2, i3⟩
    · exact fun c o e c1 c2 => (hs''.2 c c2).trans (hK' c o e c1 c2)
    · exact fun h3 t3 => hR h3 t3
theorem kt_call_pairs {l : Addr} {items : Array Value} {ps : List (List K × Addr × Value)} {E : Value → Shared → Prop} {s : Shared} {Q : Value → Shared → Prop} (hu1 : ∀ args, ((A.in1).under (.builtin "dict.update.loop" args)).units < cLine) (hh : A.handled = none)
    (hl : s.heap.IsList l items) (hdc : ∀ o, s.heap.get? l = some o → o.dict = none) (hlen : ps.length = items.size) (hp : ∀ (j : Nat) x p, items[j]? = some x → ps[j]? = some p → PairAt kx s.heap x p) (hz : ps.length ≤ sizeLine)
    (h : ∀ h' t', h'.DictOfH (tupleKind kx) s.heap.objs.size (ps.foldl (fun acc p => storedH acc p.1 p.2.1 p.2.2) []) → (∀ c o, s.heap.get? c = some o → h'.get? c = some o) → Q (.ref s.heap.objs.size) { s with heap := h', toks := t' }) :
    wpAny (model prog w) A (call (.type "dict") [.ref l]) Q E s := by
  refine callType_codes (Q₁ := fun obj s₁ => obj = .ref s.heap.objs.size ∧ s₁ = { s with heap := s.heap.push { cls := .type "dict", data := .dict #[] } }) F.kt_called_dict (F.kt_typeCall_dict_1 _) F.entry_dict_init (kt_code_dict_new _ ⟨rfl, rfl⟩) ?_
  rintro obj s₁ ⟨rfl, rfl⟩
  have hnew : (s.heap.push { cls := .type "dict", data := .dict #[] }).DictOfH (tupleKind kx) s.heap.objs.size [] := Heap.DictOfH.new s.heap
  obtain ⟨ol, g1, g2, n, g3⟩ := id hl
  have hd0 := hdc ol g1
  have g1' : (s.heap.push { cls := .type "dict", data := .dict #[] }).get? l = some ol := Heap.get?_push_of_some _ g1
  have hT : ({ s with heap := s.heap.push { cls := .type "dict", data := .dict #[] } } : Shared).TypeIs (.ref l) "list" := ⟨ol, g1', g2⟩
  refine ⟨hnew.typeIs, F.args_dict_init_2 _ _, ?_⟩
  unfold Builtin.«dict.__init__»
  refine wpAny_bind ?_
  unfold Builtin.Dict.selfAndRest
  refine wpAny_bind (wpAny_notOrdered_dict hnew.typeIs ?_)
  show wpAny _ _ (pure (s.heap.objs.size, [Value.ref l])) _ _ _
  refine wpAny_pure ?_
  show wpAny _ _ (Builtin.Dict.updateFrom "dict.__init__" s.heap.objs.size (.ref l) [] .none) _ _ _
  unfold Builtin.Dict.updateFrom
  refine wpAny_bind (wpAny_typeOf hT ?_)
  rw [if_pos (by rfl)]
  refine wpAny_bind (keys_attr_list g1' g2 g3 hd0 (by exact hh) fun h2 t2 hk2 => ?_)
  rw [if_pos (by rfl)]
  refine wpAny_bind (wpAny_rule ?_)
  have hl2 : h2.IsList l items := ⟨ol, hk2 _ _ g1', g2, n, g3⟩
  refine wpAny_bind (wpAny_pyIter_list hl2 ?_)
  refine wpAny_pure ⟨Code.quiet_builtin _ (by decide +kernel), ?_⟩
  have up : ∀ b o, s.heap.get? b = some o → h2.get? b = some o := fun b o e => hk2 _ _ (Heap.get?_push_of_some _ e)
  have hd2 : h2.get? s.heap.objs.size = some { cls := .type "dict", data := .dict #[] } := hk2 _ _ (Heap.get?_push_size _ rfl)
  have hdl := Heap.lt_size hd2
  refine pairs_loop (kx := kx) (h0 := s.heap) (l := l) (items := items) (ps := ps) hu1 (by exact hh) (fun b o e => ?_) hl hlen hp (Nat.ne_of_gt hdl) items.size 0 [] _ (by omega) ⟨_, Heap.get?_push_size _ rfl, rfl, rfl⟩ (fun c o e _ _ => Heap.get?_push_of_some _ (up c o e)) ?_ (by rw [← hlen]; simpa using hz) fun h3 t3 hD3 hK3 => ?_
  · exact ⟨Nat.ne_of_lt (Heap.lt_size (up b o e)), Nat.ne_of_lt (Heap.lt_size e)⟩
  · exact ⟨_, #[], 0, Heap.get?_push_of_some _ hd2, ⟨rfl, rfl, rfl⟩, rfl, rfl, (fun _ hx => by simp at hx), List.nodup_nil⟩
  · refine ⟨rfl, h h3 t3 hD3 fun c o e => hK3 c o e ?_ ?_⟩
    · exact Nat.ne_of_lt (Heap.lt_size (up c o e))
    · exact Nat.ne_of_lt (Heap.lt_size e)
end
end PySem
namespace L2
open PySem PySem.Spec PyProof.Rows
/-- an item of a list of pairs -/
def PrV (H : Hp) (v : V) (kv : List Key × V) : Prop := ∃ t b, v = .ref t ∧ H t = some (.tup [.ref b, kv.2]) ∧ H b = some (.tup (kv.1.map kV))
abbrev PrsV (H : Hp) : List V → List (List Key × V) → Prop := Paired (PrV H)
theorem pairs_of {P : Program} {w : World} {H : Hp} {h : Heap} (ok : HOk P w H h) : ∀ {vs : List V} {kvs : List (List Key × V)} {its : List Value}, PrsV H vs kvs → Vals vs its → ∃ ps, KT H kvs ps ∧ Paired (PairAt (mixKind P w) h) its ps
  | _, _, _, .nil, .nil => ⟨[], .nil, .nil⟩
  | _, _, _, .cons (b := kv) h1 r1, .cons (b := u) h2 r2 => by
    obtain ⟨ps, a1, a2⟩ := pairs_of ok r1 r2
    obtain ⟨t, b, rfl, et, eb⟩ := h1
    cases (show u = Value.ref t from h2)
    obtain ⟨_, its2, rl, o, i1, i2, n, i3⟩ := (show ObjOk P w H h t (.tup [.ref b, kv.2]) from ok t _ et)
    obtain ⟨x1, x2, rfl⟩ : ∃ x1 x2, its2 = [x1, x2] := by
      have := rl.length
      match its2, this with
      | [x1, x2], _ => exact ⟨x1, x2, rfl⟩
    cases rl with
    | cons r3 r4 =>
      cases r4 with
      | cons r5 _ =>
        cases (show x1 = Value.ref b from r3)
        exact ⟨(kv.1, b, x2) :: ps, .cons ⟨rfl, eb, r5⟩ a1, .cons ⟨⟨t, o, n, rfl, i1, i2, i3⟩, key_of ok eb⟩ a2⟩
theorem fold_KT {H : Hp} : ∀ {kvs : List (List Key × V)} {ps : List (List Key × Addr × Value)} {acc : List (List Key × V)} {xs : List (List Key × Addr × Value)}, KT H kvs ps → KT H acc xs → KT H (kvs.foldl (fun acc kv => putK acc kv.1 kv.2) acc) (ps.foldl (fun acc p => storedH acc p.1 p.2.1 p.2.2) xs)
  | _, _, _, _, .nil, h => h
  | _, _, acc, xs, .cons (a := kv) (b := p) h1 r1, h => by
    rw [List.foldl_cons, List.foldl_cons, ← h1.1]
    exact fold_KT r1 (KT.put h kv.1 h1.2.1 h1.2.2)
section
variable {X : Cx}
/-- dict(list of pairs), by tuples -/
def rDictP : List V → Hp → VK → Prop := fun xs H Q => ∃ a us kvs, xs = [.ref a] ∧ H a = some (.lst us) ∧ PrsV H us kvs ∧ kvs.length ≤ 1000 ∧ ∀ p, H p = none → Q (.ref p) (upd H p (.dT (kvs.foldl (fun acc kv => putK acc kv.1 kv.2) [])))
theorem call_dictP {k : Nat} (hc : X.calm = true) (hr : Room k X.A) : CallR X (.type "dict") rDictP := by
  intro pins s σ H xs us Q I r h
  obtain ⟨a, vs, kvs, rfl, e, hP, hl, q⟩ := h
  obtain ⟨u, rfl, rx⟩ := Vals.one r
  cases rx
  obtain ⟨z, its, n, rel, g1⟩ := (show ObjOk X.prog X.w H s.heap a (.lst vs) from I.hok a _ e)
  obtain ⟨ps, kt, pa⟩ := pairs_of I.hok hP rel
  have l1 : its.length = ps.length := Paired.length pa
  have l2 : kvs.length = ps.length := Paired.length kt
  refine kt_call_pairs (kx := mixKind X.prog X.w) (l := a) (items := its.toArray) (ps := ps) (fun args => ?_) (I.ok.hd hc) ⟨_, g1, rfl, n, rfl⟩ (fun o ho => ?_) (by simp [l1]) (fun j x p hx hp' => ?_) (Nat.le_trans (by omega) (show 1000 ≤ sizeLine by decide)) fun h' t' hD hK => ?_
  · have := hr.un
    show X.A.units + 2 < cLine
    omega
  · rw [g1] at ho
    cases ho
    rfl
  · have hx' : its[j]? = some x := by simpa using hx
    obtain ⟨p2, e2, q2⟩ := Paired.get' pa hx'
    rw [hp'] at e2
    cases e2
    exact q2
  · obtain ⟨o', es, ep, k1, k2, k3, k4, _, k6⟩ := hD
    have kt2 := fold_KT kt (acc := []) (xs := []) .nil
    refine ⟨.ref s.heap.objs.size, _, I.laid (a := s.heap.objs.size) (o := .dT (kvs.foldl (fun acc kv => putK acc kv.1 kv.2) [])) (t' := t') (fun b q hq => hK b q hq) (Nat.le_refl _) ?_, rfl, q _ (I.hok.fresh (Nat.le_refl _))⟩
    refine ⟨?_, beq_eq_false_iff_ne.mpr (Ne.symm (Nat.ne_of_lt I.big)), _, KT.keeps kt2 (fun b ys eb => by rw [upd_ne (ne_of_none eb (I.hok.fresh (Nat.le_refl _)))]; exact eb), o', es, ep, k1, k2, k3, k4, k6⟩
    have fl : ∀ (l acc : List (List Key × V)), (l.foldl (fun acc kv => putK acc kv.1 kv.2) acc).length ≤ acc.length + l.length := fun l => by
      induction l with
      | nil => intro acc; exact Nat.le_refl _
      | cons x xs ih =>
        intro acc
        have := ih (putK acc x.1 x.2)
        have := length_putK acc x.1 x.2
        rw [List.foldl_cons, List.length_cons]
        omega
    have := fl kvs []
    exact Nat.le_trans this (Nat.le_trans (by simpa using hl) (show 1000 ≤ sizeLine by decide))
end
end L2

set_option Elab.async false
set_option linter.all false
set_option maxRecDepth 100000
set_option maxHeartbeats 1000000
namespace PySem
open Sem (wp)
section
variable {prog : Program} {w : World} {K : Type} [DecidableEq K] {knd : HeapKind prog w K} {A : Around} {E : Value → Shared → Prop} {s : Shared}
theorem keqT_samePairs {nm : String} {a b : Addr} {xs ys : List (K × Addr × Value)} {Q : Bool → Shared → Prop} (ha : (a == sysModules) = false) (hb : (b == sysModules) = false) (hu : knd.room A)
    (da : s.heap.DictOfH knd a xs) (db : s.heap.DictOfH knd b ys) (hl : xs.length = ys.length) (hits : ∀ x ∈ xs, ∃ j : Nat, ∃ p : Addr × Value, ys[j]? = some (x.1, p) ∧ SeqAt.EqAt A s x.2.2 p.2 true) (h : Q true s) :
    wpAny (model prog w) A (Builtin.Dict.samePairs nm a b) Q E s := by
  obtain ⟨oa, es, ep, hoa, _, hda, hea, hia, _⟩ := da
  obtain ⟨ob, es', ep', hob, _, hdb, heb, hib, hnb⟩ := db
  have hla := size_of_entries hea
  have hlb := size_of_entries heb
  unfold Builtin.Dict.samePairs Builtin.Dict.showsAll
  rw [if_neg (show ¬ (a == sysModules) = true by rw [ha]; exact Bool.false_ne_true), if_neg (show ¬ (b == sysModules) = true by rw [hb]; exact Bool.false_ne_true)]
  refine wpAny_bind (wpAny_pure (wpAny_bind (wpAny_pure ?_)))
  refine wpAny_bind (wpAny_dictEntries hoa hda ?_)
  dsimp only
  refine wpAny_bind (wpAny_dictEntries hob hdb ?_)
  rw [if_neg (by simp; omega)]
  refine wpAny_bind (wpAny_dictEpoch hoa hda ?_)
  refine wpAny_bind ?_
  rw [Std.Legacy.Range.forIn_eq_forIn_range']
  simp only [Std.Legacy.Range.size, Nat.sub_zero, Nat.add_sub_cancel, Nat.div_one]
  refine wpAny_forIn_list _ (fun rest q s' => s' = s ∧ q = (none, ()) ∧ ∃ i, rest = List.range' i (es.size - i) ∧ i ≤ es.size) _ ?_ ?_ _ _ ⟨rfl, rfl, 0, by simp, Nat.zero_le _⟩
  · rintro x rest q s' ⟨rfl, rfl, i, hr, hi⟩
    have hlt : i < es.size := by
      rcases Nat.lt_or_ge i es.size with h | h
      · exact h
      · rw [Nat.sub_eq_zero_of_le h] at hr; simp at hr
    obtain ⟨rfl, hrest⟩ : x = i ∧ rest = List.range' (i + 1) (es.size - (i + 1)) := by
      have e : es.size - i = (es.size - (i + 1)) + 1 := by omega
      rw [e, List.range'_succ] at hr
      injection hr with h1 h2
      exact ⟨h1, h2⟩
    refine wpAny_bind (wpAny_dictEntries hoa hda ?_)
    have hx : x < xs.length := by omega
    have hex : es[x]? = some (entryOfKey knd xs[x]) := by rw [entry_at hea x, List.getElem?_eq_getElem hx]; rfl
    rw [hex]
    obtain ⟨j, p, hj, heq⟩ := hits xs[x] (List.getElem_mem hx)
    show wpAny _ _ (holding [Value.ref xs[x].2.1, xs[x].2.2] _ >>= _) _ _ _
    refine wpAny_bind (wpAny_holding (wpAny_bind ?_))
    refine wpAny_dictFind_heap (knd := knd) (k := xs[x].1) (xs := ys) hu (hia _ (List.getElem_mem hx)) hob hdb heb hib hnb (fun no => absurd hj (no j p)) fun j2 p2 hj2 => ?_
    have ej : j2 = j := idxH_unique hnb hj2 hj
    subst ej
    refine wpAny_bind (wpAny_dictEntries hob hdb ?_)
    have hej : es'[j2]? = some (entryOfKey knd (xs[x].1, p)) := by rw [entry_at heb j2, hj]; rfl
    rw [hej]
    refine wpAny_holding (heq prog w _ _ ?_)
    show wpAny _ _ (if (!true) = true then _ else _) _ _ _
    rw [if_neg (by decide)]
    refine wpAny_bind (wpAny_dictEpoch hoa hda ?_)
    rw [if_neg (by simp)]
    exact wpAny_pure ⟨rfl, rfl, x + 1, hrest, hlt⟩
  · rintro q s' ⟨rfl, rfl, i, hr, hi⟩
    exact wpAny_pure h
theorem keqT_eq {a b : Addr} {xs ys : List (K × Addr × Value)} {Q : Value → Shared → Prop} (ha : (a == sysModules) = false) (hb : (b == sysModules) = false) (hr : knd.room A.in1)
    (da : s.heap.DictOfH knd a xs) (db : s.heap.DictOfH knd b ys) (hu : A.units < cLine) (hl : xs.length = ys.length) (hits : ∀ x ∈ xs, ∃ j : Nat, ∃ p : Addr × Value, ys[j]? = some (x.1, p) ∧ SeqAt.EqAt A.in1 s x.2.2 p.2 true) (h : Q (.bool true) s) :
    wpAny (model prog w) A (compareOp .Eq (.ref a) (.ref b)) Q E s := by
  refine wpAny_richCompare_same_room (op := .Eq) da.typeIs db.typeIs PySem.F.slot_dict_eq (wpAny_call_entry PySem.F.slot_dict_eq da.typeIs PySem.F.entry_dict_eq ?_ (PySem.F.args_dict_eq_2 _ _)) hu
  show wpAny _ _ (Builtin.Dict.dictSlotArgs "__eq__" ⟨[.ref a, .ref b], []⟩ >>= _) _ _ s
  refine wpAny_bind ?_
  unfold Builtin.Dict.dictSlotArgs
  refine wpAny_bind (wpAny_notOrdered_dict da.typeIs ?_)
  show wpAny _ _ (pure (Value.ref a, Value.ref b)) _ _ s
  refine wpAny_pure ?_
  refine wpAny_bind (wpAny_isInstance (T := "dict") db.typeIs PySem.F.sub_dict_dict ?_)
  simp only [Bool.not_true, Bool.false_eq_true, if_false]
  refine wpAny_bind (wpAny_pure (wpAny_bind (wpAny_pure ?_)))
  refine wpAny_bind (keqT_samePairs ha hb hr da db hl hits ?_)
  refine wpAny_pure ⟨_, rfl, ?_, ?_⟩
  · exact fun x => nomatch x
  · exact h
end
end PySem
namespace L2
open PySem PySem.Spec PyProof.Rows
section
variable {X : Cx}
/-- two dicts by tuples that hold the same whole numbers -/
def rEqT : R2 := fun x y H Q => ∃ a b kvs, x = .ref a ∧ y = .ref b ∧ H a = some (.dT kvs) ∧ H b = some (.dT kvs) ∧ (∀ kv ∈ kvs, ∃ i, kv.2 = .int i) ∧ Q (.bl true) H
def rNeT : R2 := fun x y H Q => ∃ a b kvs, x = .ref a ∧ y = .ref b ∧ H a = some (.dT kvs) ∧ H b = some (.dT kvs) ∧ (∀ kv ∈ kvs, ∃ i, kv.2 = .int i) ∧ Q (.bl false) H
theorem KT.alike {A : Around} {s : Shared} {H : Hp} : ∀ {kvs : List (List Key × V)} {xs ys : List (List Key × Addr × Value)}, KT H kvs xs → KT H kvs ys → (∀ kv ∈ kvs, ∃ i, kv.2 = .int i) → ∀ x ∈ xs, ∃ j : Nat, ∃ p : Addr × Value, ys[j]? = some (x.1, p) ∧ SeqAt.EqAt A s x.2.2 p.2 true
  | _, _, _, .nil, .nil, _ => fun _ hx => by cases hx
  | _, _, _, .cons (a := kv) (b := x0) h1 r1, .cons (b := y0) h2 r2, hi => fun x hx => by
    rcases List.mem_cons.mp hx with rfl | hx
    · refine ⟨0, y0.2, by rw [← h1.1, h2.1]; rfl, ?_⟩
      obtain ⟨i, e⟩ := hi kv List.mem_cons_self
      have q1 := h1.2.2
      have q2 := h2.2.2
      rw [e] at q1 q2
      obtain ⟨t1, e1⟩ := q1
      obtain ⟨t2, e2⟩ := q2
      rw [e1, e2]
      have z := SeqAt.EqAt.int_int (A := A) (s := s) i t1 i t2
      simpa using z
    · obtain ⟨j, p, q1, q2⟩ := KT.alike r1 r2 (fun kv' h' => hi kv' (List.mem_cons_of_mem _ h')) x hx
      exact ⟨j + 1, p, q1, q2⟩
theorem op_eqT {k : Nat} (hr : Room k X.A) : OpR X (compareOp .Eq) rEqT := by
  intro pins s σ H x y v u Q I rx ry h
  obtain ⟨a, b, kvs, rfl, rfl, ea, eb, hi, q⟩ := h
  cases rx; cases ry
  have hu := hr.units
  obtain ⟨_, hd1, xs, rel1, dd1⟩ := dt_of I.hok ea
  obtain ⟨_, hd2, ys, rel2, dd2⟩ := dt_of I.hok eb
  have l1 : kvs.length = xs.length := Paired.length rel1
  have l2 : kvs.length = ys.length := Paired.length rel2
  exact keqT_eq hd1 hd2 (show X.A.units + 1 < cLine by omega) dd1 dd2 (by omega) (by omega) (KT.alike rel1 rel2 hi) ⟨.bl true, H, I, rfl, q⟩
end
end L2

set_option Elab.async false
set_option linter.all false
set_option maxRecDepth 100000
set_option maxHeartbeats 1000000
namespace My
open PySem L2
def apart (f : Nat → Nat) : Nat → Nat → Bool
  | 0, _ => true
  | k + 1, m => !(m.testBit (f k)) && apart f k (m ||| (1 <<< f k))
theorem apart_low {f : Nat → Nat} : ∀ {k m : Nat}, apart f k m = true → (∀ i, i < k → m.testBit (f i) = false) ∧ ∀ i j, i < k → j < k → f i = f j → i = j
  | 0, _, _ => ⟨fun _ h => absurd h (Nat.not_lt_zero _), fun _ _ h => absurd h (Nat.not_lt_zero _)⟩
  | k + 1, m, h => by
    unfold apart at h
    rw [Bool.and_eq_true, Bool.not_eq_true'] at h
    obtain ⟨h1, h2⟩ := apart_low h.2
    have up : ∀ i, i < k → m.testBit (f i) = false ∧ f i ≠ f k := fun i hi => by
      have z := h1 i hi
      rw [Nat.testBit_or, Bool.or_eq_false_iff] at z
      refine ⟨z.1, fun e => ?_⟩
      rw [e, Nat.shiftLeft_eq, Nat.one_mul, Nat.testBit_two_pow_self] at z
      exact absurd z.2 (by decide)
    refine ⟨fun i hi => ?_, fun i j hi hj e => ?_⟩
    · rcases Nat.lt_succ_iff_lt_or_eq.mp hi with z | z
      · exact (up i z).1
      · rw [z]; exact h.1
    · rcases Nat.lt_succ_iff_lt_or_eq.mp hi with zi | zi
      · rcases Nat.lt_succ_iff_lt_or_eq.mp hj with zj | zj
        · exact h2 i j zi zj e
        · exact absurd (zj ▸ e) (up i zi).2
      · rcases Nat.lt_succ_iff_lt_or_eq.mp hj with zj | zj
        · exact absurd (zi ▸ e.symm) (up j zj).2
        · rw [zi, zj]
def f3 (i : Nat) : Nat := (tHash [((i / 217 : Nat) : Int), ((i / 7 % 31 : Nat) : Int), ((i % 7 : Nat) : Int)] % 18446744073709551616).toNat % 32653
def f2 (i : Nat) : Nat := (tHash [((i / 31 : Nat) : Int), ((i % 31 : Nat) : Int)] % 18446744073709551616).toNat % 1518
theorem f2_apart : apart f2 248 0 = true := by decide +kernel
theorem f3_apart : apart f3 1736 0 = true := by decide +kernel
theorem th3_inj {a b c a' b' c' : Nat} (ha : a < 8) (hb : b < 31) (hc : c < 7) (ha' : a' < 8) (hb' : b' < 31) (hc' : c' < 7) (e : tHash [(a : Int), (b : Int), (c : Int)] = tHash [(a' : Int), (b' : Int), (c' : Int)]) : a = a' ∧ b = b' ∧ c = c' := by
  have h := (apart_low f3_apart).2 (a * 217 + b * 7 + c) (a' * 217 + b' * 7 + c') (by omega) (by omega) (by
    unfold f3
    rw [show (a * 217 + b * 7 + c) / 217 = a by omega, show (a * 217 + b * 7 + c) / 7 % 31 = b by omega, show (a * 217 + b * 7 + c) % 7 = c by omega, show (a' * 217 + b' * 7 + c') / 217 = a' by omega, show (a' * 217 + b' * 7 + c') / 7 % 31 = b' by omega, show (a' * 217 + b' * 7 + c') % 7 = c' by omega, e])
  omega
theorem th2_inj {a b a' b' : Nat} (ha : a < 8) (hb : b < 31) (ha' : a' < 8) (hb' : b' < 31) (e : tHash [(a : Int), (b : Int)] = tHash [(a' : Int), (b' : Int)]) : a = a' ∧ b = b' := by
  have h := (apart_low f2_apart).2 (a * 31 + b) (a' * 31 + b') (by omega) (by omega) (by
    unfold f2
    rw [show (a * 31 + b) / 31 = a by omega, show (a * 31 + b) % 31 = b by omega, show (a' * 31 + b') / 31 = a' by omega, show (a' * 31 + b') % 31 = b' by omega, e])
  omega
end My

set_option Elab.async false
set_option linter.all false
set_option maxRecDepth 100000
set_option maxHeartbeats 1000000
namespace My
open PySem L2
def kk (h d p : Int) : List Key := [Sum.inl h, Sum.inl d, Sum.inl p]
def iv : Option V → Int
  | some (.int i) => i
  | _ => 0
def addP (t : Int) (kvs : List (List Key × V)) (q : Prt) : List (List Key × V) := putK kvs (kk q.h q.d q.p) (.int (iv (valV kvs (kk q.h q.d q.p)) + q.n * t))
def addL (kvs : List (List Key × V)) (l : Lin × Int) : List (List Key × V) := l.1.ps.foldl (addP l.2) kvs
def sumKv (ls : List (Lin × Int)) : List (List Key × V) := ls.foldl addL []
def sumB (ls : List (Lin × Int)) : Int := (ls.map fun l => l.1.b * l.2).sum
def AllI (kvs : List (List Key × V)) : Prop := ∀ k v, valV kvs k = some v → ∃ i : Int, v = .int i
theorem allI_nil : AllI [] := fun k v h => by cases h
theorem allI_put {kvs : List (List Key × V)} (h : AllI kvs) (k : List Key) (i : Int) : AllI (putK kvs k (.int i)) := fun j v e => by
  rw [valV_put] at e
  by_cases z : j = k
  · rw [if_pos z] at e
    cases e
    exact ⟨i, rfl⟩
  · rw [if_neg z] at e
    exact h j v e
theorem iv_get {kvs : List (List Key × V)} (h : AllI kvs) (k : List Key) : (valV kvs k).getD (.int 0) = .int (iv (valV kvs k)) := by
  cases e : valV kvs k with
  | none => rfl
  | some v =>
    obtain ⟨i, rfl⟩ := h k v e
    rfl
theorem addP_ok {t : Int} {kvs : List (List Key × V)} {q : Prt} (h : AllI kvs) : AllI (addP t kvs q) := allI_put h _ _
theorem foldP_ok {t : Int} : ∀ {qs : List Prt} {kvs : List (List Key × V)}, AllI kvs → AllI (qs.foldl (addP t) kvs)
  | [], _, h => h
  | _ :: qs, _, h => foldP_ok (qs := qs) (addP_ok h)
theorem sumKv_ok : ∀ {ls : List (Lin × Int)} {kvs : List (List Key × V)}, AllI kvs → AllI (ls.foldl addL kvs)
  | [], _, h => h
  | l :: ls, _, h => sumKv_ok (ls := ls) (foldP_ok (qs := l.1.ps) h)
theorem foldP_len {t : Int} : ∀ {qs : List Prt} {kvs : List (List Key × V)}, (qs.foldl (addP t) kvs).length ≤ kvs.length + qs.length
  | [], _ => Nat.le_refl _
  | q :: qs, kvs => by
    have h1 := foldP_len (t := t) (qs := qs) (kvs := addP t kvs q)
    have h2 : (addP t kvs q).length ≤ kvs.length + 1 := length_putK _ _ _
    show (qs.foldl (addP t) (addP t kvs q)).length ≤ _
    rw [List.length_cons]
    omega
def partsN (ls : List (Lin × Int)) : Nat := (ls.map fun l => l.1.ps.length).sum
theorem sumKv_len : ∀ {ls : List (Lin × Int)} {kvs : List (List Key × V)}, (ls.foldl addL kvs).length ≤ kvs.length + partsN ls
  | [], _ => Nat.le_refl _
  | l :: ls, kvs => by
    have h1 := sumKv_len (ls := ls) (kvs := addL kvs l)
    have h2 : (addL kvs l).length ≤ kvs.length + l.1.ps.length := foldP_len
    show (ls.foldl addL (addL kvs l)).length ≤ _
    have h3 : partsN (l :: ls) = l.1.ps.length + partsN ls := by unfold partsN; rw [List.map_cons, List.sum_cons]
    omega
def Keys (kvs : List (List Key × V)) : Prop := (kvs.map (·.1)).Nodup
theorem keys_put {kvs : List (List Key × V)} (h : Keys kvs) (k : List Key) (v : V) : Keys (putK kvs k v) := by
  unfold Keys putK at *
  split
  · have e : (kvs.map fun kv => if kv.1 = k then (kv.1, v) else kv).map (·.1) = kvs.map (·.1) := by
      rw [List.map_map]
      refine List.map_congr_left fun kv _ => ?_
      show (if kv.1 = k then (kv.1, v) else kv).1 = kv.1
      split <;> rfl
    rw [e]
    exact h
  · rename_i hn
    rw [List.map_append, List.nodup_append]
    refine ⟨h, by simp, fun a ha b hb => ?_⟩
    rw [show b = k by simpa using hb]
    intro z
    obtain ⟨kv, hkv, rfl⟩ := List.mem_map.mp ha
    exact hn (List.any_eq_true.mpr ⟨kv, hkv, decide_eq_true z⟩)
theorem val_at {kvs : List (List Key × V)} (h : Keys kvs) {i : Nat} {k : List Key} {v : V} (e : kvs[i]? = some (k, v)) : valV kvs k = some v := by
  induction kvs generalizing i with
  | nil => simp at e
  | cons p r ih =>
    unfold Keys at h
    rw [List.map_cons, List.nodup_cons] at h
    cases i with
    | zero =>
      rw [List.getElem?_cons_zero] at e
      cases e
      exact valV_pos rfl
    | succ j =>
      rw [List.getElem?_cons_succ] at e
      rw [valV_neg fun z => h.1 (by rw [z]; exact List.mem_map.mpr ⟨_, List.mem_of_getElem? e, rfl⟩)]
      exact ih h.2 e
def PrV (H : Hp) (v : V) (l : Lin × Int) : Prop := ∃ t u, v = .ref t ∧ H t = some (.tup [.ref u, .int l.2]) ∧ LinV H (.ref u) l.1
abbrev Prs (H : Hp) : List V → List (Lin × Int) → Prop := Paired (PrV H)
theorem PrV.mono {H H' : Hp} (g : Tups H H') {v : V} {l : Lin × Int} (h : PrV H v l) : PrV H' v l := by
  obtain ⟨t, u, e, h1, h2⟩ := h
  exact ⟨t, u, e, g _ _ h1, h2.mono g⟩
theorem Prs.mono {H H' : Hp} (g : Tups H H') {ts : List V} {ls : List (Lin × Int)} (h : Prs H ts ls) : Prs H' ts ls := Paired.mapP h fun _ _ => PrV.mono g
end My

set_option Elab.async false
set_option linter.all false
set_option maxRecDepth 100000
set_option maxHeartbeats 1000000
namespace L2
open PySem PySem.Spec PyProof.Rows
theorem vals_at : ∀ {xs : List V} {us : List Value}, xs.length = us.length → (∀ (i : Nat) x u, xs[i]? = some x → us[i]? = some u → RelV x u) → Vals xs us
  | [], [], _, _ => .nil
  | [], _ :: _, h, _ => by simp at h
  | _ :: _, [], h, _ => by simp at h
  | x :: xs, u :: us, h, f => .cons (f 0 x u rfl rfl) (vals_at (by simpa using h) fun i y v e1 e2 => f (i + 1) y v (by simpa using e1) (by simpa using e2))
section
variable {prog : Program} {w : World} {A : Around}
theorem raw_walks (hh : A.handled = none) (I d : Addr) (hne : d ≠ I) (o : Obj) (es : Array DictEntry) (ep : Nat) (hdat : o.data = .dict es ep) :
    Walks prog w A I [I, d] [I] es.size (fun i v => ∃ h : i < es.size, v = es[i].key) (fun i h => h.IsKeyIter I d i es.size ep ∧ h.get? d = some o) where
  sub := fun b hb => by simp at hb; simp [hb]
  frame := fun _ _ _ st hk => ⟨st.1.at fun o e => hk I (by simp) o e, hk d (by simp) o st.2⟩
  item := fun i s Q E hi st hQ => by
    refine raw_next st.1 st.2 hdat hi fun h' st' sb => ?_
    exact hQ _ h' s.toks ⟨hi, rfl⟩ ⟨st', (sb.2 d hne).trans st.2⟩ (fun b o hb e => (sb.2 b (fun z => hb (by simp [z]))).trans e)
  done := fun s Q E st hQ => by
    refine raw_end hh st.1 st.2 hdat (Nat.le_refl _) fun h' eb => ?_
    exact hQ h' s.toks fun b o hb e => eb b o (fun z => hb (by simp [z])) e
  self := fun _ _ _ _ st h => wpAny_pyIter_keyiter st.1 h
theorem raw_src {d : Addr} {o : Obj} {es : Array DictEntry} {ep : Nat} (lo : (d == sysModules) = false) (hx : o.ExactDict) (hdat : o.data = .dict es ep) :
    PySem.W.KdlSrc prog w "dict" d d es.size (fun i v => ∃ h : i < es.size, v = es[i].key) (fun h => h.get? d = some o) where
  type := fun _ hm => ⟨o, hm, hx.1⟩
  there := fun _ hm => ⟨Heap.lt_size hm, Heap.lt_size hm⟩
  keep := fun _ _ hm hk => hk d (.inl rfl) o hm
  notList := by decide
  notTuple := by decide
  hint := fun _ _ _ _ hm hq => PySem.W.kdl_hint_dict ⟨o, hm, hx.1⟩ hq
  iter := fun _ _ hh hm => ⟨_, _, (fun _ _ hq => raw_iter lo hm hx ⟨o, hm, hx.1⟩ hdat hq), raw_walks hh _ d (Nat.ne_of_lt (Heap.lt_size hm)) o es ep hdat, ⟨⟨_, Heap.get?_push_size _ rfl, rfl, rfl⟩, Heap.get?_push_of_some _ hm⟩⟩
end
section
variable {X : Cx}
/-- a key's tuple -/
def KyV (H : Hp) (v : V) (kv : List Key × V) : Prop := ∃ b, v = .ref b ∧ H b = some (.tup (kv.1.map kV))
def rListT : List V → Hp → VK → Prop := fun xs H Q => ∃ a kvs, xs = [.ref a] ∧ H a = some (.dT kvs) ∧ ∀ l us, H l = none → Paired (KyV H) us kvs → Q (.ref l) (upd H l (.lst us))
theorem KT.kys {H : Hp} : ∀ {kvs : List (List Key × V)} {xs : List (List Key × Addr × Value)}, KT H kvs xs → Paired (KyV H) (xs.map fun x => V.ref x.2.1) kvs
  | _, _, .nil => .nil
  | _, _, .cons h r => .cons ⟨_, rfl, h.2.1⟩ (KT.kys r)
theorem call_listT (hc : X.calm = true) : CallR X (.type "list") rListT := by
  intro pins s σ H xs us Q I r h
  obtain ⟨a, kvs, rfl, e, q⟩ := h
  obtain ⟨u, rfl, rx⟩ := Vals.one r
  cases rx
  obtain ⟨hz, hsm, xs, rel, o, es, ep, g1, g2, g3, g4, g5⟩ := id (show ObjOk X.prog X.w H s.heap a (.dT kvs) from I.hok a _ e)
  have hxl : xs.length = kvs.length := (Paired.length rel).symm
  have hsz : es.size = xs.length := by
    rw [← Array.length_toList, g4, List.length_map]
  refine PySem.W.kdl_call (raw_src hsm g2 g3) (I.ok.hd hc) g1 (by rw [hsz, hxl]; exact hz) fun h' tk acc' c' hk hS hacc => ?_
  refine ⟨.ref _, _, I.laid (t' := tk) (o := .lst (xs.map fun x => V.ref x.2.1)) hk (Nat.le_refl _) ⟨by rw [List.length_map, hxl]; exact hz, acc'.toList, c', ?_, by simpa using hS⟩, rfl, q _ _ (I.hok.fresh (Nat.le_refl _)) (KT.kys rel)⟩
  refine vals_at ((List.length_map ..).trans (hsz.symm.trans (hacc.1.symm.trans (Array.length_toList ..).symm))) fun i x u e1 e2 => ?_
  rw [Array.getElem?_toList] at e2
  obtain ⟨hi, rfl⟩ := hacc.2 i u e2
  have hxi : xs[i]? = some xs[i] := List.getElem?_eq_getElem (by omega)
  have hkey : es[i].key = .ref (xs[i]'(by omega)).2.1 := by
    have z : es.toList[i]? = (xs.map (entryOfKey (tupleKind (mixKind X.prog X.w))))[i]? := by rw [g4]
    rw [List.getElem?_map, hxi, Array.getElem?_toList, Array.getElem?_eq_getElem hi] at z
    have z' := Option.some.inj z
    rw [z']
    rfl
  rw [List.getElem?_map, hxi] at e1
  cases e1
  rw [hkey]
  rfl
theorem call_maxL (hc : X.calm = true) : CallR X (.builtin "max") (fun xs H Q => ∃ (p : Addr) (ns : List Int), xs = [.ref p] ∧ SqL X.K H p (ns.map V.int) ∧ 0 < ns.length ∧ ∀ M, M ∈ ns → (∀ a ∈ ns, a ≤ M) → Q (.int M) H) := by
  intro pins s σ H xs us Q I r h
  obtain ⟨p, ns, rfl, hp, hne, q⟩ := h
  obtain ⟨u, rfl, ru⟩ := vals1 r
  cases ru
  obtain ⟨its, ri, pl, hz⟩ := I.list hp
  have hi := intsAre_of ri
  obtain ⟨ys, e⟩ := hi.allInts.items
  have hns : ns = ys.toList.map (·.1) := by
    rw [← hi.numsOf, ← nums_intItems, ← e]
  have hsz : 0 < ys.size := by
    have h3 := hne; rw [hns, List.length_map, Array.length_toList] at h3; exact h3
  have hl := pl.isList
  rw [e] at hl
  refine max_intList (I.ok.hd hc) hl hsz fun v h' tk hv hk => ?_
  obtain ⟨t, rfl⟩ := intItems_at hv
  obtain ⟨h1, h2⟩ := argBest_gt (numAt ys) (ys.size - 1)
  refine ⟨.int _, H, I.kept hk, ⟨_, rfl⟩, q _ ?_ fun a ha => ?_⟩
  · rw [hns, numAt_eq]; exact getD_mem (by rw [List.length_map, Array.length_toList]; omega)
  · rw [hns] at ha
    obtain ⟨j, hj, rfl⟩ := mem_getD ha
    rw [List.length_map, Array.length_toList] at hj
    rw [← numAt_eq]; exact h2 j (by lia)
end
end L2

set_option Elab.async false
set_option linter.all false
set_option maxRecDepth 100000
set_option maxHeartbeats 1000000
namespace My
open PySem L2
def k2 (h d : Int) : List Key := [Sum.inl h, Sum.inl d]
def nO (kvs : List (List Key × V)) (h d p : Int) : Int := iv (valV kvs (kk h d p))
/-- keys of three, within bounds, apart, with whole numbers -/
structure NumOk (n D P : Nat) (kvs : List (List Key × V)) : Prop where
  ky : Keys kvs
  ai : AllI kvs
  inb : ∀ kv ∈ kvs, ∃ h d p : Nat, kv.1 = kk h d p ∧ h < n ∧ d < D ∧ p < P
theorem NumOk.nil {n D P : Nat} : NumOk n D P [] := ⟨List.nodup_nil, allI_nil, fun _ h => by cases h⟩
theorem putK_mem {k : List Key} {v : V} {kvs : List (List Key × V)} {kv : List Key × V} (h : kv ∈ putK kvs k v) : kv.1 = k ∨ ∃ kv' ∈ kvs, kv'.1 = kv.1 := by
  unfold putK at h
  split at h
  · obtain ⟨x, hx, rfl⟩ := List.mem_map.mp h
    by_cases z : x.1 = k
    · rw [if_pos z]; exact .inl z
    · rw [if_neg z]; exact .inr ⟨x, hx, rfl⟩
  · rcases List.mem_append.mp h with h | h
    · exact .inr ⟨kv, h, rfl⟩
    · rw [List.mem_singleton.mp h]; exact .inl rfl
theorem NumOk.put {n D P : Nat} {kvs : List (List Key × V)} (o : NumOk n D P kvs) {h d p : Nat} (hh : h < n) (hd : d < D) (hp : p < P) (i : Int) : NumOk n D P (putK kvs (kk h d p) (.int i)) :=
  ⟨keys_put o.ky _ _, allI_put o.ai _ _, fun kv m => by
    rcases putK_mem m with e | ⟨kv', h1, h2⟩
    · exact ⟨h, d, p, e, hh, hd, hp⟩
    · obtain ⟨a, b, c, e, r⟩ := o.inb kv' h1
      exact ⟨a, b, c, h2 ▸ e, r⟩⟩
structure PinOk (n D P : Nat) (pns : List (List Key × V)) : Prop where
  ky : Keys pns
  ai : AllI pns
  inb : ∀ kv ∈ pns, ∃ h d : Nat, kv.1 = k2 h d ∧ h < n ∧ d < D
theorem PinOk.nil {n D P : Nat} : PinOk n D P [] := ⟨List.nodup_nil, allI_nil, fun _ h => by cases h⟩
theorem PinOk.put {n D P : Nat} {kvs : List (List Key × V)} (o : PinOk n D P kvs) {h d : Nat} (hh : h < n) (hd : d < D) (i : Int) : PinOk n D P (putK kvs (k2 h d) (.int i)) :=
  ⟨keys_put o.ky _ _, allI_put o.ai _ _, fun kv m => by
    rcases putK_mem m with e | ⟨kv', h1, h2⟩
    · exact ⟨h, d, e, hh, hd⟩
    · obtain ⟨a, b, e, r⟩ := o.inb kv' h1
      exact ⟨a, b, h2 ▸ e, r⟩⟩
theorem nodup_by {α β : Type _} {f : α → β} : ∀ {l : List α} {γ : Type} {g : α → γ}, (l.map g).Nodup → (∀ a ∈ l, ∀ b ∈ l, f a = f b → g a = g b) → (l.map f).Nodup
  | [], _, _, _, _ => List.nodup_nil
  | a :: l, _, g, h, j => by
    rw [List.map_cons, List.nodup_cons] at h ⊢
    refine ⟨fun z => ?_, nodup_by h.2 fun x hx y hy => j x (List.mem_cons_of_mem _ hx) y (List.mem_cons_of_mem _ hy)⟩
    obtain ⟨b, hb, e⟩ := List.mem_map.mp z
    exact h.1 (List.mem_map.mpr ⟨b, hb, j b (List.mem_cons_of_mem _ hb) a (List.mem_cons_self ..) e⟩)
theorem NumOk.hash {n D P : Nat} {kvs : List (List Key × V)} (o : NumOk n D P kvs) (hn : n ≤ 8) (hD : D ≤ 31) (hP : P ≤ 7) (pr : Program) (w : World) : (kvs.map fun kv => tupleKeyHash (mixKind pr w) kv.1).Nodup := by
  refine nodup_by (g := fun kv => kv.1) o.ky fun a ha b hb e => ?_
  obtain ⟨h, d, p, e1, a1, a2, a3⟩ := o.inb a ha
  obtain ⟨h', d', p', e2, b1, b2, b3⟩ := o.inb b hb
  have f1 := hash_kN pr w [(h : Int), (d : Int), (p : Int)]
  have f2 := hash_kN pr w [(h' : Int), (d' : Int), (p' : Int)]
  rw [e1, e2] at e
  obtain ⟨rfl, rfl, rfl⟩ := th3_inj (by omega) (by omega) (by omega) (by omega) (by omega) (by omega) (f1.symm.trans (e.trans f2))
  rw [e1, e2]
theorem PinOk.hash {n D P : Nat} {kvs : List (List Key × V)} (o : PinOk n D P kvs) (hn : n ≤ 8) (hD : D ≤ 31) (pr : Program) (w : World) : (kvs.map fun kv => tupleKeyHash (mixKind pr w) kv.1).Nodup := by
  refine nodup_by (g := fun kv => kv.1) o.ky fun a ha b hb e => ?_
  obtain ⟨h, d, e1, a1, a2⟩ := o.inb a ha
  obtain ⟨h', d', e2, b1, b2⟩ := o.inb b hb
  have f1 := hash_kN pr w [(h : Int), (d : Int)]
  have f2 := hash_kN pr w [(h' : Int), (d' : Int)]
  rw [e1, e2] at e
  obtain ⟨rfl, rfl⟩ := th2_inj (by omega) (by omega) (by omega) (by omega) (f1.symm.trans (e.trans f2))
  rw [e1, e2]
theorem ints_of {kvs : List (List Key × V)} (ky : Keys kvs) (ai : AllI kvs) : ∀ kv ∈ kvs, ∃ i, kv.2 = .int i := fun kv m => by
  obtain ⟨j, hj, e⟩ := List.getElem_of_mem m
  exact ai kv.1 kv.2 (val_at ky (i := j) (by rw [List.getElem?_eq_getElem hj, e]))
theorem sum_perm {α : Type _} (f : α → Int) {a b : List α} (h : a.Perm b) : (a.map f).sum = (b.map f).sum := by
  induction h with
  | nil => rfl
  | cons x _ ih => rw [List.map_cons, List.map_cons, List.sum_cons, List.sum_cons, ih]
  | swap x y l => simp only [List.map_cons, List.sum_cons]; omega
  | trans _ _ i1 i2 => exact i1.trans i2
theorem sum_zero {α : Type _} (f : α → Int) : ∀ {l : List α}, (∀ x ∈ l, f x = 0) → (l.map f).sum = 0
  | [], _ => rfl
  | x :: l, h => by rw [List.map_cons, List.sum_cons, h x (List.mem_cons_self ..), sum_zero f fun y hy => h y (List.mem_cons_of_mem _ hy)]; rfl
theorem sum_sub {α : Type _} [DecidableEq α] (f : α → Int) : ∀ {s L : List α}, s.Nodup → L.Nodup → (∀ x ∈ s, x ∈ L) → (∀ x ∈ L, x ∉ s → f x = 0) → (s.map f).sum = (L.map f).sum
  | [], L, _, _, _, h => (sum_zero f fun x hx => h x hx (by simp)).symm
  | x :: s, L, hs, hL, hi, h => by
    rw [List.nodup_cons] at hs
    have hx := hi x (List.mem_cons_self ..)
    rw [sum_perm f (List.perm_cons_erase hx), List.map_cons, List.map_cons, List.sum_cons, List.sum_cons]
    refine congrArg (f x + ·) (sum_sub f hs.2 (hL.erase x) (fun y hy => ?_) fun y hy hn => ?_)
    · have : y ≠ x := fun z => hs.1 (z ▸ hy)
      exact (List.mem_erase_of_ne this).mpr (hi y (List.mem_cons_of_mem _ hy))
    · have hyL := List.mem_of_mem_erase hy
      refine h y hyL fun z => ?_
      rcases List.mem_cons.mp z with rfl | z
      · exact (hL.not_mem_erase hy).elim
      · exact hn z
theorem sum_le {α : Type _} {f g : α → Int} : ∀ {l : List α}, (∀ x ∈ l, f x ≤ g x) → (l.map f).sum ≤ (l.map g).sum
  | [], _ => Int.le_refl _
  | x :: l, h => by
    have h1 := h x (List.mem_cons_self ..)
    have h2 := sum_le (l := l) fun y hy => h y (List.mem_cons_of_mem _ hy)
    simp only [List.map_cons, List.sum_cons]
    omega
theorem sum_congr {α : Type _} {f g : α → Int} {l : List α} (h : ∀ x ∈ l, f x = g x) : (l.map f).sum = (l.map g).sum := by
  rw [List.map_congr_left h]
/-- all cells -/
def cls (n D : Nat) : List (Nat × Nat) := (List.range n).flatMap fun h => (List.range D).map fun d => (h, d)
theorem mem_cls {n D : Nat} {c : Nat × Nat} : c ∈ cls n D ↔ c.1 < n ∧ c.2 < D := by
  unfold cls
  rw [List.mem_flatMap]
  constructor
  · rintro ⟨h, h1, h2⟩
    obtain ⟨d, h3, rfl⟩ := List.mem_map.mp h2
    exact ⟨List.mem_range.mp h1, List.mem_range.mp h3⟩
  · intro h
    exact ⟨c.1, List.mem_range.mpr h.1, List.mem_map.mpr ⟨c.2, List.mem_range.mpr h.2, rfl⟩⟩
theorem cls_nodup : ∀ {n D : Nat}, (cls n D).Nodup
  | 0, D => List.nodup_nil
  | n + 1, D => by
    have e : cls (n + 1) D = cls n D ++ (List.range D).map fun d => (n, d) := by
      unfold cls
      rw [List.range_succ, List.flatMap_append]
      simp
    rw [e, List.nodup_append]
    refine ⟨cls_nodup, ?_, fun a ha b hb z => ?_⟩
    · refine nodup_by (g := fun x => x) (by simpa using List.nodup_range) fun a _ b _ z => ?_
      exact (Prod.mk.inj z).2
    · subst z
      obtain ⟨d, _, rfl⟩ := List.mem_map.mp hb
      have := (mem_cls.mp ha).1
      omega
/-- a key's numbers -/
def ka (k : List Key) (i : Nat) : Int := match k[i]? with | some (.inl z) => z | _ => 0
theorem kk_inj3 {a b c a' b' c' : Int} (h : kk a b c = kk a' b' c') : a = a' ∧ b = b' ∧ c = c' := by
  unfold kk at h
  simp only [List.cons.injEq, Sum.inl.injEq, and_true] at h
  exact h
/-- what a table has of the numbers -/
def totK (r : Nat → Nat → Int) (kvs : List (List Key × V)) : Int := (kvs.map fun kv => if r (ka kv.1 0).toNat (ka kv.1 1).toNat = ka kv.1 2 then iv (some kv.2) else 0).sum
theorem valV_none {kvs : List (List Key × V)} {k : List Key} (h : k ∉ kvs.map (·.1)) : valV kvs k = none := by
  induction kvs with
  | nil => rfl
  | cons p r ih =>
    rw [List.map_cons, List.mem_cons, not_or] at h
    rw [valV_neg (fun z => h.1 z.symm), ih h.2]
theorem totK_cells {n D P : Nat} (r : Nat → Nat → Int) : ∀ {kvs : List (List Key × V)}, NumOk n D P kvs → totK r kvs = ((cls n D).map fun c => nO kvs c.1 c.2 (r c.1 c.2)).sum
  | [], _ => by
    rw [sum_zero]
    · rfl
    · intro x _; rfl
  | (k, v) :: kvs, o => by
    have ky := o.ky
    unfold Keys at ky
    rw [List.map_cons, List.nodup_cons] at ky
    have ok : NumOk n D P kvs := ⟨ky.2, fun j x e => o.ai j x (by
      rw [valV_neg]
      · exact e
      · intro z
        have e2 := valV_none ky.1
        rw [show k = j from z, e] at e2
        cases e2), fun kv m => o.inb kv (List.mem_cons_of_mem _ m)⟩
    obtain ⟨h, d, p, e, h1, h2, h3⟩ := o.inb (k, v) (List.mem_cons_self ..)
    have e : k = kk h d p := e
    subst e
    have ih := totK_cells r ok
    have s1 : totK r ((kk h d p, v) :: kvs) = (if r h d = p then iv (some v) else 0) + totK r kvs := by
      unfold totK
      rw [List.map_cons, List.sum_cons]
      rfl
    have hv := valV_none ky.1
    have pm := List.perm_cons_erase (mem_cls.mpr (show (h, d).1 < n ∧ (h, d).2 < D from ⟨h1, h2⟩))
    rw [s1, ih, sum_perm _ pm, sum_perm _ pm, List.map_cons, List.map_cons, List.sum_cons, List.sum_cons]
    have hne : ∀ c ∈ (cls n D).erase (h, d), c ≠ (h, d) := fun c hc z => cls_nodup.not_mem_erase (z ▸ hc)
    have s2 : (((cls n D).erase (h, d)).map fun c => nO ((kk h d p, v) :: kvs) c.1 c.2 (r c.1 c.2)).sum = (((cls n D).erase (h, d)).map fun c => nO kvs c.1 c.2 (r c.1 c.2)).sum := by
      refine sum_congr fun c hc => ?_
      unfold nO
      rw [valV_neg]
      intro z
      obtain ⟨z1, z2, _⟩ := kk_inj3 z
      exact hne c hc (Prod.ext (by show c.1 = h; omega) (by show c.2 = d; omega))
    rw [s2]
    have s3 : nO ((kk h d p, v) :: kvs) h d (r h d) = (if r h d = p then iv (some v) else 0) + nO kvs h d (r h d) := by
      unfold nO
      by_cases z : r h d = p
      · rw [if_pos z, z, valV_pos rfl, hv]
        show iv (some v) = iv (some v) + 0
        omega
      · rw [if_neg z, valV_neg (fun y => z (kk_inj3 y).2.2.symm)]
        omega
    show _ = nO ((kk h d p, v) :: kvs) h d (r h d) + _
    rw [s3]
    show (if r h d = (p : Int) then iv (some v) else 0) + (nO kvs h d (r h d) + _) = _
    omega
def mxL : List Int → Int
  | [] => 0
  | x :: xs => xs.foldl max x
theorem foldl_max_ge : ∀ (xs : List Int) (x : Int), x ≤ xs.foldl max x ∧ ∀ y ∈ xs, y ≤ xs.foldl max x
  | [], x => ⟨Int.le_refl _, fun _ h => by cases h⟩
  | a :: xs, x => by
    obtain ⟨h1, h2⟩ := foldl_max_ge xs (max x a)
    refine ⟨Int.le_trans (Int.le_max_left ..) h1, fun y hy => ?_⟩
    rcases List.mem_cons.mp hy with rfl | hy
    · exact Int.le_trans (Int.le_max_right ..) h1
    · exact h2 y hy
theorem foldl_max_mem : ∀ (xs : List Int) (x : Int), xs.foldl max x = x ∨ xs.foldl max x ∈ xs
  | [], x => .inl rfl
  | a :: xs, x => by
    have e : (a :: xs).foldl max x = xs.foldl max (max x a) := rfl
    rw [e]
    rcases foldl_max_mem xs (max x a) with h | h
    · rw [h]
      by_cases z : a ≤ x
      · exact .inl (Int.max_eq_left z)
      · rw [Int.max_eq_right (by omega)]; exact .inr (List.mem_cons_self ..)
    · exact .inr (List.mem_cons_of_mem _ h)
theorem mxL_eq {ns : List Int} {M : Int} (h : M ∈ ns) (g : ∀ a ∈ ns, a ≤ M) : M = mxL ns := by
  cases ns with
  | nil => cases h
  | cons x xs =>
    obtain ⟨h1, h2⟩ := foldl_max_ge xs x
    have a : M ≤ xs.foldl max x := by
      rcases List.mem_cons.mp h with rfl | h
      · exact h1
      · exact h2 M h
    have b : xs.foldl max x ≤ M := by
      rcases foldl_max_mem xs x with e | e
      · rw [e]; exact g x (List.mem_cons_self ..)
      · exact g _ (List.mem_cons_of_mem _ e)
    exact Int.le_antisymm a b
theorem mxL_ge {ns : List Int} {a : Int} (h : a ∈ ns) : a ≤ mxL ns := by
  cases ns with
  | nil => cases h
  | cons x xs =>
    obtain ⟨h1, h2⟩ := foldl_max_ge xs x
    rcases List.mem_cons.mp h with rfl | h
    · exact h1
    · exact h2 a h
/-- what may stand at a cell -/
def vls2 (pns : List (List Key × V)) (own : List Int) (h d : Int) : List Int := match valV pns (k2 h d) with | some v => [iv (some v)] | none => own
def mxC (pns kvs : List (List Key × V)) (own : Nat → List Int) (h d : Nat) : Int := mxL ((vls2 pns (own h) h d).map fun p => nO kvs h d p)
def bestN (pns kvs : List (List Key × V)) (own : Nat → List Int) (n D : Nat) : Int := ((cls n D).map fun c => mxC pns kvs own c.1 c.2).sum
/-- the best post of a cell, as the law looks for it -/
def stepB (N : Int → Int) (v o : Int) : Int := if N o > N v then o else v
def bvL (N : Int → Int) (own : List Int) : Int := own.foldl (stepB N) 0
theorem bvL_ge (N : Int → Int) : ∀ (own : List Int) (x : Int), N x ≤ N (own.foldl (stepB N) x) ∧ ∀ y ∈ own, N y ≤ N (own.foldl (stepB N) x)
  | [], x => ⟨Int.le_refl _, fun _ h => by cases h⟩
  | a :: own, x => by
    obtain ⟨h1, h2⟩ := bvL_ge N own (stepB N x a)
    have h3 : N x ≤ N (stepB N x a) ∧ N a ≤ N (stepB N x a) := by
      unfold stepB
      split <;> omega
    refine ⟨Int.le_trans h3.1 h1, fun y hy => ?_⟩
    rcases List.mem_cons.mp hy with rfl | hy
    · exact Int.le_trans h3.2 h1
    · exact h2 y hy
theorem bvL_mem (N : Int → Int) : ∀ (own : List Int) (x : Int), own.foldl (stepB N) x = x ∨ own.foldl (stepB N) x ∈ own
  | [], x => .inl rfl
  | a :: own, x => by
    have e : (a :: own).foldl (stepB N) x = own.foldl (stepB N) (stepB N x a) := rfl
    rw [e]
    rcases bvL_mem N own (stepB N x a) with h | h
    · rw [h]
      unfold stepB
      split
      · exact .inr (List.mem_cons_self ..)
      · exact .inl rfl
    · exact .inr (List.mem_cons_of_mem _ h)
theorem bvL_in {N : Int → Int} {own : List Int} (h : (0 : Int) ∈ own) : bvL N own ∈ own := by
  rcases bvL_mem N own 0 with e | e
  · unfold bvL; rw [e]; exact h
  · exact e
/-- what the top table has at a cell -/
def topV (pns kvs : List (List Key × V)) (own : List Int) (h d : Int) : Int := match valV pns (k2 h d) with | some v => iv (some v) | none => bvL (fun p => nO kvs h d p) own
theorem top_is {pns kvs : List (List Key × V)} {own : Nat → List Int} {h d : Nat} (h0 : (0 : Int) ∈ own h) : nO kvs h d (topV pns kvs (own h) h d) = mxC pns kvs own h d := by
  unfold topV mxC vls2
  cases valV pns (k2 h d) with
  | some v => rfl
  | none =>
    refine mxL_eq (List.mem_map.mpr ⟨_, bvL_in h0, rfl⟩) fun a ha => ?_
    obtain ⟨p, hp, rfl⟩ := List.mem_map.mp ha
    exact (bvL_ge (fun p => nO kvs h d p) (own h) 0).2 p hp
theorem top_best {pns kvs : List (List Key × V)} {own : Nat → List Int} {n D P : Nat} (o : NumOk n D P kvs) (h0 : ∀ h, h < n → (0 : Int) ∈ own h) {r : Nat → Nat → Int} (hr : ∀ h d, h < n → d < D → r h d = topV pns kvs (own h) h d) : totK r kvs = bestN pns kvs own n D := by
  rw [totK_cells r o]
  refine sum_congr fun c hc => ?_
  obtain ⟨h1, h2⟩ := mem_cls.mp hc
  rw [hr _ _ h1 h2]
  exact top_is (h0 _ h1)
theorem any_best {pns kvs : List (List Key × V)} {own : Nat → List Int} {n D P : Nat} (o : NumOk n D P kvs) {r : Nat → Nat → Int} (hr : ∀ h d : Nat, h < n → d < D → r h d ∈ vls2 pns (own h) h d) : totK r kvs ≤ bestN pns kvs own n D := by
  rw [totK_cells r o]
  refine sum_le fun c hc => ?_
  obtain ⟨h1, h2⟩ := mem_cls.mp hc
  exact mxL_ge (List.mem_map.mpr ⟨_, hr _ _ h1 h2, rfl⟩)
theorem best_same {pns kvs kvs' : List (List Key × V)} {own : Nat → List Int} {n D : Nat} (h : ∀ h d p : Int, nO kvs h d p = nO kvs' h d p) : bestN pns kvs own n D = bestN pns kvs' own n D := by
  refine sum_congr fun c _ => ?_
  unfold mxC
  rw [List.map_congr_left fun p _ => h c.1 c.2 p]
def prK (kv : List Key × V) : List Key × V := (k2 (ka kv.1 0) (ka kv.1 1), .bl true)
def prD (kvs : List (List Key × V)) : List (List Key × V) := (kvs.map prK).foldl (fun acc kv => putK acc kv.1 kv.2) []
theorem fold_keys : ∀ {xs acc : List (List Key × V)}, Keys acc → Keys (xs.foldl (fun acc kv => putK acc kv.1 kv.2) acc)
  | [], _, h => h
  | x :: xs, _, h => fold_keys (xs := xs) (keys_put h _ _)
theorem fold_mem : ∀ {xs acc : List (List Key × V)} {kv : List Key × V}, kv ∈ xs.foldl (fun acc kv => putK acc kv.1 kv.2) acc → (∃ x ∈ xs, x.1 = kv.1) ∨ ∃ x ∈ acc, x.1 = kv.1
  | [], _, kv, h => .inr ⟨kv, h, rfl⟩
  | x :: xs, acc, kv, h => by
    rcases fold_mem (xs := xs) h with ⟨y, h1, h2⟩ | ⟨y, h1, h2⟩
    · exact .inl ⟨y, List.mem_cons_of_mem _ h1, h2⟩
    · rcases putK_mem h1 with e | ⟨z, h3, h4⟩
      · exact .inl ⟨x, List.mem_cons_self .., e.symm.trans h2⟩
      · exact .inr ⟨z, h3, h4.trans h2⟩
theorem fold_has : ∀ {xs acc : List (List Key × V)} {k : List Key}, ((∃ x ∈ xs, x.1 = k) ∨ (valV acc k).isSome) → (valV (xs.foldl (fun acc kv => putK acc kv.1 kv.2) acc) k).isSome
  | [], _, k, h => by
    rcases h with ⟨x, h, _⟩ | h
    · cases h
    · exact h
  | x :: xs, acc, k, h => by
    refine fold_has (xs := xs) ?_
    by_cases z : k = x.1
    · right
      show (valV (putK acc x.1 x.2) k).isSome = true
      rw [valV_put, if_pos z]
      rfl
    · rcases h with ⟨y, h1, h2⟩ | h
      · rcases List.mem_cons.mp h1 with rfl | h1
        · exact (z h2.symm).elim
        · exact .inl ⟨y, h1, h2⟩
      · right
        show (valV (putK acc x.1 x.2) k).isSome = true
        rw [valV_put, if_neg z]
        exact h
theorem val_mem {kvs : List (List Key × V)} {k : List Key} {v : V} (h : valV kvs k = some v) : (k, v) ∈ kvs := by
  induction kvs with
  | nil => cases h
  | cons p r ih =>
    by_cases z : p.1 = k
    · rw [valV_pos z] at h
      cases h
      rw [← z]
      exact List.mem_cons_self ..
    · rw [valV_neg z] at h
      exact List.mem_cons_of_mem _ (ih h)
theorem prD_len (kvs : List (List Key × V)) : (prD kvs).length ≤ kvs.length := by
  have : ∀ (xs acc : List (List Key × V)), (xs.foldl (fun acc kv => putK acc kv.1 kv.2) acc).length ≤ acc.length + xs.length := by
    intro xs
    induction xs with
    | nil => intro acc; exact Nat.le_refl _
    | cons x xs ih =>
      intro acc
      have h1 := ih (putK acc x.1 x.2)
      have h2 := length_putK acc x.1 x.2
      rw [List.foldl_cons, List.length_cons]
      omega
  have h := this (kvs.map prK) []
  rw [List.length_map] at h
  unfold prD
  simp only [List.length_nil] at h
  omega
theorem prD_in {n D P : Nat} {kvs : List (List Key × V)} (o : NumOk n D P kvs) : ∀ kv ∈ prD kvs, ∃ h d : Nat, kv.1 = k2 h d ∧ h < n ∧ d < D := fun kv m => by
  rcases fold_mem m with ⟨x, h1, h2⟩ | ⟨x, h1, _⟩
  · obtain ⟨y, hy, rfl⟩ := List.mem_map.mp h1
    obtain ⟨h, d, p, e, b1, b2, _⟩ := o.inb y hy
    refine ⟨h, d, ?_, b1, b2⟩
    rw [← h2]
    unfold prK
    rw [e]
    rfl
  · cases h1
/-- what the program adds up -/
def bestP (pns kvs : List (List Key × V)) (own : Nat → List Int) (ks : List (List Key × V)) : Int := (ks.map fun kv => mxC pns kvs own (ka kv.1 0).toNat (ka kv.1 1).toNat).sum
theorem mxC_zero {pns kvs : List (List Key × V)} {own : Nat → List Int} {h d : Nat} (hw : 0 < (own h).length) (z : ∀ p : Int, nO kvs h d p = 0) : mxC pns kvs own h d = 0 := by
  unfold mxC
  have hv : 0 < (vls2 pns (own h) h d).length := by
    unfold vls2
    split
    · exact Nat.zero_lt_one
    · exact hw
  refine (mxL_eq ?_ fun a ha => ?_).symm
  · obtain ⟨x, hx⟩ := List.exists_mem_of_length_pos hv
    exact List.mem_map.mpr ⟨x, hx, z x⟩
  · obtain ⟨p, _, rfl⟩ := List.mem_map.mp ha
    rw [z]
    exact Int.le_refl _
theorem bestP_is {pns kvs : List (List Key × V)} {own : Nat → List Int} {n D P : Nat} (o : NumOk n D P kvs) (hw : ∀ h, h < n → 0 < (own h).length) : bestP pns kvs own (prD kvs) = bestN pns kvs own n D := by
  have hk : Keys (prD kvs) := fold_keys List.nodup_nil
  have e1 : bestP pns kvs own (prD kvs) = (((prD kvs).map fun kv => ((ka kv.1 0).toNat, (ka kv.1 1).toNat)).map fun c => mxC pns kvs own c.1 c.2).sum := by
    unfold bestP
    rw [List.map_map]
    rfl
  rw [e1]
  refine sum_sub (α := Nat × Nat) (fun c => mxC pns kvs own c.1 c.2) ?_ cls_nodup (fun c hc => ?_) fun c hc hn => ?_
  · refine nodup_by (g := fun kv => kv.1) hk fun a ha b hb e => ?_
    obtain ⟨h, d, e1, _, _⟩ := prD_in o a ha
    obtain ⟨h', d', e2, _, _⟩ := prD_in o b hb
    rw [e1, e2] at e
    obtain ⟨z1, z2⟩ := Prod.mk.inj e
    have z1 : ((h : Int)).toNat = ((h' : Int)).toNat := z1
    have z2 : ((d : Int)).toNat = ((d' : Int)).toNat := z2
    rw [e1, e2, show h = h' by omega, show d = d' by omega]
  · obtain ⟨kv, m, rfl⟩ := List.mem_map.mp hc
    obtain ⟨h, d, e, b1, b2⟩ := prD_in o kv m
    rw [e]
    exact mem_cls.mpr ⟨by show ((h : Int)).toNat < n; omega, by show ((d : Int)).toNat < D; omega⟩
  · obtain ⟨b1, b2⟩ := mem_cls.mp hc
    refine mxC_zero (hw _ b1) fun p => ?_
    unfold nO
    cases e : valV kvs (kk c.1 c.2 p) with
    | none => rfl
    | some v =>
      exfalso
      have m := val_mem e
      have h1 := fold_has (xs := kvs.map prK) (acc := []) (k := k2 c.1 c.2) (.inl ⟨prK (kk c.1 c.2 p, v), List.mem_map.mpr ⟨_, m, rfl⟩, rfl⟩)
      obtain ⟨x, hx⟩ := Option.isSome_iff_exists.mp h1
      refine hn (List.mem_map.mpr ⟨_, val_mem hx, ?_⟩)
      refine Prod.ext ?_ ?_
      · show ((c.1 : Int)).toNat = c.1; omega
      · show ((c.2 : Int)).toNat = c.2; omega
def pAt (k : List Key) (qs : List Prt) : Int := (qs.map fun q => if kk q.h q.d q.p = k then q.n else 0).sum
theorem addP_at (t : Int) (kvs : List (List Key × V)) (q : Prt) (k : List Key) : iv (valV (addP t kvs q) k) = iv (valV kvs k) + (if kk q.h q.d q.p = k then q.n else 0) * t := by
  unfold addP
  rw [valV_put]
  by_cases z : k = kk q.h q.d q.p
  · rw [if_pos z, if_pos z.symm, z]
    rfl
  · rw [if_neg z, if_neg (fun y => z y.symm)]
    omega
theorem foldP_at (t : Int) (k : List Key) : ∀ (qs : List Prt) (kvs : List (List Key × V)), iv (valV (qs.foldl (addP t) kvs) k) = iv (valV kvs k) + pAt k qs * t
  | [], kvs => by show iv (valV kvs k) = iv (valV kvs k) + 0 * t; omega
  | q :: qs, kvs => by
    have h := foldP_at t k qs (addP t kvs q)
    rw [addP_at] at h
    rw [List.foldl_cons, h]
    unfold pAt
    rw [List.map_cons, List.sum_cons, Int.add_mul]
    omega
theorem sumKv_at (k : List Key) : ∀ (ls : List (Lin × Int)) (kvs : List (List Key × V)), iv (valV (ls.foldl addL kvs) k) = iv (valV kvs k) + (ls.map fun l => pAt k l.1.ps * l.2).sum
  | [], kvs => by show iv (valV kvs k) = iv (valV kvs k) + 0; omega
  | l :: ls, kvs => by
    rw [List.foldl_cons, sumKv_at k ls]
    show iv (valV (l.1.ps.foldl (addP l.2) kvs) k) + _ = _
    rw [foldP_at, List.map_cons, List.sum_cons]
    omega
theorem NumOk.parts {n D P : Nat} {t : Int} : ∀ {qs : List Prt} {kvs : List (List Key × V)}, NumOk n D P kvs → (∀ q ∈ qs, ∃ h d p : Nat, kk q.h q.d q.p = kk h d p ∧ h < n ∧ d < D ∧ p < P) → NumOk n D P (qs.foldl (addP t) kvs)
  | [], _, o, _ => o
  | q :: qs, kvs, o, h => by
    obtain ⟨a, b, c, e, b1, b2, b3⟩ := h q (List.mem_cons_self ..)
    refine NumOk.parts (qs := qs) ?_ fun x hx => h x (List.mem_cons_of_mem _ hx)
    unfold addP
    rw [e]
    exact o.put b1 b2 b3 _
theorem NumOk.lines {n D P : Nat} : ∀ {ls : List (Lin × Int)} {kvs : List (List Key × V)}, NumOk n D P kvs → (∀ l ∈ ls, ∀ q ∈ l.1.ps, ∃ h d p : Nat, kk q.h q.d q.p = kk h d p ∧ h < n ∧ d < D ∧ p < P) → NumOk n D P (ls.foldl addL kvs)
  | [], _, o, _ => o
  | l :: ls, kvs, o, h => NumOk.lines (ls := ls) (NumOk.parts o (h l (List.mem_cons_self ..))) fun x hx => h x (List.mem_cons_of_mem _ hx)
theorem pAt_app (k : List Key) (a b : List Prt) : pAt k (a ++ b) = pAt k a + pAt k b := by
  unfold pAt
  rw [List.map_append, List.sum_append]
theorem pAt_one (k : List Key) (q : Prt) : pAt k [q] = if kk q.h q.d q.p = k then q.n else 0 := by
  unfold pAt
  simp
end My

set_option Elab.async false
set_option linter.all false
set_option maxRecDepth 100000
set_option maxHeartbeats 1000000
namespace My
open PySem L2
def dpI (ps : List Pst) (i : Nat) : List Int := ((List.range i).filter fun j => !ngt ps (j + 1)).map fun j : Nat => 1 + (j : Int)
def dp (ps : List Pst) : List Int := dpI ps ps.length
end My

set_option Elab.async false
set_option linter.all false
set_option maxRecDepth 100000
set_option maxHeartbeats 1000000
namespace L2
open PySem PySem.Spec PyProof.Rows
section
variable {prog : Program} {w : World} {A : Around} {E : Value → Shared → Prop} {s : Shared}
end
section
variable {X : Cx}
end
end L2
namespace My
open PySem L2
def TupP (H : Hp) (v : V) (l : List Prt) : Prop := ∃ t ts, v = .ref t ∧ H t = some (.tup ts) ∧ Prts H ts l
abbrev Tps (H : Hp) : List V → List (List Prt) → Prop := Paired (TupP H)
theorem Tps.get {H : Hp} {us : List V} {ls : List (List Prt)} (h : Tps H us ls) {i : Nat} {l : List Prt} (e : ls[i]? = some l) : ∃ t ts, us[i]? = some (.ref t) ∧ H t = some (.tup ts) ∧ Prts H ts l := by
  obtain ⟨v, hv, t, ts, rfl, h1, h2⟩ := paired_get h e
  exact ⟨t, ts, hv, h1, h2⟩
end My

set_option Elab.async false
set_option linter.all false
set_option maxRecDepth 100000
set_option maxHeartbeats 1000000
namespace My
open PySem L2
end My

set_option Elab.async false
set_option linter.all false
set_option maxRecDepth 100000
set_option maxHeartbeats 1000000
namespace L2
open PySem PySem.Spec PyProof.Rows
section
variable {X : Cx} {pins : List (Addr × Obj)} {σ : St} {H : Hp} {s : Shared}
end
end L2

set_option Elab.async false
set_option linter.all false
set_option maxRecDepth 100000
set_option maxHeartbeats 1000000
namespace My
open PySem L2
def ho (h o : Int) : List (Str × V) := putF "other" (.int o) (putF "hand" (.int h) [])
end My
namespace My
open PySem L2
end My

set_option Elab.async false
set_option linter.all false
namespace My
open PySem L2
end My

set_option Elab.async false
set_option linter.all false
set_option maxRecDepth 100000
set_option maxHeartbeats 1000000
namespace L2
open PySem PySem.Spec PyProof.Rows
section
variable {prog : Program} {w : World} {A : Around} {E : Value → Shared → Prop} {s : Shared}
end
end L2

set_option Elab.async false
set_option linter.all false
set_option maxRecDepth 100000
set_option maxHeartbeats 1000000
namespace L2
open PySem
end L2
namespace L2
open PySem
end L2
namespace My
open PySem L2
theorem map_item {ns : List Int} {i : Nat} {v : V} (h : (ns.map V.int)[i]? = some v) : ∃ x, ns[i]? = some x ∧ v = .int x := by
  rw [List.getElem?_map] at h
  cases hz : ns[i]? with
  | none => rw [hz] at h; cases h
  | some x => rw [hz] at h; exact ⟨x, rfl, (Option.some.inj h).symm⟩
/-- a row of a stage -/
def RowOk (m : Nat) (row : List Int) : Prop := row.Nodup ∧ row.length ≤ 20 ∧ ∀ x ∈ row, 0 ≤ x ∧ x < (m : Int)
theorem RowOk.take {m : Nat} {row : List Int} (h : RowOk m row) (k : Nat) : RowOk m (row.take k) :=
  ⟨h.1.sublist (List.take_sublist _ _), Nat.le_trans (by rw [List.length_take]; lia) h.2.1, fun x hx => h.2.2 x (List.mem_of_mem_take hx)⟩
end My
namespace My
open PySem L2
end My

set_option Elab.async false
set_option linter.all false
set_option maxRecDepth 100000
set_option maxHeartbeats 1000000
namespace My
open PySem L2
theorem Rows.keep {H H' : Hp} {ts : List V} {rows : List (List Int)} (h : Rows H ts rows) : (∀ t o, V.ref t ∈ ts → H t = some o → H' t = some o) → Rows H' ts rows := by
  induction h with
  | nil => exact fun _ => .nil
  | cons a _ ih =>
    obtain ⟨t, rfl, q⟩ := a
    exact fun k => .cons ⟨t, rfl, k t _ (List.mem_cons_self ..) q⟩ (ih fun t o ht => k t o (List.mem_cons_of_mem _ ht))
end My

set_option Elab.async false
set_option linter.all false
set_option maxRecDepth 100000
set_option maxHeartbeats 1000000
namespace L2
open PySem PySem.Spec PyProof.Rows
section
variable {X : Cx}
end
end L2
namespace My
abbrev Off := Option Int × Int
structure Spt where
  o : Int
  fs : List Off
/-- the one offer of a column -/
theorem filter_one {s : Spt} (nd : (s.fs.map (·.1)).Nodup) {f : Off} (hf : f ∈ s.fs) : (s.fs.filter fun g => decide (g.1 = f.1)) = [f] := by
  obtain ⟨o, fs⟩ := s
  dsimp only at *
  induction fs with
  | nil => cases hf
  | cons g fs ih =>
    rw [List.map_cons, List.nodup_cons] at nd
    rcases List.mem_cons.mp hf with rfl | h
    · rw [List.filter_cons_of_pos (by simp)]
      congr 1
      rw [List.filter_eq_nil_iff]
      intro a ha z
      exact nd.1 (by rw [← of_decide_eq_true z]; exact List.mem_map_of_mem ha)
    · rw [List.filter_cons_of_neg (by
        intro z
        have e := of_decide_eq_true z
        exact nd.1 (by rw [e]; exact List.mem_map_of_mem h))]
      exact ih nd.2 h
end My
namespace My
open PySem L2
def oV : Option Int → V
  | none => .non
  | some i => .int i
def OffV (H : Hp) (v : V) (f : Off) : Prop := ∃ t, v = .ref t ∧ H t = some (.tup [oV f.1, .int f.2])
abbrev Offs (H : Hp) : List V → List Off → Prop := Paired (OffV H)
theorem Offs.off {H : Hp} {ts : List V} {fs : List Off} {l : Addr} {o : HO} (h : Offs H ts fs) (hl : ∀ xs, H l ≠ some (.tup xs)) : Offs (upd H l o) ts fs := Paired.mapP h fun _ _ ⟨t, e, q⟩ => ⟨t, e, by rw [upd_ne fun z => hl _ (by rw [← z]; exact q)]; exact q⟩
def SpV (H : Hp) (v : V) (s : Spt) : Prop := ∃ t l ts, v = .ref t ∧ H t = some (.tup [.int s.o, .ref l]) ∧ H l = some (.lst ts) ∧ Offs H ts s.fs
abbrev Spts (H : Hp) : List V → List Spt → Prop := Paired (SpV H)
end My

set_option Elab.async false
set_option linter.all false
set_option maxRecDepth 100000
set_option maxHeartbeats 1000000
namespace My
open PySem L2
end My
namespace My
open PySem L2
theorem Offs.get {H : Hp} {ts : List V} {fs : List Off} (h : Offs H ts fs) {i : Nat} {f : Off} (e : fs[i]? = some f) : ∃ t, ts[i]? = some (.ref t) ∧ H t = some (.tup [oV f.1, .int f.2]) := by
  obtain ⟨v, hv, t, rfl, q⟩ := Paired.getR h e
  exact ⟨t, hv, q⟩
theorem Spts.get {H : Hp} {us : List V} {ss : List Spt} (h : Spts H us ss) {i : Nat} {s : Spt} (e : ss[i]? = some s) : ∃ t l ts, us[i]? = some (.ref t) ∧ H t = some (.tup [.int s.o, .ref l]) ∧ H l = some (.lst ts) ∧ Offs H ts s.fs := by
  obtain ⟨v, hv, t, l, ts, rfl, q⟩ := Paired.getR h e
  exact ⟨t, l, ts, hv, q⟩
/-- spots stay where a list that none of them has is written -/
theorem Spts.off {H : Hp} {us : List V} {ss : List Spt} {L : Addr} {o : HO} (h : Spts H us ss) (hl : ∀ xs, H L ≠ some (.tup xs)) (hn : ∀ t a l, V.ref t ∈ us → H t = some (.tup [.int a, .ref l]) → l ≠ L) : Spts (upd H L o) us ss := by
  induction h with
  | nil => exact .nil
  | cons a _ ih =>
    obtain ⟨t, l, ts, rfl, h1, h2, h3⟩ := a
    refine .cons ⟨t, l, ts, rfl, ?_, ?_, h3.off hl⟩ (ih fun t a l ht => hn t a l (List.mem_cons_of_mem _ ht))
    · rw [upd_ne fun z => hl _ (by rw [← z]; exact h1)]; exact h1
    · rw [upd_ne (hn t _ l (List.mem_cons_self ..) h1)]; exact h2
end My
namespace My
open PySem L2
end My
namespace L2
open PySem PySem.Spec PyProof.Rows
end L2
namespace My
open PySem L2
end My
namespace My
open PySem L2
end My
namespace My
open PySem L2
end My
namespace My
open PySem L2
def oD : Option Int → DV
  | none => .non
  | some i => .int i
end My

set_option Elab.async false
set_option linter.all false
set_option maxRecDepth 100000
set_option maxHeartbeats 1000000
namespace My
open PySem L2
theorem map_set_oV (cs : List (Option Int)) (k : Nat) (c : Option Int) : (cs.map oV).set k (oV c) = (cs.set k c).map oV := by rw [List.map_set]
end My
namespace L2
open PySem PySem.Spec PyProof.Rows
end L2
namespace My
open PySem L2
structure SpK (H : Hp) (pc pl r : Addr) (nc nl nd : Nat) (w : Int) (k : Nat) (H' : Hp) : Prop where
  ex : ∃ (cols lim : List Int) (cs : List (Option Int)), (∀ a o, H a = some o → a ≠ pc → a ≠ pl → a ≠ r → H' a = some o) ∧ H' pc = some (.lst (cols.map V.int)) ∧ H' pl = some (.lst (lim.map V.int)) ∧ H' r = some (.lst (cs.map oV)) ∧ cols.length = nc ∧ lim.length = nl ∧ cs.length ≤ nd ∧ (w = 3 ∨ k < cs.length)
/-- a cell is written -/
theorem SpK.put {H H' : Hp} {pc pl r : Addr} {nc nl nd : Nat} {w : Int} {k : Nat} (h : SpK H pc pl r nc nl nd w k H') (hw : w ≠ 3) (n1 : pc ≠ r) (n2 : pl ≠ r) (c : Option Int) : ∃ xs, H' r = some (.lst xs) ∧ ixN xs.length (k : Int) = some k ∧ SpK H pc pl r nc nl nd w k (upd H' r (.lst (xs.set k (oV c)))) := by
  obtain ⟨cols, lim, cs, f, h1, h2, h3, h4, h5, h6, h7⟩ := h.ex
  have hk : k < cs.length := h7.resolve_left hw
  refine ⟨_, h3, by rw [List.length_map]; exact ixN_lt hk, cols, lim, cs.set k c, fun a o e x y z => by rw [upd_ne z]; exact f a o e x y z, by rw [upd_ne n1]; exact h1, by rw [upd_ne n2]; exact h2, by rw [upd_same, map_set_oV], h4, h5, by rw [List.length_set]; exact h6, .inr (by rw [List.length_set]; exact hk)⟩
end My
namespace My
open PySem L2
end My

set_option Elab.async false
set_option linter.all false
set_option maxRecDepth 100000
set_option maxHeartbeats 1000000
namespace L2
open PySem PySem.Spec PyProof.Rows
theorem op_isnotB {X : Cx} : OpR X (compareOp .IsNot) (fun x y H Q => ∃ a b, x = .bl a ∧ y = .bl b ∧ Q (.bl (!(a == b))) H) := by
  intro pins s σ H x y v u Q I rx ry h
  obtain ⟨a, b, rfl, rfl, q⟩ := h
  cases rx; cases ry
  refine wpAny_isNot_plain ?_ (fin_bl I q ?_)
  · cases a <;> cases b <;> rfl
  · cases a <;> cases b <;> rfl
end L2

set_option Elab.async false
set_option linter.all false
set_option maxRecDepth 100000
set_option maxHeartbeats 1000000
namespace L2
open PySem PySem.Spec PyProof.Rows
end L2

set_option Elab.async false
set_option linter.all false
set_option maxRecDepth 100000
set_option maxHeartbeats 1000000
namespace L2
open PySem
end L2
namespace My
open PySem L2
def nf (o : Addr) (m : Int) : List (Str × V) := putF "many" (.int m) (putF "old" (.ref o) [])
structure Pri (S : Int → Int → Int → Prop) (kvs : List (List Key × V)) : Prop where
  i : ∀ h d o, S h d o → valV kvs (kk h d o) = some (.int 1)
  n : ∀ h d o, ¬ S h d o → valV kvs (kk h d o) = none
theorem kk_inj {a b c a' b' c' : Int} (h : kk a b c = kk a' b' c') : a = a' ∧ b = b' ∧ c = c' := by
  unfold kk at h
  simp at h
  exact h
theorem Pri.put {S : Int → Int → Int → Prop} {kvs : List (List Key × V)} (p : Pri S kvs) (a b c : Int) : Pri (fun h d o => S h d o ∨ (h = a ∧ d = b ∧ o = c)) (putK kvs (kk a b c) (.int 1)) := by
  refine ⟨fun h d o s => ?_, fun h d o s => ?_⟩
  · rw [valV_put]
    by_cases e : kk h d o = kk a b c
    · rw [if_pos e]
    · rw [if_neg e]
      rcases s with s | ⟨rfl, rfl, rfl⟩
      · exact p.i _ _ _ s
      · exact absurd rfl e
  · rw [valV_put, if_neg fun e => s (.inr (kk_inj e))]
    exact p.n _ _ _ fun z => s (.inl z)
/-- costs under way -/
structure PriI (H : Hp) (p : Addr) (S : Int → Int → Int → Prop) (n : Nat) (H' : Hp) : Prop where
  ex : ∃ kvs, H' p = some (.dT kvs) ∧ Pri S kvs ∧ kvs.length ≤ n
  fr : ∀ c o, H c = some o → c ≠ p → H' c = some o
theorem PriI.put {H H' : Hp} {p t : Addr} {S : Int → Int → Int → Prop} {n : Nat} {a b c : Int} (h : PriI H p S n H') (hn : n ≤ 900) (et : H' t = some (.tup [.int a, .int b, .int c])) :
    ∃ H4, DPut H' p (.ref t) (.int 1) H4 ∧ PriI H p (fun x y z => S x y z ∨ (x = a ∧ y = b ∧ z = c)) (n + 1) H4 := by
  obtain ⟨kvs, e, hP, hl⟩ := h.ex
  refine ⟨_, DPut.t (k := kk a b c) e et (small1000 (by omega)), ⟨_, upd_same, hP.put a b c, ?_⟩, fun x o ex nx => by rw [upd_ne nx]; exact h.fr x o ex nx⟩
  have := length_putK kvs (kk a b c) (.int 1)
  omega
/-- a list of lists under way, each at a place of its own -/
structure GatN (H : Hp) (L : Addr) (Pr : List Int → Prop) (i : Nat) (H' : Hp) : Prop where
  ex : ∃ (us : List V) (rows : List (List Int)), rows.length = i ∧ Same H H' ∧ H' L = some (.lst us) ∧ Rows H' us rows ∧ (∀ row ∈ rows, Pr row) ∧ us.Nodup ∧ ∀ t, V.ref t ∈ us → t ≠ L ∧ H t = none
/-- a table that is changed in place -/
structure RtI (H : Hp) (q : Addr) (us : List V) (d : Int) (n P : Nat) (H' : Hp) : Prop where
  ex : ∃ rws, H' q = some (.lst us) ∧ Rows H' us rws ∧ RotaOk d n P rws
  fr : Same H H'
  nd : us.Nodup
  fu : ∀ t, V.ref t ∈ us → t ≠ q ∧ H t = none
theorem RtI.set {H H' : Hp} {q : Addr} {us : List V} {d : Int} {n P : Nat} {h j : Nat} {v : Int} (r : RtI H q us d n P H') (hh : h < n) (hj : (j : Int) < d) (v0 : 0 ≤ v) (v1 : v ≤ (P : Int)) :
    ∃ (t : Addr) (row : List Int), H' q = some (.lst us) ∧ us[h]? = some (.ref t) ∧ H' t = some (.lst (row.map V.int)) ∧ j < row.length ∧ (row.length : Int) = d ∧ RtI H q us d n P (upd H' t (.lst ((row.map V.int).set j (.int v)))) := by
  obtain ⟨rws, e, hR, ok⟩ := r.ex
  have hl : h < rws.length := by rw [ok.len]; exact hh
  obtain ⟨t, a, qt⟩ := hR.get (List.getElem?_eq_getElem hl)
  have hrl := ok.rl _ (List.getElem_mem hl)
  have tm := List.mem_of_getElem? a
  obtain ⟨ntq, ht⟩ := r.fu t tm
  refine ⟨t, rws[h], e, a, qt, by omega, hrl, ⟨⟨rws.set h (rws[h].set j v), by rw [upd_ne ntq.symm]; exact e, ?_, ok.setv (List.getElem?_eq_getElem hl) v0 v1⟩, same_upd ht r.fr _, r.nd, r.fu⟩⟩
  rw [show (rws[h].map V.int).set j (.int v) = (rws[h].set j v).map V.int by rw [List.map_set]]
  exact Rows.put hR r.nd a
theorem GatN.rt {H H' : Hp} {L : Addr} {n P : Nat} {d : Int} (h : GatN H L (fun row => (row.length : Int) = d ∧ ∀ x ∈ row, 0 ≤ x ∧ x ≤ (P : Int)) n H') : ∃ us, RtI H L us d n P H' := by
  obtain ⟨us, rows, rl, g, e, hR, hPr, nd, fr⟩ := h.ex
  exact ⟨us, ⟨rows, e, hR, rl, fun r hr => (hPr r hr).1, fun r hr => (hPr r hr).2⟩, g, nd, fr⟩
/-- posts under way -/
structure PsG (H : Hp) (L : Addr) (i : Nat) (H' : Hp) : Prop where
  ex : ∃ (ts : List V) (ps : List Pst), ps.length = i ∧ Same H H' ∧ H' L = some (.lst ts) ∧ Posts H' ts ps ∧ ∀ q ∈ ps, okP q
theorem PsG.start {H : Hp} {L : Addr} (hL : H L = none) : PsG H L 0 (upd H L (.lst [])) := ⟨[], [], rfl, same_new hL _, upd_same, .nil, fun q z => by cases z⟩
theorem PsG.same {H H' : Hp} {L : Addr} {i : Nat} (h : PsG H L i H') : Same H H' := by
  obtain ⟨_, _, _, g, _⟩ := h.ex
  exact g
theorem PsG.mono {H H' H2 : Hp} {L : Addr} {i : Nat} (h : PsG H L i H') (g : Same H' H2) : PsG H L i H2 := by
  obtain ⟨ts, ps, hl, g0, e, hP, ok⟩ := h.ex
  exact ⟨ts, ps, hl, g0.trans g, g _ _ e, hP.mono g, ok⟩
theorem PsG.step {H H' : Hp} {L t : Addr} {i : Nat} {q : Pst} (h : PsG H L i H') (hL : H L = none) (hi : i ≤ 900) (ht : H' t = none) (hq : okP q) :
    ∃ xs, upd H' t (.tup [.int q.1, .int q.2.1, .int q.2.2]) L = some (.lst xs) ∧ xs.length < sizeLine ∧ PsG H L (i + 1) (upd (upd H' t (.tup [.int q.1, .int q.2.1, .int q.2.2])) L (.lst (xs ++ [.ref t]))) := by
  obtain ⟨ts, ps, hl, g, e, hP, ok⟩ := h.ex
  have htl := hP.len
  have gt := same_new ht (.tup [.int q.1, .int q.2.1, .int q.2.2])
  refine ⟨ts, gt _ _ e, small1000 (by omega), ts ++ [.ref t], ps ++ [q], by rw [List.length_append, hl]; rfl, same_upd hL (g.trans gt) _, upd_same, ?_, fun q' hq' => ?_⟩
  · have h1 : Posts (upd H' t (.tup [.int q.1, .int q.2.1, .int q.2.2])) (ts ++ [.ref t]) (ps ++ [q]) := paired_snoc (hP.mono gt) ⟨t, rfl, upd_same⟩
    exact Paired.mapP h1 fun _ _ ⟨t', e', q'⟩ => ⟨t', e', (tups_lst (gt _ _ e)) _ _ q'⟩
  · rcases List.mem_append.mp hq' with z | z
    · exact ok q' z
    · rw [List.mem_singleton.mp z]; exact hq
end My

set_option Elab.async false
set_option linter.all false
set_option maxRecDepth 100000
set_option maxHeartbeats 1000000
namespace My
open PySem L2
/-- a list of lists under way, each known by its place -/
structure GatF (H : Hp) (L : Addr) (f : Nat → List Int → Prop) (i : Nat) (H' : Hp) : Prop where
  ex : ∃ (us : List V) (rows : List (List Int)), rows.length = i ∧ Same H H' ∧ H' L = some (.lst us) ∧ Rows H' us rows ∧ (∀ j row, rows[j]? = some row → f j row) ∧ ∀ t, V.ref t ∈ us → t ≠ L
theorem GatF.start {H : Hp} {L : Addr} {f : Nat → List Int → Prop} (hL : H L = none) : GatF H L f 0 (upd H L (.lst [])) :=
  ⟨[], [], rfl, same_new hL _, upd_same, .nil, (fun j r z => by simp at z), fun t z => by cases z⟩
theorem GatF.same {H H' : Hp} {L : Addr} {f : Nat → List Int → Prop} {i : Nat} (h : GatF H L f i H') : Same H H' := by
  obtain ⟨_, _, _, g, _⟩ := h.ex
  exact g
theorem GatF.step {H H' H2 : Hp} {L l : Addr} {f : Nat → List Int → Prop} {i : Nat} {row : List Int} (h : GatF H L f i H') (hL : H L = none) (hi : i ≤ 900) (g2 : Same H' H2) (hl : H' l = none) (hl2 : H2 l = some (.lst (row.map V.int))) (hp : f i row) :
    ∃ xs, H2 L = some (.lst xs) ∧ xs.length < sizeLine ∧ GatF H L f (i + 1) (upd H2 L (.lst (xs ++ [.ref l]))) := by
  obtain ⟨us, rows, hr, g, e, hR, hP, fr⟩ := h.ex
  have hul := hR.len
  have ne : L ≠ l := ne_of_none e hl
  refine ⟨us, g2 _ _ e, small1000 (by lia), us ++ [.ref l], rows ++ [row], by rw [List.length_append, hr]; rfl, same_upd hL (g.trans g2) _, upd_same, ?_, fun j r hr' => ?_, fun t ht => ?_⟩
  · refine Rows.off (Rows.snoc (hR.mono g2) ⟨l, rfl, hl2⟩) fun z => ?_
    rcases List.mem_append.mp z with z | z
    · exact fr L z rfl
    · exact ne (V.ref.inj (List.mem_singleton.mp z))
  · by_cases z : j < rows.length
    · rw [List.getElem?_append_left z] at hr'
      exact hP j r hr'
    · rw [List.getElem?_append_right (by omega)] at hr'
      have hj : j - rows.length < [row].length := (List.getElem?_eq_some_iff.mp hr').1
      rw [List.length_singleton] at hj
      rw [show j - rows.length = 0 by omega] at hr'
      cases hr'
      rw [show j = i by omega]
      exact hp
  · rcases List.mem_append.mp ht with z | z
    · exact fr t z
    · rw [V.ref.inj (List.mem_singleton.mp z)]
      exact ne.symm
/-- all that GatF tells in the end -/
theorem GatF.done {H H' : Hp} {L : Addr} {f : Nat → List Int → Prop} {i : Nat} (h : GatF H L f i H') : ∃ (us : List V) (rows : List (List Int)), rows.length = i ∧ Same H H' ∧ H' L = some (.lst us) ∧ Rows H' us rows ∧ ∀ j row, rows[j]? = some row → f j row := by
  obtain ⟨us, rows, a, b, c, d, e, _⟩ := h.ex
  exact ⟨us, rows, a, b, c, d, e⟩
theorem pow30 {x : Int} (h0 : 0 ≤ x) (h1 : x < 30) : okH (2 ^ x.toNat) := by
  have e : ((2 ^ x.toNat : Nat) : Int) = (2 : Int) ^ x.toNat := by simp
  rw [← e]
  exact okH_of (Nat.pow_lt_pow_right (by decide) (by omega))
/-- a dict that was frozen is as it was -/
theorem thaw_same {H H' : Hp} {d : Addr} {o o' : HO} (e : H d = some o) (g : Same (upd H d o') H') : Same H (upd H' d o) := fun b u hb => by
  by_cases z : b = d
  · subst z
    rw [upd_same, ← hb, e]
  · rw [upd_ne z]
    exact g b u (by rw [upd_ne z]; exact hb)
theorem frz_get {H : Hp} {d b : Addr} {o u : HO} {kvs : List (List Key × V)} (e : H d = some (.dT kvs)) (hb : H b = some u) (n : ∀ k, u ≠ .dT k) : upd H d o b = some u := by
  rw [upd_ne]
  · exact hb
  · intro z
    rw [z, e] at hb
    exact n _ (Option.some.inj hb).symm
theorem eqD_rows {rows : List (List Int)} : eqD (tD rows) (.lst (([] : List Int).map DV.int)) = decide (rows = []) := by
  unfold eqD tD
  cases rows with
  | nil => simp
  | cons a b => simp
theorem ifs_of2 {c : TT} {ta tb : TS} {D : Ends} {σ : St} {H : Hp} (h : ∀ A : TS, A = ta → tIfS c A tb D σ H) : tIfS c ta tb D σ H := h ta rfl
theorem totK_take {r : Nat → Nat → Int} {kvs : List (List Key × V)} {i : Nat} {kv : List Key × V} (h : kvs[i]? = some kv) : totK r (kvs.take (i + 1)) = totK r (kvs.take i) + if r (ka kv.1 0).toNat (ka kv.1 1).toNat = ka kv.1 2 then iv (some kv.2) else 0 := by
  rw [take_one h]
  unfold totK
  rw [List.map_append, List.sum_append]
  simp
theorem bestP_take {pns kvs : List (List Key × V)} {own : Nat → List Int} {ks : List (List Key × V)} {i : Nat} {kv : List Key × V} (h : ks[i]? = some kv) : bestP pns kvs own (ks.take (i + 1)) = bestP pns kvs own (ks.take i) + mxC pns kvs own (ka kv.1 0).toNat (ka kv.1 1).toNat := by
  rw [take_one h]
  unfold bestP
  rw [List.map_append, List.sum_append]
  simp
/-- the pairs of a case under way -/
structure PrI (F : Hp) (L : Addr) (kvs : List (List Key × V)) (i : Nat) (H' : Hp) : Prop where
  ex : ∃ us, Same F H' ∧ H' L = some (.lst us) ∧ L2.PrsV H' us ((kvs.take i).map prK)
theorem PrI.start {F : Hp} {L : Addr} {kvs : List (List Key × V)} (hL : F L = none) : PrI F L kvs 0 (upd F L (.lst [])) :=
  ⟨[], same_new hL _, upd_same, by rw [List.take_zero]; exact .nil⟩
theorem PrI.same {F H' : Hp} {L : Addr} {kvs : List (List Key × V)} {i : Nat} (h : PrI F L kvs i H') : Same F H' := by
  obtain ⟨_, g, _⟩ := h.ex
  exact g
theorem prsV_mono {H H' : Hp} (g : Tups H H') {us : List V} {kvs : List (List Key × V)} (h : L2.PrsV H us kvs) : L2.PrsV H' us kvs := Paired.mapP h fun _ _ ⟨t, b, e, q1, q2⟩ => ⟨t, b, e, g _ _ q1, g _ _ q2⟩
theorem PrI.step {F H' : Hp} {L b t : Addr} {kvs : List (List Key × V)} {i : Nat} {h d p : Int} {v : V} (I : PrI F L kvs i H') (hL : F L = none) (hk : kvs[i]? = some (kk h d p, v)) (hi : i ≤ 900) (hb : H' b = none) (ht : upd H' b (.tup [.int h, .int d]) t = none) :
    ∃ xs, upd (upd H' b (.tup [.int h, .int d])) t (.tup [.ref b, .bl true]) L = some (.lst xs) ∧ xs.length < sizeLine ∧ PrI F L kvs (i + 1) (upd (upd (upd H' b (.tup [.int h, .int d])) t (.tup [.ref b, .bl true])) L (.lst (xs ++ [.ref t]))) := by
  obtain ⟨us, g, e, hP⟩ := I.ex
  have g1 := same_new hb (.tup [.int h, .int d])
  have g2 := same_new ht (.tup [.ref b, .bl true])
  have hl := Paired.length hP
  rw [List.length_map, List.length_take] at hl
  have G := g1.trans g2
  refine ⟨us, G _ _ e, small1000 (by omega), us ++ [.ref t], same_upd hL (g.trans G) _, upd_same, ?_⟩
  rw [take_one hk, List.map_append]
  refine prsV_mono (tups_lst (G _ _ e)) ?_
  exact paired_snoc (prsV_mono (tups_same G) hP) ⟨t, b, rfl, upd_same, g2 _ _ upd_same⟩
end My
namespace My
open PySem L2
theorem thr3v {x y w z : Int} (h0 : 0 ≤ z) (h1 : z < 3) : ∃ v : Int, atI [V.int x, .int y, .int w] z = some (.int v) ∧ (v = x ∨ v = y ∨ v = w) := by
  obtain rfl | rfl | rfl : z = 0 ∨ z = 1 ∨ z = 2 := by omega
  · exact ⟨_, rfl, .inl rfl⟩
  · exact ⟨_, rfl, .inr (.inl rfl)⟩
  · exact ⟨_, rfl, .inr (.inr rfl)⟩
theorem Rows.frz {H : Hp} {us : List V} {rows : List (List Int)} {nd : Addr} {kvs : List (List Key × V)} (hR : Rows H us rows) (en : H nd = some (.dT kvs)) (o : HO) : Rows (upd H nd o) us rows :=
  hR.off fun z => by
    obtain ⟨row, e⟩ := hR.tracked z
    rw [en] at e
    cases e
theorem top_get {pns kvs : List (List Key × V)} (ai : AllI pns) (own : List Int) (h d : Int) : (valV pns (k2 h d)).getD (.int (bvL (fun p => nO kvs h d p) own)) = .int (topV pns kvs own h d) := by
  unfold topV
  cases e : valV pns (k2 h d) with
  | none => rfl
  | some v =>
    obtain ⟨i, rfl⟩ := ai _ v e
    rfl
theorem pin_get {pns : List (List Key × V)} (ai : AllI pns) {own : List Int} {v : Int} (hv : v ∈ own) (h d : Int) : ∃ y : Int, (valV pns (k2 h d)).getD (.int v) = .int y ∧ y ∈ vls2 pns own h d := by
  unfold vls2
  cases e : valV pns (k2 h d) with
  | none => exact ⟨v, rfl, hv⟩
  | some v =>
    obtain ⟨i, rfl⟩ := ai _ v e
    exact ⟨i, rfl, List.mem_singleton.mpr rfl⟩
theorem num_get {kvs : List (List Key × V)} (ai : AllI kvs) (h d p : Int) : (valV kvs (kk h d p)).getD (.int 0) = .int (nO kvs h d p) := by
  unfold nO
  exact iv_get ai _
end My
namespace My
open PySem L2
def InR (n D P : Nat) (q : Prt) : Prop := ∃ h d p : Nat, kk q.h q.d q.p = kk h d p ∧ h < n ∧ d < D ∧ p < P
structure OoI (B : Hp) (p1 p2 : Addr) (t u : Int) (S : List Key → Int) (n D P m : Nat) (H' : Hp) : Prop where
  ne : p1 ≠ p2
  fr : ∀ b o, B b = some o → b ≠ p1 → b ≠ p2 → H' b = some o
  ex : ∃ (us1 us2 : List V) (qs1 qs2 : List Prt), H' p1 = some (.lst us1) ∧ H' p2 = some (.lst us2) ∧ Prts H' us1 qs1 ∧ Prts H' us2 qs2 ∧ qs1.length ≤ m ∧ qs2.length ≤ m ∧ (∀ k, pAt k qs1 * t + pAt k qs2 * u = S k) ∧ (∀ q ∈ qs1, InR n D P q) ∧ ∀ q ∈ qs2, InR n D P q
theorem OoI.start {B : Hp} {p1 p2 : Addr} {t u : Int} {n D P : Nat} (ne : p1 ≠ p2) (e1 : B p1 = some (.lst [])) (e2 : B p2 = some (.lst [])) : OoI B p1 p2 t u (fun _ => 0) n D P 0 B :=
  ⟨ne, fun b o h _ _ => h, [], [], [], [], e1, e2, .nil, .nil, Nat.le_refl _, Nat.le_refl _, (fun k => by show 0 * t + 0 * u = 0; omega), (fun q z => by cases z), (fun q z => by cases z)⟩
theorem OoI.mono {B : Hp} {p1 p2 : Addr} {t u : Int} {S : List Key → Int} {n D P m : Nat} {H' H2 : Hp} (I : OoI B p1 p2 t u S n D P m H') (g : Same H' H2) : OoI B p1 p2 t u S n D P m H2 := by
  obtain ⟨us1, us2, qs1, qs2, a, b, c, d, r⟩ := I.ex
  exact ⟨I.ne, fun x o h z1 z2 => g _ _ (I.fr x o h z1 z2), us1, us2, qs1, qs2, g _ _ a, g _ _ b, c.mono (tups_same g), d.mono (tups_same g), r⟩
theorem OoI.one {B : Hp} {p1 p2 s : Addr} {t u : Int} {S : List Key → Int} {n D P m : Nat} {H' : Hp} {q : Prt} (I : OoI B p1 p2 t u S n D P m H') (hm : m ≤ 900) (hs : H' s = none) (hq : InR n D P q) :
    ∃ xs, upd H' s (.tup [.int q.h, .int q.d, .int q.p, .int q.n]) p1 = some (.lst xs) ∧ xs.length < sizeLine ∧ OoI B p1 p2 t u (fun k => S k + if kk q.h q.d q.p = k then q.n * t else 0) n D P (m + 1) (upd (upd H' s (.tup [.int q.h, .int q.d, .int q.p, .int q.n])) p1 (.lst (xs ++ [.ref s]))) := by
  obtain ⟨us1, us2, qs1, qs2, e1, e2, P1, P2, l1, l2, sm, i1, i2⟩ := I.ex
  have gs := same_new hs (.tup [.int q.h, .int q.d, .int q.p, .int q.n])
  have hl := Paired.length P1
  refine ⟨us1, gs _ _ e1, small1000 (by omega), I.ne, fun b o hb z1 z2 => ?_, us1 ++ [.ref s], us2, qs1 ++ [q], qs2, upd_same, ?_, ?_, ?_, by rw [List.length_append, List.length_singleton]; omega, by omega, fun k => ?_, fun x hx => ?_, i2⟩
  · rw [upd_ne z1]
    exact gs _ _ (I.fr b o hb z1 z2)
  · rw [upd_ne I.ne.symm]
    exact gs _ _ e2
  · have h1 := paired_snoc (P1.mono (tups_same gs)) (show PrtV (upd H' s (.tup [.int q.h, .int q.d, .int q.p, .int q.n])) (.ref s) q from ⟨s, rfl, upd_same⟩)
    exact Prts.mono (tups_lst (gs _ _ e1)) h1
  · exact Prts.mono (tups_lst (gs _ _ e1)) (P2.mono (tups_same gs))
  · rw [pAt_app, pAt_one, Int.add_mul, ← sm k]
    split <;> omega
  · rcases List.mem_append.mp hx with z | z
    · exact i1 x z
    · rw [List.mem_singleton.mp z]; exact hq
theorem OoI.two {B : Hp} {p1 p2 s : Addr} {t u : Int} {S : List Key → Int} {n D P m : Nat} {H' : Hp} {q : Prt} (I : OoI B p1 p2 t u S n D P m H') (hm : m ≤ 900) (hs : H' s = none) (hq : InR n D P q) :
    ∃ xs, upd H' s (.tup [.int q.h, .int q.d, .int q.p, .int q.n]) p2 = some (.lst xs) ∧ xs.length < sizeLine ∧ OoI B p1 p2 t u (fun k => S k + if kk q.h q.d q.p = k then q.n * u else 0) n D P (m + 1) (upd (upd H' s (.tup [.int q.h, .int q.d, .int q.p, .int q.n])) p2 (.lst (xs ++ [.ref s]))) := by
  obtain ⟨us1, us2, qs1, qs2, e1, e2, P1, P2, l1, l2, sm, i1, i2⟩ := I.ex
  have gs := same_new hs (.tup [.int q.h, .int q.d, .int q.p, .int q.n])
  have hl := Paired.length P2
  refine ⟨us2, gs _ _ e2, small1000 (by omega), I.ne, fun b o hb z1 z2 => ?_, us1, us2 ++ [.ref s], qs1, qs2 ++ [q], ?_, upd_same, ?_, ?_, by omega, by rw [List.length_append, List.length_singleton]; omega, fun k => ?_, i1, fun x hx => ?_⟩
  · rw [upd_ne z2]
    exact gs _ _ (I.fr b o hb z1 z2)
  · rw [upd_ne I.ne]
    exact gs _ _ e1
  · exact Prts.mono (tups_lst (gs _ _ e2)) (P1.mono (tups_same gs))
  · have h1 := paired_snoc (P2.mono (tups_same gs)) (show PrtV (upd H' s (.tup [.int q.h, .int q.d, .int q.p, .int q.n])) (.ref s) q from ⟨s, rfl, upd_same⟩)
    exact Prts.mono (tups_lst (gs _ _ e2)) h1
  · rw [pAt_app, pAt_one, Int.add_mul, ← sm k]
    split <;> omega
  · rcases List.mem_append.mp hx with z | z
    · exact i2 x z
    · rw [List.mem_singleton.mp z]; exact hq
theorem OoI.to {B : Hp} {p1 p2 : Addr} {t u : Int} {S S' : List Key → Int} {n D P m m' : Nat} {H' : Hp} (I : OoI B p1 p2 t u S n D P m H') (h : ∀ k, S k = S' k) (hm : m ≤ m') : OoI B p1 p2 t u S' n D P m' H' := by
  obtain ⟨us1, us2, qs1, qs2, e1, e2, P1, P2, l1, l2, sm, r⟩ := I.ex
  exact ⟨I.ne, I.fr, us1, us2, qs1, qs2, e1, e2, P1, P2, by omega, by omega, fun k => (sm k).trans (h k), r⟩
/-- what stands at a key -/
def sAt (k : List Key) (kvs : List (List Key × V)) : Int := (kvs.map fun kv => if kv.1 = k then iv (some kv.2) else 0).sum
theorem sAt_take {k : List Key} {kvs : List (List Key × V)} {i : Nat} {kv : List Key × V} (h : kvs[i]? = some kv) : sAt k (kvs.take (i + 1)) = sAt k (kvs.take i) + if kv.1 = k then iv (some kv.2) else 0 := by
  rw [take_one h]
  unfold sAt
  rw [List.map_append, List.sum_append]
  simp
theorem sAt_none {k : List Key} {kvs : List (List Key × V)} (h : k ∉ kvs.map (·.1)) : sAt k kvs = 0 := by
  unfold sAt
  refine sum_zero _ fun x hx => if_neg fun z => h ?_
  rw [← z]
  exact List.mem_map.mpr ⟨x, hx, rfl⟩
theorem sAt_val {k : List Key} : ∀ {kvs : List (List Key × V)}, Keys kvs → sAt k kvs = iv (valV kvs k)
  | [], _ => rfl
  | p :: kvs, h => by
    unfold Keys at h
    rw [List.map_cons, List.nodup_cons] at h
    have ih := sAt_val (k := k) (kvs := kvs) h.2
    have e : sAt k (p :: kvs) = (if p.1 = k then iv (some p.2) else 0) + sAt k kvs := by
      unfold sAt
      rw [List.map_cons, List.sum_cons]
    rw [e]
    by_cases z : p.1 = k
    · rw [if_pos z, valV_pos z, sAt_none (z ▸ h.1)]
      omega
    · rw [if_neg z, valV_neg z, ih]
      omega
theorem fiv5v {x z : Int} (h0 : 0 ≤ z) (h1 : z < 5) : ∃ v : Int, atI [V.int 0, .int 1, .int (-1), .int x, .int (0 - x)] z = some (.int v) := by
  obtain rfl | rfl | rfl | rfl | rfl : z = 0 ∨ z = 1 ∨ z = 2 ∨ z = 3 ∨ z = 4 := by omega
  all_goals exact ⟨_, rfl⟩
theorem four2 {z : Int} (h0 : 0 ≤ z) (h1 : z < 4) : ∃ v : Int, atI [V.int 0, .int (-1), .int (-2), .int 1] z = some (.int v) ∧ -2 ≤ v ∧ v ≤ 1 := by
  obtain rfl | rfl | rfl | rfl : z = 0 ∨ z = 1 ∨ z = 2 ∨ z = 3 := by omega
  all_goals exact ⟨_, rfl, by decide, by decide⟩
end My
namespace My
open PySem L2
theorem OoI.thaw {B : Hp} {p1 p2 nd : Addr} {t u : Int} {S : List Key → Int} {n D P m : Nat} {H' : Hp} {ob : Obj} {o o' : HO} (I : OoI B p1 p2 t u S n D P m H') (m1 : nd ≠ p1) (m2 : nd ≠ p2) (e : H' nd = some (.frz ob o')) : OoI (upd B nd o) p1 p2 t u S n D P m (upd H' nd o) := by
  obtain ⟨us1, us2, qs1, qs2, e1, e2, P1, P2, r⟩ := I.ex
  have tu : Tups H' (upd H' nd o) := tups_upd fun xs z => by rw [e] at z; cases z
  refine ⟨I.ne, fun b u hb z1 z2 => ?_, us1, us2, qs1, qs2, by rw [upd_ne m1.symm]; exact e1, by rw [upd_ne m2.symm]; exact e2, P1.mono tu, P2.mono tu, r⟩
  by_cases z : b = nd
  · subst z
    rw [upd_same] at hb ⊢
    exact hb
  · rw [upd_ne z] at hb ⊢
    exact I.fr b u hb z1 z2
end My
namespace My
open PySem L2
theorem mkPr {H : Hp} {l p s : Addr} {xs : List V} {qs : List Prt} {b t : Int} (hP : Prts H xs qs) (hl : H l = none) (hp : upd H l (.tup xs) p = none) (hs : upd (upd H l (.tup xs)) p (.tup [.ref l, .int b]) s = none) :
    Same H (upd (upd (upd H l (.tup xs)) p (.tup [.ref l, .int b])) s (.tup [.ref p, .int t])) ∧ PrV (upd (upd (upd H l (.tup xs)) p (.tup [.ref l, .int b])) s (.tup [.ref p, .int t])) (.ref s) (⟨qs, b⟩, t) := by
  have g1 := same_new hl (.tup xs)
  have g2 := same_new hp (.tup [.ref l, .int b])
  have g3 := same_new hs (.tup [.ref p, .int t])
  have G := g1.trans (g2.trans g3)
  exact ⟨G, s, p, rfl, upd_same, p, l, xs, rfl, g3 _ _ upd_same, (g2.trans g3) _ _ upd_same, hP.mono (tups_same G)⟩
/-- three lines add up to the numbers -/
theorem three_at {n D P : Nat} {kvs : List (List Key × V)} {qs1 qs2 qs2' qs3 : List Prt} {tm less b1 b2 b3 : Int} (ok : NumOk n D P kvs) (sm : ∀ k, pAt k qs1 * tm + pAt k qs2 * 1 = sAt k kvs) (sm2 : ∀ k, pAt k qs3 * less + pAt k qs2' * 1 = pAt k qs2) (h d p : Int) :
    nO (sumKv [(⟨qs1, b1⟩, tm), (⟨qs2', b2⟩, 1), (⟨qs3, b3⟩, less)]) h d p = nO kvs h d p := by
  have e1 := sumKv_at (kk h d p) [(⟨qs1, b1⟩, tm), (⟨qs2', b2⟩, 1), (⟨qs3, b3⟩, less)] []
  have e2 := sm (kk h d p)
  have e3 := sm2 (kk h d p)
  rw [sAt_val ok.ky] at e2
  unfold nO sumKv
  rw [e1, ← e2, ← e3]
  simp only [List.map_cons, List.map_nil, List.sum_cons, List.sum_nil]
  show (0 : Int) + _ = _
  omega
theorem three_ok {n D P : Nat} {qs1 qs2' qs3 : List Prt} {tm less b1 b2 b3 : Int} (i1 : ∀ q ∈ qs1, InR n D P q) (i2 : ∀ q ∈ qs2', InR n D P q) (i3 : ∀ q ∈ qs3, InR n D P q) : NumOk n D P (sumKv [(⟨qs1, b1⟩, tm), (⟨qs2', b2⟩, 1), (⟨qs3, b3⟩, less)]) := by
  refine NumOk.lines NumOk.nil fun l hl => ?_
  rcases List.mem_cons.mp hl with rfl | hl
  · exact i1
  rcases List.mem_cons.mp hl with rfl | hl
  · exact i2
  rw [List.mem_singleton.mp hl]
  exact i3
end My
namespace My
open PySem L2
theorem best_nil {pns : List (List Key × V)} {own : Nat → List Int} {n D : Nat} (hw : ∀ h, h < n → 0 < (own h).length) : bestN pns [] own n D = 0 :=
  sum_zero _ fun c hc => mxC_zero (hw _ (mem_cls.mp hc).1) fun _ => rfl
end My
namespace My
open PySem L2
def qD (q : Prt) : DV := .tup [.int q.h, .int q.d, .int q.p, .int q.n]
def lnD (l : Lin) : DV := .tup [.tup (l.ps.map qD), .int l.b]
def plD (l : Lin × Int) : DV := .tup [lnD l.1, .int l.2]
theorem den_prts {K : PySem.W.Frag} {H : Hp} {n : Nat} {ts : List V} {qs : List Prt} (h : Prts H ts qs) : Paired (Den K H (n + 1)) ts (qs.map qD) := by
  induction h with
  | nil => exact .nil
  | cons a _ ih =>
    obtain ⟨t, rfl, q⟩ := a
    exact .cons ⟨_, SqT.of q, .cons den_int (.cons den_int (.cons den_int (.cons den_int .nil)))⟩ ih
theorem den_prs {K : PySem.W.Frag} {H : Hp} {a : Addr} {ts : List V} {ls : List (Lin × Int)} (h : SqL K H a ts) (hT : Prs H ts ls) : Den K H 5 (.ref a) (.lst (ls.map plD)) := by
  refine ⟨_, h, ?_⟩
  clear h
  induction hT with
  | nil => exact .nil
  | cons a _ ih =>
    obtain ⟨t, u, rfl, q, t2, v, ts, e, w1, w2, w3⟩ := a
    cases e
    exact .cons ⟨_, SqT.of q, .cons ⟨_, SqT.of w1, .cons ⟨_, SqT.of w2, den_prts w3⟩ (.cons den_int .nil)⟩ (.cons den_int .nil)⟩ ih
end My

set_option Elab.async false
set_option linter.all false
set_option maxRecDepth 100000
set_option maxHeartbeats 4000000
namespace My
open PySem L2
def top (i : Nat) : Stmt := PySem.Challenge.pw_rotaward_k22_the_best_of_a_case.main.body.getD i (.Pass ⟨0, 0, 0, 0⟩)
abbrev s_summed : Stmt := top 2
abbrev s_best : Stmt := top 3
abbrev s_closes : Stmt := top 4
abbrev s_covers : Stmt := top 6
abbrev s_Ward___init__ : Stmt := inClass (top 16) 0
abbrev s_Ward_choices : Stmt := inClass (top 16) 1
abbrev s_need_month : Stmt := top 17
abbrev s_need_hands : Stmt := top 18
abbrev s_need_posts : Stmt := top 19
abbrev s_is_skills : Stmt := top 20
abbrev s_is_post : Stmt := top 21
abbrev s__law_whole : Stmt := top 23
abbrev s__law_cell : Stmt := top 24
abbrev s__law_hands : Stmt := top 25
abbrev s__law_posts : Stmt := top 26
abbrev s__law_choices : Stmt := top 27
abbrev s__law_pins : Stmt := top 28
abbrev s__law_numbers : Stmt := top 29
abbrev s__law_row : Stmt := top 30
abbrev s__law_best_row : Stmt := top 31
abbrev s__law_total : Stmt := top 32
abbrev s__law_lines : Stmt := top 33
abbrev s_law : Stmt := top 34
structure Txt (K : PySem.W.Frag) (mg : Str → Option Value) (C_Ward : Addr) : Prop where
  bool : mg "bool" = none
  dict : mg "dict" = none
  enumerate : mg "enumerate" = none
  int : mg "int" = none
  isinstance : mg "isinstance" = none
  len : mg "len" = none
  list : mg "list" = none
  max : mg "max" = none
  min : mg "min" = none
  range : mg "range" = none
  tuple : mg "tuple" = none
  g_MOST_DAYS : ∃ tk, mg "MOST_DAYS" = some (.int 31 tk)
  g_MOST_HANDS : ∃ tk, mg "MOST_HANDS" = some (.int 8 tk)
  g_MOST_POSTS : ∃ tk, mg "MOST_POSTS" = some (.int 6 tk)
  cl_Ward : Cls K C_Ward
  n_Ward_days : NoAttr K C_Ward "days"
  n_Ward_hands : NoAttr K C_Ward "hands"
  n_Ward_posts : NoAttr K C_Ward "posts"
section
variable {P : Program} {w : World} {K : PySem.W.Frag} {mg : Str → Option Value} {base : Heap}
local macro_rules | `(pv $a)=>`(@pv _ $a _ _ rfl (by first | exact Or.inl rfl | exact Or.inr (Or.inl rfl) | exact Or.inr (Or.inr rfl)) (by decide) (by decide)) | `(pa_cons $a $b)=>`(@pa_cons _ _ _ _ _ $a $b rfl) | `(pe_op $a $b $c)=>`(@pe_op _ _ _ _ _ _ _ _ $a $b $c) | `(pss_cons $a $b)=>`(@pss_cons _ _ _ _ _ $a $b) | `(ps_set (i:=$a) $b $c $d $e)=>`(@ps_set _ _ $a _ _ _ _ $b $c $d $e rfl (by first | exact .inl rfl | exact .inr rfl | assumption)) | `(pss_one $a)=>`(@pss_one _ _ _ $a) | `(pe_cal $a $b $c $d)=>`(@pe_cal _ _ _ _ _ _ _ _ _ _ $a $b $c $d (by decide) rfl rfl) | `(pg_name (i:=$a) $b $c $d)=>`(@pg_name _ _ $a _ $b $c $d (by first | exact .inl rfl | exact .inr rfl | assumption)) | `(pgs_cons $a $b)=>`(@pgs_cons _ _ _ _ _ $a $b rfl) | `(pe_tup $a)=>`(@pe_tup _ _ _ _ _ $a) | `(nomark $a)=>`(@nomark $a _ (by decide) (by decide)) | `(pe_ix $a $b $c $d)=>`(@pe_ix _ _ _ _ _ _ _ $a $b $c $d) | `(ps_ret $a)=>`(@ps_ret _ _ _ _ $a) | `(pt_cmpR $a $b $c $d)=>`(@pt_cmpR _ _ _ _ _ _ _ _ $a $b $c $d) | `(ps_if $a $b $c)=>`(@ps_if _ _ _ _ _ _ _ _ $a $b $c) | `(pe_callB $a $b $c $d $e)=>`(@pe_callB _ _ _ _ _ _ _ _ _ $a $b $c $d $e (by decide) (by decide) rfl rfl) | `(pe_lst $a)=>`(@pe_lst _ _ _ _ $a) | `(ps_for $a $b $c $d $e)=>`(@ps_for _ _ _ _ _ _ _ _ $a $b $c $d $e (by intro _; rfl)) | `(call_lenK (K:=$a) $b)=>`(@call_lenK _ $a $b) | `(hu_of $a)=>`(@hu_of _ _ $a) | `(pe_callTy $a $b $c $d $e)=>`(@pe_callTy _ _ _ _ _ _ _ _ _ $a $b $c $d $e (by decide) (by decide) rfl rfl) | `(ps_expr $a)=>`(@ps_expr _ _ _ _ $a rfl) | `(pi_range1 $a $b $c)=>`(@pi_range1 _ _ _ _ _ _ $a $b $c rfl) | `(pg_tup (n:=$a) $b $c)=>`(@pg_tup _ _ _ _ _ $a $b $c rfl rfl) | `(pe_bm $a $b $c $d $e $f)=>`(@pe_bm _ _ _ _ _ _ _ _ _ _ _ _ $a $b $c $d $e $f rfl rfl rfl rfl rfl) | `(pw_or $a $b)=>`(@pw_or _ _ _ _ _ _ _ $a $b) | `(pe_cmpR $a $b $c $d)=>`(@pe_cmpR _ _ _ _ _ _ _ _ $a $b $c $d) | `(pe_comp (own:=$a) (fnames:=$b) (fr:=$c) (N':=$d) $e $f $g $h)=>`(@pe_comp _ _ $d $a $b $c _ _ _ _ _ _ _ _ _ $e $f $g $h (by intro _; rfl)) | `(pss_cut $a $b)=>`(@pss_cut _ _ _ _ _ $a $b) | `(pe_dget2 $a $b $c $d $e)=>`(@pe_dget2 _ _ _ _ _ _ _ _ _ $a $b $c $d $e) | `(pw_or1 $a)=>`(@pw_or1 _ _ _ _ $a) | `(pt_val $a)=>`(@pt_val _ _ _ $a (by intro _; rfl)) | `(pe_and $a $b)=>`(@pe_and _ _ _ _ _ _ _ $a $b) | `(call_tuple_L (K:=$a) $b)=>`(@call_tuple_L _ $a $b) | `(pi_list $a)=>`(@pi_list _ _ _ _ $a)
local macro_rules | `(tactic| walk_at "rd") => `(tactic| try simp only [tSeq, tRet, tRetN, tIfS, tNext, tDrop, tOp, tUn, tVar, tC, rI0, rI, rU, rEq, rNe, L2.start, tAsg, gName, tTest, tB, tCB, tCons, tNil, rIxL, rIxT, tNot, tAnd, tOr, tNotV, tAndV, tOrV, tCall, rIsi, iRng1, iRng2, tFor, tWhile, tChain, tIf, tTup, tLst, tComp, tBlk, compSt, tTrue, Cx.comp, List.replicate_one, List.replicate_zero, Option.getD_some, tBM, tBM0, rLen, rListOf, rTupL, tRaise, tCallX, tDropX, tSetX, tTry0, tTryA, Ends.gone, rIsx, rExc, vO, tFld, tMeth, tMake, sFld, iEnL, iEnT, gTup, gCons, gNil, gSub, rSetL, rCat, rInsert, tSl, tNoPart, tPart, rSlL, rAppend, rClear, iList, iTup, cxOf, Cx.nox, Cx.wish, List.map_cons, List.map_nil, List.length_cons, List.length_nil, Nat.reduceAdd, Nat.reduceSub, List.reduceReplicate, List.cons_append, List.nil_append, List.append_nil, List.getElem?_cons_zero, List.getElem?_cons_succ, List.set_cons_zero, List.set_cons_succ, Option.some.injEq, V.int.injEq, V.bl.injEq, V.ref.injEq, V.str.injEq, V.ty.injEq, List.cons.injEq, and_true, true_and, and_assoc, exists_eq_left, exists_eq_left', exists_eq_right, exists_eq, exists_eq', exists_and_left, exists_const, decide_eq_true_eq, scal_ii, scal_bb, scal_ss, tEqI', Bool.not_eq_true', Bool.not_eq_true, decide_eq_false_iff_not, if_true, if_false, Bool.false_eq_true, reduceIte, tyN_int, tyN_bl, tyN_str, tyN_ref, okT_int, okT_bool, okT_str, okT_list, okT_tuple, subN_ii, subN_ib, subN_bb, subN_bi, subN_ss, subN_ll, subN_tt, Bool.not_true, Bool.not_false, not_true_eq_false, Bool.true_eq_false, rExtend, rRng2, rListR, rStr, tDNewT, tDGet2, tDGet, sDPut, tDNotIn, tDIn, rIsd, rClearT, iDT, tThaw, rCopyT, rDictP, rListT, rEqT, rNeT])
def sp_need_month (_ : PySem.W.Frag) (C_Ward : Addr) : Sp := fun vs H Q _ => ∃ d : Int, vs = [.int d] ∧ 1 ≤ d ∧ d ≤ 31 ∧ Q .non H
theorem sc_need_month : FnScope ["days"] ["days"] (defScope s_need_month) := ⟨rfl, rfl, rfl, by decide +kernel, rfl, by decide +kernel, by decide +kernel⟩
theorem ok_need_month {C_Ward : Addr} {f : Addr} {fd : FuncData} (F : Fun K "need_month" "need_month" s_need_month f fd) (T : Txt K mg C_Ward)  : FnOk P w K mg base CX0 1 f fd ["days"] (sp_need_month K C_Ward) := by
  refine F.ok sc_need_month (fun vs H Q E h => ?_) (fun cdv A outer s H vs Q E hr h => ?_)
  · obtain ⟨n, rfl, _⟩ := h
    rfl
  · obtain ⟨n, rfl, n0, n1, q⟩ := h
    refine ⟨_, (pss_one (ps_if (PW.pt (pw_or (pt_cmpR op_lt (pv 0) pe_int (nomark _)) (pw_or1 (pt_cmpR op_gt (pv 0) (pe_globI rfl T.g_MOST_DAYS) (nomark _))))) (pss_one ps_never) pss_nil)), ?_⟩
    walk_at "rd"
    rw [if_neg (by omega), if_neg (by omega)]
    exact q
def sp_is_skills (_ : PySem.W.Frag) (C_Ward : Addr) : Sp := fun vs H Q _ => ∃ n : Int, vs = [.int n] ∧ okH n ∧ Q (.bl true) H
theorem sc_is_skills : FnScope ["number"] ["number"] (defScope s_is_skills) := ⟨rfl, rfl, rfl, by decide +kernel, rfl, by decide +kernel, by decide +kernel⟩
theorem ok_is_skills {C_Ward : Addr} {f : Addr} {fd : FuncData} (F : Fun K "is_skills" "is_skills" s_is_skills f fd) (T : Txt K mg C_Ward)  : FnOk P w K mg base CX0 1 f fd ["number"] (sp_is_skills K C_Ward) := by
  refine F.ok sc_is_skills (fun vs H Q E h => ?_) (fun cdv A outer s H vs Q E hr h => ?_)
  · obtain ⟨n, rfl, _⟩ := h
    rfl
  · obtain ⟨n, rfl, hn, q⟩ := h
    refine ⟨_, (pss_one (ps_ret (pe_chain op_le op_lt pe_int (pv 0) (pe_op op_pow pe_int pe_int)))), ?_⟩
    walk_at "rd"
    rw [if_pos hn.1]
    refine ⟨⟨by decide, by decide, by decide⟩, ?_⟩
    rw [show (2 : Int) ^ Int.toNat 30 = 1073741824 by decide, decide_eq_true hn.2]
    exact q
def sp_need_hands (K : PySem.W.Frag) (C_Ward : Addr) : Sp := fun vs H Q _ => ∃ (a : Addr) (hs : List Int), vs = [.ref a] ∧ SqL K H a (hs.map V.int) ∧ (∀ x ∈ hs, okH x) ∧ hs.length ≤ 8 ∧ ∀ H', Same H H' → Q .non H'
theorem sc_need_hands : FnScope ["hands", "number", "skills"] ["hands"] (defScope s_need_hands) := ⟨rfl, rfl, rfl, by decide +kernel, rfl, by decide +kernel, by decide +kernel⟩
theorem ok_need_hands {C_Ward : Addr} {f : Addr} {fd : FuncData} (F : Fun K "need_hands" "need_hands" s_need_hands f fd) (T : Txt K mg C_Ward) (C_is_skills : Cal P w K mg base "is_skills" ["number"] 1 (sp_is_skills K C_Ward)) : FnOk P w K mg base CX0 2 f fd ["hands"] (sp_need_hands K C_Ward) := by
  refine F.ok sc_need_hands (fun vs H Q E h => ?_) (fun cdv A outer s H vs Q E hr h => ?_)
  · obtain ⟨a, hs, rfl, _⟩ := h
    rfl
  · obtain ⟨a, hs, rfl, hS, hh, hl, q⟩ := h
    refine ⟨_, (pss_one (ps_for PassesOwn.never rfl (pi_enum_list rfl T.enumerate (pv 0)) (pg_tup (n := 2) rfl (pgs_cons (pg_name (i := 1) sc_need_hands.nd rfl (Or.inl rfl)) (pgs_cons (pg_name (i := 2) sc_need_hands.nd rfl (Or.inl rfl)) pgs_nil)))
      (pss_one (ps_if (PW.pt (pw_or (pt_cmpR op_ge (pv 1) (pe_globI rfl T.g_MOST_HANDS) (nomark _)) (pw_or1 (pt_not (pt_val (pe_cal C_is_skills (hr.mono (by decide)) rfl (pa_cons (pv 2) pa_nil))))))) (pss_one ps_never) pss_nil)))), ?_⟩
    walk_at "rd"
    refine ⟨⟨_, hS⟩, for_enumW (xs := hs.map V.int) (fun i σ H' => Same H H' ∧ ∃ v1 v2, σ = [some (.ref a), v1, v2]) ⟨Same.refl H, none, none, rfl⟩ (fun i σ H' _ hh => hh.1.seq hS) ?_ ?_⟩
    · rintro i x σ H' t hx ⟨g, v1, v2, rfl⟩ ht
      rw [List.getElem?_map] at hx
      obtain ⟨p, hpi, rfl⟩ := Option.map_eq_some_iff.mp hx
      have hi : i < hs.length := (List.getElem?_eq_some_iff.mp hpi).1
      walk_at "rd"
      refine ⟨_, SqT.of upd_same, rfl, _, _, rfl, _, _, rfl, rfl, ?_⟩
      walk_at "rd"
      rw [if_neg (by omega)]
      refine ⟨p, rfl, hh p (List.mem_of_getElem? hpi), ?_⟩
      walk_at "rd"
      first | exact ⟨g.trans (same_new ht _), _, _, rfl⟩ | exact ⟨g.trans (same_new ht _), _, rfl⟩ | exact g.trans (same_new ht _)
    · rintro σ H' ⟨g, _⟩
      exact q H' g
def sp_is_post (_ : PySem.W.Frag) (C_Ward : Addr) : Sp := fun vs H Q _ => ∃ (t : Addr) (q : Pst), vs = [.ref t] ∧ H t = some (.tup [.int q.1, .int q.2.1, .int q.2.2]) ∧ okP q ∧ Q (.bl true) H
theorem sc_is_post : FnScope ["post"] ["post"] (defScope s_is_post) := ⟨rfl, rfl, rfl, by decide +kernel, rfl, by decide +kernel, by decide +kernel⟩
theorem ok_is_post {C_Ward : Addr} {f : Addr} {fd : FuncData} (F : Fun K "is_post" "is_post" s_is_post f fd) (T : Txt K mg C_Ward) (C_is_skills : Cal P w K mg base "is_skills" ["number"] 1 (sp_is_skills K C_Ward)) : FnOk P w K mg base CX0 2 f fd ["post"] (sp_is_post K C_Ward) := by
  refine F.ok sc_is_post (fun vs H Q E h => ?_) (fun cdv A outer s H vs Q E hr h => ?_)
  · obtain ⟨t, p, rfl, _⟩ := h
    rfl
  · obtain ⟨t, p, rfl, ht, hp, q⟩ := h
    refine ⟨_, (pss_one (ps_ret (pe_and (pe_cal C_is_skills (hr.mono (by decide)) rfl (pa_cons (pe_ix ix_tup (pv 0) pe_int (fun _ _ => rfl)) pa_nil)) (pe_and (pe_chain op_le op_le pe_int (pe_ix ix_tup (pv 0) pe_int (fun _ _ => rfl)) (pe_op op_pow pe_int pe_int)) (pe_one (pe_chain op_le op_le pe_int (pe_ix ix_tup (pv 0) pe_int (fun _ _ => rfl)) pe_int)))))), ?_⟩
    walk_at "rd"
    refine ⟨_, SqT.of ht, _, rfl, _, rfl, hp.1, ?_⟩
    walk_at "rd"
    refine ⟨_, SqT.of ht, _, rfl, ?_⟩
    walk_at "rd"
    rw [if_pos hp.2.1.1]
    refine ⟨⟨by decide, by decide, by decide⟩, ?_⟩
    rw [show (10 : Int) ^ Int.toNat 9 = 1000000000 by decide, if_pos hp.2.1.2]
    refine ⟨_, SqT.of ht, _, rfl, ?_⟩
    walk_at "rd"
    rw [if_pos hp.2.2.1, decide_eq_true hp.2.2.2]
    exact q
def sp_need_posts (K : PySem.W.Frag) (C_Ward : Addr) : Sp := fun vs H Q _ => ∃ (a : Addr) (ts : List V) (ps : List Pst), vs = [.ref a] ∧ SqL K H a ts ∧ Posts H ts ps ∧ (∀ q ∈ ps, okP q) ∧ ps.length ≤ 6 ∧ ∀ H', Same H H' → Q .non H'
theorem sc_need_posts : FnScope ["posts", "number", "post"] ["posts"] (defScope s_need_posts) := ⟨rfl, rfl, rfl, by decide +kernel, rfl, by decide +kernel, by decide +kernel⟩
theorem ok_need_posts {C_Ward : Addr} {f : Addr} {fd : FuncData} (F : Fun K "need_posts" "need_posts" s_need_posts f fd) (T : Txt K mg C_Ward) (C_is_post : Cal P w K mg base "is_post" ["post"] 2 (sp_is_post K C_Ward)) : FnOk P w K mg base CX0 3 f fd ["posts"] (sp_need_posts K C_Ward) := by
  refine F.ok sc_need_posts (fun vs H Q E h => ?_) (fun cdv A outer s H vs Q E hr h => ?_)
  · obtain ⟨a, ts, ps, rfl, _⟩ := h
    rfl
  · obtain ⟨a, ts, ps, rfl, hS, hT, hp, hl, q⟩ := h
    refine ⟨_, (pss_one (ps_for PassesOwn.never rfl (pi_enum1_list rfl T.enumerate (pv 0)) (pg_tup (n := 2) rfl (pgs_cons (pg_name (i := 1) sc_need_posts.nd rfl (Or.inl rfl)) (pgs_cons (pg_name (i := 2) sc_need_posts.nd rfl (Or.inl rfl)) pgs_nil)))
      (pss_one (ps_if (PW.pt (pw_or (pt_cmpR op_gt (pv 1) (pe_globI rfl T.g_MOST_POSTS) (nomark _)) (pw_or1 (pt_not (pt_val (pe_cal C_is_post (hr.mono (by decide)) rfl (pa_cons (pv 2) pa_nil))))))) (pss_one ps_never) pss_nil)))), ?_⟩
    walk_at "rd"
    refine ⟨⟨_, hS⟩, for_enumW (xs := ts) (fun i σ H' => Same H H' ∧ ∃ v1 v2, σ = [some (.ref a), v1, v2]) ⟨Same.refl H, none, none, rfl⟩ (fun i σ H' _ hh => hh.1.seq hS) ?_ ?_⟩
    · rintro i x σ H' t hx ⟨g, v1, v2, rfl⟩ ht
      obtain ⟨p, hpi, t', rfl, ht'⟩ := hT.at' hx
      have hi : i < ps.length := (List.getElem?_eq_some_iff.mp hpi).1
      have g2 := g.trans (same_new ht (.tup [.int (((1 + i : Nat)) : Int), .ref t']))
      walk_at "rd"
      refine ⟨_, SqT.of upd_same, rfl, _, _, rfl, _, _, rfl, rfl, ?_⟩
      walk_at "rd"
      rw [if_neg (by omega)]
      refine ⟨t', p, rfl, g2 _ _ ht', hp p (List.mem_of_getElem? hpi), ?_⟩
      walk_at "rd"
      first | exact ⟨g2, _, _, rfl⟩ | exact ⟨g2, _, rfl⟩ | exact g2
    · rintro σ H' ⟨g, _⟩
      exact q H' g
def sp_Ward___init__ (K : PySem.W.Frag) (C_Ward : Addr) : Sp := fun vs H Q _ => ∃ (x dx a b : Addr) (d : Int) (hs : List Int) (ts : List V) (ps : List Pst), vs = [.ref x, .int d, .ref a, .ref b] ∧ H x = some (.ins C_Ward dx []) ∧ SqL K H a (hs.map V.int) ∧ SqL K H b ts ∧ Posts H ts ps ∧ Ok d hs ps ∧
  ∀ H', (∀ c o, H c = some o → c ≠ x → H' c = some o) → WardAt C_Ward H' x d hs ps → Q .non H'
theorem sc_Ward___init__ : FnScope ["self", "days", "hands", "posts"] ["self", "days", "hands", "posts"] (defScope s_Ward___init__) := ⟨rfl, rfl, rfl, by decide +kernel, rfl, by decide +kernel, by decide +kernel⟩
theorem ok_Ward___init__ {C_Ward : Addr} {f : Addr} {fd : FuncData} (F : Fun K "__init__" "Ward.__init__" s_Ward___init__ f fd) (T : Txt K mg C_Ward) (C_need_month : Cal P w K mg base "need_month" ["days"] 1 (sp_need_month K C_Ward)) (C_need_hands : Cal P w K mg base "need_hands" ["hands"] 2 (sp_need_hands K C_Ward)) (C_need_posts : Cal P w K mg base "need_posts" ["posts"] 3 (sp_need_posts K C_Ward)) : FnOk P w K mg base CX0 4 f fd ["self", "days", "hands", "posts"] (sp_Ward___init__ K C_Ward) := by
  refine F.ok sc_Ward___init__ (fun vs H Q E h => ?_) (fun cdv A outer s H vs Q E hr h => ?_)
  · obtain ⟨x, dx, a, b, d, hs, ts, ps, rfl, _⟩ := h
    rfl
  · obtain ⟨x, dx, a, b, d, hs, ts, ps, rfl, hx, hA, hB, hT, ok, q⟩ := h
    refine ⟨_, (pss_cons (ps_expr (pe_cal C_need_month (hr.mono (by decide)) rfl (pa_cons (pv 1) pa_nil)))
    (pss_cons (ps_expr (pe_cal C_need_hands (hr.mono (by decide)) rfl (pa_cons (pv 2) pa_nil)))
    (pss_cons (ps_expr (pe_cal C_need_posts (hr.mono (by decide)) rfl (pa_cons (pv 3) pa_nil)))
    (pss_cons (ps_fld (pv 0) (pv 1) rfl)
    (pss_cons (ps_fld (pv 0) (pe_callTy (call_tuple_L (K := K) rfl) (by rfl) T.tuple PyProof.Rows.boot_tuple (pa_cons (pv 2) pa_nil)) rfl)
    (pss_one (ps_fld (pv 0) (pe_callTy (call_tuple_L (K := K) rfl) (by rfl) T.tuple PyProof.Rows.boot_tuple (pa_cons (pv 3) pa_nil)) rfl))))))), ?_⟩
    walk_at "rd"
    refine ⟨d, rfl, ok.d1, ok.d2, a, hs, rfl, hA, ok.h, ok.hl, fun H1 g1 => ⟨b, ts, ps, rfl, g1.seq hB, hT.mono g1, ok.p, ok.pl, fun H2 g2 => ?_⟩⟩
    have g := g1.trans g2
    have hx2 := g _ _ hx
    walk_at "rd"
    refine ⟨C_Ward, dx, [], hx2, T.cl_Ward, T.n_Ward_days, by decide, _, (g.seq hA).off (by intro ys z; rw [hx2] at z; cases z) (by intro v u z; rw [hx2] at z; cases z), fun l1 hl1 => ?_⟩
    have n1 : x ≠ l1 := fun z => by rw [← z, upd_same] at hl1; cases hl1
    have e1 : H2 l1 = none := by rw [upd_ne n1.symm] at hl1; exact hl1
    refine ⟨C_Ward, dx, putF "days" (.int d) [], by rw [upd_ne n1, upd_same], T.cl_Ward, T.n_Ward_hands, Nat.lt_of_le_of_lt (length_putF _ _ _) (by show 1 < 1000; decide), ts, ?_, fun l2 hl2 => ?_⟩
    · refine SqL.off ((same_new (by rw [upd_ne n1.symm]; exact e1) _).seq ((g.seq hB).off ?_ ?_)) ?_ ?_
      · intro ys z; rw [hx2] at z; cases z
      · intro v u z; rw [hx2] at z; cases z
      · intro ys z; rw [upd_ne n1, upd_same] at z; cases z
      · intro v u z; rw [upd_ne n1, upd_same] at z; cases z
    have n2 : x ≠ l2 := fun z => by rw [← z, upd_same] at hl2; cases hl2
    have n3 : l1 ≠ l2 := fun z => by rw [← z, upd_ne n1.symm, upd_same] at hl2; cases hl2
    have e2 : H2 l2 = none := by rw [upd_ne n2.symm, upd_ne n3.symm, upd_ne n2.symm] at hl2; exact hl2
    refine ⟨C_Ward, dx, putF "hands" (.ref l1) (putF "days" (.int d) []), by rw [upd_ne n2, upd_same], T.cl_Ward, T.n_Ward_posts, Nat.lt_of_le_of_lt (Nat.le_trans (length_putF _ _ _) (Nat.succ_le_succ (length_putF _ _ _))) (by show 2 < 1000; decide), ?_⟩
    have fr : ∀ c o, H2 c = some o → c ≠ x → upd (upd (upd (upd (upd H2 x (.ins C_Ward dx (putF "days" (.int d) []))) l1 (.tup (hs.map V.int))) x (.ins C_Ward dx (putF "hands" (.ref l1) (putF "days" (.int d) [])))) l2 (.tup ts)) x (.ins C_Ward dx (wf d l1 l2)) c = some o := fun c o hc ne => by
      rw [upd_ne ne, upd_ne (ne_of_none hc e2), upd_ne ne, upd_ne (ne_of_none hc e1), upd_ne ne]
      exact hc
    refine q _ (fun c o hc ne => fr c o (g _ _ hc) ne) ⟨dx, l1, l2, ts, upd_same, ?_, ?_, ?_⟩
    · rw [upd_ne n1.symm, upd_ne n3, upd_ne n1.symm, upd_same]
    · rw [upd_ne n2.symm, upd_same]
    · exact Paired.mapP hT fun v p ⟨t, e, ht⟩ => ⟨t, e, fr _ _ (g _ _ ht) (fun z => by subst z; rw [hx] at ht; cases ht)⟩
def sp_covers (_ : PySem.W.Frag) (C_Ward : Addr) : Sp := fun vs H Q _ => ∃ h n : Int, vs = [.int h, .int n] ∧ Q (.bl (cv h n)) H
theorem sc_covers : FnScope ["have", "need"] ["have", "need"] (defScope s_covers) := ⟨rfl, rfl, rfl, by decide +kernel, rfl, by decide +kernel, by decide +kernel⟩
theorem ok_covers {C_Ward : Addr} {f : Addr} {fd : FuncData} (F : Fun K "covers" "covers" s_covers f fd) (T : Txt K mg C_Ward)  : FnOk P w K mg base CX0 1 f fd ["have", "need"] (sp_covers K C_Ward) := by
  refine F.ok sc_covers (fun vs H Q E h => ?_) (fun cdv A outer s H vs Q E hr h => ?_)
  · obtain ⟨h, n, rfl, _⟩ := h
    rfl
  · obtain ⟨h, n, rfl, q⟩ := h
    refine ⟨_, (pss_one (ps_ret (pe_cmpR op_eq (pe_op op_and (pv 0) (pv 1)) (pv 1) (nomark _)))), ?_⟩
    walk_at "rd"
    exact q
def sp_Ward_choices (_ : PySem.W.Frag) (C_Ward : Addr) : Sp := fun vs H Q _ => ∃ (x : Addr) (d : Int) (hs : List Int) (ps : List Pst) (i : Nat) (h : Int), vs = [.ref x, .int i] ∧ WardAt C_Ward H x d hs ps ∧ hs[i]? = some h ∧ ps.length ≤ 6 ∧ ∀ r H', New H H' r ((ch h ps).map V.int) → Q (.ref r) H'
theorem sc_Ward_choices : FnScope ["self", "hand", "skills"] ["self", "hand"] (defScope s_Ward_choices) := ⟨rfl, rfl, rfl, by decide +kernel, rfl, by decide +kernel, by decide +kernel⟩
theorem ok_Ward_choices {C_Ward : Addr} {f : Addr} {fd : FuncData} (F : Fun K "choices" "Ward.choices" s_Ward_choices f fd) (T : Txt K mg C_Ward) (C_covers : Cal P w K mg base "covers" ["have", "need"] 1 (sp_covers K C_Ward)) : FnOk P w K mg base CX0 2 f fd ["self", "hand"] (sp_Ward_choices K C_Ward) := by
  refine F.ok sc_Ward_choices (fun vs H Q E h => ?_) (fun cdv A outer s H vs Q E hr h => ?_)
  · obtain ⟨x, d, hs, ps, i, h, rfl, _⟩ := h
    rfl
  · obtain ⟨x, d, hs, ps, i, h, rfl, hW, hi, hl, q⟩ := h
    refine ⟨_, (pss_cons (ps_set (i := 2) sc_Ward_choices.nd rfl (Or.inr rfl) (pe_ix ix_tup (pe_fld (pv 0) rfl) (pv 1) (fun _ _ => rfl)))
    (pss_one (ps_ret (pe_op op_cat (pe_lst (pa_cons pe_int pa_nil)) (pe_comp (own := ["number", "post"]) (fnames := ["skills"]) (fr := [2]) (N' := ["number", "post", "skills"]) ⟨rfl, rfl, rfl, rfl, rfl, rfl, rfl⟩ rfl (pi_enum1_tup rfl T.enumerate (pe_fld (pv 0) rfl)) (fun s0 H0 fp0 C0 => ⟨(pg_tupK (K := K) (n := 2) rfl rfl (pgs_cons (pg_name (i := 0) (by show (["number", "post", "skills"] : List Str).Nodup; decide +kernel) rfl (Or.inl rfl)) (pgs_cons (pg_name (i := 1) (by show (["number", "post", "skills"] : List Str).Nodup; decide +kernel) rfl (Or.inl rfl)) pgs_nil))), (pts_one (pt_val (pe_cal C_covers (hr.mono (by decide)) rfl (pa_cons (pv 2) (pa_cons (pe_ix (ix_tupK (K := K) rfl) (pv 1) pe_int (fun _ _ => rfl)) pa_nil))))), (pv 0)⟩)))))), ?_⟩
    obtain ⟨dx, ha, pa, ts, h1, h2, h3, h4⟩ := hW.ex
    walk_at "rd"
    refine ⟨_, _, _, h1, T.cl_Ward, T.n_Ward_hands, _, wf_hands _ _ _, _, rfl, _, SqT.of h2, .int h, atI_nat (by rw [List.getElem?_map, hi]; rfl), by decide, fun p hp => ?_⟩
    have g1 := same_new hp (.lst [.int 0])
    refine ⟨_, _, _, g1 _ _ h1, T.cl_Ward, T.n_Ward_posts, _, wf_posts _ _ _, _, rfl, ⟨_, SqT.of (g1 _ _ h3)⟩, fun D hD => for_enumW (S := SqT K) (xs := ts) (fun j σ H' => Same (upd H p (.lst [.int 0])) H' ∧ H' D = some (.lst ((chI h ps j).map V.int)) ∧ ∃ v1 v2, σ = [v1, v2, some (.int h)]) ⟨same_new hD _, upd_same, none, none, rfl⟩ (fun j σ H' _ hh => SqT.of (hh.1 _ _ (g1 _ _ h3))) ?_ ?_⟩
    · rintro j x σ H' t hx ⟨g, e, v1, v2, rfl⟩ ht
      obtain ⟨qq, hq, t', rfl, ht'⟩ := h4.at' hx
      have hj : j < ps.length := (List.getElem?_eq_some_iff.mp hq).1
      have g2 : Same H' (upd H' t (.tup [.int (((1 + j : Nat)) : Int), .ref t'])) := same_new ht _
      walk_at "rd"
      refine ⟨_, SqT.of upd_same, rfl, _, _, rfl, _, _, rfl, rfl, ?_⟩
      walk_at "rd"
      refine ⟨_, SqT.of (g2 _ _ (g _ _ (g1 _ _ ht'))), _, rfl, h, qq.1, rfl, ?_⟩
      walk_at "rd"
      have hs' := chI_succ h ps j
      rw [hq, Option.getD_some] at hs'
      have hcl := chI_len h ps j
      split
      · rename_i hb
        rw [if_pos hb] at hs'
        refine ⟨_, g2 _ _ e, small1000 (by simp only [List.length_map]; omega), fun b o hb => ?_, ?_⟩
        · have ne : b ≠ D := fun z => by subst z; rw [hD] at hb; cases hb
          rw [upd_ne ne]
          exact g2 _ _ (g _ _ hb)
        · rw [upd_same, hs', List.map_append, show ((1 + j : Nat) : Int) = (j : Int) + 1 by omega]
          first | done | rfl
      · rename_i hb
        rw [if_neg hb, List.append_nil] at hs'
        exact ⟨g.trans g2, by rw [hs']; exact g2 _ _ e⟩
    · rintro σ H' ⟨g, e, v1, v2, rfl⟩
      have hcl := chI_len h ps ps.length
      refine ⟨_, g _ _ upd_same, _, e, small1000' (by simp only [List.length_map, List.length_cons, List.length_nil, h4.len]; omega), fun r hr => q r _ ⟨?_, ?_, ?_⟩⟩
      · exact (g1.trans g).trans (same_new hr _)
      · exact (g1.trans g).free hr
      · rw [upd_same, h4.len]
        rfl
def sp_best (K : PySem.W.Frag) (C_Ward : Addr) : Sp := fun vs H Q _ => ∃ (x pd nd : Addr) (d : Int) (hs : List Int) (ps : List Pst) (pns kvs : List (List Key × V)), vs = [.ref x, .ref pd, .ref nd] ∧ WardAt C_Ward H x d hs ps ∧ Ok d hs ps ∧ H pd = some (.dT pns) ∧ H nd = some (.dT kvs) ∧ pd ≠ nd ∧ AllI pns ∧ NumOk hs.length d.toNat (ps.length + 1) kvs ∧ kvs.length ≤ 900 ∧ ∀ H', Same H H' → Q (.int (bestN pns kvs (fun h => ch (hs[h]?.getD 0) ps) hs.length d.toNat)) H'
theorem sc_best : FnScope ["ward", "pins", "numbers", "choices", "reached", "hand", "day", "values"] ["ward", "pins", "numbers"] (defScope s_best) := ⟨rfl, rfl, rfl, by decide +kernel, rfl, by decide +kernel, by decide +kernel⟩
theorem ok_best {C_Ward : Addr} {f : Addr} {fd : FuncData} (F : Fun K "best" "best" s_best f fd) (T : Txt K mg C_Ward) (M_Ward_choices : CalM P w K mg base C_Ward "choices" ["self", "hand"] 2 (sp_Ward_choices K C_Ward)) : FnOk P w K mg base CX0 3 f fd ["ward", "pins", "numbers"] (sp_best K C_Ward) := by
  refine F.ok sc_best (fun vs H Q E h => ?_) (fun cdv A outer s H vs Q E hr h => ?_)
  · obtain ⟨x, pd, nd, d, hs, ps, pns, kvs, rfl, _⟩ := h
    rfl
  · obtain ⟨x, pd, nd, d, hs, ps, pns, kvs, rfl, hW, okw, hp, hn, npn, aip, ok, kl, q⟩ := h
    refine ⟨_, (pss_cons (ps_comp (i := 3) sc_best.nd rfl rfl (own := ["hand"]) (fnames := ["ward"]) (fr := [0]) (N' := ["hand", "ward"]) ⟨rfl, rfl, rfl, rfl, rfl, rfl, rfl⟩ rfl (pi_range1 rfl T.range (pa_cons (pe_callB (call_lenK (K := K) rfl) (by rfl) T.len PySem.boot_len (pa_cons (pe_fld (pv 0) rfl) pa_nil)) pa_nil)) (fun s0 H0 fp0 C0 => ⟨(pg_name (i := 0) (by show (["hand", "ward"] : List Str).Nodup; decide +kernel) rfl (Or.inl rfl)), pts_nil, (pe_methC M_Ward_choices (hr.mono (by decide)) (pv 1) (pa_cons (pv 0) pa_nil))⟩))
    (pss_cons (ps_set (i := 4) sc_best.nd rfl (Or.inl rfl) pe_int)
    (pss_cons (ps_for PassesOwn.never rfl (pi_dictT (pe_callTy (call_dictP rfl hr) (by rfl) T.dict PyProof.Rows.boot_dict (pa_cons (pe_comp (own := ["hand", "day", "post"]) (fnames := []) (fr := []) (N' := ["hand", "day", "post"]) ⟨rfl, rfl, rfl, rfl, rfl, rfl, rfl⟩ rfl (pi_dictT (pv 2)) (fun s0 H0 fp0 C0 => ⟨(pg_tupK (K := K) (n := 3) rfl rfl (pgs_cons (pg_name (i := 0) (by show (["hand", "day", "post"] : List Str).Nodup; decide +kernel) rfl (Or.inl rfl)) (pgs_cons (pg_name (i := 1) (by show (["hand", "day", "post"] : List Str).Nodup; decide +kernel) rfl (Or.inl rfl)) (pgs_cons (pg_name (i := 2) (by show (["hand", "day", "post"] : List Str).Nodup; decide +kernel) rfl (Or.inl rfl)) pgs_nil)))), pts_nil, (pe_tup (pa_cons (pe_tup (pa_cons (pv 0) (pa_cons (pv 1) pa_nil))) (pa_cons pe_bl pa_nil)))⟩)) pa_nil))) (pg_tup (n := 2) rfl (pgs_cons (pg_name (i := 5) sc_best.nd rfl (Or.inr rfl)) (pgs_cons (pg_name (i := 6) sc_best.nd rfl (Or.inr rfl)) pgs_nil)))
      (pss_one (ps_if (PW.pt (pw_and (pt_chain op_le op_lt pe_int (pv 5) (pe_callB (call_lenK (K := K) rfl) (by rfl) T.len PySem.boot_len (pa_cons (pv 3) pa_nil))) (pw_and1 (pt_chain op_le op_lt pe_int (pv 6) (pe_fld (pv 0) rfl))))) (pss_cut (ps_set (i := 7) sc_best.nd rfl (Or.inl rfl) (pe_ifExp (pt_cmp (pc_din (hu_of hr) (pe_tup (pa_cons (pv 5) (pa_cons (pv 6) pa_nil))) (pv 1))) (pe_lst (pa_cons (pe_dget (hu_of hr) (pv 1) (pe_tup (pa_cons (pv 5) (pa_cons (pv 6) pa_nil))) (fun _ _ => rfl)) pa_nil)) (pe_ix ix_list (pv 3) (pv 5) (fun _ _ => rfl))))
          (pss_one (ps_set (i := 4) sc_best.nd rfl (Or.inl rfl) (pe_op op_add (pv 4) (pe_callB (call_maxL rfl) (by rfl) T.max PyProof.Rows.boot_max (pa_cons (pe_comp (own := ["value"]) (fnames := ["numbers", "hand", "day"]) (fr := [2, 5, 6]) (N' := ["value", "numbers", "hand", "day"]) ⟨rfl, rfl, rfl, rfl, rfl, rfl, rfl⟩ rfl (pi_list (pv 7)) (fun s0 H0 fp0 C0 => ⟨(pg_name (i := 0) (by show (["value", "numbers", "hand", "day"] : List Str).Nodup; decide +kernel) rfl (Or.inl rfl)), pts_nil, (pe_dget2 (hu_of hr) (pv 1) (pe_tup (pa_cons (pv 2) (pa_cons (pv 3) (pa_cons (pv 0) pa_nil)))) pe_int ⟨rfl, rfl, rfl, rfl⟩)⟩)) pa_nil)))))) pss_nil)))
    (pss_thaw (pss_thaw (pss_one (ps_ret (pv 4)))))))), ?_⟩
    obtain ⟨dx, ha, pa, ts, h1, h2, h3, h4⟩ := hW.ex
    have hs8 := okw.hl
    have p6 := okw.pl
    refine seq_of fun U1 u1 => ?_
    walk_at "rd"
    refine ⟨_, _, _, h1, T.cl_Ward, T.n_Ward_hands, _, wf_hands _ _ _, _, rfl, _, .inr (SqT.of h2), by rw [List.length_map]; omega, by rw [List.length_map]; omega, fun D hD => for_rangeW (fun i σ H' => GatF H D (fun j row => row = ch (hs[j]?.getD 0) ps) i H' ∧ ∃ v0, σ = [v0, some (.ref x)]) ⟨GatF.start hD, none, rfl⟩ ?_ ?_⟩
    · rintro i σ H' hi ⟨gf, v0, rfl⟩
      rw [show (0 + (i : Int)) = i by omega]
      rw [List.length_map] at hi
      have hi' : i < hs.length := by omega
      walk_at "rd"
      refine ⟨_, _, gf.same _ _ h1, rfl, x, d, hs, ps, i, hs[i], rfl, hW.mono gf.same, List.getElem?_eq_getElem hi', p6, fun r H2 nw => ?_⟩
      exact gf.step hD (by omega) nw.1 nw.2.1 nw.2.2 (by rw [List.getElem?_eq_getElem hi']; rfl)
    rintro σ H1 ⟨gf, v0, rfl⟩
    rw [List.length_map] at gf
    obtain ⟨us, rows, rl, g1, eD, hR, hrow⟩ := gf.done
    clear gf
    rw [u1]; clear u1
    refine seq_of fun U1 u1 => ?_
    walk_at "rd"
    rw [u1]; clear u1
    refine seq_of fun U1 u1 => for_of fun B1 b1 => ?_
    walk_at "rd"
    have en1 := g1 _ _ hn
    refine ⟨kvs, en1, fun ob D1 hD1 => for_dictW (fun i σ H' => PrI (upd H1 nd (.frz ob (.dT kvs))) D1 kvs i H' ∧ ∃ v0 v1 v2, σ = [v0, v1, v2]) ⟨PrI.start hD1, none, none, none, rfl⟩ (fun i σ H' _ hh => hh.1.same _ _ upd_same) ?_ ?_⟩
    · rintro i bk k v σ H' hk hb ⟨pI, v0, v1, v2, rfl⟩
      obtain ⟨h, dd, p, e, c1, c2, c3⟩ := ok.inb _ (List.mem_of_getElem? hk)
      have e : k = kk h dd p := e
      subst e
      have hik := (List.getElem?_eq_some_iff.mp hk).1
      show ∃ a, _
      refine ⟨_, rfl, _, SqT.of hb, rfl, _, _, rfl, _, _, rfl, _, _, rfl, rfl, ?_⟩
      walk_at "rd"
      refine ⟨by decide, fun b hb2 => ⟨by decide, fun t ht => ?_⟩⟩
      exact pI.step hD1 hk (by omega) hb2 ht
    rintro σ H2 ⟨pI, v0, v1, v2, rfl⟩
    obtain ⟨us2, g2, eD1, hP2⟩ := pI.ex
    rw [List.take_length] at hP2
    refine ⟨us2, eD1, _, hP2, by rw [List.length_map]; omega, fun p hpp => ⟨_, upd_same, fun ob2 => ?_⟩⟩
    rw [upd_upd]
    show ∃ W, _
    have np : nd ≠ p := ne_of_none (g2 _ _ upd_same) hpp
    have prl := prD_len kvs
    refine for_dictW (kvs := prD kvs) (fun i σ H' => Same (upd H2 p (.frz ob2 (.dT (prD kvs)))) H' ∧ ∃ v5 v6 v7, σ = [some (.ref x), some (.ref pd), some (.ref nd), some (.ref D), some (.int (bestP pns kvs (fun h => ch (hs[h]?.getD 0) ps) ((prD kvs).take i))), v5, v6, v7]) ⟨Same.refl _, none, none, none, rfl⟩ (fun i σ H' _ hh => hh.1 _ _ upd_same) ?_ ?_
    · rintro i bk k v σ H' hk hb ⟨g, v5, v6, v7, rfl⟩
      obtain ⟨h, dd, e, c1, c2⟩ := prD_in ok _ (List.mem_of_getElem? hk)
      have e : k = k2 h dd := e
      subst e
      have hb : H' bk = some (.tup [.int h, .int dd]) := hb
      have G0 : Same (upd H1 nd (.frz ob (.dT kvs))) H' := g2.trans ((same_new hpp _).trans g)
      have hx' := G0 _ _ (frz_get (o := .frz ob (.dT kvs)) en1 (g1 _ _ h1) (fun k z => by cases z))
      have hpd' : H' pd = some (.dT pns) := G0 _ _ (by rw [upd_ne npn]; exact g1 _ _ hp)
      have hnd' : H' nd = some (.frz ob (.dT kvs)) := G0 _ _ upd_same
      have hD' := G0 _ _ (frz_get (o := .frz ob (.dT kvs)) en1 eD (fun k z => by cases z))
      have hR' := (hR.frz en1 (.frz ob (.dT kvs))).mono G0
      have hh : h < rows.length := by omega
      obtain ⟨t1, a1, q1⟩ := hR'.get (List.getElem?_eq_getElem hh)
      rw [hrow h _ (List.getElem?_eq_getElem hh)] at q1
      have hcl := ch_len (hs[h]?.getD 0) ps
      have em : mxC pns kvs (fun h => ch (hs[h]?.getD 0) ps) (ka (k2 h dd) 0).toNat (ka (k2 h dd) 1).toNat = mxL ((vls2 pns (ch (hs[h]?.getD 0) ps) h dd).map fun p => nO kvs h dd p) := rfl
      rw [bestP_take hk, em]
      have hc1 : 0 < (ch (hs[h]?.getD 0) ps).length := Nat.succ_pos _
      generalize ch (hs[h]?.getD 0) ps = ow at q1 hcl hc1 ⊢
      generalize bestP pns kvs (fun h => ch (hs[h]?.getD 0) ps) ((prD kvs).take i) = s0
      refine ⟨_, rfl, _, SqT.of hb, rfl, _, _, rfl, _, _, rfl, rfl, ?_⟩
      rw [b1]
      refine ifs_of2 fun A1 i1 => ?_
      walk_at "rd"
      rw [if_pos (by omega)]
      refine ⟨_, .inl (SqL.of hD'), ?_⟩
      rw [if_pos (by rw [hR'.len]; omega), if_pos (by omega)]
      refine ⟨_, _, _, hx', T.cl_Ward, T.n_Ward_days, _, wf_days _ _ _, _, rfl, ?_⟩
      rw [if_pos (by omega)]
      rw [i1]; clear i1
      refine cut_of (fun σ H4 => Same H' H4 ∧ ∃ (L3 : Addr) (own : List Int), H4 L3 = some (.lst (own.map V.int)) ∧ own = vls2 pns ow h dd ∧ 0 < own.length ∧ own.length ≤ 9 ∧ σ = [some (.ref x), some (.ref pd), some (.ref nd), some (.ref D), some (.int s0), some (.int h), some (.int dd), some (.ref L3)]) ?_ ?_
      · walk_at "rd"
        refine ⟨by decide, fun t2 ht2 => ?_⟩
        have gt2 := same_new ht2 (.tup [.int h, .int dd])
        refine ⟨_, DGet.t (k := k2 h dd) (gt2 _ _ hpd') upd_same, ?_⟩
        unfold vls2
        cases ev : valV pns (k2 h dd) with
        | none =>
          rw [if_neg (by simp)]
          exact ⟨_, SqL.of (gt2 _ _ hD'), _, atI_nat a1, gt2, t1, ow, gt2 _ _ q1, rfl, hc1, by omega, rfl⟩
        | some v =>
          obtain ⟨pv, rfl⟩ := aip _ v ev
          rw [if_pos (show (some (V.int pv)).isSome = true from rfl)]
          refine ⟨by decide, fun t3 ht3 => ?_⟩
          have gt3 := same_new ht3 (.tup [.int h, .int dd])
          refine ⟨.int pv, .inr ⟨pns, k2 h dd, t3, .inl ((gt2.trans gt3) _ _ hpd'), rfl, upd_same, ev.symm⟩, by decide, fun t4 ht4 => ?_⟩
          exact ⟨(gt2.trans gt3).trans (same_new ht4 _), t4, [pv], upd_same, rfl, Nat.zero_lt_one, by show 1 ≤ 9; decide, rfl⟩
      rintro σ H4 ⟨g4, L3, own, eL, eo, o1, o9, rfl⟩
      rw [← eo]
      walk_at "rd"
      have hnd4 := g4 _ _ hnd'
      refine ⟨⟨_, SqL.of eL⟩, fun D5 hD5 => for_listW (xs := own.map V.int) (fun j σ H5 => Same H4 H5 ∧ H5 D5 = some (.lst (((own.take j).map fun p => nO kvs h dd p).map V.int)) ∧ ∃ v0, σ = [v0, some (.ref nd), some (.int h), some (.int dd)]) ⟨same_new hD5 _, upd_same, none, rfl⟩ (fun j σ H5 _ hh => SqL.of (hh.1 _ _ eL)) ?_ ?_⟩
      · rintro j v σ H5 hx2 ⟨g5, e5, v0, rfl⟩
        obtain ⟨z, hz, rfl⟩ := map_item hx2
        have hj := (List.getElem?_eq_some_iff.mp hz).1
        have hnd5 := g5 _ _ hnd4
        walk_at "rd"
        refine ⟨.inr ⟨_, .inr ⟨_, hnd5⟩⟩, by decide, fun t6 ht6 => ?_⟩
        have g6 := same_new ht6 (.tup [.int h, .int dd, .int z])
        refine ⟨_, .inr ⟨kvs, kk h dd z, t6, .inr ⟨ob, g6 _ _ hnd5⟩, rfl, upd_same, rfl⟩, _, g6 _ _ e5, small1000 (by rw [List.length_map, List.length_map, List.length_take]; omega), same_upd hD5 (g5.trans g6) _, ?_⟩
        rw [upd_same, num_get ok.ai, take_one hz, List.map_append, List.map_append]
        rfl
      rintro σ H5 ⟨g5, e5, v0, rfl⟩
      rw [List.length_map, List.take_length] at e5
      refine ⟨_, SqL.of e5, by rw [List.length_map]; exact o1, fun M hM1 hM2 => ⟨g.trans (g4.trans g5), ?_⟩⟩
      rw [mxL_eq hM1 hM2]
    rintro σ H3 ⟨g3, v5, v6, v7, rfl⟩
    rw [u1]; clear u1
    walk_at "rd"
    refine ⟨p, ob2, prD kvs, g3 _ _ upd_same, fun _ _ z => ?_, nd, ob, kvs, ?_, fun _ _ z => ?_, ?_⟩
    · have nz : p ≠ nd := np.symm
      have z1 := g2 _ _ ((upd_ne nz).trans (g1 _ _ z))
      rw [hpp] at z1
      cases z1
    · rw [upd_ne np]
      exact g3 _ _ (by rw [upd_ne np]; exact g2 _ _ upd_same)
    · rw [hn] at z
      cases z
    rw [List.take_length, bestP_is (own := fun h => ch (hs[h]?.getD 0) ps) ok fun h _ => Nat.succ_pos _]
    refine q _ (g1.trans (thaw_same en1 (o' := .frz ob (.dT kvs)) fun b o hb => ?_))
    have hb2 := g2 _ _ hb
    have nb : b ≠ p := ne_of_none hb2 hpp
    rw [upd_ne nb]
    exact g3 _ _ (by rw [upd_ne nb]; exact hb2)
def sp_summed (K : PySem.W.Frag) (C_Ward : Addr) : Sp := fun vs H Q _ => ∃ (a : Addr) (us : List V) (ls : List (Lin × Int)), vs = [.ref a] ∧ H a = some (.lst us) ∧ Prs H us ls ∧ (∀ l ∈ ls, -(2 ^ 40) < l.2 ∧ l.2 < 2 ^ 40) ∧ partsN ls ≤ 900 ∧ ∀ t d H', Same H H' → H d = none → H' t = some (.tup [.ref d, .int (sumB ls)]) → H' d = some (.dT (sumKv ls)) → Q (.ref t) H'
theorem sc_summed : FnScope ["pairs", "numbers", "bound", "line", "times", "hand", "day", "post", "number"] ["pairs"] (defScope s_summed) := ⟨rfl, rfl, rfl, by decide +kernel, rfl, by decide +kernel, by decide +kernel⟩
theorem ok_summed {C_Ward : Addr} {f : Addr} {fd : FuncData} (F : Fun K "summed" "summed" s_summed f fd) (T : Txt K mg C_Ward)  : FnOk P w K mg base CX0 1 f fd ["pairs"] (sp_summed K C_Ward) := by
  refine F.ok sc_summed (fun vs H Q E h => ?_) (fun cdv A outer s H vs Q E hr h => ?_)
  · obtain ⟨a, us, ls, rfl, _⟩ := h
    rfl
  · obtain ⟨a, us, ls, rfl, hA, hP, ht, hn, q⟩ := h
    refine ⟨_, (pss_cons (ps_set (i := 1) sc_summed.nd rfl (Or.inl rfl) pe_dnewT)
    (pss_cons (ps_set (i := 2) sc_summed.nd rfl (Or.inl rfl) pe_int)
    (pss_cons (ps_for PassesOwn.never rfl (pi_list (pv 0)) (pg_tup (n := 2) rfl (pgs_cons (pg_name (i := 3) sc_summed.nd rfl (Or.inl rfl)) (pgs_cons (pg_name (i := 4) sc_summed.nd rfl (Or.inl rfl)) pgs_nil)))
      (pss_cons (ps_set (i := 2) sc_summed.nd rfl (Or.inl rfl) (pe_op op_add (pv 2) (pe_op op_mul (pe_ix ix_tup (pv 3) pe_int (fun _ _ => rfl)) (pv 4))))
        (pss_one (ps_for PassesOwn.never rfl (pi_tup (pe_ix ix_tup (pv 3) pe_int (fun _ _ => rfl))) (pg_tup (n := 4) rfl (pgs_cons (pg_name (i := 5) sc_summed.nd rfl (Or.inl rfl)) (pgs_cons (pg_name (i := 6) sc_summed.nd rfl (Or.inl rfl)) (pgs_cons (pg_name (i := 7) sc_summed.nd rfl (Or.inl rfl)) (pgs_cons (pg_name (i := 8) sc_summed.nd rfl (Or.inl rfl)) pgs_nil)))))
          (pss_one (ps_dput (hu_of hr) (pv 1) (pe_tup (pa_cons (pv 5) (pa_cons (pv 6) (pa_cons (pv 7) pa_nil)))) (pe_op op_add (pe_dget2 (hu_of hr) (pv 1) (pe_tup (pa_cons (pv 5) (pa_cons (pv 6) (pa_cons (pv 7) pa_nil)))) pe_int ⟨rfl, rfl, rfl, rfl⟩) (pe_op op_mul (pv 8) (pv 4))) rfl))))))
    (pss_one (ps_ret (pe_tup (pa_cons (pv 1) (pa_cons (pv 2) pa_nil)))))))), ?_⟩
    refine seq_of fun U1 u1 => ?_
    walk_at "rd"
    intro d hd
    have g0 := same_new hd (.dT [])
    rw [u1]; clear u1
    refine seq_of fun U1 u1 => ?_
    walk_at "rd"
    rw [u1]; clear u1
    refine seq_of fun U1 u1 => for_of fun B1 b1 => ?_
    walk_at "rd"
    have hul := Paired.length hP
    refine ⟨⟨_, SqL.of (g0 _ _ hA)⟩, for_listW (xs := us) (fun i σ H' => ∃ (v3 v4 v5 v6 v7 v8 : Option V), Same H H' ∧ H' d = some (.dT (sumKv (ls.take i))) ∧ σ = [some (.ref a), some (.ref d), some (.int (sumB (ls.take i))), v3, v4, v5, v6, v7, v8]) ⟨none, none, none, none, none, none, g0, upd_same, rfl⟩ (fun i σ H' _ ⟨_, _, _, _, _, _, g, _⟩ => SqL.of (g _ _ hA)) ?_ ?_⟩
    · rintro i v σ H' hx ⟨v3, v4, v5, v6, v7, v8, g, e, rfl⟩
      obtain ⟨l, hli, t, u, rfl, w1, tu, pt, ts, eu, w2, w3, w4⟩ := Paired.get' hP hx
      cases eu
      obtain ⟨lt1, lt2⟩ := ht l (List.mem_of_getElem? hli)
      have hlen : (sumKv (ls.take i)).length + l.1.ps.length ≤ 900 := by
        have z1 : (sumKv (ls.take i)).length ≤ 0 + partsN (ls.take i) := sumKv_len
        have z2 : partsN (ls.take (i + 1)) = partsN (ls.take i) + l.1.ps.length := by
          rw [take_one hli]
          unfold partsN
          rw [List.map_append, List.sum_append]
          simp
        have z3 : partsN (ls.take (i + 1)) ≤ partsN ls := by
          have : partsN ls = partsN (ls.take (i + 1)) + partsN (ls.drop (i + 1)) := by
            unfold partsN
            rw [← List.sum_append, ← List.map_append, List.take_append_drop]
          omega
        omega
      have hok : AllI (sumKv (ls.take i)) := sumKv_ok allI_nil
      walk_at "rd"
      refine ⟨_, SqT.of (g _ _ w1), rfl, _, _, rfl, _, _, rfl, rfl, ?_⟩
      rw [b1]
      refine seq_of fun U2 u2 => ?_
      walk_at "rd"
      refine ⟨_, SqT.of (g _ _ w2), .int l.1.b, rfl, _, rfl, .inr ⟨by omega, by omega⟩, ?_⟩
      rw [u2]; clear u2
      refine for_of fun B2 b2 => ?_
      walk_at "rd"
      refine ⟨_, SqT.of (g _ _ w2), _, rfl, pt, rfl, ⟨_, SqT.of (g _ _ w3)⟩, for_tupW (xs := ts) (fun j σ H2 => ∃ (v5 v6 v7 v8 : Option V), Same H H2 ∧ H2 d = some (.dT ((l.1.ps.take j).foldl (addP l.2) (sumKv (ls.take i)))) ∧ σ = [some (.ref a), some (.ref d), some (.int (sumB (ls.take i) + l.1.b * l.2)), some (.ref u), some (.int l.2), v5, v6, v7, v8]) ⟨v5, v6, v7, v8, g, e, rfl⟩ (fun j σ H2 _ ⟨_, _, _, _, g2, _⟩ => SqT.of (g2 _ _ w3)) ?_ ?_⟩
      · rintro j v σ H2 hx2 ⟨v5, v6, v7, v8, g2, e2, rfl⟩
        obtain ⟨pq, hpq, tq, rfl, htq⟩ := Paired.get' w4 hx2
        have hj : j < l.1.ps.length := (List.getElem?_eq_some_iff.mp hpq).1
        have hlj : ((l.1.ps.take j).foldl (addP l.2) (sumKv (ls.take i))).length < 901 := by
          have : ((l.1.ps.take j).foldl (addP l.2) (sumKv (ls.take i))).length ≤ (sumKv (ls.take i)).length + (l.1.ps.take j).length := foldP_len
          rw [List.length_take] at this
          omega
        have hokj : AllI ((l.1.ps.take j).foldl (addP l.2) (sumKv (ls.take i))) := foldP_ok hok
        have est : (l.1.ps.take (j + 1)).foldl (addP l.2) (sumKv (ls.take i)) = addP l.2 ((l.1.ps.take j).foldl (addP l.2) (sumKv (ls.take i))) pq := by
          rw [take_one hpq, List.foldl_append]
          rfl
        rw [est]
        generalize (l.1.ps.take j).foldl (addP l.2) (sumKv (ls.take i)) = kvs at e2 hlj hokj
        walk_at "rd"
        refine ⟨_, SqT.of (g2 _ _ htq), rfl, _, _, rfl, _, _, rfl, _, _, rfl, _, _, rfl, rfl, ?_⟩
        rw [b2]
        walk_at "rd"
        refine ⟨.inr ⟨_, .inl e2⟩, by decide, fun t1 ht1 => ?_⟩
        have y1 := same_new ht1 (.tup [.int pq.h, .int pq.d, .int pq.p])
        refine ⟨_, DGet.t (k := kk pq.h pq.d pq.p) (y1 _ _ e2) upd_same, .inr ⟨by omega, by omega⟩, _, iv_get hokj _, by decide, fun t2 ht2 => ?_⟩
        have y2 := y1.trans (same_new ht2 (.tup [.int pq.h, .int pq.d, .int pq.p]))
        exact ⟨_, DPut.t (k := kk pq.h pq.d pq.p) (y2 _ _ e2) upd_same (small1000 (by omega)), same_upd hd (g2.trans y2) _, by rw [upd_same]; rfl⟩
      · rintro σ H2 ⟨v5, v6, v7, v8, g2, e2, rfl⟩
        rw [Paired.length w4, List.take_length] at e2
        have e3 : sumKv (ls.take (i + 1)) = l.1.ps.foldl (addP l.2) (sumKv (ls.take i)) := by
          unfold sumKv
          rw [take_one hli, List.foldl_append]
          rfl
        have e4 : sumB (ls.take (i + 1)) = sumB (ls.take i) + l.1.b * l.2 := by
          unfold sumB
          rw [take_one hli, List.map_append, List.sum_append]
          simp
        rw [e3, e4]
        exact ⟨g2, e2, _, _, _, _, _, _, rfl⟩
    rintro σ H' ⟨v3, v4, v5, v6, v7, v8, g, e, rfl⟩
    rw [hul, List.take_length] at e ⊢
    rw [u1]; clear u1
    walk_at "rd"
    refine ⟨by decide, fun t ht' => ?_⟩
    have g1 := same_new ht' (.tup [.ref d, .int (sumB ls)])
    exact q t d _ (g.trans g1) hd upd_same (g1 _ _ e)
def sp_closes (K : PySem.W.Frag) (C_Ward : Addr) : Sp := fun vs H Q _ => ∃ (x pd a : Addr) (d : Int) (hs : List Int) (ps : List Pst) (pns : List (List Key × V)) (us : List V) (ls : List (Lin × Int)), vs = [.ref x, .ref pd, .ref a] ∧ WardAt C_Ward H x d hs ps ∧ Ok d hs ps ∧ H pd = some (.dT pns) ∧ AllI pns ∧ H a = some (.lst us) ∧ Prs H us ls ∧ (∀ l ∈ ls, -(2 ^ 40) < l.2 ∧ l.2 < 2 ^ 40) ∧ partsN ls ≤ 900 ∧ NumOk hs.length d.toNat (ps.length + 1) (sumKv ls) ∧ ∀ H', Same H H' → Q (.bl (decide (bestN pns (sumKv ls) (fun h => ch (hs[h]?.getD 0) ps) hs.length d.toNat < sumB ls))) H'
theorem sc_closes : FnScope ["ward", "pins", "pairs", "added"] ["ward", "pins", "pairs"] (defScope s_closes) := ⟨rfl, rfl, rfl, by decide +kernel, rfl, by decide +kernel, by decide +kernel⟩
theorem ok_closes {C_Ward : Addr} {f : Addr} {fd : FuncData} (F : Fun K "closes" "closes" s_closes f fd) (T : Txt K mg C_Ward) (C_summed : Cal P w K mg base "summed" ["pairs"] 1 (sp_summed K C_Ward)) (C_best : Cal P w K mg base "best" ["ward", "pins", "numbers"] 3 (sp_best K C_Ward)) : FnOk P w K mg base CX0 4 f fd ["ward", "pins", "pairs"] (sp_closes K C_Ward) := by
  refine F.ok sc_closes (fun vs H Q E h => ?_) (fun cdv A outer s H vs Q E hr h => ?_)
  · obtain ⟨x, pd, a, d, hs, ps, pns, us, ls, rfl, _⟩ := h
    rfl
  · obtain ⟨x, pd, a, d, hs, ps, pns, us, ls, rfl, hW, okw, hp, aip, ha, hP, hb, hl, ok, q⟩ := h
    refine ⟨_, (pss_cons (ps_set (i := 3) sc_closes.nd rfl (Or.inl rfl) (pe_cal C_summed (hr.mono (by decide)) rfl (pa_cons (pv 2) pa_nil)))
    (pss_one (ps_ret (pe_cmpR op_lt (pe_cal C_best (hr.mono (by decide)) rfl (pa_cons (pv 0) (pa_cons (pv 1) (pa_cons (pe_ix ix_tup (pv 3) pe_int (fun _ _ => rfl)) pa_nil)))) (pe_ix ix_tup (pv 3) pe_int (fun _ _ => rfl)) (nomark _))))), ?_⟩
    refine seq_of fun U1 u1 => ?_
    walk_at "rd"
    refine ⟨a, us, ls, rfl, ha, hP, hb, hl, fun t d2 H1 g1 f1 et ed => ?_⟩
    rw [u1]; clear u1
    walk_at "rd"
    have npd : pd ≠ d2 := ne_of_none hp f1
    have kl : (sumKv ls).length ≤ 900 := by
      have z1 : (sumKv ls).length ≤ 0 + partsN ls := sumKv_len
      omega
    refine ⟨_, SqT.of et, _, rfl, x, pd, d2, d, hs, ps, pns, sumKv ls, rfl, hW.mono g1, okw, g1 _ _ hp, ed, npd, aip, ok, kl, fun H2 g2 => ?_⟩
    exact ⟨_, SqT.of (g2 _ _ et), .int (sumB ls), rfl, _, rfl, _, rfl, q H2 (g1.trans g2)⟩
def sp__law_cell (K : PySem.W.Frag) (C_Ward : Addr) : Sp := fun vs H Q _ => ∃ (a : Addr) (ns : List Int) (k : Int), vs = [.ref a, .int k] ∧ SqL K H a (ns.map V.int) ∧ ns.length ≤ 63 ∧ 0 ≤ k ∧ k ≤ 100000 ∧ ∀ v : Int, Q (.int v) H
theorem sc__law_cell : FnScope ["_law_script", "_law_k", "_law_number"] ["_law_script", "_law_k"] (defScope s__law_cell) := ⟨rfl, rfl, rfl, by decide +kernel, rfl, by decide +kernel, by decide +kernel⟩
theorem ok__law_cell {C_Ward : Addr} {f : Addr} {fd : FuncData} (F : Fun K "_law_cell" "_law_cell" s__law_cell f fd) (T : Txt K mg C_Ward)  : FnOk P w K mg base CX0 1 f fd ["_law_script", "_law_k"] (sp__law_cell K C_Ward) := by
  refine F.ok sc__law_cell (fun vs H Q E h => ?_) (fun cdv A outer s H vs Q E hr h => ?_)
  · obtain ⟨a, ns, k, rfl, _⟩ := h
    rfl
  · obtain ⟨a, ns, k, rfl, hS, hl, k0, k1, q⟩ := h
    refine ⟨_, (pss_cons (ps_if (pt_cmpR op_lt (pv 1) (pe_callB (call_lenK (K := K) rfl) (by rfl) T.len PySem.boot_len (pa_cons (pv 0) pa_nil)) (nomark _)) (pss_one (ps_ret (pe_ix ix_list (pv 0) (pv 1) (fun _ _ => rfl)))) pss_nil)
    (pss_cons (ps_set (i := 2) sc__law_cell.nd rfl (Or.inl rfl) (pe_op op_add (pe_op op_mul (pe_op op_mul (pv 1) (pv 1)) pe_int) pe_int))
    (pss_cons (ps_if (pt_cmpR op_gt (pe_callB (call_lenK (K := K) rfl) (by rfl) T.len PySem.boot_len (pa_cons (pv 0) pa_nil)) pe_int (nomark _)) (pss_one (ps_set (i := 2) sc__law_cell.nd rfl (Or.inl rfl) (pe_op op_add (pv 2) (pe_op op_mul (pe_op op_mod (pe_ix ix_list (pv 0) (pe_op op_mod (pv 1) (pe_callB (call_lenK (K := K) rfl) (by rfl) T.len PySem.boot_len (pa_cons (pv 0) pa_nil))) (fun _ _ => rfl)) pe_int) pe_int)))) pss_nil)
    (pss_one (ps_ret (pe_op op_mod (pe_op op_mul (pv 2) pe_int) pe_int)))))), ?_⟩
    walk_at "rd"
    refine ⟨_, .inl hS, ?_⟩
    have kk : k * k ≤ 100000 * 100000 := Int.mul_le_mul k1 k1 k0 (by omega)
    split
    · rename_i hk
      rw [List.length_map] at hk
      obtain ⟨v, hv⟩ := item_of k0 hk
      exact ⟨_, hS, _, hv, q v⟩
    · refine ⟨.inl ⟨by omega, by omega⟩, .inr ⟨by decide, by decide⟩, _, .inl hS, ?_⟩
      split
      · rename_i hp
        rw [List.length_map] at hp
        have hm0 := Int.emod_nonneg k (b := (ns.length : Int)) (by omega)
        have hm1 := Int.emod_lt_of_pos k (b := (ns.length : Int)) hp
        obtain ⟨v, hv⟩ := item_of hm0 hm1
        refine ⟨_, .inl hS, by rw [List.length_map]; exact hp, _, hS, _, by rw [List.length_map]; exact hv, v, rfl, by decide, .inr ⟨by decide, by decide⟩, .inr ⟨by decide, by decide⟩, by decide, q _⟩
      · exact ⟨.inr ⟨by decide, by decide⟩, by decide, q _⟩
def sp__law_hands (K : PySem.W.Frag) (C_Ward : Addr) : Sp := fun vs H Q _ => ∃ (a : Addr) (ns : List Int), vs = [.ref a] ∧ SqL K H a (ns.map V.int) ∧ ns.length ≤ 63 ∧ ∀ (r : Addr) (hs : List Int) (H' : Hp), New H H' r (hs.map V.int) → (∀ x ∈ hs, okH x) → hs.length ≤ 8 → Q (.ref r) H'
theorem sc__law_hands : FnScope ["_law_script", "_law_many"] ["_law_script"] (defScope s__law_hands) := ⟨rfl, rfl, rfl, by decide +kernel, rfl, by decide +kernel, by decide +kernel⟩
theorem ok__law_hands {C_Ward : Addr} {f : Addr} {fd : FuncData} (F : Fun K "_law_hands" "_law_hands" s__law_hands f fd) (T : Txt K mg C_Ward) (C__law_cell : Cal P w K mg base "_law_cell" ["_law_script", "_law_k"] 1 (sp__law_cell K C_Ward)) : FnOk P w K mg base CX0 2 f fd ["_law_script"] (sp__law_hands K C_Ward) := by
  refine F.ok sc__law_hands (fun vs H Q E h => ?_) (fun cdv A outer s H vs Q E hr h => ?_)
  · obtain ⟨a, ns, rfl, _⟩ := h
    rfl
  · obtain ⟨a, ns, rfl, hS, hl, q⟩ := h
    refine ⟨_, (pss_cons (ps_set (i := 1) sc__law_hands.nd rfl (Or.inl rfl) (pe_op op_add pe_int (pe_op op_mod (pe_cal C__law_cell (hr.mono (by decide)) rfl (pa_cons (pv 0) (pa_cons pe_int pa_nil))) pe_int)))
    (pss_cut (ps_if (pt_cmpR op_eq (pe_op op_mod (pe_op op_fdiv (pe_cal C__law_cell (hr.mono (by decide)) rfl (pa_cons (pv 0) (pa_cons pe_int pa_nil))) pe_int) pe_int) pe_int (nomark _)) (pss_one (ps_set (i := 1) sc__law_hands.nd rfl (Or.inl rfl) pe_int)) pss_nil)
    (pss_cut (ps_if (pt_cmpR op_eq (pe_op op_mod (pe_op op_fdiv (pe_cal C__law_cell (hr.mono (by decide)) rfl (pa_cons (pv 0) (pa_cons pe_int pa_nil))) pe_int) pe_int) pe_int (nomark _)) (pss_one (ps_set (i := 1) sc__law_hands.nd rfl (Or.inl rfl) pe_int)) pss_nil)
    (pss_one (ps_ret (pe_comp (own := ["_law_hand"]) (fnames := ["_law_script"]) (fr := [0]) (N' := ["_law_hand", "_law_script"]) ⟨rfl, rfl, rfl, rfl, rfl, rfl, rfl⟩ rfl (pi_range1 rfl T.range (pa_cons (pv 1) pa_nil)) (fun s0 H0 fp0 C0 => ⟨(pg_name (i := 0) (by show (["_law_hand", "_law_script"] : List Str).Nodup; decide +kernel) rfl (Or.inl rfl)), pts_nil, (pe_op op_mod (pe_cal C__law_cell (hr.mono (by decide)) rfl (pa_cons (pv 1) (pa_cons (pe_op op_add pe_int (pv 0)) pa_nil))) (pe_op op_pow pe_int pe_int))⟩))))))), ?_⟩
    refine seq_of fun U1 u1 => ?_
    walk_at "rd"
    refine ⟨a, ns, _, rfl, hS, hl, by decide, by decide, fun c2 => ?_⟩
    walk_at "rd"
    refine ⟨by decide, ?_⟩
    rw [u1]; clear u1
    refine cut_of (fun σ H' => H' = H ∧ ∃ n : Nat, n ≤ 8 ∧ σ = [some (.ref a), some (.int n)]) ?_ ?_
    · walk_at "rd"
      refine ⟨a, ns, _, rfl, hS, hl, by decide, by decide, fun c3 => ?_⟩
      walk_at "rd"
      refine ⟨⟨by decide, by decide⟩, by decide, ?_⟩
      split
      · exact ⟨8, by decide, rfl⟩
      · exact ⟨(1 + c2 % 5).toNat, by omega, by omega⟩
    rintro σ H' ⟨hH, n, n8, rfl⟩
    have hH := hH.symm
    subst hH
    refine cut_of (fun σ H' => H' = H ∧ ∃ n : Nat, n ≤ 8 ∧ σ = [some (.ref a), some (.int n)]) ?_ ?_
    · walk_at "rd"
      refine ⟨a, ns, _, rfl, hS, hl, by decide, by decide, fun c3 => ?_⟩
      walk_at "rd"
      refine ⟨⟨by decide, by decide⟩, by decide, ?_⟩
      split
      · exact ⟨0, by decide, rfl⟩
      · exact ⟨n, n8, rfl⟩
    rintro σ H' ⟨hH, n, n8, rfl⟩
    have hH := hH.symm
    subst hH
    walk_at "rd"
    refine ⟨by omega, by omega, fun D hD => for_rangeW (fun i σ H' => ∃ (hs : List Int) (v0 : Option V), Same H H' ∧ H' D = some (.lst (hs.map V.int)) ∧ (∀ x ∈ hs, okH x) ∧ hs.length = i ∧ σ = [v0, some (.ref a)]) ⟨[], none, same_new hD _, upd_same, (fun q z => by cases z), rfl, rfl⟩ ?_ ?_⟩
    · rintro i σ H' hi ⟨hs, v0, g, e, hh, hhl, rfl⟩
      rw [show (0 + (i : Int)) = i by omega]
      walk_at "rd"
      refine ⟨a, ns, _, rfl, g.seq hS, hl, by omega, by omega, fun c => ?_⟩
      walk_at "rd"
      refine ⟨⟨by decide, by decide, by decide⟩, by decide, _, e, small1000 (by rw [List.length_map]; omega), same_upd hD g _, hs ++ [c % 1073741824], ?_, fun x hx => ?_, by rw [List.length_append, hhl]; rfl⟩
      · rw [upd_same, List.map_append, show (2 : Int) ^ Int.toNat 30 = 1073741824 by decide]
        rfl
      · rcases List.mem_append.mp hx with z | z
        · exact hh x z
        · rw [List.mem_singleton.mp z]
          exact ⟨by omega, by omega⟩
    rintro σ H' ⟨hs, v0, g, e, hh, hhl, rfl⟩
    exact q D hs H' ⟨g, hD, e⟩ hh (by omega)
def sp__law_posts (K : PySem.W.Frag) (C_Ward : Addr) : Sp := fun vs H Q _ => ∃ (a : Addr) (ns : List Int), vs = [.ref a] ∧ SqL K H a (ns.map V.int) ∧ ns.length ≤ 63 ∧ ∀ (r : Addr) (ts : List V) (ps : List Pst) (H' : Hp), Same H H' → H r = none → H' r = some (.lst ts) → Posts H' ts ps → (∀ q ∈ ps, okP q) → ps.length ≤ 6 → Q (.ref r) H'
theorem sc__law_posts : FnScope ["_law_script", "_law_posts_here", "_law_k", "_law_cell_here", "_law_one", "_law_two"] ["_law_script"] (defScope s__law_posts) := ⟨rfl, rfl, rfl, by decide +kernel, rfl, by decide +kernel, by decide +kernel⟩
theorem ok__law_posts {C_Ward : Addr} {f : Addr} {fd : FuncData} (F : Fun K "_law_posts" "_law_posts" s__law_posts f fd) (T : Txt K mg C_Ward) (C__law_cell : Cal P w K mg base "_law_cell" ["_law_script", "_law_k"] 1 (sp__law_cell K C_Ward)) : FnOk P w K mg base CX0 2 f fd ["_law_script"] (sp__law_posts K C_Ward) := by
  refine F.ok sc__law_posts (fun vs H Q E h => ?_) (fun cdv A outer s H vs Q E hr h => ?_)
  · obtain ⟨a, ns, rfl, _⟩ := h
    rfl
  · obtain ⟨a, ns, rfl, hS, hl, q⟩ := h
    refine ⟨_, (pss_cons (ps_set (i := 1) sc__law_posts.nd rfl (Or.inl rfl) (pe_lst pa_nil))
    (pss_cons (ps_for PassesOwn.never rfl (pi_range1 rfl T.range (pa_cons (pe_op op_mod (pe_cal C__law_cell (hr.mono (by decide)) rfl (pa_cons (pv 0) (pa_cons pe_int pa_nil))) pe_int) pa_nil)) (pg_name (i := 2) sc__law_posts.nd rfl (Or.inl rfl))
      (pss_cons (ps_set (i := 3) sc__law_posts.nd rfl (Or.inl rfl) (pe_cal C__law_cell (hr.mono (by decide)) rfl (pa_cons (pv 0) (pa_cons (pe_op op_add pe_int (pv 2)) pa_nil))))
        (pss_cons (ps_set (i := 4) sc__law_posts.nd rfl (Or.inl rfl) (pe_op op_shl pe_int (pe_op op_mod (pe_op op_fdiv (pv 3) pe_int) pe_int)))
        (pss_cons (ps_set (i := 5) sc__law_posts.nd rfl (Or.inl rfl) (pe_op op_or (pv 4) (pe_op op_shl pe_int (pe_op op_mod (pe_op op_fdiv (pv 3) pe_int) pe_int))))
        (pss_one (ps_expr (pe_bm PySem.F.plainAttrs_list PySem.F.slot_list_append PySem.F.type_list_append mt_append (pv 1) (pa_cons (pe_tup (pa_cons (pe_ix ix_list (pe_lst (pa_cons pe_int (pa_cons (pv 4) (pa_cons (pv 5) pa_nil)))) (pe_op op_mod (pv 3) pe_int) (fun _ _ => rfl)) (pa_cons (pe_op op_mod (pe_op op_fdiv (pv 3) pe_int) (pe_op op_add (pe_op op_pow pe_int pe_int) pe_int)) (pa_cons (pe_op op_mod (pe_op op_fdiv (pv 3) pe_int) pe_int) pa_nil)))) pa_nil))))))))
    (pss_one (ps_ret (pv 1))))), ?_⟩
    refine seq_of fun U1 u1 => ?_
    walk_at "rd"
    refine ⟨Nat.zero_le _, fun p hp => ?_⟩
    have g0 := same_new hp (.lst [])
    rw [u1]; clear u1
    refine seq_of fun U1 u1 => for_of fun B1 b1 => ?_
    walk_at "rd"
    refine ⟨a, ns, _, rfl, g0.seq hS, hl, by decide, by decide, fun c => ?_⟩
    refine ⟨c, rfl, by decide, by omega, by omega, for_rangeW (fun i σ H' => PsG H p i H' ∧ ∃ v2 v3 v4 v5, σ = [some (.ref a), some (.ref p), v2, v3, v4, v5]) ⟨PsG.start hp, none, none, none, none, rfl⟩ ?_ ?_⟩
    · rintro i σ H' hi ⟨pg, v2, v3, v4, v5, rfl⟩
      have hi7 : i < 7 := by omega
      rw [show (0 + (i : Int)) = i by omega]
      rw [b1]
      refine seq_of fun U2 u2 => ?_
      walk_at "rd"
      refine ⟨a, ns, _, rfl, pg.same.seq hS, hl, by omega, by omega, fun c2 => ?_⟩
      rw [u2]; clear u2
      refine seq_of fun U2 u2 => ?_
      walk_at "rd"
      refine ⟨⟨by decide, by decide⟩, by decide, ⟨Int.emod_nonneg _ (by decide), ?_, by decide⟩, ?_⟩
      · have := Int.emod_lt_of_pos (c2 / 3) (b := 30) (by decide)
        omega
      rw [Int.one_mul]
      have o1 := pow30 (Int.emod_nonneg (c2 / 3) (b := 30) (by decide)) (Int.emod_lt_of_pos _ (by decide))
      generalize (2 : Int) ^ (c2 / 3 % 30).toNat = w1 at o1 ⊢
      rw [u2]; clear u2
      refine seq_of fun U2 u2 => ?_
      walk_at "rd"
      refine ⟨⟨by decide, by decide⟩, by decide, ⟨Int.emod_nonneg _ (by decide), ?_, by decide⟩, ?_⟩
      · have := Int.emod_lt_of_pos (c2 / 90) (b := 30) (by decide)
        omega
      rw [Int.one_mul]
      have o2 := okH_or o1 (pow30 (Int.emod_nonneg (c2 / 90) (b := 30) (by decide)) (Int.emod_lt_of_pos _ (by decide)))
      generalize Builtin.bitOr w1 ((2 : Int) ^ (c2 / 90 % 30).toNat) = w2 at o2 ⊢
      rw [u2]; clear u2
      obtain ⟨ts6, ps6, pl6, gg6, e6, _⟩ := pg.ex
      walk_at "rd"
      refine ⟨.inl ⟨rfl, _, SqL.of e6⟩, by decide, fun p3 hp3 => ?_⟩
      obtain ⟨u, hu, hu3⟩ := thr3v (x := 0) (y := w1) (w := w2) (Int.emod_nonneg c2 (b := 3) (by decide)) (Int.emod_lt_of_pos _ (by decide))
      have hou : okH u := by
        rcases hu3 with rfl | rfl | rfl
        · exact ⟨by decide, by decide⟩
        · exact o1
        · exact o2
      have m0 := Int.emod_nonneg (c2 / 2700) (b := 1000000001) (by decide)
      have m1 := Int.emod_lt_of_pos (c2 / 2700) (b := 1000000001) (by decide)
      have n0 := Int.emod_nonneg (c2 / 7) (b := 2) (by decide)
      have n1 := Int.emod_lt_of_pos (c2 / 7) (b := 2) (by decide)
      refine ⟨by decide, _, SqL.of upd_same, .int u, hu, ⟨by decide, by decide⟩, ⟨by decide, by decide, by decide⟩, by decide, ⟨by decide, by decide⟩, by decide, by decide, fun t ht => ?_⟩
      rw [show (10 : Int) ^ Int.toNat 9 + 1 = 1000000001 by decide]
      exact (pg.mono (same_new hp3 _)).step (q := (u, c2 / 2700 % 1000000001, c2 / 7 % 2)) hp (by omega) ht ⟨hou, ⟨m0, by show c2 / 2700 % 1000000001 ≤ _; omega⟩, ⟨n0, by show c2 / 7 % 2 ≤ 1; omega⟩⟩
    rintro σ H' ⟨pg, v2, v3, v4, v5, rfl⟩
    obtain ⟨ts, ps, pl, g, e, hP, okp⟩ := pg.ex
    rw [u1]; clear u1
    walk_at "rd"
    exact q p ts ps H' g hp e hP okp (by omega)
def sp__law_pins (K : PySem.W.Frag) (C_Ward : Addr) : Sp := fun vs H Q _ => ∃ (a s : Addr) (ns : List Int) (D : Nat) (us : List V) (rows : List (List Int)), vs = [.ref a, .int D, .ref s] ∧ SqL K H a (ns.map V.int) ∧ ns.length ≤ 63 ∧ 1 ≤ D ∧ D ≤ 31 ∧ H s = some (.lst us) ∧ Rows H us rows ∧ (∀ r ∈ rows, 0 < r.length ∧ r.length ≤ 9) ∧ rows.length ≤ 8 ∧ ∀ r pns H', Same H H' → H r = none → H' r = some (.dT pns) → PinOk rows.length D 0 pns → Q (.ref r) H'
theorem sc__law_pins : FnScope ["_law_script", "_law_days", "_law_some", "_law_pins_here", "_law_k", "_law_cell_here", "_law_hand", "_law_own"] ["_law_script", "_law_days", "_law_some"] (defScope s__law_pins) := ⟨rfl, rfl, rfl, by decide +kernel, rfl, by decide +kernel, by decide +kernel⟩
theorem ok__law_pins {C_Ward : Addr} {f : Addr} {fd : FuncData} (F : Fun K "_law_pins" "_law_pins" s__law_pins f fd) (T : Txt K mg C_Ward) (C__law_cell : Cal P w K mg base "_law_cell" ["_law_script", "_law_k"] 1 (sp__law_cell K C_Ward)) : FnOk P w K mg base CX0 2 f fd ["_law_script", "_law_days", "_law_some"] (sp__law_pins K C_Ward) := by
  refine F.ok sc__law_pins (fun vs H Q E h => ?_) (fun cdv A outer s H vs Q E hr h => ?_)
  · obtain ⟨a, s, ns, D, us, rows, rfl, _⟩ := h
    rfl
  · obtain ⟨a, s, ns, D, us, rows, rfl, hS, hl, D1, D2, es, hR, hr9, h8, q⟩ := h
    refine ⟨_, (pss_cons (ps_set (i := 3) sc__law_pins.nd rfl (Or.inl rfl) pe_dnewT)
    (pss_cons (ps_if (pt_cmpR (op_eqD 1 hr) (pv 2) (pe_lst pa_nil) (nomark _)) (pss_one (ps_ret (pv 3))) pss_nil)
    (pss_cons (ps_for PassesOwn.never rfl (pi_range1 rfl T.range (pa_cons (pe_op op_mod (pe_cal C__law_cell (hr.mono (by decide)) rfl (pa_cons (pv 0) (pa_cons pe_int pa_nil))) pe_int) pa_nil)) (pg_name (i := 4) sc__law_pins.nd rfl (Or.inl rfl))
      (pss_cons (ps_set (i := 5) sc__law_pins.nd rfl (Or.inl rfl) (pe_cal C__law_cell (hr.mono (by decide)) rfl (pa_cons (pv 0) (pa_cons (pe_op op_add pe_int (pv 4)) pa_nil))))
        (pss_cons (ps_set (i := 6) sc__law_pins.nd rfl (Or.inl rfl) (pe_op op_mod (pv 5) (pe_callB (call_lenK (K := K) rfl) (by rfl) T.len PySem.boot_len (pa_cons (pv 2) pa_nil))))
        (pss_cons (ps_set (i := 7) sc__law_pins.nd rfl (Or.inl rfl) (pe_ix ix_list (pv 2) (pv 6) (fun _ _ => rfl)))
        (pss_one (ps_dput (hu_of hr) (pv 3) (pe_tup (pa_cons (pv 6) (pa_cons (pe_op op_mod (pe_op op_fdiv (pv 5) pe_int) (pv 1)) pa_nil))) (pe_ix ix_list (pv 7) (pe_op op_mod (pe_op op_fdiv (pv 5) pe_int) (pe_callB (call_lenK (K := K) rfl) (by rfl) T.len PySem.boot_len (pa_cons (pv 7) pa_nil))) (fun _ _ => rfl)) rfl))))))
    (pss_one (ps_ret (pv 3)))))), ?_⟩
    refine seq_of fun U1 u1 => ?_
    walk_at "rd"
    intro p hp
    have g0 := same_new hp (.dT [])
    rw [u1]; clear u1
    refine seq_of fun U1 u1 => ?_
    walk_at "rd"
    refine ⟨Nat.zero_le _, fun p1 hp1 => ?_⟩
    have g1 := same_new hp1 (.lst [])
    have G := g0.trans g1
    refine ⟨_, _, _, _, rfl, rfl, den_rows (SqL.of (G _ _ es)) (hR.mono G), den_ints (ns := []) (SqL.of upd_same), like_nil, _, rfl, ?_⟩
    rw [eqD_rows]
    have ed := g1 _ _ (upd_same (H := H) (a := p) (o := .dT []))
    by_cases z : rows = []
    · rw [if_pos (decide_eq_true z)]
      exact q p [] _ G hp ed PinOk.nil
    rw [if_neg (by simp [z])]
    have hn : 0 < rows.length := List.length_pos_iff.mpr z
    clear z
    revert G ed
    generalize upd (upd H p (.dT [])) p1 (.lst []) = H1
    intro G ed
    clear g1 hp1 g0
    rw [u1]; clear u1
    refine seq_of fun U1 u1 => for_of fun B1 b1 => ?_
    walk_at "rd"
    refine ⟨a, ns, _, rfl, G.seq hS, hl, by decide, by decide, fun c => ?_⟩
    refine ⟨c, rfl, by decide, by omega, by omega, for_rangeW (fun i σ H' => Same H H' ∧ (∃ pns, H' p = some (.dT pns) ∧ PinOk rows.length D 0 pns ∧ pns.length ≤ i) ∧ ∃ v4 v5 v6 v7, σ = [some (.ref a), some (.int D), some (.ref s), some (.ref p), v4, v5, v6, v7]) ⟨G, ⟨[], ed, PinOk.nil, Nat.le_refl _⟩, none, none, none, none, rfl⟩ ?_ ?_⟩
    · rintro i σ H' hi ⟨g, ⟨pns, e, pok, pl⟩, v4, v5, v6, v7, rfl⟩
      have hi11 : i < 11 := by omega
      rw [show (0 + (i : Int)) = i by omega]
      rw [b1]
      refine seq_of fun U2 u2 => ?_
      walk_at "rd"
      refine ⟨a, ns, _, rfl, g.seq hS, hl, by omega, by omega, fun c2 => ?_⟩
      rw [u2]; clear u2
      refine seq_of fun U2 u2 => ?_
      walk_at "rd"
      refine ⟨_, .inl (SqL.of (g _ _ es)), ?_⟩
      rw [hR.len]
      obtain ⟨hh, eh, hhl⟩ : ∃ hh : Nat, c2 % (rows.length : Int) = hh ∧ hh < rows.length := ⟨(c2 % (rows.length : Int)).toNat, by have := Int.emod_nonneg c2 (b := (rows.length : Int)) (by omega); omega, by have := Int.emod_lt_of_pos c2 (b := (rows.length : Int)) (by omega); omega⟩
      rw [eh]
      refine ⟨by omega, ?_⟩
      rw [u2]; clear u2
      refine seq_of fun U2 u2 => ?_
      walk_at "rd"
      obtain ⟨t1, a1, q1⟩ := (hR.mono g).get (List.getElem?_eq_getElem hhl)
      refine ⟨_, SqL.of (g _ _ es), _, atI_nat a1, ?_⟩
      rw [u2]; clear u2
      walk_at "rd"
      have hw := hr9 _ (List.getElem_mem hhl)
      obtain ⟨kx, ek, kxl⟩ : ∃ kx : Nat, c2 / 248 % (rows[hh].length : Int) = kx ∧ kx < rows[hh].length := ⟨(c2 / 248 % (rows[hh].length : Int)).toNat, by have := Int.emod_nonneg (c2 / 248) (b := (rows[hh].length : Int)) (by omega); omega, by have := Int.emod_lt_of_pos (c2 / 248) (b := (rows[hh].length : Int)) (by omega); omega⟩
      obtain ⟨dx, ed2, dxl⟩ : ∃ dx : Nat, c2 / 8 % (D : Int) = dx ∧ dx < D := ⟨(c2 / 8 % (D : Int)).toNat, by have := Int.emod_nonneg (c2 / 8) (b := (D : Int)) (by omega); omega, by have := Int.emod_lt_of_pos (c2 / 8) (b := (D : Int)) (by omega); omega⟩
      rw [ed2]
      refine ⟨⟨by decide, by decide⟩, _, .inl (SqL.of q1), by rw [List.length_map]; omega, _, SqL.of q1, .int rows[hh][kx], by rw [List.length_map, ek]; exact atI_nat (by rw [List.getElem?_map, List.getElem?_eq_getElem kxl]; rfl), ⟨by decide, by decide⟩, by omega, by decide, fun t2 ht2 => ?_⟩
      have g2 := same_new ht2 (.tup [.int hh, .int dx])
      refine ⟨_, DPut.t (k := k2 hh dx) (g2 _ _ e) upd_same (small1000 (by omega)), same_upd hp (g.trans g2) _, _, upd_same, pok.put hhl dxl _, ?_⟩
      have := length_putK pns (k2 hh dx) (.int rows[hh][kx])
      omega
    rintro σ H' ⟨g, ⟨pns, e, pok, pl⟩, v4, v5, v6, v7, rfl⟩
    rw [u1]; clear u1
    walk_at "rd"
    exact q p pns H' g hp e pok
def sp__law_numbers (K : PySem.W.Frag) (C_Ward : Addr) : Sp := fun vs H Q _ => ∃ (a s : Addr) (ns : List Int) (D P : Nat) (us : List V) (rows : List (List Int)), vs = [.ref a, .int D, .ref s, .int P] ∧ SqL K H a (ns.map V.int) ∧ ns.length ≤ 63 ∧ 1 ≤ D ∧ D ≤ 31 ∧ P ≤ 6 ∧ H s = some (.lst us) ∧ Rows H us rows ∧ rows.length ≤ 8 ∧ ∀ r kvs H', Same H H' → H r = none → H' r = some (.dT kvs) → NumOk rows.length D (P + 1) kvs → kvs.length ≤ 21 → Q (.ref r) H'
theorem sc__law_numbers : FnScope ["_law_script", "_law_days", "_law_some", "_law_posts_here", "_law_numbers_here", "_law_k", "_law_cell_here", "_law_day", "_law_spot", "_law_number"] ["_law_script", "_law_days", "_law_some", "_law_posts_here"] (defScope s__law_numbers) := ⟨rfl, rfl, rfl, by decide +kernel, rfl, by decide +kernel, by decide +kernel⟩
theorem ok__law_numbers {C_Ward : Addr} {f : Addr} {fd : FuncData} (F : Fun K "_law_numbers" "_law_numbers" s__law_numbers f fd) (T : Txt K mg C_Ward) (C__law_cell : Cal P w K mg base "_law_cell" ["_law_script", "_law_k"] 1 (sp__law_cell K C_Ward)) : FnOk P w K mg base CX0 2 f fd ["_law_script", "_law_days", "_law_some", "_law_posts_here"] (sp__law_numbers K C_Ward) := by
  refine F.ok sc__law_numbers (fun vs H Q E h => ?_) (fun cdv A outer s H vs Q E hr h => ?_)
  · obtain ⟨a, s, ns, D, P, us, rows, rfl, _⟩ := h
    rfl
  · obtain ⟨a, s, ns, D, P, us, rows, rfl, hS, hl, D1, D2, P6, es, hR, h8, q⟩ := h
    refine ⟨_, (pss_cons (ps_set (i := 4) sc__law_numbers.nd rfl (Or.inl rfl) pe_dnewT)
    (pss_cons (ps_if (pt_cmpR (op_eqD 1 hr) (pv 2) (pe_lst pa_nil) (nomark _)) (pss_one (ps_ret (pv 4))) pss_nil)
    (pss_cons (ps_for PassesOwn.never rfl (pi_range1 rfl T.range (pa_cons (pe_op op_mod (pe_cal C__law_cell (hr.mono (by decide)) rfl (pa_cons (pv 0) (pa_cons pe_int pa_nil))) pe_int) pa_nil)) (pg_name (i := 5) sc__law_numbers.nd rfl (Or.inl rfl))
      (pss_cons (ps_set (i := 6) sc__law_numbers.nd rfl (Or.inl rfl) (pe_cal C__law_cell (hr.mono (by decide)) rfl (pa_cons (pv 0) (pa_cons (pe_op op_add pe_int (pe_op op_mul pe_int (pv 5))) pa_nil))))
        (pss_cons (ps_set (i := 7) sc__law_numbers.nd rfl (Or.inl rfl) (pe_op op_mod (pe_op op_fdiv (pv 6) pe_int) (pe_callB (call_min2 rfl) (by rfl) T.min PyProof.Rows.boot_min (pa_cons (pv 1) (pa_cons (pe_op op_add pe_int (pe_op op_mod (pe_op op_fdiv (pv 6) pe_int) pe_int)) pa_nil)))))
        (pss_cons (ps_set (i := 8) sc__law_numbers.nd rfl (Or.inl rfl) (pe_tup (pa_cons (pe_op op_mod (pv 6) (pe_callB (call_lenK (K := K) rfl) (by rfl) T.len PySem.boot_len (pa_cons (pv 2) pa_nil))) (pa_cons (pv 7) (pa_cons (pe_op op_mod (pe_op op_fdiv (pv 6) pe_int) (pe_op op_add (pv 3) pe_int)) pa_nil)))))
        (pss_cons (ps_set (i := 9) sc__law_numbers.nd rfl (Or.inl rfl) (pe_op op_sub (pe_op op_mod (pe_cal C__law_cell (hr.mono (by decide)) rfl (pa_cons (pv 0) (pa_cons (pe_op op_add pe_int (pe_op op_mul pe_int (pv 5))) pa_nil))) (pe_op op_add (pe_op op_mul pe_int (pe_op op_pow pe_int pe_int)) pe_int)) (pe_op op_pow pe_int pe_int)))
        (pss_cut (ps_if (pt_cmpR op_eq (pe_op op_mod (pe_op op_fdiv (pv 6) pe_int) pe_int) pe_int (nomark _)) (pss_one (ps_set (i := 9) sc__law_numbers.nd rfl (Or.inl rfl) (pe_op op_sub (pe_op op_mod (pe_cal C__law_cell (hr.mono (by decide)) rfl (pa_cons (pv 0) (pa_cons (pe_op op_add pe_int (pe_op op_mul pe_int (pv 5))) pa_nil))) pe_int) pe_int))) pss_nil)
        (pss_one (ps_dput (hu_of hr) (pv 4) (pv 8) (pv 9) rfl))))))))
    (pss_one (ps_ret (pv 4)))))), ?_⟩
    refine seq_of fun U1 u1 => ?_
    walk_at "rd"
    intro p hp
    have g0 := same_new hp (.dT [])
    rw [u1]; clear u1
    refine seq_of fun U1 u1 => ?_
    walk_at "rd"
    refine ⟨Nat.zero_le _, fun p1 hp1 => ?_⟩
    have g1 := same_new hp1 (.lst [])
    have G := g0.trans g1
    refine ⟨_, _, _, _, rfl, rfl, den_rows (SqL.of (G _ _ es)) (hR.mono G), den_ints (ns := []) (SqL.of upd_same), like_nil, _, rfl, ?_⟩
    rw [eqD_rows]
    have ed := g1 _ _ (upd_same (H := H) (a := p) (o := .dT []))
    by_cases z : rows = []
    · rw [if_pos (decide_eq_true z)]
      exact q p [] _ G hp ed NumOk.nil (Nat.zero_le _)
    rw [if_neg (by simp [z])]
    have hn : 0 < rows.length := List.length_pos_iff.mpr z
    clear z
    revert G ed
    generalize upd (upd H p (.dT [])) p1 (.lst []) = H1
    intro G ed
    clear g1 hp1 g0
    rw [u1]; clear u1
    refine seq_of fun U1 u1 => for_of fun B1 b1 => ?_
    walk_at "rd"
    refine ⟨a, ns, _, rfl, G.seq hS, hl, by decide, by decide, fun c => ?_⟩
    refine ⟨c, rfl, by decide, by omega, by omega, for_rangeW (fun i σ H' => Same H H' ∧ (∃ kvs, H' p = some (.dT kvs) ∧ NumOk rows.length D (P + 1) kvs ∧ kvs.length ≤ i) ∧ ∃ v5 v6 v7 v8 v9, σ = [some (.ref a), some (.int D), some (.ref s), some (.int P), some (.ref p), v5, v6, v7, v8, v9]) ⟨G, ⟨[], ed, NumOk.nil, Nat.le_refl _⟩, none, none, none, none, none, rfl⟩ ?_ ?_⟩
    · rintro i σ H' hi ⟨g, ⟨kvs, e, nok, kl⟩, v5, v6, v7, v8, v9, rfl⟩
      have hi11 : i < 21 := by omega
      rw [show (0 + (i : Int)) = i by omega]
      rw [b1]
      refine seq_of fun U2 u2 => ?_
      walk_at "rd"
      refine ⟨.inl ⟨by decide, by decide⟩, a, ns, _, rfl, g.seq hS, hl, by omega, by omega, fun c2 => ?_⟩
      rw [u2]; clear u2
      refine seq_of fun U2 u2 => ?_
      walk_at "rd"
      have hmin : ∃ m : Nat, (if 1 + c2 / 248 % 31 < (D : Int) then 1 + c2 / 248 % 31 else (D : Int)) = m ∧ 0 < m ∧ m ≤ D := by
        have h0 := Int.emod_nonneg (c2 / 248) (b := 31) (by decide)
        split
        · exact ⟨(1 + c2 / 248 % 31).toNat, by omega, by omega, by omega⟩
        · exact ⟨D, rfl, by omega, Nat.le_refl _⟩
      obtain ⟨m, em, m0, mD⟩ := hmin
      rw [em]
      obtain ⟨dx, ed2, dxl⟩ : ∃ dx : Nat, c2 / 8 % (m : Int) = dx ∧ dx < D := ⟨(c2 / 8 % (m : Int)).toNat, by have := Int.emod_nonneg (c2 / 8) (b := (m : Int)) (by omega); omega, by have := Int.emod_lt_of_pos (c2 / 8) (b := (m : Int)) (by omega); omega⟩
      rw [ed2]
      refine ⟨⟨by decide, by decide⟩, ⟨by decide, by decide⟩, by decide, by omega, ?_⟩
      rw [u2]; clear u2
      refine seq_of fun U2 u2 => ?_
      walk_at "rd"
      obtain ⟨hx, eh, hxl⟩ : ∃ hh : Nat, c2 % (rows.length : Int) = hh ∧ hh < rows.length := ⟨(c2 % (rows.length : Int)).toNat, by have := Int.emod_nonneg c2 (b := (rows.length : Int)) (by omega); omega, by have := Int.emod_lt_of_pos c2 (b := (rows.length : Int)) (by omega); omega⟩
      obtain ⟨px, epx, pxl⟩ : ∃ px : Nat, c2 / 7688 % ((P : Int) + 1) = px ∧ px < P + 1 := ⟨(c2 / 7688 % ((P : Int) + 1)).toNat, by have := Int.emod_nonneg (c2 / 7688) (b := ((P : Int) + 1)) (by omega); omega, by have := Int.emod_lt_of_pos (c2 / 7688) (b := ((P : Int) + 1)) (by omega); omega⟩
      refine ⟨_, .inl (SqL.of (g _ _ es)), by rw [hR.len]; omega, ⟨by decide, by decide⟩, by omega, by decide, fun t2 ht2 => ?_⟩
      rw [hR.len, eh, epx]
      have g2 := same_new ht2 (.tup [.int hx, .int dx, .int px])
      have e2 := g2 _ _ e
      have et := upd_same (H := H') (a := t2) (o := .tup [.int hx, .int dx, .int px])
      have G2 := g.trans g2
      generalize upd H' t2 (.tup [.int hx, .int dx, .int px]) = H2 at e2 et G2 ⊢
      clear g2 ht2
      rw [u2]; clear u2
      refine seq_of fun U2 u2 => ?_
      walk_at "rd"
      refine ⟨.inl ⟨by decide, by decide⟩, a, ns, _, rfl, G2.seq hS, hl, by omega, by omega, fun c3 => ?_⟩
      refine ⟨⟨by decide, by decide, by decide⟩, .inl ⟨by decide, by decide⟩, c3, rfl, by decide, ⟨by decide, by decide, by decide⟩, ?_⟩
      generalize c3 % (2 * 10 ^ Int.toNat 60 + 1) - 10 ^ Int.toNat 60 = n1
      rw [u2]; clear u2
      refine cut_of (fun σ H' => H' = H2 ∧ ∃ n : Int, σ = [some (.ref a), some (.int D), some (.ref s), some (.int P), some (.ref p), some (.int i), some (.int c2), some (.int dx), some (.ref t2), some (.int n)]) ?_ ?_
      · walk_at "rd"
        refine ⟨⟨by decide, by decide⟩, by decide, ?_⟩
        split
        · walk_at "rd"
          refine ⟨.inl ⟨by decide, by decide⟩, a, ns, _, rfl, G2.seq hS, hl, by omega, by omega, fun c4 => ?_⟩
          refine ⟨c4, rfl, by decide, ?_⟩
          first | exact ⟨rfl, _, rfl⟩ | rfl | trivial
        · first | exact ⟨rfl, n1, rfl⟩ | rfl | trivial
      rintro σ H3 ⟨hH, n, rfl⟩
      have hH := hH.symm
      subst hH
      walk_at "rd"
      refine ⟨_, DPut.t (k := kk hx dx px) e2 et (small1000 (by omega)), same_upd hp G2 _, _, upd_same, nok.put hxl dxl pxl _, ?_⟩
      have := length_putK kvs (kk hx dx px) (.int n)
      omega
    rintro σ H' ⟨g, ⟨kvs, e, nok, kl⟩, v5, v6, v7, v8, v9, rfl⟩
    rw [u1]; clear u1
    walk_at "rd"
    exact q p kvs H' g hp e nok (by omega)
def sp__law_total (K : PySem.W.Frag) (C_Ward : Addr) : Sp := fun vs H Q _ => ∃ (r nd : Addr) (us : List V) (rows : List (List Int)) (D P : Nat) (kvs : List (List Key × V)), vs = [.ref r, .ref nd] ∧ H r = some (.lst us) ∧ Rows H us rows ∧ (∀ row ∈ rows, row.length = D) ∧ H nd = some (.dT kvs) ∧ NumOk rows.length D P kvs ∧ ∀ H', Same H H' → Q (.int (totK (fun h d => val rows h d) kvs)) H'
theorem sc__law_total : FnScope ["_law_rota", "_law_numbers_here", "_law_found", "_law_hand", "_law_day", "_law_post"] ["_law_rota", "_law_numbers_here"] (defScope s__law_total) := ⟨rfl, rfl, rfl, by decide +kernel, rfl, by decide +kernel, by decide +kernel⟩
theorem ok__law_total {C_Ward : Addr} {f : Addr} {fd : FuncData} (F : Fun K "_law_total" "_law_total" s__law_total f fd) (T : Txt K mg C_Ward)  : FnOk P w K mg base CX0 1 f fd ["_law_rota", "_law_numbers_here"] (sp__law_total K C_Ward) := by
  refine F.ok sc__law_total (fun vs H Q E h => ?_) (fun cdv A outer s H vs Q E hr h => ?_)
  · obtain ⟨r, nd, us, rows, D, P, kvs, rfl, _⟩ := h
    rfl
  · obtain ⟨r, nd, us, rows, D, P, kvs, rfl, er, hR, hD, en, ok, q⟩ := h
    refine ⟨_, (pss_cons (ps_set (i := 2) sc__law_total.nd rfl (Or.inl rfl) pe_int)
    (pss_cons (ps_for PassesOwn.never rfl (pi_dictT (pv 1)) (pg_tup (n := 3) rfl (pgs_cons (pg_name (i := 3) sc__law_total.nd rfl (Or.inl rfl)) (pgs_cons (pg_name (i := 4) sc__law_total.nd rfl (Or.inl rfl)) (pgs_cons (pg_name (i := 5) sc__law_total.nd rfl (Or.inl rfl)) pgs_nil))))
      (pss_one (ps_if (pt_cmpR op_eq (pe_ix ix_list (pe_ix ix_list (pv 0) (pv 3) (fun _ _ => rfl)) (pv 4) (fun _ _ => rfl)) (pv 5) (nomark _)) (pss_one (ps_set (i := 2) sc__law_total.nd rfl (Or.inl rfl) (pe_op op_add (pv 2) (pe_dget (hu_of hr) (pv 1) (pe_tup (pa_cons (pv 3) (pa_cons (pv 4) (pa_cons (pv 5) pa_nil)))) (fun _ _ => rfl))))) pss_nil)))
    (pss_thaw (pss_one (ps_ret (pv 2)))))), ?_⟩
    refine seq_of fun U1 u1 => ?_
    walk_at "rd"
    rw [u1]; clear u1
    refine seq_of fun U1 u1 => for_of fun B1 b1 => ?_
    walk_at "rd"
    refine ⟨kvs, en, fun ob => for_dictW (fun i σ H' => Same (upd H nd (.frz ob (.dT kvs))) H' ∧ ∃ v3 v4 v5, σ = [some (.ref r), some (.ref nd), some (.int (totK (fun h d => val rows h d) (kvs.take i))), v3, v4, v5]) ⟨Same.refl _, none, none, none, rfl⟩ (fun i σ H' _ hh => hh.1 _ _ upd_same) ?_ ?_⟩
    · rintro i bk k v σ H' hk hb ⟨g, v3, v4, v5, rfl⟩
      have ev := val_at ok.ky hk
      obtain ⟨n, rfl⟩ := ok.ai k v ev
      obtain ⟨h, d, p, e, c1, c2, c3⟩ := ok.inb _ (List.mem_of_getElem? hk)
      have e : k = kk h d p := e
      subst e
      have er' := g _ _ (frz_get (o := .frz ob (.dT kvs)) en er (fun k z => by cases z))
      have hR' := (hR.frz en (.frz ob (.dT kvs))).mono g
      obtain ⟨t1, a1, q1⟩ := hR'.get (List.getElem?_eq_getElem c1)
      have l1 := hD _ (List.getElem_mem c1)
      have hm : d < rows[h].length := by omega
      have ev2 : val rows h d = rows[h][d] := val_of (List.getElem?_eq_getElem c1) hm
      rw [totK_take hk]
      show ∃ a, _
      refine ⟨_, rfl, _, SqT.of hb, rfl, _, _, rfl, _, _, rfl, _, _, rfl, rfl, ?_⟩
      rw [b1]
      walk_at "rd"
      refine ⟨_, _, rfl, SqL.of er', _, atI_nat a1, t1, rfl, _, _, rfl, SqL.of q1, .int rows[h][d], atI_nat (by rw [List.getElem?_map, List.getElem?_eq_getElem hm]; rfl), rfl, ?_⟩
      show if V.int rows[h][d] = V.int p then _ else _
      have e1 : val rows (ka (kk h d p) 0).toNat (ka (kk h d p) 1).toNat = rows[h][d] := ev2
      rw [e1]
      by_cases z : rows[h][d] = (p : Int)
      · rw [if_pos (by rw [z]), if_pos (by exact z)]
        refine ⟨by decide, fun t2 ht2 => ?_⟩
        have g2 := same_new ht2 (.tup [.int h, .int d, .int p])
        exact ⟨.int n, .inr ⟨kvs, kk h d p, t2, .inr ⟨ob, (g.trans g2) _ _ upd_same⟩, rfl, upd_same, ev.symm⟩, n, rfl, g.trans g2, rfl⟩
      · rw [if_neg (fun y => z (V.int.inj y)), if_neg (by exact z)]
        exact ⟨g, (Int.add_zero _).symm⟩
    rintro σ H' ⟨g, v3, v4, v5, rfl⟩
    rw [u1]; clear u1
    walk_at "rd"
    refine ⟨nd, ob, kvs, g _ _ upd_same, fun _ _ z => ?_, ?_⟩
    · rw [en] at z
      cases z
    rw [List.take_length]
    exact q _ (thaw_same en g)
def sp__law_lines (K : PySem.W.Frag) (C_Ward : Addr) : Sp := fun vs H Q _ => ∃ (a nd : Addr) (ns : List Int) (n D P : Nat) (kvs : List (List Key × V)) (due : Int), vs = [.ref a, .ref nd, .int due] ∧ SqL K H a (ns.map V.int) ∧ ns.length ≤ 63 ∧ H nd = some (.dT kvs) ∧ NumOk n D P kvs ∧ n ≤ 8 ∧ D ≤ 31 ∧ P ≤ 7 ∧ kvs.length ≤ 21 ∧ ∀ (t pr : Addr) (us : List V) (ls : List (Lin × Int)) (short : Int) (H' : Hp), Same H H' → H' t = some (.tup [.ref pr, .int short]) → H' pr = some (.lst us) → Prs H' us ls → us.length ≤ 3 → (∀ l ∈ ls, -(2 ^ 40) < l.2 ∧ l.2 < 2 ^ 40) → partsN ls ≤ 900 → NumOk n D P (sumKv ls) → (∀ h d p : Int, nO (sumKv ls) h d p = nO kvs h d p) → sumB ls = due + short → Q (.ref t) H'
theorem sc__law_lines : FnScope ["_law_script", "_law_numbers_here", "_law_due", "_law_times", "_law_ones", "_law_others", "_law_hand", "_law_day", "_law_post", "_law_number", "_law_share", "_law_first", "_law_far", "_law_short", "_law_less", "_law_third", "_law_bound", "_law_pairs"] ["_law_script", "_law_numbers_here", "_law_due"] (defScope s__law_lines) := ⟨rfl, rfl, rfl, by decide +kernel, rfl, by decide +kernel, by decide +kernel⟩
theorem ok__law_lines {C_Ward : Addr} {f : Addr} {fd : FuncData} (F : Fun K "_law_lines" "_law_lines" s__law_lines f fd) (T : Txt K mg C_Ward) (C__law_cell : Cal P w K mg base "_law_cell" ["_law_script", "_law_k"] 1 (sp__law_cell K C_Ward)) : FnOk P w K mg base CX0 2 f fd ["_law_script", "_law_numbers_here", "_law_due"] (sp__law_lines K C_Ward) := by
  refine F.ok sc__law_lines (fun vs H Q E h => ?_) (fun cdv A outer s H vs Q E hr h => ?_)
  · obtain ⟨a, nd, ns, n, D, P, kvs, due, rfl, _⟩ := h
    rfl
  · obtain ⟨a, nd, ns, n, D, P, kvs, due, rfl, hS, hl, en, ok, n8, D31, P7, kl, q⟩ := h
    refine ⟨_, (pss_cons (ps_set (i := 3) sc__law_lines.nd rfl (Or.inl rfl) (pe_op op_add pe_int (pe_op op_mod (pe_cal C__law_cell (hr.mono (by decide)) rfl (pa_cons (pv 0) (pa_cons pe_int pa_nil))) pe_int)))
    (pss_cons (ps_set (i := 4) sc__law_lines.nd rfl (Or.inl rfl) (pe_lst pa_nil))
    (pss_cons (ps_set (i := 5) sc__law_lines.nd rfl (Or.inl rfl) (pe_lst pa_nil))
    (pss_cons (ps_for PassesOwn.never rfl (pi_dictT (pv 1)) (pg_tup (n := 3) rfl (pgs_cons (pg_name (i := 6) sc__law_lines.nd rfl (Or.inl rfl)) (pgs_cons (pg_name (i := 7) sc__law_lines.nd rfl (Or.inl rfl)) (pgs_cons (pg_name (i := 8) sc__law_lines.nd rfl (Or.inl rfl)) pgs_nil))))
      (pss_cons (ps_set (i := 9) sc__law_lines.nd rfl (Or.inl rfl) (pe_dget (hu_of hr) (pv 1) (pe_tup (pa_cons (pv 6) (pa_cons (pv 7) (pa_cons (pv 8) pa_nil)))) (fun _ _ => rfl)))
        (pss_cut (ps_if (pt_cmpR op_eq (pe_op op_mod (pe_op op_add (pe_op op_add (pe_op op_add (pv 6) (pv 7)) (pv 8)) (pe_cal C__law_cell (hr.mono (by decide)) rfl (pa_cons (pv 0) (pa_cons pe_int pa_nil)))) pe_int) pe_int (nomark _)) (pss_cons (ps_set (i := 10) sc__law_lines.nd rfl (Or.inl rfl) (pe_op op_fdiv (pv 9) (pv 3)))
          (pss_cons (ps_expr (pe_bm PySem.F.plainAttrs_list PySem.F.slot_list_append PySem.F.type_list_append mt_append (pv 4) (pa_cons (pe_tup (pa_cons (pv 6) (pa_cons (pv 7) (pa_cons (pv 8) (pa_cons (pv 10) pa_nil))))) pa_nil)))
          (pss_one (ps_set (i := 9) sc__law_lines.nd rfl (Or.inl rfl) (pe_op op_sub (pv 9) (pe_op op_mul (pv 10) (pv 3))))))) pss_nil)
        (pss_one (ps_expr (pe_bm PySem.F.plainAttrs_list PySem.F.slot_list_append PySem.F.type_list_append mt_append (pv 5) (pa_cons (pe_tup (pa_cons (pv 6) (pa_cons (pv 7) (pa_cons (pv 8) (pa_cons (pv 9) pa_nil))))) pa_nil)))))))
    (pss_thaw (pss_cons (ps_set (i := 11) sc__law_lines.nd rfl (Or.inl rfl) (pe_op op_sub (pe_op op_mod (pe_cal C__law_cell (hr.mono (by decide)) rfl (pa_cons (pv 0) (pa_cons pe_int pa_nil))) pe_int) pe_int))
    (pss_cons (ps_set (i := 12) sc__law_lines.nd rfl (Or.inl rfl) (pe_op op_mod (pe_cal C__law_cell (hr.mono (by decide)) rfl (pa_cons (pv 0) (pa_cons pe_int pa_nil))) (pe_op op_pow pe_int pe_int)))
    (pss_cons (ps_set (i := 13) sc__law_lines.nd rfl (Or.inl rfl) (pe_ix ix_list (pe_lst (pa_cons pe_int (pa_cons pe_int (pa_cons (pe_un un_neg pe_int) (pa_cons (pv 12) (pa_cons (pe_op op_sub pe_int (pv 12)) pa_nil)))))) (pe_op op_mod (pe_op op_fdiv (pe_cal C__law_cell (hr.mono (by decide)) rfl (pa_cons (pv 0) (pa_cons pe_int pa_nil))) pe_int) pe_int) (fun _ _ => rfl)))
    (pss_cons (ps_set (i := 14) sc__law_lines.nd rfl (Or.inl rfl) (pe_ix ix_list (pe_lst (pa_cons pe_int (pa_cons (pe_un un_neg pe_int) (pa_cons (pe_un un_neg pe_int) (pa_cons pe_int pa_nil))))) (pe_op op_mod (pe_op op_fdiv (pe_cal C__law_cell (hr.mono (by decide)) rfl (pa_cons (pv 0) (pa_cons pe_int pa_nil))) pe_int) pe_int) (fun _ _ => rfl)))
    (pss_cons (ps_set (i := 15) sc__law_lines.nd rfl (Or.inl rfl) (pe_lst pa_nil))
    (pss_cons (ps_for PassesOwn.never rfl (pi_list (pe_slice sl_list (pe_callTy (call_listT rfl) (by rfl) T.list PyProof.Rows.boot_list (pa_cons (pv 1) pa_nil)) po_none (po_some pe_int))) (pg_tup (n := 3) rfl (pgs_cons (pg_name (i := 6) sc__law_lines.nd rfl (Or.inl rfl)) (pgs_cons (pg_name (i := 7) sc__law_lines.nd rfl (Or.inl rfl)) (pgs_cons (pg_name (i := 8) sc__law_lines.nd rfl (Or.inl rfl)) pgs_nil))))
      (pss_cons (ps_expr (pe_bm PySem.F.plainAttrs_list PySem.F.slot_list_append PySem.F.type_list_append mt_append (pv 15) (pa_cons (pe_tup (pa_cons (pv 6) (pa_cons (pv 7) (pa_cons (pv 8) (pa_cons pe_int pa_nil))))) pa_nil)))
        (pss_one (ps_expr (pe_bm PySem.F.plainAttrs_list PySem.F.slot_list_append PySem.F.type_list_append mt_append (pv 5) (pa_cons (pe_tup (pa_cons (pv 6) (pa_cons (pv 7) (pa_cons (pv 8) (pa_cons (pe_op op_sub pe_int (pe_op op_mul pe_int (pv 14))) pa_nil))))) pa_nil))))))
    (pss_cons (ps_set (i := 16) sc__law_lines.nd rfl (Or.inl rfl) (pe_op op_sub (pe_op op_sub (pe_op op_add (pv 2) (pv 13)) (pe_op op_mul (pv 11) (pv 3))) (pe_op op_mul pe_int (pv 14))))
    (pss_cons (ps_set (i := 17) sc__law_lines.nd rfl (Or.inl rfl) (pe_lst (pa_cons (pe_tup (pa_cons (pe_tup (pa_cons (pe_callTy (call_tuple_L (K := K) rfl) (by rfl) T.tuple PyProof.Rows.boot_tuple (pa_cons (pv 4) pa_nil)) (pa_cons (pv 11) pa_nil))) (pa_cons (pv 3) pa_nil))) (pa_cons (pe_tup (pa_cons (pe_tup (pa_cons (pe_callTy (call_tuple_L (K := K) rfl) (by rfl) T.tuple PyProof.Rows.boot_tuple (pa_cons (pv 5) pa_nil)) (pa_cons (pv 16) pa_nil))) (pa_cons pe_int pa_nil))) pa_nil))))
    (pss_one (ps_ret (pe_tup (pa_cons (pe_op op_cat (pv 17) (pe_lst (pa_cons (pe_tup (pa_cons (pe_tup (pa_cons (pe_callTy (call_tuple_L (K := K) rfl) (by rfl) T.tuple PyProof.Rows.boot_tuple (pa_cons (pv 15) pa_nil)) (pa_cons pe_int pa_nil))) (pa_cons (pv 14) pa_nil))) pa_nil))) (pa_cons (pv 13) pa_nil)))))))))))))))))), ?_⟩
    refine seq_of fun U1 u1 => ?_
    walk_at "rd"
    refine ⟨a, ns, _, rfl, hS, hl, by decide, by decide, fun c => ?_⟩
    walk_at "rd"
    obtain ⟨tm, etm, tm1, tm4⟩ : ∃ tm : Int, 1 + c % 4 = tm ∧ 1 ≤ tm ∧ tm ≤ 4 := ⟨_, rfl, by omega, by omega⟩
    rw [etm]
    refine ⟨by decide, ?_⟩
    rw [u1]; clear u1
    refine seq_of fun U1 u1 => ?_
    walk_at "rd"
    refine ⟨Nat.zero_le _, fun p1 hp1 => ?_⟩
    rw [u1]; clear u1
    refine seq_of fun U1 u1 => ?_
    walk_at "rd"
    refine ⟨Nat.zero_le _, fun p2 hp2 => ?_⟩
    rw [u1]; clear u1
    refine seq_of fun U1 u1 => for_of fun B1 b1 => ?_
    walk_at "rd"
    have n12 : p1 ≠ p2 := ne_of_none upd_same hp2
    have hp20 : H p2 = none := by rw [upd_ne n12.symm] at hp2; exact hp2
    have m1 : nd ≠ p1 := ne_of_none en hp1
    have m2 : nd ≠ p2 := ne_of_none en hp20
    have en1 : upd (upd H p1 (.lst [])) p2 (.lst []) nd = some (.dT kvs) := by rw [upd_ne m2, upd_ne m1]; exact en
    refine ⟨kvs, en1, fun ob => ?_⟩
    obtain ⟨B, eB⟩ : ∃ B, upd (upd (upd H p1 (.lst [])) p2 (.lst [])) nd (.frz ob (.dT kvs)) = B := ⟨_, rfl⟩
    have hBF : ∀ b o, upd H nd (.frz ob (.dT kvs)) b = some o → B b = some o ∧ b ≠ p1 ∧ b ≠ p2 := fun b o hb => by
      by_cases z : b = nd
      · subst z
        rw [upd_same] at hb
        rw [← eB, upd_same]
        exact ⟨hb, m1, m2⟩
      · rw [upd_ne z] at hb
        have z1 := ne_of_none hb hp1
        have z2 := ne_of_none hb hp20
        rw [← eB, upd_ne z, upd_ne z2, upd_ne z1]
        exact ⟨hb, z1, z2⟩
    have b1' : B p1 = some (.lst []) := by rw [← eB, upd_ne m1.symm, upd_ne n12, upd_same]
    have b2' : B p2 = some (.lst []) := by rw [← eB, upd_ne m2.symm, upd_same]
    rw [eB]
    have hSF : SqL K (upd H nd (.frz ob (.dT kvs))) a (ns.map V.int) := hS.off (by intro ys z; rw [en] at z; cases z) (by intro v u z; rw [en] at z; cases z)
    refine for_dictW (fun i σ H' => OoI B p1 p2 tm 1 (fun k => sAt k (kvs.take i)) n D P (2 * i) H' ∧ ∃ v6 v7 v8 v9 v10, σ = [some (.ref a), some (.ref nd), some (.int due), some (.int tm), some (.ref p1), some (.ref p2), v6, v7, v8, v9, v10, none, none, none, none, none, none, none]) ⟨OoI.start n12 b1' b2', none, none, none, none, none, rfl⟩ (fun i σ H' _ hh => hh.1.fr _ _ (hBF _ _ upd_same).1 m1 m2) ?_ ?_
    · rintro i bk k v σ H' hk hb ⟨oI, v6, v7, v8, v9, v10, rfl⟩
      have ev := val_at ok.ky hk
      obtain ⟨nn, rfl⟩ := ok.ai k v ev
      obtain ⟨h, d, p, e, c1, c2, c3⟩ := ok.inb _ (List.mem_of_getElem? hk)
      have e : k = kk h d p := e
      subst e
      have hik := (List.getElem?_eq_some_iff.mp hk).1
      have hb : H' bk = some (.tup [.int h, .int d, .int p]) := hb
      have gF : Same (upd H nd (.frz ob (.dT kvs))) H' := fun b o z => oI.fr b o (hBF b o z).1 (hBF b o z).2.1 (hBF b o z).2.2
      refine ⟨_, rfl, _, SqT.of hb, rfl, _, _, rfl, _, _, rfl, _, _, rfl, rfl, ?_⟩
      rw [b1]
      refine seq_of fun U2 u2 => ?_
      walk_at "rd"
      refine ⟨by decide, fun t2 ht2 => ?_⟩
      have gt := same_new ht2 (.tup [.int h, .int d, .int p])
      refine ⟨.int nn, .inr ⟨kvs, kk h d p, t2, .inr ⟨ob, (gF.trans gt) _ _ upd_same⟩, rfl, upd_same, ev.symm⟩, ?_⟩
      have oI := oI.mono gt
      have gF := gF.trans gt
      generalize upd H' t2 (.tup [.int h, .int d, .int p]) = H2 at oI gF ⊢
      clear gt ht2 hb
      have inr : ∀ z, InR n D P ⟨h, d, p, z⟩ := fun z => ⟨h, d, p, rfl, c1, c2, c3⟩
      rw [u2]; clear u2
      refine cut_of (fun σ H3 => ∃ (m : Int) (v10 : Option V), Same (upd H nd (.frz ob (.dT kvs))) H3 ∧ OoI B p1 p2 tm 1 (fun k => sAt k (kvs.take i) + if kk h d p = k then nn - m else 0) n D P (2 * i + 1) H3 ∧ σ = [some (.ref a), some (.ref nd), some (.int due), some (.int tm), some (.ref p1), some (.ref p2), some (.int h), some (.int d), some (.int p), some (.int m), v10, none, none, none, none, none, none, none]) ?_ ?_
      · walk_at "rd"
        refine ⟨a, ns, _, rfl, gF.seq hSF, hl, by decide, by decide, fun c6 => ?_⟩
        refine ⟨c6, rfl, by decide, ?_⟩
        split
        · obtain ⟨us1, us2, qs1, qs2, e1, e2, _⟩ := oI.ex
          refine ⟨⟨by omega, by omega⟩, .inl ⟨rfl, _, SqL.of e1⟩, by decide, fun t3 ht3 => ?_⟩
          obtain ⟨xs, x1, x2, oI3⟩ := oI.one (q := ⟨h, d, p, nn / tm⟩) (by omega) ht3 (inr _)
          refine ⟨xs, x1, x2, .inr ⟨by omega, by omega⟩, fun b o z => oI3.fr b o (hBF b o z).1 (hBF b o z).2.1 (hBF b o z).2.2, _, oI3.to (fun k => ?_) (Nat.le_refl _), rfl⟩
          show _ + (if kk h d p = k then nn / tm * tm else 0) = _
          split <;> omega
        · refine ⟨gF, nn, oI.to (fun k => ?_) (by omega), rfl⟩
          split <;> omega
      rintro σ H3 ⟨m, v10, gF3, oI3, rfl⟩
      walk_at "rd"
      obtain ⟨us1, us2, qs1, qs2, e1, e2, _⟩ := oI3.ex
      refine ⟨.inl ⟨rfl, _, SqL.of e2⟩, by decide, fun t3 ht3 => ?_⟩
      obtain ⟨xs, x1, x2, oI4⟩ := oI3.two (q := ⟨h, d, p, m⟩) (by omega) ht3 (inr _)
      refine ⟨xs, x1, x2, oI4.to (fun k => ?_) (by omega)⟩
      rw [sAt_take hk]
      show _ + (if kk h d p = k then m * 1 else 0) = _ + (if kk h d p = k then nn else 0)
      split <;> omega
    rintro σ H3 ⟨oI, v6, v7, v8, v9, v10, rfl⟩
    rw [List.take_length] at oI
    rw [u1]; clear u1
    simp only [tThaw]
    have gF : Same (upd H nd (.frz ob (.dT kvs))) H3 := fun b o z => oI.fr b o (hBF b o z).1 (hBF b o z).2.1 (hBF b o z).2.2
    have ef := gF _ _ upd_same
    refine ⟨nd, ob, kvs, ef, fun _ _ z => ?_, ?_⟩
    · have z : H nd = some _ := z
      rw [en] at z
      cases z
    have oI := oI.thaw (o := .dT kvs) m1 m2 ef
    have gH : Same H (upd H3 nd (.dT kvs)) := thaw_same en gF
    have en4 : upd H3 nd (.dT kvs) nd = some (.dT kvs) := upd_same
    generalize upd B nd (.dT kvs) = B4 at oI
    generalize upd H3 nd (.dT kvs) = H4 at oI gH en4 ⊢
    clear gF ef hBF b1' b2' eB hSF en1 b1
    refine seq_of fun U1 u1 => ?_
    walk_at "rd"
    refine ⟨a, ns, _, rfl, gH.seq hS, hl, by decide, by decide, fun c7 => ⟨c7, rfl, by decide, ?_⟩⟩
    generalize c7 % 19 - 9 = fs
    rw [u1]; clear u1
    refine seq_of fun U1 u1 => ?_
    walk_at "rd"
    refine ⟨a, ns, _, rfl, gH.seq hS, hl, by decide, by decide, fun c6 => ⟨⟨by decide, by decide, by decide⟩, c6, rfl, by decide, ?_⟩⟩
    generalize c6 % 10 ^ Int.toNat 60 = far
    rw [u1]; clear u1
    refine seq_of fun U1 u1 => ?_
    walk_at "rd"
    refine ⟨by decide, fun q1 hq1 => ?_⟩
    have gq1 := same_new hq1 (.lst [.int 0, .int 1, .int (-1), .int far, .int (0 - far)])
    refine ⟨a, ns, _, rfl, (gH.trans gq1).seq hS, hl, by decide, by decide, fun c8 => ?_⟩
    obtain ⟨short, hsh⟩ := fiv5v (x := far) (Int.emod_nonneg (c8 / 19) (b := 5) (by decide)) (Int.emod_lt_of_pos _ (by decide))
    refine ⟨c8, rfl, ⟨by decide, by decide⟩, by decide, _, SqL.of upd_same, .int short, hsh, ?_⟩
    have oI := oI.mono gq1
    have gH := gH.trans gq1
    have en4 := gq1 _ _ en4
    generalize upd H4 q1 (.lst [.int 0, .int 1, .int (-1), .int far, .int (0 - far)]) = H5 at oI gH en4 ⊢
    clear gq1 hq1 hsh
    rw [u1]; clear u1
    refine seq_of fun U1 u1 => ?_
    walk_at "rd"
    refine ⟨by decide, fun q1 hq1 => ?_⟩
    have gq1 := same_new hq1 (.lst [.int 0, .int (-1), .int (-2), .int 1])
    refine ⟨a, ns, _, rfl, (gH.trans gq1).seq hS, hl, by decide, by decide, fun c9 => ?_⟩
    obtain ⟨less, hle, le1, le2⟩ := four2 (Int.emod_nonneg (c9 / 95) (b := 4) (by decide)) (Int.emod_lt_of_pos _ (by decide))
    refine ⟨c9, rfl, ⟨by decide, by decide⟩, by decide, _, SqL.of upd_same, .int less, hle, ?_⟩
    have oI := oI.mono gq1
    have gH := gH.trans gq1
    have en4 := gq1 _ _ en4
    generalize upd H5 q1 (.lst [.int 0, .int (-1), .int (-2), .int 1]) = H6 at oI gH en4 ⊢
    clear gq1 hq1 hle
    rw [u1]; clear u1
    refine seq_of fun U1 u1 => ?_
    walk_at "rd"
    refine ⟨Nat.zero_le _, fun p3 hp3 => ?_⟩
    rw [u1]; clear u1
    refine seq_of fun U1 u1 => for_of fun B1 b1 => ?_
    walk_at "rd"
    obtain ⟨us1, us2, qs1, qs2, e1, e2, P1, P2, l1, l2, sm, i1, i2⟩ := oI.ex
    have n12 := oI.ne
    clear oI
    have oG := gH
    have gp3 := same_new hp3 (.lst [])
    have n31 : p3 ≠ p1 := (ne_of_none e1 hp3).symm
    have n32 : p3 ≠ p2 := (ne_of_none e2 hp3).symm
    have e3 := upd_same (H := H6) (a := p3) (o := .lst [])
    refine ⟨kvs, gp3 _ _ en4, fun l us hl2 hky => ⟨us, SqL.of upd_same, fun q1 hq1 => ?_⟩⟩
    rw [show cutV us none (some 1) = us.take 1 from cut_take us 1]
    have gl := (same_new hl2 (.lst us)).trans (same_new hq1 (.lst (us.take 1)))
    have eq1 := upd_same (H := upd (upd H6 p3 (.lst [])) l (.lst us)) (a := q1) (o := .lst (us.take 1))
    have nq3 : q1 ≠ p3 := fun z => by rw [z, (same_new hl2 (.lst us)) _ _ e3] at hq1; cases hq1
    have nq2 : q1 ≠ p2 := fun z => by rw [z, (same_new hl2 (.lst us)) _ _ (gp3 _ _ e2)] at hq1; cases hq1
    have hky := Paired.mapP hky fun v kv (⟨b, ev, eb⟩ : KyV _ v kv) => (⟨b, ev, gl _ _ eb⟩ : KyV (upd (upd (upd H6 p3 (.lst [])) l (.lst us)) q1 (.lst (us.take 1))) v kv)
    have e3 := gl _ _ e3
    have G7 := gp3.trans gl
    have e1 := G7 _ _ e1
    have e2 := G7 _ _ e2
    have P1 := P1.mono (tups_same G7)
    have P2 := P2.mono (tups_same G7)
    have gH := gH.trans G7
    generalize upd (upd (upd H6 p3 (.lst [])) l (.lst us)) q1 (.lst (us.take 1)) = H8 at eq1 hky e3 e1 e2 P1 P2 gH G7 ⊢
    have hp30 : H p3 = none := by
      cases z : H p3 with
      | none => rfl
      | some o => rw [oG _ _ z] at hp3; cases hp3
    clear gl hl2 hq1 gp3
    refine ⟨⟨_, SqL.of eq1⟩, for_listW (xs := us.take 1) (fun i σ H' => OoI H8 p3 p2 less 1 (fun k => pAt k qs2) n D P (42 + 2 * i) H' ∧ ∃ v6 v7 v8, σ = [some (.ref a), some (.ref nd), some (.int due), some (.int tm), some (.ref p1), some (.ref p2), v6, v7, v8, v9, v10, some (.int fs), some (.int far), some (.int short), some (.int less), some (.ref p3), none, none]) ⟨⟨n32, fun b o h _ _ => h, [], us2, [], qs2, e3, e2, .nil, P2, Nat.zero_le _, by omega, (fun k => by show 0 * less + _ = _; omega), (fun q z => by cases z), i2⟩, v6, v7, v8, rfl⟩ (fun i σ H' _ hh => SqL.of (hh.1.fr _ _ eq1 nq3 nq2)) ?_ ?_⟩
    · rintro i v σ H' hx ⟨oI, v6, v7, v8, rfl⟩
      have hi1 : i < 1 := by
        have := (List.getElem?_eq_some_iff.mp hx).1
        rw [List.length_take] at this
        omega
      rw [List.getElem?_take, if_pos hi1] at hx
      obtain ⟨kv, hk, b, rfl, eb⟩ := Paired.get' hky hx
      obtain ⟨h, d, p, e, c1, c2, c3⟩ := ok.inb _ (List.mem_of_getElem? hk)
      rw [e] at eb
      have eb : H8 b = some (.tup [.int h, .int d, .int p]) := eb
      have nb3 : b ≠ p3 := fun z => by rw [z, e3] at eb; cases eb
      have nb2 : b ≠ p2 := fun z => by rw [z, e2] at eb; cases eb
      have inr : ∀ z, InR n D P ⟨h, d, p, z⟩ := fun z => ⟨h, d, p, rfl, c1, c2, c3⟩
      refine ⟨_, rfl, _, SqT.of (oI.fr _ _ eb nb3 nb2), rfl, _, _, rfl, _, _, rfl, _, _, rfl, rfl, ?_⟩
      rw [b1]
      walk_at "rd"
      obtain ⟨ua, _, _, _, f3, f2, _⟩ := oI.ex
      refine ⟨.inl ⟨rfl, _, SqL.of f3⟩, by decide, fun t3 ht3 => ?_⟩
      obtain ⟨xs, x1, x2, oI2⟩ := oI.one (q := ⟨h, d, p, 7⟩) (by omega) ht3 (inr _)
      obtain ⟨_, _, _, _, f3', f2', _⟩ := oI2.ex
      refine ⟨xs, x1, x2, .inl ⟨rfl, _, SqL.of f2'⟩, .inl ⟨by decide, by decide⟩, by decide, fun t4 ht4 => ?_⟩
      obtain ⟨ys, y1, y2, oI3⟩ := oI2.two (q := ⟨h, d, p, 0 - 7 * less⟩) (by omega) ht4 (inr _)
      refine ⟨ys, y1, y2, oI3.to (fun k => ?_) (by omega)⟩
      show pAt k qs2 + (if kk h d p = k then 7 * less else 0) + (if kk h d p = k then (0 - 7 * less) * 1 else 0) = _
      split <;> omega
    rintro σ H9 ⟨oI, v6, v7, v8, rfl⟩
    obtain ⟨us3, us2', qs3, qs2', f3, f2, R3, R2, k3, k2', sm2, j3, j2⟩ := oI.ex
    have f1 := oI.fr _ _ e1 n31.symm n12
    have gH9 : Same H H9 := fun b o z => oI.fr b o (gH b o z) (ne_of_none z hp30) (ne_of_none z hp20)
    rw [u1]; clear u1
    refine seq_of fun U1 u1 => ?_
    walk_at "rd"
    refine ⟨.inr ⟨by omega, by omega⟩, .inl ⟨by decide, by decide⟩, ?_⟩
    obtain ⟨bd, ebd⟩ : ∃ bd, due + short - fs * tm - 5 * less = bd := ⟨_, rfl⟩
    rw [ebd]
    rw [u1]; clear u1
    refine seq_of fun U1 u1 => ?_
    walk_at "rd"
    refine ⟨_, SqL.of f1, fun l1 hl1 => ⟨by decide, fun s1 hs1 => ⟨by decide, fun t1 ht1 => ?_⟩⟩⟩
    have Q1 := P1.mono (qs := qs1) (H' := H9) ?_
    rotate_left
    · exact fun b xs z => oI.fr _ _ z (fun y => by rw [y, e3] at z; cases z) (fun y => by rw [y, e2] at z; cases z)
    obtain ⟨ga, pa⟩ := mkPr (t := tm) Q1 hl1 hs1 ht1
    generalize upd (upd (upd H9 l1 (.tup us1)) s1 (.tup [.ref l1, .int fs])) t1 (.tup [.ref s1, .int tm]) = Ha at ga pa ⊢
    refine ⟨_, SqL.of (ga _ _ f2), fun l1 hl1 => ⟨by decide, fun s1 hs1 => ⟨by decide, fun t2 ht2 => ?_⟩⟩⟩
    obtain ⟨gb, pb⟩ := mkPr (t := 1) (R2.mono (tups_same ga)) hl1 hs1 ht2
    generalize upd (upd (upd Ha l1 (.tup us2')) s1 (.tup [.ref l1, .int bd])) t2 (.tup [.ref s1, .int 1]) = Hb at gb pb ⊢
    refine ⟨by decide, fun pl hpl => ?_⟩
    have gc := same_new hpl (.lst [.ref t1, .ref t2])
    have pa := (pa.mono (tups_same gb)).mono (tups_same gc)
    have pb := pb.mono (tups_same gc)
    have GC := ga.trans (gb.trans gc)
    have ec := upd_same (H := Hb) (a := pl) (o := .lst [.ref t1, .ref t2])
    generalize upd Hb pl (.lst [.ref t1, .ref t2]) = Hc at gc pa pb GC ec ⊢
    clear gc
    rw [u1]; clear u1
    walk_at "rd"
    have f3 := GC _ _ f3
    refine ⟨_, SqL.of f3, fun l1 hl1 => ⟨by decide, fun s1 hs1 => ⟨by decide, fun t3 ht3 => ?_⟩⟩⟩
    obtain ⟨gd, pc⟩ := mkPr (t := less) (R3.mono (tups_same GC)) hl1 hs1 ht3
    generalize upd (upd (upd Hc l1 (.tup us3)) s1 (.tup [.ref l1, .int 5])) t3 (.tup [.ref s1, .int less]) = Hd at gd pc ⊢
    refine ⟨by decide, fun l2 hl2 => ?_⟩
    have ge := same_new hl2 (.lst [.ref t3])
    refine ⟨_, ge _ _ (gd _ _ ec), _, upd_same, by show 3 ≤ sizeLine; decide, fun pr hpr => ?_⟩
    have gf := same_new hpr (.lst ([.ref t1, .ref t2] ++ [.ref t3]))
    refine ⟨by decide, fun tr htr => ?_⟩
    have gg := same_new htr (.tup [.ref pr, .int short])
    have GE := gd.trans (ge.trans (gf.trans gg))
    have pa := pa.mono (tups_same GE)
    have pb := pb.mono (tups_same GE)
    have pc := pc.mono (tups_same (ge.trans (gf.trans gg)))
    refine q tr pr _ [(⟨qs1, fs⟩, tm), (⟨qs2', bd⟩, 1), (⟨qs3, 5⟩, less)] short _ (gH9.trans (GC.trans GE)) upd_same (gg _ _ upd_same) (.cons pa (.cons pb (.cons pc .nil))) (Nat.le_refl _) (fun l hl => ?_) ?_ (three_ok i1 j2 j3) (three_at ok sm sm2) ?_
    · rcases List.mem_cons.mp hl with rfl | hl
      · exact ⟨by show -(2 ^ 40) < tm; omega, by show tm < 2 ^ 40; omega⟩
      rcases List.mem_cons.mp hl with rfl | hl
      · exact ⟨by show -(2 ^ 40) < (1 : Int); decide, by show (1 : Int) < 2 ^ 40; decide⟩
      rw [List.mem_singleton.mp hl]
      exact ⟨by show -(2 ^ 40) < less; omega, by show less < 2 ^ 40; omega⟩
    · have hk1 : (us.take 1).length ≤ 1 := by rw [List.length_take]; omega
      unfold partsN
      simp only [List.map_cons, List.map_nil, List.sum_cons, List.sum_nil]
      omega
    · unfold sumB
      simp only [List.map_cons, List.map_nil, List.sum_cons, List.sum_nil]
      rw [← ebd]
      omega
def sp__law_choices (K : PySem.W.Frag) (C_Ward : Addr) : Sp := fun vs H Q _ => ∃ (s : Int) (pa : Addr) (ts : List V) (ps : List Pst), vs = [.int s, .ref pa] ∧ H pa = some (.lst ts) ∧ Posts H ts ps ∧ ps.length ≤ 6 ∧ ∀ r H', New H H' r ((ch s ps).map V.int) → Q (.ref r) H'
theorem sc__law_choices : FnScope ["_law_skills", "_law_posts_here"] ["_law_skills", "_law_posts_here"] (defScope s__law_choices) := ⟨rfl, rfl, rfl, by decide +kernel, rfl, by decide +kernel, by decide +kernel⟩
theorem ok__law_choices {C_Ward : Addr} {f : Addr} {fd : FuncData} (F : Fun K "_law_choices" "_law_choices" s__law_choices f fd) (T : Txt K mg C_Ward)  : FnOk P w K mg base CX0 1 f fd ["_law_skills", "_law_posts_here"] (sp__law_choices K C_Ward) := by
  refine F.ok sc__law_choices (fun vs H Q E h => ?_) (fun cdv A outer s H vs Q E hr h => ?_)
  · obtain ⟨s, pa, ts, ps, rfl, _⟩ := h
    rfl
  · obtain ⟨s, pa, ts, ps, rfl, ep, hP, p6, q⟩ := h
    refine ⟨_, (pss_one (ps_ret (pe_op op_cat (pe_lst (pa_cons pe_int pa_nil)) (pe_comp (own := ["_law_k"]) (fnames := ["_law_skills", "_law_posts_here"]) (fr := [0, 1]) (N' := ["_law_k", "_law_skills", "_law_posts_here"]) ⟨rfl, rfl, rfl, rfl, rfl, rfl, rfl⟩ rfl (pi_range1 rfl T.range (pa_cons (pe_callB (call_lenK (K := K) rfl) (by rfl) T.len PySem.boot_len (pa_cons (pv 1) pa_nil)) pa_nil)) (fun s0 H0 fp0 C0 => ⟨(pg_name (i := 0) (by show (["_law_k", "_law_skills", "_law_posts_here"] : List Str).Nodup; decide +kernel) rfl (Or.inl rfl)), (pts_one (pt_cmpR op_eq (pe_op op_and (pv 1) (pe_ix (ix_tupK (K := K) rfl) (pe_ix (ix_listK (K := K) rfl) (pv 2) (pv 0) (fun _ _ => rfl)) pe_int (fun _ _ => rfl))) (pe_ix (ix_tupK (K := K) rfl) (pe_ix (ix_listK (K := K) rfl) (pv 2) (pv 0) (fun _ _ => rfl)) pe_int (fun _ _ => rfl)) (nomark _))), (pe_op op_add (pv 0) pe_int)⟩))))), ?_⟩
    walk_at "rd"
    refine ⟨by decide, fun p hp => ?_⟩
    have g0 := same_new hp (.lst [.int 0])
    have hpl := hP.len
    refine ⟨_, .inl (SqL.of (g0 _ _ ep)), by omega, by omega, fun D hD => for_rangeW (fun j σ H' => Same (upd H p (.lst [.int 0])) H' ∧ H' D = some (.lst ((chI s ps j).map V.int)) ∧ ∃ v0, σ = [v0, some (.int s), some (.ref pa)]) ⟨same_new hD _, upd_same, none, rfl⟩ ?_ ?_⟩
    · rintro j σ H' hj ⟨g, e, v0, rfl⟩
      rw [show (0 + (j : Int)) = j by omega]
      have hj' : j < ps.length := by omega
      obtain ⟨pq, hpq, t, et, q1⟩ := Paired.get' (hP.mono (g0.trans g)) (List.getElem?_eq_getElem (show j < ts.length by omega))
      have at1 : ts[j]? = some (.ref t) := by rw [List.getElem?_eq_getElem (show j < ts.length by omega), et]
      have ep' := (g0.trans g) _ _ ep
      walk_at "rd"
      refine ⟨_, SqL.of ep', _, atI_nat at1, t, rfl, _, SqT.of q1, _, rfl, _, rfl, _, SqL.of ep', _, atI_nat at1, t, rfl, _, SqT.of q1, _, rfl, rfl, ?_⟩
      have hs' := chI_succ s ps j
      rw [hpq, Option.getD_some] at hs'
      have hcl := chI_len s ps j
      have hcv : cv s pq.1 = decide (Builtin.bitAnd s pq.1 = pq.1) := rfl
      split
      · rename_i hb
        have hb := V.int.inj hb
        rw [hcv, if_pos (decide_eq_true hb)] at hs'
        refine ⟨_, e, small1000 (by simp only [List.length_map]; omega), same_upd hD g _, ?_⟩
        rw [upd_same, hs', List.map_append]
        rfl
      · rename_i hb
        have hb : ¬ Builtin.bitAnd s pq.1 = pq.1 := fun z => hb (by rw [z])
        rw [hcv, if_neg (by simpa using hb), List.append_nil] at hs'
        exact ⟨g, by rw [hs']; exact e⟩
    rintro σ H' ⟨g, e, v0, rfl⟩
    refine ⟨_, g _ _ upd_same, _, e, ?_, fun p2 hp2 => ?_⟩
    · have hcl := chI_len s ps (ts.length : Int).toNat
      exact small1000' (by simp only [List.length_map, List.length_cons, List.length_nil]; omega)
    have g2 := same_new hp2 (.lst ([.int 0] ++ (chI s ps (ts.length : Int).toNat).map V.int))
    refine q p2 _ ⟨(g0.trans g).trans g2, (g0.trans g).free hp2, ?_⟩
    rw [upd_same, Int.toNat_natCast, hpl]
    rfl
def sp__law_row (K : PySem.W.Frag) (C_Ward : Addr) : Sp := fun vs H Q _ => ∃ (a s pd : Addr) (ns : List Int) (h D : Nat) (own : List Int) (pns : List (List Key × V)), vs = [.ref a, .int h, .int D, .ref s, .ref pd] ∧ SqL K H a (ns.map V.int) ∧ ns.length ≤ 63 ∧ h ≤ 8 ∧ D ≤ 31 ∧ H s = some (.lst (own.map V.int)) ∧ 0 < own.length ∧ own.length ≤ 9 ∧ H pd = some (.dT pns) ∧ AllI pns ∧ ∀ r (row : List Int) H', New H H' r (row.map V.int) → row.length = D → (∀ (j : Nat) y, row[j]? = some y → y ∈ vls2 pns own h j) → Q (.ref r) H'
theorem sc__law_row : FnScope ["_law_script", "_law_hand", "_law_days", "_law_some", "_law_pins_here", "_law_row_here", "_law_day", "_law_value"] ["_law_script", "_law_hand", "_law_days", "_law_some", "_law_pins_here"] (defScope s__law_row) := ⟨rfl, rfl, rfl, by decide +kernel, rfl, by decide +kernel, by decide +kernel⟩
theorem ok__law_row {C_Ward : Addr} {f : Addr} {fd : FuncData} (F : Fun K "_law_row" "_law_row" s__law_row f fd) (T : Txt K mg C_Ward) (C__law_cell : Cal P w K mg base "_law_cell" ["_law_script", "_law_k"] 1 (sp__law_cell K C_Ward)) : FnOk P w K mg base CX0 2 f fd ["_law_script", "_law_hand", "_law_days", "_law_some", "_law_pins_here"] (sp__law_row K C_Ward) := by
  refine F.ok sc__law_row (fun vs H Q E h => ?_) (fun cdv A outer s H vs Q E hr h => ?_)
  · obtain ⟨a, s, pd, ns, h, D, own, pns, rfl, _⟩ := h
    rfl
  · obtain ⟨a, s, pd, ns, h, D, own, pns, rfl, hS, hl, h8, D2, es, o1, o9, ep, aip, q⟩ := h
    refine ⟨_, (pss_cons (ps_set (i := 5) sc__law_row.nd rfl (Or.inl rfl) (pe_lst pa_nil))
    (pss_cons (ps_for PassesOwn.never rfl (pi_range1 rfl T.range (pa_cons (pv 2) pa_nil)) (pg_name (i := 6) sc__law_row.nd rfl (Or.inl rfl))
      (pss_cons (ps_set (i := 7) sc__law_row.nd rfl (Or.inl rfl) (pe_ix ix_list (pv 3) (pe_op op_mod (pe_op op_fdiv (pe_cal C__law_cell (hr.mono (by decide)) rfl (pa_cons (pv 0) (pa_cons (pe_op op_add (pe_op op_add pe_int (pe_op op_mul pe_int (pv 1))) (pv 6)) pa_nil))) pe_int) (pe_callB (call_lenK (K := K) rfl) (by rfl) T.len PySem.boot_len (pa_cons (pv 3) pa_nil))) (fun _ _ => rfl)))
        (pss_one (ps_expr (pe_bm PySem.F.plainAttrs_list PySem.F.slot_list_append PySem.F.type_list_append mt_append (pv 5) (pa_cons (pe_dget2 (hu_of hr) (pv 4) (pe_tup (pa_cons (pv 1) (pa_cons (pv 6) pa_nil))) (pv 7) ⟨rfl, rfl, rfl, rfl⟩) pa_nil))))))
    (pss_one (ps_ret (pv 5))))), ?_⟩
    refine seq_of fun U1 u1 => ?_
    walk_at "rd"
    refine ⟨Nat.zero_le _, fun p hp => ?_⟩
    have g0 := same_new hp (.lst [])
    rw [u1]; clear u1
    refine seq_of fun U1 u1 => for_of fun B1 b1 => ?_
    walk_at "rd"
    refine ⟨by omega, by omega, for_rangeW (fun i σ H' => Same H H' ∧ (∃ row : List Int, H' p = some (.lst (row.map V.int)) ∧ row.length = i ∧ ∀ (j : Nat) y, row[j]? = some y → y ∈ vls2 pns own h j) ∧ ∃ v6 v7, σ = [some (.ref a), some (.int h), some (.int D), some (.ref s), some (.ref pd), some (.ref p), v6, v7]) ⟨g0, ⟨[], upd_same, rfl, fun j y z => by simp at z⟩, none, none, rfl⟩ ?_ ?_⟩
    · rintro i σ H' hi ⟨g, ⟨row, e, rl, rok⟩, v6, v7, rfl⟩
      rw [show (0 + (i : Int)) = i by omega]
      have hi' : i < D := by omega
      rw [b1]
      refine seq_of fun U2 u2 => ?_
      walk_at "rd"
      refine ⟨.inl ⟨by decide, by decide⟩, a, ns, _, rfl, g.seq hS, hl, by omega, by omega, fun c => ?_⟩
      have hm0 := Int.emod_nonneg (c / 5) (b := (own.length : Int)) (by omega)
      have hm1 := Int.emod_lt_of_pos (c / 5) (b := (own.length : Int)) (by omega)
      obtain ⟨kx, ek, kxl⟩ : ∃ kx : Nat, c / 5 % (own.length : Int) = kx ∧ kx < own.length := ⟨(c / 5 % (own.length : Int)).toNat, by omega, by omega⟩
      refine ⟨c, rfl, ⟨by decide, by decide⟩, _, .inl (SqL.of (g _ _ es)), by rw [List.length_map]; omega, _, SqL.of (g _ _ es), .int own[kx], by rw [List.length_map, ek]; exact atI_nat (by rw [List.getElem?_map, List.getElem?_eq_getElem kxl]; rfl), ?_⟩
      have hvo : own[kx] ∈ own := List.getElem_mem kxl
      generalize own[kx] = v at hvo ⊢
      rw [u2]; clear u2
      walk_at "rd"
      refine ⟨.inl ⟨rfl, _, SqL.of e⟩, .inr ⟨_, .inl (g _ _ ep)⟩, by decide, fun t2 ht2 => ?_⟩
      have g2 := same_new ht2 (.tup [.int h, .int i])
      obtain ⟨y, ey, hy⟩ := pin_get aip hvo (h : Int) (i : Int)
      refine ⟨_, DGet.t (k := k2 h i) (g2 _ _ (g _ _ ep)) upd_same, _, g2 _ _ e, small1000 (by rw [List.length_map]; omega), same_upd hp (g.trans g2) _, row ++ [y], ?_, by rw [List.length_append, rl]; rfl, fun j z hz => ?_⟩
      · rw [upd_same, ey, List.map_append]
        rfl
      · by_cases hj : j < row.length
        · rw [List.getElem?_append_left hj] at hz
          exact rok j z hz
        · rw [List.getElem?_append_right (by omega)] at hz
          have hj1 : j - row.length < [y].length := (List.getElem?_eq_some_iff.mp hz).1
          rw [List.length_singleton] at hj1
          rw [show j - row.length = 0 by omega] at hz
          cases hz
          rw [show j = i by omega]
          exact hy
    rintro σ H' ⟨g, ⟨row, e, rl, rok⟩, v6, v7, rfl⟩
    rw [u1]; clear u1
    walk_at "rd"
    exact q p row H' ⟨g, hp, e⟩ (by omega) rok
def sp__law_best_row (K : PySem.W.Frag) (C_Ward : Addr) : Sp := fun vs H Q _ => ∃ (s pd nd : Addr) (h D : Nat) (own : List Int) (pns kvs : List (List Key × V)), vs = [.int h, .int D, .ref s, .ref pd, .ref nd] ∧ h ≤ 8 ∧ D ≤ 31 ∧ H s = some (.lst (own.map V.int)) ∧ own.length ≤ 9 ∧ H pd = some (.dT pns) ∧ AllI pns ∧ H nd = some (.dT kvs) ∧ AllI kvs ∧ ∀ r (row : List Int) H', New H H' r (row.map V.int) → row.length = D → (∀ (j : Nat) y, row[j]? = some y → y = topV pns kvs own h j) → Q (.ref r) H'
theorem sc__law_best_row : FnScope ["_law_hand", "_law_days", "_law_some", "_law_pins_here", "_law_numbers_here", "_law_row_here", "_law_day", "_law_value", "_law_other"] ["_law_hand", "_law_days", "_law_some", "_law_pins_here", "_law_numbers_here"] (defScope s__law_best_row) := ⟨rfl, rfl, rfl, by decide +kernel, rfl, by decide +kernel, by decide +kernel⟩
theorem ok__law_best_row {C_Ward : Addr} {f : Addr} {fd : FuncData} (F : Fun K "_law_best_row" "_law_best_row" s__law_best_row f fd) (T : Txt K mg C_Ward)  : FnOk P w K mg base CX0 1 f fd ["_law_hand", "_law_days", "_law_some", "_law_pins_here", "_law_numbers_here"] (sp__law_best_row K C_Ward) := by
  refine F.ok sc__law_best_row (fun vs H Q E h => ?_) (fun cdv A outer s H vs Q E hr h => ?_)
  · obtain ⟨s, pd, nd, h, D, own, pns, kvs, rfl, _⟩ := h
    rfl
  · obtain ⟨s, pd, nd, h, D, own, pns, kvs, rfl, h8, D2, es, o9, ep, aip, en, aik, q⟩ := h
    refine ⟨_, (pss_cons (ps_set (i := 5) sc__law_best_row.nd rfl (Or.inl rfl) (pe_lst pa_nil))
    (pss_cons (ps_for PassesOwn.never rfl (pi_range1 rfl T.range (pa_cons (pv 1) pa_nil)) (pg_name (i := 6) sc__law_best_row.nd rfl (Or.inl rfl))
      (pss_cons (ps_set (i := 7) sc__law_best_row.nd rfl (Or.inl rfl) pe_int)
        (pss_cons (ps_for PassesOwn.never rfl (pi_list (pv 2)) (pg_name (i := 8) sc__law_best_row.nd rfl (Or.inl rfl))
          (pss_one (ps_if (pt_cmpR op_gt (pe_dget2 (hu_of hr) (pv 4) (pe_tup (pa_cons (pv 0) (pa_cons (pv 6) (pa_cons (pv 8) pa_nil)))) pe_int ⟨rfl, rfl, rfl, rfl⟩) (pe_dget2 (hu_of hr) (pv 4) (pe_tup (pa_cons (pv 0) (pa_cons (pv 6) (pa_cons (pv 7) pa_nil)))) pe_int ⟨rfl, rfl, rfl, rfl⟩) (nomark _)) (pss_one (ps_set (i := 7) sc__law_best_row.nd rfl (Or.inl rfl) (pv 8))) pss_nil)))
        (pss_one (ps_expr (pe_bm PySem.F.plainAttrs_list PySem.F.slot_list_append PySem.F.type_list_append mt_append (pv 5) (pa_cons (pe_dget2 (hu_of hr) (pv 3) (pe_tup (pa_cons (pv 0) (pa_cons (pv 6) pa_nil))) (pv 7) ⟨rfl, rfl, rfl, rfl⟩) pa_nil)))))))
    (pss_one (ps_ret (pv 5))))), ?_⟩
    refine seq_of fun U1 u1 => ?_
    walk_at "rd"
    refine ⟨Nat.zero_le _, fun p hp => ?_⟩
    have g0 := same_new hp (.lst [])
    rw [u1]; clear u1
    refine seq_of fun U1 u1 => for_of fun B1 b1 => ?_
    walk_at "rd"
    refine ⟨by omega, by omega, for_rangeW (fun i σ H' => Same H H' ∧ (∃ row : List Int, H' p = some (.lst (row.map V.int)) ∧ row.length = i ∧ ∀ (j : Nat) y, row[j]? = some y → y = topV pns kvs own h j) ∧ ∃ v6 v7 v8, σ = [some (.int h), some (.int D), some (.ref s), some (.ref pd), some (.ref nd), some (.ref p), v6, v7, v8]) ⟨g0, ⟨[], upd_same, rfl, fun j y z => by simp at z⟩, none, none, none, rfl⟩ ?_ ?_⟩
    · rintro i σ H' hi ⟨g, ⟨row, e, rl, rok⟩, v6, v7, v8, rfl⟩
      rw [show (0 + (i : Int)) = i by omega]
      have hi' : i < D := by omega
      rw [b1]
      refine seq_of fun U2 u2 => ?_
      walk_at "rd"
      rw [u2]; clear u2
      refine seq_of fun U2 u2 => for_of fun B2 b2 => ?_
      walk_at "rd"
      have es' := g _ _ es
      refine ⟨⟨_, SqL.of es'⟩, for_listW (xs := own.map V.int) (fun j σ H2 => Same H' H2 ∧ ∃ v8, σ = [some (.int h), some (.int D), some (.ref s), some (.ref pd), some (.ref nd), some (.ref p), some (.int i), some (.int ((own.take j).foldl (stepB fun p => nO kvs h i p) 0)), v8]) ⟨Same.refl _, v8, rfl⟩ (fun j σ H2 _ hh => SqL.of (hh.1 _ _ es')) ?_ ?_⟩
      · rintro j v σ H2 hx ⟨g2, v8, rfl⟩
        obtain ⟨o, ho, rfl⟩ := map_item hx
        have est : (own.take (j + 1)).foldl (stepB fun p => nO kvs h i p) 0 = stepB (fun p => nO kvs h i p) ((own.take j).foldl (stepB fun p => nO kvs h i p) 0) o := by
          rw [take_one ho, List.foldl_append]
          rfl
        rw [est]
        generalize (own.take j).foldl (stepB fun p => nO kvs h i p) 0 = w
        rw [b2]
        walk_at "rd"
        have en' := (g.trans g2) _ _ en
        refine ⟨.inr ⟨_, .inl en'⟩, by decide, fun t3 ht3 => ?_⟩
        have g3 := same_new ht3 (.tup [.int h, .int i, .int o])
        refine ⟨_, DGet.t (k := kk h i o) (g3 _ _ en') upd_same, .inr ⟨_, .inl (g3 _ _ en')⟩, by decide, fun t4 ht4 => ?_⟩
        have g4 := same_new ht4 (.tup [.int h, .int i, .int w])
        refine ⟨_, DGet.t (k := kk h i w) (g4 _ _ (g3 _ _ en')) upd_same, _, num_get aik _ _ _, _, num_get aik _ _ _, ?_⟩
        have G := g2.trans (g3.trans g4)
        unfold stepB
        split
        · exact ⟨G, rfl⟩
        · exact ⟨G, rfl⟩
      rintro σ H2 ⟨g2, v8, rfl⟩
      rw [List.length_map, List.take_length]
      rw [u2]; clear u2
      walk_at "rd"
      have e2 := g2 _ _ e
      have ep2 := (g.trans g2) _ _ ep
      refine ⟨.inl ⟨rfl, _, SqL.of e2⟩, .inr ⟨_, .inl ep2⟩, by decide, fun t2 ht2 => ?_⟩
      have g3 := same_new ht2 (.tup [.int h, .int i])
      have ey := top_get (kvs := kvs) aip own (h : Int) (i : Int)
      unfold bvL at ey
      refine ⟨_, DGet.t (k := k2 h i) (g3 _ _ ep2) upd_same, _, g3 _ _ e2, small1000 (by rw [List.length_map]; omega), same_upd hp ((g.trans g2).trans g3) _, row ++ [topV pns kvs own h i], ?_, by rw [List.length_append, rl]; rfl, fun j z hz => ?_⟩
      · rw [upd_same, ey, List.map_append]
        rfl
      · by_cases hj : j < row.length
        · rw [List.getElem?_append_left hj] at hz
          exact rok j z hz
        · rw [List.getElem?_append_right (by omega)] at hz
          have hj1 : j - row.length < [topV pns kvs own h i].length := (List.getElem?_eq_some_iff.mp hz).1
          rw [List.length_singleton] at hj1
          rw [show j - row.length = 0 by omega] at hz
          cases hz
          rw [show j = i by omega]
    rintro σ H' ⟨g, ⟨row, e, rl, rok⟩, v6, v7, v8, rfl⟩
    rw [u1]; clear u1
    walk_at "rd"
    exact q p row H' ⟨g, hp, e⟩ (by omega) rok
def sp__law_whole (_ : PySem.W.Frag) (C_Ward : Addr) : Sp := fun vs H Q _ => ∃ i : Int, vs = [.int i] ∧ Q (.bl true) H
theorem sc__law_whole : FnScope ["_law_found"] ["_law_found"] (defScope s__law_whole) := ⟨rfl, rfl, rfl, by decide +kernel, rfl, by decide +kernel, by decide +kernel⟩
theorem ok__law_whole {C_Ward : Addr} {f : Addr} {fd : FuncData} (F : Fun K "_law_whole" "_law_whole" s__law_whole f fd) (T : Txt K mg C_Ward)  : FnOk P w K mg base CX0 1 f fd ["_law_found"] (sp__law_whole K C_Ward) := by
  refine F.ok sc__law_whole (fun vs H Q E h => ?_) (fun cdv A outer s H vs Q E hr h => ?_)
  · obtain ⟨i, rfl, _⟩ := h
    rfl
  · obtain ⟨i, rfl, q⟩ := h
    refine ⟨_, (pss_one (ps_ret (pe_and (pe_callB call_isi (by rfl) T.isinstance PyProof.Rows.boot_isinstance (pa_cons (pv 0) (pa_cons (pe_bltn (v := .ty "int") rfl T.int PyProof.Rows.boot_int rfl) pa_nil))) (pe_one (pe_not (pe_callB call_isi (by rfl) T.isinstance PyProof.Rows.boot_isinstance (pa_cons (pv 0) (pa_cons (pe_bltn (v := .ty "bool") rfl T.bool PyProof.Rows.boot_bool rfl) pa_nil)))))))), ?_⟩
    walk_at "rd"
    exact q
def sp_law (K : PySem.W.Frag) : Sp := fun vs H Q _ => ∃ (a : Addr) (ns : List Int), vs = [.ref a] ∧ SqL K H a (ns.map V.int) ∧ ns.length ≤ 63 ∧ ∀ H', Q (.bl true) H'
theorem sc_law : FnScope ["_law_script", "_law_hands_here", "_law_days", "_law_posts_here", "_law_some", "_law_ward", "_law_pins_here", "_law_numbers_here", "_law_drawn", "_law_top", "_law_due", "_law_pinned", "_law_given", "_law_found", "_law_pairs", "_law_short", "_law_handed", "_law_told"] ["_law_script"] (defScope s_law) := ⟨rfl, rfl, rfl, by decide +kernel, rfl, by decide +kernel, by decide +kernel⟩
theorem ok_law {C_Ward : Addr} {f : Addr} {fd : FuncData} (F : Fun K "law" "law" s_law f fd) (T : Txt K mg C_Ward) (C__law_hands : Cal P w K mg base "_law_hands" ["_law_script"] 2 (sp__law_hands K C_Ward)) (C__law_posts : Cal P w K mg base "_law_posts" ["_law_script"] 2 (sp__law_posts K C_Ward)) (I_Ward : CalI P w K mg base "Ward" C_Ward ["self", "days", "hands", "posts"] 4 (sp_Ward___init__ K C_Ward)) (C__law_pins : Cal P w K mg base "_law_pins" ["_law_script", "_law_days", "_law_some"] 2 (sp__law_pins K C_Ward)) (C__law_numbers : Cal P w K mg base "_law_numbers" ["_law_script", "_law_days", "_law_some", "_law_posts_here"] 2 (sp__law_numbers K C_Ward)) (C__law_total : Cal P w K mg base "_law_total" ["_law_rota", "_law_numbers_here"] 1 (sp__law_total K C_Ward)) (C_best : Cal P w K mg base "best" ["ward", "pins", "numbers"] 3 (sp_best K C_Ward)) (C__law_lines : Cal P w K mg base "_law_lines" ["_law_script", "_law_numbers_here", "_law_due"] 2 (sp__law_lines K C_Ward)) (C_closes : Cal P w K mg base "closes" ["ward", "pins", "pairs"] 4 (sp_closes K C_Ward)) (C__law_choices : Cal P w K mg base "_law_choices" ["_law_skills", "_law_posts_here"] 1 (sp__law_choices K C_Ward)) (C__law_row : Cal P w K mg base "_law_row" ["_law_script", "_law_hand", "_law_days", "_law_some", "_law_pins_here"] 2 (sp__law_row K C_Ward)) (C__law_best_row : Cal P w K mg base "_law_best_row" ["_law_hand", "_law_days", "_law_some", "_law_pins_here", "_law_numbers_here"] 1 (sp__law_best_row K C_Ward)) (C__law_cell : Cal P w K mg base "_law_cell" ["_law_script", "_law_k"] 1 (sp__law_cell K C_Ward)) (C__law_whole : Cal P w K mg base "_law_whole" ["_law_found"] 1 (sp__law_whole K C_Ward)) : FnOk P w K mg base CX0 6 f fd ["_law_script"] (sp_law K) := by
  refine F.ok sc_law (fun vs H Q E h => ?_) (fun cdv A outer s H vs Q E hr h => ?_)
  · obtain ⟨a, ns, rfl, _⟩ := h
    rfl
  · obtain ⟨a, ns, rfl, hS, hl, q⟩ := h
    refine ⟨_, (pss_cons (ps_set (i := 1) sc_law.nd rfl (Or.inl rfl) (pe_cal C__law_hands (hr.mono (by decide)) rfl (pa_cons (pv 0) pa_nil)))
    (pss_cons (ps_set (i := 2) sc_law.nd rfl (Or.inr rfl) (pe_op op_add pe_int (pe_op op_mod (pe_cal C__law_cell (hr.mono (by decide)) rfl (pa_cons (pv 0) (pa_cons pe_int pa_nil))) pe_int)))
    (pss_cut (ps_if (pt_cmpR op_eq (pe_op op_mod (pe_op op_fdiv (pe_cal C__law_cell (hr.mono (by decide)) rfl (pa_cons (pv 0) (pa_cons pe_int pa_nil))) pe_int) pe_int) pe_int (nomark _)) (pss_one (ps_set (i := 2) sc_law.nd rfl (Or.inr rfl) pe_int)) pss_nil)
    (pss_cons (ps_set (i := 3) sc_law.nd rfl (Or.inr rfl) (pe_cal C__law_posts (hr.mono (by decide)) rfl (pa_cons (pv 0) pa_nil)))
    (pss_cons (ps_set (i := 4) sc_law.nd rfl (Or.inr rfl) (pe_comp (own := ["_law_skills"]) (fnames := ["_law_posts_here"]) (fr := [3]) (N' := ["_law_skills", "_law_posts_here"]) ⟨rfl, rfl, rfl, rfl, rfl, rfl, rfl⟩ rfl (pi_list (pv 1)) (fun s0 H0 fp0 C0 => ⟨(pg_name (i := 0) (by show (["_law_skills", "_law_posts_here"] : List Str).Nodup; decide +kernel) rfl (Or.inl rfl)), pts_nil, (pe_cal C__law_choices (hr.mono (by decide)) rfl (pa_cons (pv 0) (pa_cons (pv 1) pa_nil)))⟩)))
    (pss_cons (ps_set (i := 5) sc_law.nd rfl (Or.inl rfl) (pe_makeC I_Ward (hr.mono (by decide)) rfl (pa_cons (pv 2) (pa_cons (pe_callTy (call_listK (K := K) rfl) (by rfl) T.list PyProof.Rows.boot_list (pa_cons (pv 1) pa_nil)) (pa_cons (pe_callTy (call_listK (K := K) rfl) (by rfl) T.list PyProof.Rows.boot_list (pa_cons (pv 3) pa_nil)) pa_nil)))))
    (pss_cons (ps_set (i := 6) sc_law.nd rfl (Or.inr rfl) (pe_cal C__law_pins (hr.mono (by decide)) rfl (pa_cons (pv 0) (pa_cons (pv 2) (pa_cons (pv 4) pa_nil)))))
    (pss_cons (ps_set (i := 7) sc_law.nd rfl (Or.inr rfl) (pe_cal C__law_numbers (hr.mono (by decide)) rfl (pa_cons (pv 0) (pa_cons (pv 2) (pa_cons (pv 4) (pa_cons (pe_callB (call_lenK (K := K) rfl) (by rfl) T.len PySem.boot_len (pa_cons (pv 3) pa_nil)) pa_nil))))))
    (pss_cons (ps_comp (i := 8) sc_law.nd rfl rfl (own := ["_law_hand"]) (fnames := ["_law_script", "_law_days", "_law_some", "_law_pins_here"]) (fr := [0, 2, 4, 6]) (N' := ["_law_hand", "_law_script", "_law_days", "_law_some", "_law_pins_here"]) ⟨rfl, rfl, rfl, rfl, rfl, rfl, rfl⟩ rfl (pi_range1 rfl T.range (pa_cons (pe_callB (call_lenK (K := K) rfl) (by rfl) T.len PySem.boot_len (pa_cons (pv 1) pa_nil)) pa_nil)) (fun s0 H0 fp0 C0 => ⟨(pg_name (i := 0) (by show (["_law_hand", "_law_script", "_law_days", "_law_some", "_law_pins_here"] : List Str).Nodup; decide +kernel) rfl (Or.inl rfl)), pts_nil, (pe_cal C__law_row (hr.mono (by decide)) rfl (pa_cons (pv 1) (pa_cons (pv 0) (pa_cons (pv 2) (pa_cons (pe_ix (ix_listK (K := K) rfl) (pv 3) (pv 0) (fun _ _ => rfl)) (pa_cons (pv 4) pa_nil))))))⟩))
    (pss_cons (ps_comp (i := 9) sc_law.nd rfl rfl (own := ["_law_hand"]) (fnames := ["_law_days", "_law_some", "_law_pins_here", "_law_numbers_here"]) (fr := [2, 4, 6, 7]) (N' := ["_law_hand", "_law_days", "_law_some", "_law_pins_here", "_law_numbers_here"]) ⟨rfl, rfl, rfl, rfl, rfl, rfl, rfl⟩ rfl (pi_range1 rfl T.range (pa_cons (pe_callB (call_lenK (K := K) rfl) (by rfl) T.len PySem.boot_len (pa_cons (pv 1) pa_nil)) pa_nil)) (fun s0 H0 fp0 C0 => ⟨(pg_name (i := 0) (by show (["_law_hand", "_law_days", "_law_some", "_law_pins_here", "_law_numbers_here"] : List Str).Nodup; decide +kernel) rfl (Or.inl rfl)), pts_nil, (pe_cal C__law_best_row (hr.mono (by decide)) rfl (pa_cons (pv 0) (pa_cons (pv 1) (pa_cons (pe_ix (ix_listK (K := K) rfl) (pv 2) (pv 0) (fun _ _ => rfl)) (pa_cons (pv 3) (pa_cons (pv 4) pa_nil))))))⟩))
    (pss_cons (ps_set (i := 10) sc_law.nd rfl (Or.inl rfl) (pe_cal C__law_total (hr.mono (by decide)) rfl (pa_cons (pv 9) (pa_cons (pv 7) pa_nil))))
    (pss_cons (ps_set (i := 11) sc_law.nd rfl (Or.inl rfl) (pe_callTy call_copyT (by rfl) T.dict PyProof.Rows.boot_dict (pa_cons (pv 6) pa_nil)))
    (pss_cons (ps_set (i := 12) sc_law.nd rfl (Or.inl rfl) (pe_callTy call_copyT (by rfl) T.dict PyProof.Rows.boot_dict (pa_cons (pv 7) pa_nil)))
    (pss_cons (ps_set (i := 13) sc_law.nd rfl (Or.inl rfl) (pe_cal C_best (hr.mono (by decide)) rfl (pa_cons (pv 5) (pa_cons (pv 11) (pa_cons (pv 12) pa_nil)))))
    (pss_cons (ps_if (PW.pt (pw_or (pt_not (pt_val (pe_cal C__law_whole (hr.mono (by decide)) rfl (pa_cons (pv 13) pa_nil)))) (pw_or (pt_cmpR op_ne (pv 13) (pv 10) (nomark _)) (pw_or1 (pt_cmpR op_gt (pe_cal C__law_total (hr.mono (by decide)) rfl (pa_cons (pv 8) (pa_cons (pv 7) pa_nil))) (pv 13) (nomark _)))))) (pss_one (ps_ret pe_bl)) pss_nil)
    (pss_cons (ps_asg (pe_cal C__law_lines (hr.mono (by decide)) rfl (pa_cons (pv 0) (pa_cons (pv 7) (pa_cons (pv 10) pa_nil)))) (pg_tup (n := 2) rfl (pgs_cons (pg_name (i := 14) sc_law.nd rfl (Or.inl rfl)) (pgs_cons (pg_name (i := 15) sc_law.nd rfl (Or.inl rfl)) pgs_nil))))
    (pss_cons (ps_set (i := 16) sc_law.nd rfl (Or.inl rfl) (pe_callTy (call_listK (K := K) rfl) (by rfl) T.list PyProof.Rows.boot_list (pa_cons (pv 14) pa_nil)))
    (pss_cons (ps_set (i := 17) sc_law.nd rfl (Or.inl rfl) (pe_cal C_closes (hr.mono (by decide)) rfl (pa_cons (pv 5) (pa_cons (pv 11) (pa_cons (pv 16) pa_nil)))))
    (pss_cons (ps_if (PW.pt (pw_or (pt_not (pt_val (pe_callB call_isi (by rfl) T.isinstance PyProof.Rows.boot_isinstance (pa_cons (pv 17) (pa_cons (pe_bltn (v := .ty "bool") rfl T.bool PyProof.Rows.boot_bool rfl) pa_nil))))) (pw_or1 (pt_cmpR op_ne (pv 17) (pe_cmpR op_gt (pv 15) pe_int (nomark _)) (nomark _))))) (pss_one (ps_ret pe_bl)) pss_nil)
    (pss_cons (ps_if (pt_cmpR op_isnotB (pe_cal C_closes (hr.mono (by decide)) rfl (pa_cons (pv 5) (pa_cons (pv 11) (pa_cons (pe_lst pa_nil) pa_nil)))) pe_bl (nomark _)) (pss_one (ps_ret pe_bl)) pss_nil)
    (pss_one (ps_ret (pe_and (pe_cmpR (op_eqT hr) (pv 11) (pv 6) (nomark _)) (pe_and (pe_cmpR (op_eqT hr) (pv 12) (pv 7) (nomark _)) (pe_one (pe_cmpR (op_eqD 4 hr) (pv 16) (pv 14) (nomark _))))))))))))))))))))))))))), ?_⟩
    refine seq_of fun U1 u1 => ?_
    walk_at "rd"
    refine ⟨a, ns, rfl, hS, hl, fun ha hs H1 nw hok h8 => ?_⟩
    rw [u1]; clear u1
    obtain ⟨g1, f1, e1⟩ := nw
    refine seq_of fun U1 u1 => ?_
    walk_at "rd"
    refine ⟨a, ns, _, rfl, g1.seq hS, hl, by decide, by decide, fun c => ⟨c, rfl, by decide, ?_⟩⟩
    rw [u1]; clear u1
    refine cut_of (fun σ H' => H' = H1 ∧ ∃ d : Nat, 1 ≤ d ∧ d ≤ 31 ∧ σ = [some (.ref a), some (.ref ha), some (.int d), none, none, none, none, none, none, none, none, none, none, none, none, none, none, none]) ?_ ?_
    · walk_at "rd"
      refine ⟨a, ns, _, rfl, g1.seq hS, hl, by decide, by decide, fun c2 => ⟨c2, rfl, ⟨by decide, by decide⟩, by decide, ?_⟩⟩
      split
      · first | exact ⟨rfl, 31, by decide, by decide, rfl⟩ | exact ⟨31, by decide, by decide, rfl⟩
      · exact ⟨rfl, (1 + c % 9).toNat, by omega, by omega, by omega⟩
    rintro σ H' ⟨hH, d, d1, d31, rfl⟩
    subst hH
    refine seq_of fun U1 u1 => ?_
    walk_at "rd"
    refine ⟨a, ns, rfl, g1.seq hS, hl, fun pa ts ps H2 g2 f2 e2 hP okp p6 => ?_⟩
    rw [u1]; clear u1
    refine seq_of fun U1 u1 => ?_
    walk_at "rd"
    have e12 := g2 _ _ e1
    refine ⟨⟨_, SqL.of e12⟩, fun D hD => for_listW (xs := hs.map V.int) (fun i σ H' => GatF H2 D (fun j row => row = ch (hs[j]?.getD 0) ps) i H' ∧ ∃ v0, σ = [v0, some (.ref pa)]) ⟨GatF.start hD, none, rfl⟩ (fun i σ H' _ hh => SqL.of (hh.1.same _ _ e12)) ?_ ?_⟩
    · rintro i v σ H' hx ⟨gf, v0, rfl⟩
      obtain ⟨y, hy, rfl⟩ := map_item hx
      have hi := (List.getElem?_eq_some_iff.mp hy).1
      walk_at "rd"
      refine ⟨y, pa, ts, ps, rfl, gf.same _ _ e2, hP.mono gf.same, p6, fun r H3 nw => ?_⟩
      exact gf.step hD (by omega) nw.1 nw.2.1 nw.2.2 (by rw [hy]; rfl)
    rintro σ H3 ⟨gf, v0, rfl⟩
    rw [List.length_map] at gf
    obtain ⟨us, rows, rl, g3, eD, hR, hrow⟩ := gf.done
    clear gf
    rw [u1]; clear u1
    have okw : Ok (d : Int) hs ps := ⟨by omega, by omega, hok, h8, okp, p6⟩
    refine seq_of fun U1 u1 => ?_
    walk_at "rd"
    refine ⟨_, .inl (SqL.of (g3 _ _ (g2 _ _ e1))), fun l1 hl1 => ⟨_, .inl (SqL.of ((same_new hl1 _) _ _ (g3 _ _ e2))), fun l2 hl2 => ?_⟩⟩
    have ya := same_new hl1 (.lst (hs.map V.int))
    have yb := same_new hl2 (.lst ts)
    intro x dw hxw hdw nxw
    have s0 : Same (upd (upd H3 l1 (.lst (hs.map V.int))) l2 (.lst ts)) (upd (upd (upd (upd H3 l1 (.lst (hs.map V.int))) l2 (.lst ts)) dw (.own x)) x (.ins C_Ward dw [])) := fun b o hb => by
      rw [upd_ne (ne_of_none hb hxw), upd_ne (ne_of_none hb hdw)]
      exact hb
    refine ⟨x, dw, l1, l2, (d : Int), hs, ts, ps, rfl, upd_same, SqL.of (s0 _ _ (yb _ _ upd_same)), SqL.of (s0 _ _ upd_same), (hP.mono g3).mono (ya.trans (yb.trans s0)), okw, fun H4 fr W4 => ⟨rfl, ?_⟩⟩
    have g4 : Same H3 H4 := fun b o hb => fr b o (s0 b o (yb _ _ (ya _ _ hb))) (ne_of_none (yb _ _ (ya _ _ hb)) hxw)
    clear fr s0 hxw hdw nxw ya yb hl1 hl2
    rw [u1]; clear u1
    have eD4 := g4 _ _ eD
    have hR4 := hR.mono g4
    have G4 := g1.trans (g2.trans (g3.trans g4))
    have r9 : ∀ r ∈ rows, 0 < r.length ∧ r.length ≤ 9 := fun r hr => by
      obtain ⟨j, hj, e⟩ := List.getElem_of_mem hr
      have z := hrow j r (by rw [List.getElem?_eq_getElem hj, e])
      have := ch_len (hs[j]?.getD 0) ps
      rw [z]
      exact ⟨Nat.succ_pos _, by omega⟩
    refine seq_of fun U1 u1 => ?_
    walk_at "rd"
    refine ⟨a, D, ns, d, us, rows, rfl, G4.seq hS, hl, d1, d31, eD4, hR4, r9, by omega, fun pd pns H5 g5 f5 e5 pok => ?_⟩
    rw [u1]; clear u1
    refine seq_of fun U1 u1 => ?_
    walk_at "rd"
    have hpl := (hP.mono (g3.trans (g4.trans g5))).len
    refine ⟨_, .inl (SqL.of ((g3.trans (g4.trans g5)) _ _ e2)), ?_⟩
    rw [hpl]
    refine ⟨a, D, ns, d, ps.length, us, rows, rfl, (G4.trans g5).seq hS, hl, d1, d31, p6, g5 _ _ eD4, hR4.mono g5, by omega, fun nd kvs H6 g6 f6 e6 nok kl => ?_⟩
    rw [u1]; clear u1
    have e56 := g6 _ _ e5
    rw [rl] at pok nok
    have npn : pd ≠ nd := ne_of_none e5 f6
    have eD6 := g6 _ _ (g5 _ _ eD4)
    have hR6 := hR4.mono (g5.trans g6)
    have G6 := G4.trans (g5.trans g6)
    have eh6 := (g2.trans (g3.trans (g4.trans (g5.trans g6)))) _ _ e1
    refine seq_of fun U1 u1 => ?_
    walk_at "rd"
    refine ⟨_, .inl (SqL.of eh6), by rw [List.length_map]; omega, by rw [List.length_map]; omega, fun D1 hD1 => for_rangeW (fun i σ H' => GatF H6 D1 (fun j row => row.length = d ∧ ∀ (k : Nat) y, row[k]? = some y → y ∈ vls2 pns (ch (hs[j]?.getD 0) ps) j k) i H' ∧ ∃ v0, σ = [v0, some (.ref a), some (.int d), some (.ref D), some (.ref pd)]) ⟨GatF.start hD1, none, rfl⟩ ?_ ?_⟩
    · rintro i σ H' hi ⟨gf, v0, rfl⟩
      rw [show (0 + (i : Int)) = i by omega]
      rw [List.length_map] at hi
      have hi' : i < rows.length := by omega
      obtain ⟨t1, a1, q1⟩ := (hR6.mono gf.same).get (List.getElem?_eq_getElem hi')
      rw [hrow i _ (List.getElem?_eq_getElem hi')] at q1
      have hcl := ch_len (hs[i]?.getD 0) ps
      walk_at "rd"
      refine ⟨_, SqL.of (gf.same _ _ eD6), _, atI_nat a1, a, t1, pd, ns, i, d, ch (hs[i]?.getD 0) ps, pns, rfl, (G6.trans gf.same).seq hS, hl, by omega, d31, q1, Nat.succ_pos _, by omega, gf.same _ _ e56, pok.ai, fun r row H7 nw rl7 rok => ?_⟩
      exact gf.step hD1 (by omega) nw.1 nw.2.1 nw.2.2 ⟨rl7, rok⟩
    rintro σ H7 ⟨gf, v0, rfl⟩
    rw [List.length_map] at gf
    obtain ⟨usd, rowsd, rld, g7, eD1, hRd, hrowd⟩ := gf.done
    clear gf
    rw [u1]; clear u1
    refine seq_of fun U1 u1 => ?_
    walk_at "rd"
    refine ⟨_, .inl (SqL.of (g7 _ _ eh6)), by rw [List.length_map]; omega, by rw [List.length_map]; omega, fun D2 hD2 => for_rangeW (fun i σ H' => GatF H7 D2 (fun j row => row.length = d ∧ ∀ (k : Nat) y, row[k]? = some y → y = topV pns kvs (ch (hs[j]?.getD 0) ps) j k) i H' ∧ ∃ v0, σ = [v0, some (.int d), some (.ref D), some (.ref pd), some (.ref nd)]) ⟨GatF.start hD2, none, rfl⟩ ?_ ?_⟩
    · rintro i σ H' hi ⟨gf, v0, rfl⟩
      rw [show (0 + (i : Int)) = i by omega]
      rw [List.length_map] at hi
      have hi' : i < rows.length := by omega
      have g78 := g7.trans gf.same
      obtain ⟨t1, a1, q1⟩ := (hR6.mono g78).get (List.getElem?_eq_getElem hi')
      rw [hrow i _ (List.getElem?_eq_getElem hi')] at q1
      have hcl := ch_len (hs[i]?.getD 0) ps
      walk_at "rd"
      refine ⟨_, SqL.of (g78 _ _ eD6), _, atI_nat a1, t1, pd, nd, i, d, ch (hs[i]?.getD 0) ps, pns, kvs, rfl, by omega, d31, q1, by omega, g78 _ _ e56, pok.ai, g78 _ _ e6, nok.ai, fun r row H8 nw rl8 rok => ?_⟩
      exact gf.step hD2 (by omega) nw.1 nw.2.1 nw.2.2 ⟨rl8, rok⟩
    rintro σ H8 ⟨gf, v0, rfl⟩
    rw [List.length_map] at gf
    obtain ⟨ust, rowst, rlt, g8, eD2, hRt, hrowt⟩ := gf.done
    clear gf
    rw [u1]; clear u1
    refine seq_of fun U1 u1 => ?_
    walk_at "rd"
    have en8 := (g7.trans g8) _ _ e6
    rw [Int.toNat_natCast] at rlt rld
    have lend : ∀ row ∈ rowsd, row.length = d := fun r hr => by
      obtain ⟨j, hj, e⟩ := List.getElem_of_mem hr
      exact (hrowd j r (by rw [List.getElem?_eq_getElem hj, e])).1
    have lent : ∀ row ∈ rowst, row.length = d := fun r hr => by
      obtain ⟨j, hj, e⟩ := List.getElem_of_mem hr
      exact (hrowt j r (by rw [List.getElem?_eq_getElem hj, e])).1
    have nokt := nok
    rw [← rlt] at nokt
    have nokd := nok
    rw [← rld] at nokd
    refine ⟨D2, nd, ust, rowst, d, _, kvs, rfl, eD2, hRt, lent, en8, nokt, fun H9 g9 => ?_⟩
    have hbest := top_best (pns := pns) (own := fun h => ch (hs[h]?.getD 0) ps) (r := fun h d => val rowst h d) nok (fun h _ => List.mem_cons_self ..) (fun h k hh hk => by
      have h1 : h < rowst.length := by omega
      have h2 : k < rowst[h].length := by rw [lent _ (List.getElem_mem h1)]; exact hk
      rw [val_of (List.getElem?_eq_getElem h1) h2]
      exact (hrowt h _ (List.getElem?_eq_getElem h1)).2 k _ (List.getElem?_eq_getElem h2))
    have hany := any_best (pns := pns) (own := fun h => ch (hs[h]?.getD 0) ps) (r := fun h d => val rowsd h d) nok (fun h k hh hk => by
      have h1 : h < rowsd.length := by omega
      have h2 : k < rowsd[h].length := by rw [lend _ (List.getElem_mem h1)]; exact hk
      rw [val_of (List.getElem?_eq_getElem h1) h2]
      exact (hrowd h _ (List.getElem?_eq_getElem h1)).2 k _ (List.getElem?_eq_getElem h2))
    rw [hbest]
    rw [u1]; clear u1
    refine seq_of fun U1 u1 => ?_
    walk_at "rd"
    have G9 := G6.trans (g7.trans (g8.trans g9))
    have ep9 := (g7.trans (g8.trans g9)) _ _ e56
    have en9 := g9 _ _ en8
    refine ⟨pns, ep9, pok.hash h8 d31 _ _, fun pc hpc => ?_⟩
    have ga := same_new hpc (.dT pns)
    have epc := upd_same (H := H9) (a := pc) (o := .dT pns)
    have Ga := G9.trans ga
    have ep10 := ga _ _ ep9
    have en10 := ga _ _ en9
    have W10 := W4.mono ((g5.trans g6).trans ((g7.trans (g8.trans g9)).trans ga))
    have eD10 := (g8.trans (g9.trans ga)) _ _ eD1
    have hR10 := hRd.mono (g8.trans (g9.trans ga))
    generalize upd H9 pc (.dT pns) = H10 at ga epc Ga ep10 en10 W10 eD10 hR10 ⊢
    rw [u1]; clear u1
    refine seq_of fun U1 u1 => ?_
    walk_at "rd"
    refine ⟨kvs, en10, nok.hash h8 d31 (by omega) _ _, fun nc hnc => ?_⟩
    have gb := same_new hnc (.dT kvs)
    have enc := upd_same (H := H10) (a := nc) (o := .dT kvs)
    have Gb := Ga.trans gb
    have npc : pc ≠ nc := ne_of_none epc hnc
    have epc := gb _ _ epc
    have ep11 := gb _ _ ep10
    have en11 := gb _ _ en10
    have W11 := W10.mono gb
    have eD11 := gb _ _ eD10
    have hR11 := hR10.mono gb
    generalize upd H10 nc (.dT kvs) = H11 at gb enc Gb epc ep11 en11 W11 eD11 hR11 ⊢
    clear W10 eD10 hR10 ep10 en10 hpc hnc ga gb
    rw [u1]; clear u1
    have nok' : NumOk hs.length (d : Int).toNat (ps.length + 1) kvs := by rw [Int.toNat_natCast]; exact nok
    refine seq_of fun U1 u1 => ?_
    walk_at "rd"
    refine ⟨x, pc, nc, d, hs, ps, pns, kvs, rfl, W11, okw, epc, enc, npc, pok.ai, nok', by omega, fun H12 g12 => ?_⟩
    rw [Int.toNat_natCast]
    rw [u1]; clear u1
    refine seq_of fun U1 u1 => ?_
    walk_at "rd"
    refine ⟨_, rfl, ?_⟩
    walk_at "rd"
    have G12 := Gb.trans g12
    refine ⟨D1, nd, usd, rowsd, d, _, kvs, rfl, g12 _ _ eD11, hR11.mono g12, lend, g12 _ _ en11, nokd, fun H13 g13 => ⟨_, rfl, ?_⟩⟩
    rw [if_neg (by omega)]
    rw [u1]; clear u1
    refine seq_of fun U1 u1 => ?_
    walk_at "rd"
    refine ⟨a, nd, ns, hs.length, d, ps.length + 1, kvs, _, rfl, (G12.trans g13).seq hS, hl, g13 _ _ (g12 _ _ en11), nok, h8, d31, by omega, kl, fun tl pr up ls short H14 g14 et epr hPr up3 lb ln lok lat lsum => ?_⟩
    refine ⟨_, rfl, _, SqT.of et, rfl, _, _, rfl, _, _, rfl, rfl, ?_⟩
    rw [u1]; clear u1
    refine seq_of fun U1 u1 => ?_
    walk_at "rd"
    refine ⟨_, .inl (SqL.of epr), fun hd hhd => ?_⟩
    have g15 := same_new hhd (.lst up)
    have ehd := upd_same (H := H14) (a := hd) (o := .lst up)
    have epr := g15 _ _ epr
    have hPr := hPr.mono (tups_same g15)
    have g11 := g12.trans (g13.trans (g14.trans g15))
    have W15 := W11.mono g11
    have epc := g11 _ _ epc
    have enc := g11 _ _ enc
    have ep11 := g11 _ _ ep11
    have en11 := g11 _ _ en11
    generalize upd H14 hd (.lst up) = H15 at ehd epr hPr W15 epc enc ep11 en11 ⊢
    rw [u1]; clear u1
    have lok' : NumOk hs.length (d : Int).toNat (ps.length + 1) (sumKv ls) := by rw [Int.toNat_natCast]; exact lok
    refine seq_of fun U1 u1 => ?_
    walk_at "rd"
    refine ⟨x, pc, hd, d, hs, ps, pns, up, ls, rfl, W15, okw, epc, pok.ai, ehd, hPr, lb, ln, lok', fun H16 g16 => ?_⟩
    rw [Int.toNat_natCast, best_same lat, lsum]
    rw [u1]; clear u1
    refine seq_of fun U1 u1 => ?_
    walk_at "rd"
    rw [if_neg (fun z => z (decide_eq_decide.mpr (by omega)))]
    rw [u1]; clear u1
    refine seq_of fun U1 u1 => ?_
    walk_at "rd"
    refine ⟨Nat.zero_le _, fun el hel => ?_⟩
    have g17 := same_new hel (.lst [])
    have g1517 := g16.trans g17
    refine ⟨x, pc, el, d, hs, ps, pns, [], [], rfl, W15.mono g1517, okw, g1517 _ _ epc, pok.ai, upd_same, .nil, (fun l z => by cases z), Nat.zero_le _, NumOk.nil, fun H18 g18 => ?_⟩
    rw [show sumKv [] = [] from rfl, best_nil (own := fun h => ch (hs[h]?.getD 0) ps) fun h _ => Nat.succ_pos _]
    walk_at "rd"
    rw [u1]; clear u1
    have G18 := g1517.trans g18
    have dC := den_prs (K := K) (SqL.of (G18 _ _ ehd)) (hPr.mono (tups_same G18))
    have dD := den_prs (K := K) (SqL.of (G18 _ _ epr)) (hPr.mono (tups_same G18))
    walk_at "rd"
    refine ⟨pns, G18 _ _ epc, G18 _ _ ep11, ints_of pok.ky pok.ai, ?_⟩
    refine ⟨kvs, G18 _ _ enc, G18 _ _ en11, ints_of nok.ky nok.ai, hd, pr, _, _, rfl, rfl, dC, dD, like_den _ _ _ dC, ?_⟩
    rw [eqD_same]
    exact q _
end
theorem len_1 {α : Type} {us : List α} (h : us.length = 1) : ∃ a0 : α, us = [a0] := match us, h with | [a0], _ => ⟨a0, rfl⟩
theorem len_2 {α : Type} {us : List α} (h : us.length = 2) : ∃ a0 a1 : α, us = [a0, a1] := match us, h with | [a0, a1], _ => ⟨a0, a1, rfl⟩
theorem len_3 {α : Type} {us : List α} (h : us.length = 3) : ∃ a0 a1 a2 : α, us = [a0, a1, a2] := match us, h with | [a0, a1, a2], _ => ⟨a0, a1, a2, rfl⟩
theorem len_4 {α : Type} {us : List α} (h : us.length = 4) : ∃ a0 a1 a2 a3 : α, us = [a0, a1, a2, a3] := match us, h with | [a0, a1, a2, a3], _ => ⟨a0, a1, a2, a3, rfl⟩
theorem len_5 {α : Type} {us : List α} (h : us.length = 5) : ∃ a0 a1 a2 a3 a4 : α, us = [a0, a1, a2, a3, a4] := match us, h with | [a0, a1, a2, a3, a4], _ => ⟨a0, a1, a2, a3, a4, rfl⟩
theorem all_mk {l : PySem.W.OpenLaw} {w : World} {K : PySem.W.Frag} {h : Heap} {mg : Str → Option Value} {fa : Addr} (X : K.In h) (G : h.Ns mainGlobals mg) (hfa : mg "law" = some (.ref fa))
    {C_Ward : Addr}
    {f1 : Addr} {od1 an1 : Option Addr} {sl1 : Array (Option Value)} {oc1 kV1 dc1 pm1 cd1 ct1 : Value}
    {f2 : Addr} {od2 an2 : Option Addr} {sl2 : Array (Option Value)} {oc2 kV2 dc2 pm2 cd2 ct2 : Value}
    {f3 : Addr} {od3 an3 : Option Addr} {sl3 : Array (Option Value)} {oc3 kV3 dc3 pm3 cd3 ct3 : Value}
    {f4 : Addr} {od4 an4 : Option Addr} {sl4 : Array (Option Value)} {oc4 kV4 dc4 pm4 cd4 ct4 : Value}
    {f5 : Addr} {od5 an5 : Option Addr} {sl5 : Array (Option Value)} {oc5 kV5 dc5 pm5 cd5 ct5 : Value}
    {f6 : Addr} {od6 an6 : Option Addr} {sl6 : Array (Option Value)} {oc6 kV6 dc6 pm6 cd6 ct6 : Value}
    {f7 : Addr} {od7 an7 : Option Addr} {sl7 : Array (Option Value)} {oc7 kV7 dc7 pm7 cd7 ct7 : Value}
    {f8 : Addr} {od8 an8 : Option Addr} {sl8 : Array (Option Value)} {oc8 kV8 dc8 pm8 cd8 ct8 : Value}
    {f9 : Addr} {od9 an9 : Option Addr} {sl9 : Array (Option Value)} {oc9 kV9 dc9 pm9 cd9 ct9 : Value}
    {f10 : Addr} {od10 an10 : Option Addr} {sl10 : Array (Option Value)} {oc10 kV10 dc10 pm10 cd10 ct10 : Value}
    {f11 : Addr} {od11 an11 : Option Addr} {sl11 : Array (Option Value)} {oc11 kV11 dc11 pm11 cd11 ct11 : Value}
    {f12 : Addr} {od12 an12 : Option Addr} {sl12 : Array (Option Value)} {oc12 kV12 dc12 pm12 cd12 ct12 : Value}
    {f13 : Addr} {od13 an13 : Option Addr} {sl13 : Array (Option Value)} {oc13 kV13 dc13 pm13 cd13 ct13 : Value}
    {f14 : Addr} {od14 an14 : Option Addr} {sl14 : Array (Option Value)} {oc14 kV14 dc14 pm14 cd14 ct14 : Value}
    {f15 : Addr} {od15 an15 : Option Addr} {sl15 : Array (Option Value)} {oc15 kV15 dc15 pm15 cd15 ct15 : Value}
    {f16 : Addr} {od16 an16 : Option Addr} {sl16 : Array (Option Value)} {oc16 kV16 dc16 pm16 cd16 ct16 : Value}
    {f17 : Addr} {od17 an17 : Option Addr} {sl17 : Array (Option Value)} {oc17 kV17 dc17 pm17 cd17 ct17 : Value}
    {f18 : Addr} {od18 an18 : Option Addr} {sl18 : Array (Option Value)} {oc18 kV18 dc18 pm18 cd18 ct18 : Value}
    {f19 : Addr} {od19 an19 : Option Addr} {sl19 : Array (Option Value)} {oc19 kV19 dc19 pm19 cd19 ct19 : Value}
    {f20 : Addr} {od20 an20 : Option Addr} {sl20 : Array (Option Value)} {oc20 kV20 dc20 pm20 cd20 ct20 : Value}
    {f21 : Addr} {od21 an21 : Option Addr} {sl21 : Array (Option Value)} {oc21 kV21 dc21 pm21 cd21 ct21 : Value}
    {f22 : Addr} {od22 an22 : Option Addr} {sl22 : Array (Option Value)} {oc22 kV22 dc22 pm22 cd22 ct22 : Value}
    {f23 : Addr} {od23 an23 : Option Addr} {sl23 : Array (Option Value)} {oc23 kV23 dc23 pm23 cd23 ct23 : Value}
    {gt1 : Tok}
    {gt2 : Tok}
    {gt3 : Tok}
    (aC_Ward : PySem.W.nsIn K mainGlobals "Ward" = some (some (.ref C_Ward)))
    (pg_Ward : PySem.W.plainGet K C_Ward Str.empty = true)
    (hd_Ward : PySem.W.hasDictIn K C_Ward = true)
    (po_Ward : PySem.W.plainOver K C_Ward = true)
    (sa_Ward : PySem.W.findIn K (.ref C_Ward) "__setattr__" = some (some (.builtin "object.__setattr__")))
    (mk_Ward : PySem.W.makesIn K C_Ward = true)
    (kc_Ward : PySem.W.keepIn K (.ref C_Ward) = true)
    (f_days_Ward : PySem.W.findIn K (.ref C_Ward) "days" = some none)
    (f_hands_Ward : PySem.W.findIn K (.ref C_Ward) "hands" = some none)
    (f_posts_Ward : PySem.W.findIn K (.ref C_Ward) "posts" = some none)
    (a1 : PySem.W.nsIn K mainGlobals "need_month" = some (some (.ref f1)))
    (l1 : K.lookup f1 = some ⟨oc1, od1, .func (PySem.W.fnOf "need_month" "need_month" (defArgs s_need_month) (defBody s_need_month) (defScope s_need_month) .none kV1 dc1 pm1 an1 cd1 ct1), sl1⟩) (c1 : PySem.W.codeIn K cd1 "need_month" = true) (k1 : PySem.W.keepIn K (.ref f1) = true)
    (a2 : PySem.W.nsIn K mainGlobals "is_skills" = some (some (.ref f2)))
    (l2 : K.lookup f2 = some ⟨oc2, od2, .func (PySem.W.fnOf "is_skills" "is_skills" (defArgs s_is_skills) (defBody s_is_skills) (defScope s_is_skills) .none kV2 dc2 pm2 an2 cd2 ct2), sl2⟩) (c2 : PySem.W.codeIn K cd2 "is_skills" = true) (k2 : PySem.W.keepIn K (.ref f2) = true)
    (a3 : PySem.W.nsIn K mainGlobals "need_hands" = some (some (.ref f3)))
    (l3 : K.lookup f3 = some ⟨oc3, od3, .func (PySem.W.fnOf "need_hands" "need_hands" (defArgs s_need_hands) (defBody s_need_hands) (defScope s_need_hands) .none kV3 dc3 pm3 an3 cd3 ct3), sl3⟩) (c3 : PySem.W.codeIn K cd3 "need_hands" = true) (k3 : PySem.W.keepIn K (.ref f3) = true)
    (a4 : PySem.W.nsIn K mainGlobals "is_post" = some (some (.ref f4)))
    (l4 : K.lookup f4 = some ⟨oc4, od4, .func (PySem.W.fnOf "is_post" "is_post" (defArgs s_is_post) (defBody s_is_post) (defScope s_is_post) .none kV4 dc4 pm4 an4 cd4 ct4), sl4⟩) (c4 : PySem.W.codeIn K cd4 "is_post" = true) (k4 : PySem.W.keepIn K (.ref f4) = true)
    (a5 : PySem.W.nsIn K mainGlobals "need_posts" = some (some (.ref f5)))
    (l5 : K.lookup f5 = some ⟨oc5, od5, .func (PySem.W.fnOf "need_posts" "need_posts" (defArgs s_need_posts) (defBody s_need_posts) (defScope s_need_posts) .none kV5 dc5 pm5 an5 cd5 ct5), sl5⟩) (c5 : PySem.W.codeIn K cd5 "need_posts" = true) (k5 : PySem.W.keepIn K (.ref f5) = true)
    (a6 : PySem.W.findIn K (.ref C_Ward) "__init__" = some (some (.ref f6))) (i6 : PySem.W.isFn K (.ref f6) = true)
    (l6 : K.lookup f6 = some ⟨oc6, od6, .func (PySem.W.fnOf "__init__" "Ward.__init__" (defArgs s_Ward___init__) (defBody s_Ward___init__) (defScope s_Ward___init__) .none kV6 dc6 pm6 an6 cd6 ct6), sl6⟩) (c6 : PySem.W.codeIn K cd6 "Ward.__init__" = true) (k6 : PySem.W.keepIn K (.ref f6) = true)
    (a7 : PySem.W.nsIn K mainGlobals "covers" = some (some (.ref f7)))
    (l7 : K.lookup f7 = some ⟨oc7, od7, .func (PySem.W.fnOf "covers" "covers" (defArgs s_covers) (defBody s_covers) (defScope s_covers) .none kV7 dc7 pm7 an7 cd7 ct7), sl7⟩) (c7 : PySem.W.codeIn K cd7 "covers" = true) (k7 : PySem.W.keepIn K (.ref f7) = true)
    (a8 : PySem.W.findIn K (.ref C_Ward) "choices" = some (some (.ref f8))) (i8 : PySem.W.isFn K (.ref f8) = true)
    (l8 : K.lookup f8 = some ⟨oc8, od8, .func (PySem.W.fnOf "choices" "Ward.choices" (defArgs s_Ward_choices) (defBody s_Ward_choices) (defScope s_Ward_choices) .none kV8 dc8 pm8 an8 cd8 ct8), sl8⟩) (c8 : PySem.W.codeIn K cd8 "Ward.choices" = true) (k8 : PySem.W.keepIn K (.ref f8) = true)
    (a9 : PySem.W.nsIn K mainGlobals "best" = some (some (.ref f9)))
    (l9 : K.lookup f9 = some ⟨oc9, od9, .func (PySem.W.fnOf "best" "best" (defArgs s_best) (defBody s_best) (defScope s_best) .none kV9 dc9 pm9 an9 cd9 ct9), sl9⟩) (c9 : PySem.W.codeIn K cd9 "best" = true) (k9 : PySem.W.keepIn K (.ref f9) = true)
    (a10 : PySem.W.nsIn K mainGlobals "summed" = some (some (.ref f10)))
    (l10 : K.lookup f10 = some ⟨oc10, od10, .func (PySem.W.fnOf "summed" "summed" (defArgs s_summed) (defBody s_summed) (defScope s_summed) .none kV10 dc10 pm10 an10 cd10 ct10), sl10⟩) (c10 : PySem.W.codeIn K cd10 "summed" = true) (k10 : PySem.W.keepIn K (.ref f10) = true)
    (a11 : PySem.W.nsIn K mainGlobals "closes" = some (some (.ref f11)))
    (l11 : K.lookup f11 = some ⟨oc11, od11, .func (PySem.W.fnOf "closes" "closes" (defArgs s_closes) (defBody s_closes) (defScope s_closes) .none kV11 dc11 pm11 an11 cd11 ct11), sl11⟩) (c11 : PySem.W.codeIn K cd11 "closes" = true) (k11 : PySem.W.keepIn K (.ref f11) = true)
    (a12 : PySem.W.nsIn K mainGlobals "_law_cell" = some (some (.ref f12)))
    (l12 : K.lookup f12 = some ⟨oc12, od12, .func (PySem.W.fnOf "_law_cell" "_law_cell" (defArgs s__law_cell) (defBody s__law_cell) (defScope s__law_cell) .none kV12 dc12 pm12 an12 cd12 ct12), sl12⟩) (c12 : PySem.W.codeIn K cd12 "_law_cell" = true) (k12 : PySem.W.keepIn K (.ref f12) = true)
    (a13 : PySem.W.nsIn K mainGlobals "_law_hands" = some (some (.ref f13)))
    (l13 : K.lookup f13 = some ⟨oc13, od13, .func (PySem.W.fnOf "_law_hands" "_law_hands" (defArgs s__law_hands) (defBody s__law_hands) (defScope s__law_hands) .none kV13 dc13 pm13 an13 cd13 ct13), sl13⟩) (c13 : PySem.W.codeIn K cd13 "_law_hands" = true) (k13 : PySem.W.keepIn K (.ref f13) = true)
    (a14 : PySem.W.nsIn K mainGlobals "_law_posts" = some (some (.ref f14)))
    (l14 : K.lookup f14 = some ⟨oc14, od14, .func (PySem.W.fnOf "_law_posts" "_law_posts" (defArgs s__law_posts) (defBody s__law_posts) (defScope s__law_posts) .none kV14 dc14 pm14 an14 cd14 ct14), sl14⟩) (c14 : PySem.W.codeIn K cd14 "_law_posts" = true) (k14 : PySem.W.keepIn K (.ref f14) = true)
    (a15 : PySem.W.nsIn K mainGlobals "_law_pins" = some (some (.ref f15)))
    (l15 : K.lookup f15 = some ⟨oc15, od15, .func (PySem.W.fnOf "_law_pins" "_law_pins" (defArgs s__law_pins) (defBody s__law_pins) (defScope s__law_pins) .none kV15 dc15 pm15 an15 cd15 ct15), sl15⟩) (c15 : PySem.W.codeIn K cd15 "_law_pins" = true) (k15 : PySem.W.keepIn K (.ref f15) = true)
    (a16 : PySem.W.nsIn K mainGlobals "_law_numbers" = some (some (.ref f16)))
    (l16 : K.lookup f16 = some ⟨oc16, od16, .func (PySem.W.fnOf "_law_numbers" "_law_numbers" (defArgs s__law_numbers) (defBody s__law_numbers) (defScope s__law_numbers) .none kV16 dc16 pm16 an16 cd16 ct16), sl16⟩) (c16 : PySem.W.codeIn K cd16 "_law_numbers" = true) (k16 : PySem.W.keepIn K (.ref f16) = true)
    (a17 : PySem.W.nsIn K mainGlobals "_law_total" = some (some (.ref f17)))
    (l17 : K.lookup f17 = some ⟨oc17, od17, .func (PySem.W.fnOf "_law_total" "_law_total" (defArgs s__law_total) (defBody s__law_total) (defScope s__law_total) .none kV17 dc17 pm17 an17 cd17 ct17), sl17⟩) (c17 : PySem.W.codeIn K cd17 "_law_total" = true) (k17 : PySem.W.keepIn K (.ref f17) = true)
    (a18 : PySem.W.nsIn K mainGlobals "_law_lines" = some (some (.ref f18)))
    (l18 : K.lookup f18 = some ⟨oc18, od18, .func (PySem.W.fnOf "_law_lines" "_law_lines" (defArgs s__law_lines) (defBody s__law_lines) (defScope s__law_lines) .none kV18 dc18 pm18 an18 cd18 ct18), sl18⟩) (c18 : PySem.W.codeIn K cd18 "_law_lines" = true) (k18 : PySem.W.keepIn K (.ref f18) = true)
    (a19 : PySem.W.nsIn K mainGlobals "_law_choices" = some (some (.ref f19)))
    (l19 : K.lookup f19 = some ⟨oc19, od19, .func (PySem.W.fnOf "_law_choices" "_law_choices" (defArgs s__law_choices) (defBody s__law_choices) (defScope s__law_choices) .none kV19 dc19 pm19 an19 cd19 ct19), sl19⟩) (c19 : PySem.W.codeIn K cd19 "_law_choices" = true) (k19 : PySem.W.keepIn K (.ref f19) = true)
    (a20 : PySem.W.nsIn K mainGlobals "_law_row" = some (some (.ref f20)))
    (l20 : K.lookup f20 = some ⟨oc20, od20, .func (PySem.W.fnOf "_law_row" "_law_row" (defArgs s__law_row) (defBody s__law_row) (defScope s__law_row) .none kV20 dc20 pm20 an20 cd20 ct20), sl20⟩) (c20 : PySem.W.codeIn K cd20 "_law_row" = true) (k20 : PySem.W.keepIn K (.ref f20) = true)
    (a21 : PySem.W.nsIn K mainGlobals "_law_best_row" = some (some (.ref f21)))
    (l21 : K.lookup f21 = some ⟨oc21, od21, .func (PySem.W.fnOf "_law_best_row" "_law_best_row" (defArgs s__law_best_row) (defBody s__law_best_row) (defScope s__law_best_row) .none kV21 dc21 pm21 an21 cd21 ct21), sl21⟩) (c21 : PySem.W.codeIn K cd21 "_law_best_row" = true) (k21 : PySem.W.keepIn K (.ref f21) = true)
    (a22 : PySem.W.nsIn K mainGlobals "_law_whole" = some (some (.ref f22)))
    (l22 : K.lookup f22 = some ⟨oc22, od22, .func (PySem.W.fnOf "_law_whole" "_law_whole" (defArgs s__law_whole) (defBody s__law_whole) (defScope s__law_whole) .none kV22 dc22 pm22 an22 cd22 ct22), sl22⟩) (c22 : PySem.W.codeIn K cd22 "_law_whole" = true) (k22 : PySem.W.keepIn K (.ref f22) = true)
    (a23 : PySem.W.nsIn K mainGlobals "law" = some (some (.ref f23)))
    (l23 : K.lookup f23 = some ⟨oc23, od23, .func (PySem.W.fnOf "law" "law" (defArgs s_law) (defBody s_law) (defScope s_law) .none kV23 dc23 pm23 an23 cd23 ct23), sl23⟩) (c23 : PySem.W.codeIn K cd23 "law" = true) (k23 : PySem.W.keepIn K (.ref f23) = true)
    (z1 : PySem.W.nsIn K mainGlobals "bool" = some none)
    (z2 : PySem.W.nsIn K mainGlobals "dict" = some none)
    (z3 : PySem.W.nsIn K mainGlobals "enumerate" = some none)
    (z4 : PySem.W.nsIn K mainGlobals "int" = some none)
    (z5 : PySem.W.nsIn K mainGlobals "isinstance" = some none)
    (z6 : PySem.W.nsIn K mainGlobals "len" = some none)
    (z7 : PySem.W.nsIn K mainGlobals "list" = some none)
    (z8 : PySem.W.nsIn K mainGlobals "max" = some none)
    (z9 : PySem.W.nsIn K mainGlobals "min" = some none)
    (z10 : PySem.W.nsIn K mainGlobals "range" = some none)
    (z11 : PySem.W.nsIn K mainGlobals "tuple" = some none)
    (g1 : PySem.W.nsIn K mainGlobals "MOST_DAYS" = some (some (.int 31 gt1)))
    (g2 : PySem.W.nsIn K mainGlobals "MOST_HANDS" = some (some (.int 8 gt2)))
    (g3 : PySem.W.nsIn K mainGlobals "MOST_POSTS" = some (some (.int 6 gt3)))
    : ∃ fd : FuncData, (∀ (s : Shared) (v : Value), BindsTo s fd ⟨[v], []⟩ [("_law_script", v)]) ∧ ∀ base : Heap, K.In base → base.Ns mainGlobals mg → FnOk l.prog w K mg base CX0 6 fa fd ["_law_script"] (sp_law K) := by
  have e := hfa.symm.trans (PySem.W.mg_of X G a23)
  cases e
  have T : Txt K mg C_Ward := ⟨PySem.W.mg_none_of X G z1, PySem.W.mg_none_of X G z2, PySem.W.mg_none_of X G z3, PySem.W.mg_none_of X G z4, PySem.W.mg_none_of X G z5, PySem.W.mg_none_of X G z6, PySem.W.mg_none_of X G z7, PySem.W.mg_none_of X G z8, PySem.W.mg_none_of X G z9, PySem.W.mg_none_of X G z10, PySem.W.mg_none_of X G z11, ⟨_, PySem.W.mg_of X G g1⟩, ⟨_, PySem.W.mg_of X G g2⟩, ⟨_, PySem.W.mg_of X G g3⟩, ⟨pg_Ward, hd_Ward, po_Ward, sa_Ward⟩, f_days_Ward, f_hands_Ward, f_posts_Ward⟩
  have F1 := fun_mk (st := s_need_month) l1 c1 k1
  have b1 := F1.binds (ps := ["days"]) fun _ _ _ _ _ _ us hl => by obtain ⟨_, rfl⟩ := len_1 (us := us) hl; rfl
  have F2 := fun_mk (st := s_is_skills) l2 c2 k2
  have b2 := F2.binds (ps := ["number"]) fun _ _ _ _ _ _ us hl => by obtain ⟨_, rfl⟩ := len_1 (us := us) hl; rfl
  have F3 := fun_mk (st := s_need_hands) l3 c3 k3
  have b3 := F3.binds (ps := ["hands"]) fun _ _ _ _ _ _ us hl => by obtain ⟨_, rfl⟩ := len_1 (us := us) hl; rfl
  have F4 := fun_mk (st := s_is_post) l4 c4 k4
  have b4 := F4.binds (ps := ["post"]) fun _ _ _ _ _ _ us hl => by obtain ⟨_, rfl⟩ := len_1 (us := us) hl; rfl
  have F5 := fun_mk (st := s_need_posts) l5 c5 k5
  have b5 := F5.binds (ps := ["posts"]) fun _ _ _ _ _ _ us hl => by obtain ⟨_, rfl⟩ := len_1 (us := us) hl; rfl
  have F6 := fun_mk (st := s_Ward___init__) l6 c6 k6
  have b6 := F6.binds (ps := ["self", "days", "hands", "posts"]) fun _ _ _ _ _ _ us hl => by obtain ⟨_, _, _, _, rfl⟩ := len_4 (us := us) hl; rfl
  have F7 := fun_mk (st := s_covers) l7 c7 k7
  have b7 := F7.binds (ps := ["have", "need"]) fun _ _ _ _ _ _ us hl => by obtain ⟨_, _, rfl⟩ := len_2 (us := us) hl; rfl
  have F8 := fun_mk (st := s_Ward_choices) l8 c8 k8
  have b8 := F8.binds (ps := ["self", "hand"]) fun _ _ _ _ _ _ us hl => by obtain ⟨_, _, rfl⟩ := len_2 (us := us) hl; rfl
  have F9 := fun_mk (st := s_best) l9 c9 k9
  have b9 := F9.binds (ps := ["ward", "pins", "numbers"]) fun _ _ _ _ _ _ us hl => by obtain ⟨_, _, _, rfl⟩ := len_3 (us := us) hl; rfl
  have F10 := fun_mk (st := s_summed) l10 c10 k10
  have b10 := F10.binds (ps := ["pairs"]) fun _ _ _ _ _ _ us hl => by obtain ⟨_, rfl⟩ := len_1 (us := us) hl; rfl
  have F11 := fun_mk (st := s_closes) l11 c11 k11
  have b11 := F11.binds (ps := ["ward", "pins", "pairs"]) fun _ _ _ _ _ _ us hl => by obtain ⟨_, _, _, rfl⟩ := len_3 (us := us) hl; rfl
  have F12 := fun_mk (st := s__law_cell) l12 c12 k12
  have b12 := F12.binds (ps := ["_law_script", "_law_k"]) fun _ _ _ _ _ _ us hl => by obtain ⟨_, _, rfl⟩ := len_2 (us := us) hl; rfl
  have F13 := fun_mk (st := s__law_hands) l13 c13 k13
  have b13 := F13.binds (ps := ["_law_script"]) fun _ _ _ _ _ _ us hl => by obtain ⟨_, rfl⟩ := len_1 (us := us) hl; rfl
  have F14 := fun_mk (st := s__law_posts) l14 c14 k14
  have b14 := F14.binds (ps := ["_law_script"]) fun _ _ _ _ _ _ us hl => by obtain ⟨_, rfl⟩ := len_1 (us := us) hl; rfl
  have F15 := fun_mk (st := s__law_pins) l15 c15 k15
  have b15 := F15.binds (ps := ["_law_script", "_law_days", "_law_some"]) fun _ _ _ _ _ _ us hl => by obtain ⟨_, _, _, rfl⟩ := len_3 (us := us) hl; rfl
  have F16 := fun_mk (st := s__law_numbers) l16 c16 k16
  have b16 := F16.binds (ps := ["_law_script", "_law_days", "_law_some", "_law_posts_here"]) fun _ _ _ _ _ _ us hl => by obtain ⟨_, _, _, _, rfl⟩ := len_4 (us := us) hl; rfl
  have F17 := fun_mk (st := s__law_total) l17 c17 k17
  have b17 := F17.binds (ps := ["_law_rota", "_law_numbers_here"]) fun _ _ _ _ _ _ us hl => by obtain ⟨_, _, rfl⟩ := len_2 (us := us) hl; rfl
  have F18 := fun_mk (st := s__law_lines) l18 c18 k18
  have b18 := F18.binds (ps := ["_law_script", "_law_numbers_here", "_law_due"]) fun _ _ _ _ _ _ us hl => by obtain ⟨_, _, _, rfl⟩ := len_3 (us := us) hl; rfl
  have F19 := fun_mk (st := s__law_choices) l19 c19 k19
  have b19 := F19.binds (ps := ["_law_skills", "_law_posts_here"]) fun _ _ _ _ _ _ us hl => by obtain ⟨_, _, rfl⟩ := len_2 (us := us) hl; rfl
  have F20 := fun_mk (st := s__law_row) l20 c20 k20
  have b20 := F20.binds (ps := ["_law_script", "_law_hand", "_law_days", "_law_some", "_law_pins_here"]) fun _ _ _ _ _ _ us hl => by obtain ⟨_, _, _, _, _, rfl⟩ := len_5 (us := us) hl; rfl
  have F21 := fun_mk (st := s__law_best_row) l21 c21 k21
  have b21 := F21.binds (ps := ["_law_hand", "_law_days", "_law_some", "_law_pins_here", "_law_numbers_here"]) fun _ _ _ _ _ _ us hl => by obtain ⟨_, _, _, _, _, rfl⟩ := len_5 (us := us) hl; rfl
  have F22 := fun_mk (st := s__law_whole) l22 c22 k22
  have b22 := F22.binds (ps := ["_law_found"]) fun _ _ _ _ _ _ us hl => by obtain ⟨_, rfl⟩ := len_1 (us := us) hl; rfl
  have F23 := fun_mk (st := s_law) l23 c23 k23
  refine ⟨PySem.W.fnOf "law" "law" (defArgs s_law) (defBody s_law) (defScope s_law) .none kV23 dc23 pm23 an23 cd23 ct23, fun s v => .of_eq rfl, fun base _ _ => ?_⟩
  have C_need_month : Cal l.prog w K mg base "need_month" ["days"] 1 (sp_need_month K C_Ward) := ⟨_, _, ok_need_month F1 T , b1, k1, PySem.W.mg_of X G a1⟩
  have C_is_skills : Cal l.prog w K mg base "is_skills" ["number"] 1 (sp_is_skills K C_Ward) := ⟨_, _, ok_is_skills F2 T , b2, k2, PySem.W.mg_of X G a2⟩
  have C_need_hands : Cal l.prog w K mg base "need_hands" ["hands"] 2 (sp_need_hands K C_Ward) := ⟨_, _, ok_need_hands F3 T C_is_skills, b3, k3, PySem.W.mg_of X G a3⟩
  have C_is_post : Cal l.prog w K mg base "is_post" ["post"] 2 (sp_is_post K C_Ward) := ⟨_, _, ok_is_post F4 T C_is_skills, b4, k4, PySem.W.mg_of X G a4⟩
  have C_need_posts : Cal l.prog w K mg base "need_posts" ["posts"] 3 (sp_need_posts K C_Ward) := ⟨_, _, ok_need_posts F5 T C_is_post, b5, k5, PySem.W.mg_of X G a5⟩
  have I_Ward : CalI l.prog w K mg base "Ward" C_Ward ["self", "days", "hands", "posts"] 4 (sp_Ward___init__ K C_Ward) := ⟨_, _, ok_Ward___init__ F6 T C_need_month C_need_hands C_need_posts, b6, ⟨mk_Ward, a6, i6, kc_Ward⟩, PySem.W.mg_of X G aC_Ward⟩
  have C_covers : Cal l.prog w K mg base "covers" ["have", "need"] 1 (sp_covers K C_Ward) := ⟨_, _, ok_covers F7 T , b7, k7, PySem.W.mg_of X G a7⟩
  have M_Ward_choices : CalM l.prog w K mg base C_Ward "choices" ["self", "hand"] 2 (sp_Ward_choices K C_Ward) := ⟨_, _, ok_Ward_choices F8 T C_covers, b8, ⟨a8, i8, k8⟩, T.cl_Ward⟩
  have C_best : Cal l.prog w K mg base "best" ["ward", "pins", "numbers"] 3 (sp_best K C_Ward) := ⟨_, _, ok_best F9 T M_Ward_choices, b9, k9, PySem.W.mg_of X G a9⟩
  have C_summed : Cal l.prog w K mg base "summed" ["pairs"] 1 (sp_summed K C_Ward) := ⟨_, _, ok_summed F10 T , b10, k10, PySem.W.mg_of X G a10⟩
  have C_closes : Cal l.prog w K mg base "closes" ["ward", "pins", "pairs"] 4 (sp_closes K C_Ward) := ⟨_, _, ok_closes F11 T C_summed C_best, b11, k11, PySem.W.mg_of X G a11⟩
  have C__law_cell : Cal l.prog w K mg base "_law_cell" ["_law_script", "_law_k"] 1 (sp__law_cell K C_Ward) := ⟨_, _, ok__law_cell F12 T , b12, k12, PySem.W.mg_of X G a12⟩
  have C__law_hands : Cal l.prog w K mg base "_law_hands" ["_law_script"] 2 (sp__law_hands K C_Ward) := ⟨_, _, ok__law_hands F13 T C__law_cell, b13, k13, PySem.W.mg_of X G a13⟩
  have C__law_posts : Cal l.prog w K mg base "_law_posts" ["_law_script"] 2 (sp__law_posts K C_Ward) := ⟨_, _, ok__law_posts F14 T C__law_cell, b14, k14, PySem.W.mg_of X G a14⟩
  have C__law_pins : Cal l.prog w K mg base "_law_pins" ["_law_script", "_law_days", "_law_some"] 2 (sp__law_pins K C_Ward) := ⟨_, _, ok__law_pins F15 T C__law_cell, b15, k15, PySem.W.mg_of X G a15⟩
  have C__law_numbers : Cal l.prog w K mg base "_law_numbers" ["_law_script", "_law_days", "_law_some", "_law_posts_here"] 2 (sp__law_numbers K C_Ward) := ⟨_, _, ok__law_numbers F16 T C__law_cell, b16, k16, PySem.W.mg_of X G a16⟩
  have C__law_total : Cal l.prog w K mg base "_law_total" ["_law_rota", "_law_numbers_here"] 1 (sp__law_total K C_Ward) := ⟨_, _, ok__law_total F17 T , b17, k17, PySem.W.mg_of X G a17⟩
  have C__law_lines : Cal l.prog w K mg base "_law_lines" ["_law_script", "_law_numbers_here", "_law_due"] 2 (sp__law_lines K C_Ward) := ⟨_, _, ok__law_lines F18 T C__law_cell, b18, k18, PySem.W.mg_of X G a18⟩
  have C__law_choices : Cal l.prog w K mg base "_law_choices" ["_law_skills", "_law_posts_here"] 1 (sp__law_choices K C_Ward) := ⟨_, _, ok__law_choices F19 T , b19, k19, PySem.W.mg_of X G a19⟩
  have C__law_row : Cal l.prog w K mg base "_law_row" ["_law_script", "_law_hand", "_law_days", "_law_some", "_law_pins_here"] 2 (sp__law_row K C_Ward) := ⟨_, _, ok__law_row F20 T C__law_cell, b20, k20, PySem.W.mg_of X G a20⟩
  have C__law_best_row : Cal l.prog w K mg base "_law_best_row" ["_law_hand", "_law_days", "_law_some", "_law_pins_here", "_law_numbers_here"] 1 (sp__law_best_row K C_Ward) := ⟨_, _, ok__law_best_row F21 T , b21, k21, PySem.W.mg_of X G a21⟩
  have C__law_whole : Cal l.prog w K mg base "_law_whole" ["_law_found"] 1 (sp__law_whole K C_Ward) := ⟨_, _, ok__law_whole F22 T , b22, k22, PySem.W.mg_of X G a22⟩
  exact ok_law F23 T C__law_hands C__law_posts I_Ward C__law_pins C__law_numbers C__law_total C_best C__law_lines C_closes C__law_choices C__law_row C__law_best_row C__law_cell C__law_whole
theorem walk {l : PySem.W.OpenLaw} {q : Program} {loose : List Str} {XP : (Str → Option Value) → Heap → Prop} {YP : World → Heap → Prop} {d : DefRec} {K : Params → PySem.W.Frag} (hn : l.most = some 63) (hdf : d.params.defaults = [])
    (hY : ∀ (w : World) (h : Heap), YP w h → (K w.params).In h)
    (F : ∀ (w : World) (mg : Str → Option Value) (fa : Addr) (h : Heap), (K w.params).In h → h.Ns mainGlobals mg → mg d.name = some (.ref fa) →
      ∃ fd : FuncData, (∀ (s : Shared) (u : Value), BindsTo s fd ⟨[u], []⟩ [("_law_script", u)]) ∧ ∀ base : Heap, (K w.params).In base → base.Ns mainGlobals mg → FnOk l.prog w (K w.params) mg base CX0 6 fa fd ["_law_script"] (sp_law (K w.params))) :
    PySem.W.WalkO q loose XP YP l.row.toRowW d [] (fun f vs => PySem.call f vs) :=
  L2.walk_of (n := 63) (k := 6) (x := "_law_script") (CX := fun _ => CX0) (sp := fun w => sp_law (K w.params)) hn (by decide) hdf ⟨rfl, by decide, by decide⟩ hY F (fun _ _ a ns hl _ hS => ⟨a, ns, rfl, hS, hl, fun _ => rfl⟩) fun _ _ _ _ _ z => z
end My
open PySem PySem.W PyProof.Rows
set_option maxRecDepth 100000 in
set_option maxHeartbeats 0 in
theorem PySem.Challenge.cw_rotaward_k22_the_best_of_a_case_holds : PySem.Challenge.rw_rotaward_k22_the_best_of_a_case.Holds := by
  w_on; o_law; k_head; (case hw => w_witness2)
  k_fill
  refine My.walk (l := PySem.Challenge.rw_rotaward_k22_the_best_of_a_case) rfl rfl (fun w h Y => PySem.W.kIn_of Y) ?F
  case F =>
    intro w mg fa h KX G hmg
    refine' My.all_mk KX G hmg ?aC_Ward ?pg_Ward ?hd_Ward ?po_Ward ?sa_Ward ?mk_Ward ?kc_Ward ?f_days_Ward ?f_hands_Ward ?f_posts_Ward ?a1 ?l1 ?c1 ?k1 ?a2 ?l2 ?c2 ?k2 ?a3 ?l3 ?c3 ?k3 ?a4 ?l4 ?c4 ?k4 ?a5 ?l5 ?c5 ?k5 ?a6 ?i6 ?l6 ?c6 ?k6 ?a7 ?l7 ?c7 ?k7 ?a8 ?i8 ?l8 ?c8 ?k8 ?a9 ?l9 ?c9 ?k9 ?a10 ?l10 ?c10 ?k10 ?a11 ?l11 ?c11 ?k11 ?a12 ?l12 ?c12 ?k12 ?a13 ?l13 ?c13 ?k13 ?a14 ?l14 ?c14 ?k14 ?a15 ?l15 ?c15 ?k15 ?a16 ?l16 ?c16 ?k16 ?a17 ?l17 ?c17 ?k17 ?a18 ?l18 ?c18 ?k18 ?a19 ?l19 ?c19 ?k19 ?a20 ?l20 ?c20 ?k20 ?a21 ?l21 ?c21 ?k21 ?a22 ?l22 ?c22 ?k22 ?a23 ?l23 ?c23 ?k23 ?z1 ?z2 ?z3 ?z4 ?z5 ?z6 ?z7 ?z8 ?z9 ?z10 ?z11 ?g1 ?g2 ?g3
    (case aC_Ward => k_is)
    (case pg_Ward => k_is)
    (case hd_Ward => k_is)
    (case po_Ward => k_is)
    (case sa_Ward => k_is)
    (case mk_Ward => k_is)
    (case kc_Ward => k_is)
    (case f_days_Ward => k_is)
    (case f_hands_Ward => k_is)
    (case f_posts_Ward => k_is)
    (case a1 => k_is)
    (case l1 => k_is)
    (case c1 => k_is)
    (case k1 => k_is)
    (case a2 => k_is)
    (case l2 => k_is)
    (case c2 => k_is)
    (case k2 => k_is)
    (case a3 => k_is)
    (case l3 => k_is)
    (case c3 => k_is)
    (case k3 => k_is)
    (case a4 => k_is)
    (case l4 => k_is)
    (case c4 => k_is)
    (case k4 => k_is)
    (case a5 => k_is)
    (case l5 => k_is)
    (case c5 => k_is)
    (case k5 => k_is)
    (case a6 => k_is)
    (case i6 => k_is)
    (case l6 => k_is)
    (case c6 => k_is)
    (case k6 => k_is)
    (case a7 => k_is)
    (case l7 => k_is)
    (case c7 => k_is)
    (case k7 => k_is)
    (case a8 => k_is)
    (case i8 => k_is)
    (case l8 => k_is)
    (case c8 => k_is)
    (case k8 => k_is)
    (case a9 => k_is)
    (case l9 => k_is)
    (case c9 => k_is)
    (case k9 => k_is)
    (case a10 => k_is)
    (case l10 => k_is)
    (case c10 => k_is)
    (case k10 => k_is)
    (case a11 => k_is)
    (case l11 => k_is)
    (case c11 => k_is)
    (case k11 => k_is)
    (case a12 => k_is)
    (case l12 => k_is)
    (case c12 => k_is)
    (case k12 => k_is)
    (case a13 => k_is)
    (case l13 => k_is)
    (case c13 => k_is)
    (case k13 => k_is)
    (case a14 => k_is)
    (case l14 => k_is)
    (case c14 => k_is)
    (case k14 => k_is)
    (case a15 => k_is)
    (case l15 => k_is)
    (case c15 => k_is)
    (case k15 => k_is)
    (case a16 => k_is)
    (case l16 => k_is)
    (case c16 => k_is)
    (case k16 => k_is)
    (case a17 => k_is)
    (case l17 => k_is)
    (case c17 => k_is)
    (case k17 => k_is)
    (case a18 => k_is)
    (case l18 => k_is)
    (case c18 => k_is)
    (case k18 => k_is)
    (case a19 => k_is)
    (case l19 => k_is)
    (case c19 => k_is)
    (case k19 => k_is)
    (case a20 => k_is)
    (case l20 => k_is)
    (case c20 => k_is)
    (case k20 => k_is)
    (case a21 => k_is)
    (case l21 => k_is)
    (case c21 => k_is)
    (case k21 => k_is)
    (case a22 => k_is)
    (case l22 => k_is)
    (case c22 => k_is)
    (case k22 => k_is)
    (case a23 => k_is)
    (case l23 => k_is)
    (case c23 => k_is)
    (case k23 => k_is)
    (case z1 => k_is)
    (case z2 => k_is)
    (case z3 => k_is)
    (case z4 => k_is)
    (case z5 => k_is)
    (case z6 => k_is)
    (case z7 => k_is)
    (case z8 => k_is)
    (case z9 => k_is)
    (case z10 => k_is)
    (case z11 => k_is)
    (case g1 => k_is)
    (case g2 => k_is)
    (case g3 => k_is)
