import PyProof.Rows.All
import Wide.All
import OpenK.AllK
import Wide.FinOn
import Lean
import PyProof.EqAt
import PyProof.EqKinds
import PyProof.TupleCall
import PySem.Challenge.RW_rotaward_k49_what_is_cheapest
set_option compiler.extract_closed false
namespace PySem.W.Fast
def tw570497373611773952:=0
def tw12230172312962646080:=0
def tw12465215339060764032:=0
def tw13969800443920041344:=0
def tw93842997280078528:=0
def tw8337342679056620577:=0
def tw12606972164626882753:=0
def tw8820571369451046337:=0
def tw16227711969145694753:=0
def tw6868146756369694305:=0
def tw10625422683013184161:=0
def tw1587864392428941121:=0
def tw5497690493045097377:=0
def tw16455303745231535073:=0
def tw11024552393252929762:=0
def tw8707828275103308034:=0
def tw6895201787553504514:=0
def tw7617025119538552098:=0
def tw2097328284751430146:=0
def tw1516431230760089218:=0
def tw264556431232772034:=0
def tw17635296309729915874:=0
def tw2163103691451265123:=0
def tw8179448050499755267:=0
def tw8217161676691209731:=0
def tw12524812091653635683:=0
def tw4535676370719266691:=0
def tw7831554873772985540:=0
def tw13954873990778559812:=0
def tw17970157857789160836:=0
def tw4287072542435936708:=0
def tw13956478940733355556:=0
def tw6460796029615436869:=0
def tw3220182012926401893:=0
def tw2132519821605004805:=0
def tw1536791892295817829:=0
def tw3712009368218801829:=0
def tw2550819502697983749:=0
def tw11621869989974004549:=0
def tw3845513118576632677:=0
def tw16669487925286226853:=0
def tw15710517779760797862:=0
def tw11712566576201199878:=0
def tw9948340854069746246:=0
def tw6595376593781850758:=0
def tw6485071122334626630:=0
def tw4421154280573599590:=0
def tw7293154582946121351:=0
def tw9612884659541138311:=0
def tw16437328770242500551:=0
def tw6880185891559902183:=0
def tw8471915845213676712:=0
def tw17455502414522934664:=0
def tw8016385404758648296:=0
def tw1660837814833337064:=0
def tw11754016304483302120:=0
def tw6521132123608296521:=0
def tw16788062990581924969:=0
def tw6959075698240647401:=0
def tw5462860925201893801:=0
def tw12528035488812727913:=0
def tw3632394239548499785:=0
def tw14939779720840783114:=0
def tw1841104240705424746:=0
def tw8625912559967085034:=0
def tw2966878465724823178:=0
def tw5695368430391853930:=0
def tw3729706157929059178:=0
def tw6414992863644316811:=0
def tw13512390566767261995:=0
def tw14618756531877875051:=0
def tw18285402751479180683:=0
def tw18323672841035937387:=0
def tw16669084335615859756:=0
def tw13386936274441604172:=0
def tw9327541989483426924:=0
def tw11349874302922459436:=0
def tw2854241452358527276:=0
def tw10759671626981197228:=0
def tw15960176674746222060:=0
def tw10664719271030128268:=0
def tw5778778258697955052:=0
def tw3307378789881299724:=0
def tw7509279363130408844:=0
def tw1354897423353608076:=0
def tw15055259508360639404:=0
def tw9077524640860604396:=0
def tw18236476919233792237:=0
def tw18096568103822723501:=0
def tw4139562412950017485:=0
def tw17970228366209799725:=0
def tw14879229029022899949:=0
def tw674628491646565133:=0
def tw5274869426710023981:=0
def tw3900719896758754125:=0
def tw12887890151298025421:=0
def tw7259014489668590734:=0
def tw3421372400096791918:=0
def tw2980151158649519630:=0
def tw2324316238028367534:=0
def tw7499719863757045518:=0
def tw13060515191583904622:=0
def tw4427308348646144015:=0
def tw8831667978895434895:=0
def tw14276724407503981743:=0
def tw15560595671515005135:=0
def tw12635724405424583983:=0
def tw2790330451685527887:=0
def tw890383930858170735:=0
def tw11719766264581470031:=0
def tw13997738160996545552:=0
def tw15630770602021671056:=0
def tw18019475958854821072:=0
def tw3483490967133210992:=0
def tw2700609698192085297:=0
def tw8921185002597604753:=0
def tw14388465302012471761:=0
def tw2951207960084214257:=0
def tw2244530848602572273:=0
def tw12820858292928642673:=0
def tw5029415597051367249:=0
def tw7320229521414097905:=0
def tw4294567056096609298:=0
def tw5841646549402729554:=0
def tw13945227937886975218:=0
def tw1122610873569715474:=0
def tw3432036615889968594:=0
def tw17372348933067881970:=0
def tw14046558498245103186:=0
def tw1791627145942915794:=0
def tw4012672484891371378:=0
def tw3192780193816529810:=0
def tw8953296086757973011:=0
def tw17770048226975969587:=0
def tw460827621403596115:=0
def tw8411723264931876211:=0
def tw4015197582543325907:=0
def tw11428645829475507955:=0
def tw2462772624000793587:=0
def tw12609852538587881652:=0
def tw1335891961124689204:=0
def tw11606122102306941300:=0
def tw10867018398478592372:=0
def tw8040223028299564692:=0
def tw15645810958431613652:=0
def tw8883115262240414452:=0
def tw13310867218659302228:=0
def tw15695920843656775572:=0
def tw6414511674289938677:=0
def tw8692879414250724757:=0
def tw2175764934517133717:=0
def tw7648026390518984213:=0
def tw11836506050035363445:=0
def tw14660448461351346933:=0
def tw14928155759309965045:=0
def tw4044479610838365013:=0
def tw15463036494806956054:=0
def tw663226242395040790:=0
def tw7776955224873831350:=0
def tw12585370740846580791:=0
def tw12586125577592702071:=0
def tw15633533586799356087:=0
def tw6463013369310098679:=0
def tw5099885526174992727:=0
def tw9669097931540528567:=0
def tw17526138091794857527:=0
def tw3110110935535416887:=0
def tw14837356133036896087:=0
def tw2471033307269699511:=0
def tw2785446293073760215:=0
def tw6566465325375499288:=0
def tw6419608982814456952:=0
def tw13717944600544231736:=0
def tw15967580091704293688:=0
def tw9591219980061892088:=0
def tw15124677950166700536:=0
def tw9289002237956084408:=0
def tw10160012945371150104:=0
def tw6313517879054353368:=0
def tw10186584262387182617:=0
def tw4296057927117539641:=0
def tw7827551763936319001:=0
def tw7061181834220107289:=0
def tw6059014518892961401:=0
def tw8610892569855830841:=0
def tw1552328176743827417:=0
def tw9713389098060167578:=0
def tw12851833541530939066:=0
def tw13730305152461901562:=0
def tw6944830120274920571:=0
def tw18361242657416108187:=0
def tw16735373444082485435:=0
def tw5867955509940624891:=0
def tw3932805991406281499:=0
def tw334764306091565883:=0
def tw5766378891190135771:=0
def tw11965779666708010108:=0
def tw13161160050896434716:=0
def tw3747153366481178332:=0
def tw8836238149945223900:=0
def tw7151133071483189020:=0
def tw12337490300155680572:=0
def tw4701418678268542461:=0
def tw7907025299853916925:=0
def tw5319078914059394845:=0
def tw1752516303572231165:=0
def tw2928605271091751198:=0
def tw9378562483875250750:=0
def tw14815401510585148062:=0
def tw10863202599630348990:=0
def tw6063346788348126942:=0
def tw17006478451129215710:=0
def tw611789967414040318:=0
def tw8017866358301165438:=0
def tw1221908970907918334:=0
def tw1611936084509513375:=0
def tw12018605493877512895:=0
def tw12515338374014392051:=0
end PySem.W.Fast
set_option Elab.async false
set_option linter.all false
set_option maxRecDepth 100000
namespace L2
open PySem PySem.Spec PyProof.Rows

/-- a key: an int or a str -/
abbrev Key := Sum Int Str
def keyIs : Key → Value → Bool
  | .inl k, v => Value.isInt k v
  | .inr x, v => Value.isStrOf x v
def keyH (w : World) : Key → Int
  | .inl k => hashInt k
  | .inr x => hashStr w x
theorem keyIs_shape : ∀ {k : Key} {v : Value}, keyIs k v = true → (∃ i t, k = Sum.inl i ∧ v = Value.int i t) ∨ (∃ x t, k = Sum.inr x ∧ v = Value.str x t)
  | .inl i, v, h => by
    obtain ⟨t, e⟩ := Value.isInt_shape (k := i) (v := v) h
    exact .inl ⟨i, t, rfl, e⟩
  | .inr x, v, h => by
    obtain ⟨t, e⟩ := Value.isStrOf_shape (x := x) (v := v) h
    exact .inr ⟨x, t, rfl, e⟩
theorem keyIs_int (i : Int) (t : Tok) : keyIs (.inl i) (.int i t) = true := by simp [keyIs, Value.isInt]
theorem keyIs_str (x : Str) (t : Tok) : keyIs (.inr x) (.str x t) = true := by simp [keyIs, Value.isStrOf]
theorem key_ll (a b : Int) : decide ((Sum.inl a : Key) = Sum.inl b) = (a == b) := by
  by_cases e : a = b
  · subst e; simp
  · have h : ¬ (Sum.inl a : Key) = Sum.inl b := fun q => e (Sum.inl.inj q)
    rw [decide_eq_false h]
    exact (beq_eq_false_iff_ne.mpr e).symm
theorem key_rr (a b : Str) : decide ((Sum.inr a : Key) = Sum.inr b) = decide (a = b) := by
  by_cases e : a = b
  · subst e; simp
  · have h : ¬ (Sum.inr a : Key) = Sum.inr b := fun q => e (Sum.inr.inj q)
    rw [decide_eq_false h, decide_eq_false e]
theorem key_lr (a : Int) (b : Str) : decide ((Sum.inl a : Key) = Sum.inr b) = false := decide_eq_false (fun q => nomatch q)
theorem key_rl (a : Str) (b : Int) : decide ((Sum.inr a : Key) = Sum.inl b) = false := decide_eq_false (fun q => nomatch q)

def mixKind (prog : Program) (w : World) : PySem.KeyKind prog w Key where
  is := keyIs
  hash := keyH w
  inj := fun v a b ha hb => by
    rcases keyIs_shape ha with ⟨i, t, rfl, rfl⟩ | ⟨x, t, rfl, rfl⟩
    · rcases keyIs_shape hb with ⟨j, u, rfl, e⟩ | ⟨y, u, rfl, e⟩
      · injection e with e1 _; rw [e1]
      · exact nomatch e
    · rcases keyIs_shape hb with ⟨j, u, rfl, e⟩ | ⟨y, u, rfl, e⟩
      · exact nomatch e
      · injection e with e1 _; rw [e1]
  byValue := fun k v h => by
    rcases keyIs_shape h with ⟨i, t, rfl, rfl⟩ | ⟨x, t, rfl, rfl⟩ <;> rfl
  pyHash := fun hv h => by
    rcases keyIs_shape hv with ⟨i, t, rfl, rfl⟩ | ⟨x, t, rfl, rfl⟩
    · exact wpAny_pyHash_int h
    · exact wpAny_pyHash_str h
  eqBool := fun hu hv h => by
    rcases keyIs_shape hu with ⟨i, t, rfl, rfl⟩ | ⟨x, t, rfl, rfl⟩
    · rcases keyIs_shape hv with ⟨j, u, rfl, rfl⟩ | ⟨y, u, rfl, rfl⟩
      · rw [key_ll] at h; exact wpAny_eqBool_int h
      · rw [key_lr] at h; exact SeqAt.EqAt.int_str i t y u _ _ _ _ h
    · rcases keyIs_shape hv with ⟨j, u, rfl, rfl⟩ | ⟨y, u, rfl, rfl⟩
      · rw [key_rl] at h; exact SeqAt.EqAt.str_int x t j u _ _ _ _ h
      · rw [key_rr] at h; exact wpAny_eqBool_str h
  «strs» := fun k x t v h => by
    rcases keyIs_shape h with ⟨i, u, rfl, e⟩ | ⟨y, u, rfl, e⟩
    · exact nomatch e
    · injection e with e1 _
      subst e1
      cases v <;> rfl

theorem mixKind_int (prog : Program) (w : World) (i : Int) (t : Tok) : (mixKind prog w).is (.inl i) (.int i t) = true := keyIs_int i t
theorem mixKind_str (prog : Program) (w : World) (x : Str) (t : Tok) : (mixKind prog w).is (.inr x) (.str x t) = true := keyIs_str x t
end L2

namespace L2
open PySem PySem.Spec PyProof.Rows

/-- a value, without the heap -/
inductive V where
  | non | bl (b : Bool) | int (i : Int) | str (x : Str) | byt (b : Array UInt8) | flt (b : UInt64) | ref (a : Addr) | ty (n : String)
  deriving DecidableEq

def RelV : V → Value → Prop
  | .non, u => u = Value.none
  | .bl b, u => u = Value.bool b
  | .int i, u => ∃ t, u = Value.int i t
  | .str x, u => ∃ t, u = Value.str x t
  | .byt b, u => ∃ t, u = Value.bytes b t
  | .flt b, u => ∃ t, u = Value.float b t
  | .ref a, u => u = Value.ref a
  | .ty n, u => u = Value.type n

abbrev Vals : List V → List Value → Prop := Paired RelV
theorem Vals.length {xs : List V} {us : List Value} (r : Vals xs us) : xs.length = us.length := Paired.length r
theorem Vals.get : ∀ {xs : List V} {us : List Value} {i : Nat} {x : V}, Vals xs us → xs[i]? = some x → ∃ u, us[i]? = some u ∧ RelV x u
  | _, _, _, _, .nil, e => by simp at e
  | _, _, 0, _, .cons r _, e => by simp at e; subst e; exact ⟨_, rfl, r⟩
  | _, _, i + 1, x, .cons _ t, e => by
    obtain ⟨u, h1, h2⟩ := Vals.get (i := i) (x := x) t (by simpa using e)
    exact ⟨u, by simpa using h1, h2⟩
theorem Vals.set {x : V} {u : Value} (r : RelV x u) : ∀ {xs : List V} {us : List Value} (i : Nat), Vals xs us → Vals (xs.set i x) (us.set i u)
  | _, _, _, .nil => .nil
  | _, _, 0, .cons _ t => .cons r t
  | _, _, i + 1, .cons q t => .cons q (Vals.set r i t)
theorem Vals.append : ∀ {xs ys : List V} {us ws : List Value}, Vals xs us → Vals ys ws → Vals (xs ++ ys) (us ++ ws)
  | _, _, _, _, .nil, s => s
  | _, _, _, _, .cons r t, s => .cons r (Vals.append t s)
theorem Vals.take : ∀ {xs : List V} {us : List Value} (n : Nat), Vals xs us → Vals (xs.take n) (us.take n)
  | _, _, 0, _ => .nil
  | _, _, _ + 1, .nil => .nil
  | _, _, n + 1, .cons r t => .cons r (Vals.take n t)
theorem Vals.drop : ∀ {xs : List V} {us : List Value} (n : Nat), Vals xs us → Vals (xs.drop n) (us.drop n)
  | _, _, 0, r => r
  | _, _, _ + 1, .nil => .nil
  | _, _, n + 1, .cons _ t => Vals.drop n t
theorem Vals.none_of : ∀ {xs : List V} {us : List Value} {i : Nat}, Vals xs us → xs[i]? = none → us[i]? = none := fun {xs us i} r e => by
  have h1 := r.length
  have h2 : xs.length ≤ i := List.getElem?_eq_none_iff.mp e
  exact List.getElem?_eq_none_iff.mpr (by omega)

def RelO : Option V → Option Value → Prop
  | some v, some u => RelV v u
  | none, none => True
  | _, _ => False
def KV {κ : Type} : List (κ × V) → List (κ × Value) → Prop := Paired fun (p : κ × V) (q : κ × Value) => p.1 = q.1 ∧ RelV p.2 q.2

/-- a key of a dict (00_mix): an int or a text -/
def kV : Key → V
  | .inl i => .int i
  | .inr x => .str x

/-- what stands at a tracked address -/
inductive HO where
  /-- a list -/
  | lst (xs : List V)
  /-- a tuple (never changes) -/
  | tup (xs : List V)
  /-- a dict whose keys are ints and texts; one whose keys are tuples of ints and texts (the empty one is both) -/
  | dK (kvs : List (Key × V)) | dT (kvs : List (List Key × V))
  /-- a set of ints: its members, its size -/
  | set (S : Int → Bool) (n : Nat)
  /-- an instance of the class at C, its dict at dx, its attributes -/
  | ins (C dx : Addr) (fs : List (Str × V))
  /-- the dict of the instance at x -/
  | own (x : Addr)
  /-- the dict of an exception -/
  | xd (fs : List (Str × V))
  /-- a bound method, f of x -/
  | met (f x : Addr)
  /-- a range object lo, lo + 1, .. below hi -/
  | rng (lo hi : Int)
  /-- a thing that is known to the object (the script; a dict while a loop walks it): read, never written while it is so -/
  | frz (o : Obj) (u : HO)
  /-- a code object's table -/
  | tbl (ps : Array Value)
  /-- any other thing, by what is true of its one object (a def of one's own: SetO a S n := HO.ext fun h => ..) -/
  | ext (φ : Heap → Prop)

abbrev Hp := Addr → Option HO
def upd (H : Hp) (a : Addr) (o : HO) : Hp := fun b => if b = a then some o else H b
theorem upd_same {H : Hp} {a : Addr} {o : HO} : upd H a o a = some o := by unfold upd; rw [if_pos rfl]
theorem upd_ne {H : Hp} {a b : Addr} {o : HO} (h : b ≠ a) : upd H a o b = H b := by unfold upd; rw [if_neg h]
theorem upd_upd {H : Hp} {a : Addr} {o u : HO} : upd (upd H a o) a u = upd H a u := by
  funext b; unfold upd; split <;> rfl
/-- two objects of different content stand apart -/
theorem ne_of {H : Hp} {a b : Addr} {o u : HO} (h : H a = some o) (h' : H b = some u) (d : o ≠ u) : a ≠ b := by
  intro e; subst e; rw [h] at h'; exact d (Option.some.inj h')
theorem ne_of_none {H : Hp} {a b : Addr} {o : HO} (h : H a = some o) (h' : H b = none) : a ≠ b := by
  intro e; subst e; rw [h] at h'; cases h'

section
variable (P : Program) (w : World)
def ObjOk (H : Hp) (h : Heap) (a : Addr) : HO → Prop
  | .lst xs => xs.length ≤ sizeLine ∧ ∃ (its : List Value) (n : Nat), Vals xs its ∧ h.get? a = some { cls := .type "list", data := .seq its.toArray n }
  | .tup xs => xs.length ≤ sizeLine ∧ ∃ its : List Value, Vals xs its ∧ IsTup h a its.toArray
  | .dK kvs => kvs.length ≤ sizeLine ∧ (a == sysModules) = false ∧ ∃ vs, KV kvs vs ∧ h.DictOf (mixKind P w) a vs
  | .dT kvs => kvs.length ≤ sizeLine ∧ (a == sysModules) = false ∧ ∃ xs : List (List Key × Addr × Value),
      Paired (fun (p : List Key × V) (q : List Key × Addr × Value) => p.1 = q.1 ∧ H q.2.1 = some (.tup (p.1.map kV)) ∧ RelV p.2 q.2.2) kvs xs ∧
      ∃ o es ep, h.get? a = some o ∧ o.ExactDict ∧ o.data = .dict es ep ∧ es.toList = xs.map (entryOfKey (tupleKind (mixKind P w))) ∧ (xs.map (·.1)).Nodup
  | .set S n => h.SetOf (intKind P w) a S n
  | .ins C dx fs => H dx = some (.own a) ∧ fs.length ≤ 1000 ∧ dx ≠ a ∧ h.get? a = some (PySem.W.instObj C dx) ∧
      ∃ mA, h.Ns1 dx mA ∧ (∀ f, RelO (fs.lookup f) (mA f)) ∧ PySem.Within mA (fs.map (·.1))
  | .own _ => ∃ o, h.get? a = some o
  | .xd fs => ∃ mA, h.Ns1 a mA ∧ ∀ f, RelO (fs.lookup f) (mA f)
  | .rng lo hi => ∃ t u v, h.get? a = some { cls := .type "range", data := .fields #[.int lo t, .int hi u, .int 1 v] }
  | .frz o u => h.get? a = some o ∧ ObjOk H h a u
  | .tbl ps => h.get? a = some { cls := .none, data := .fields ps }
  | .met f x => h.get? a = some (PySem.W.methodObj (.ref f) (.ref x))
  | .ext φ => φ h ∧ (∃ o, h.get? a = some o) ∧ ∀ h1 h2 : Heap, φ h1 → (∀ o, h1.get? a = some o → h2.get? a = some o) → φ h2
/-- the abstract heap is held -/
def HOk (H : Hp) (h : Heap) : Prop := ∀ a o, H a = some o → ObjOk P w H h a o
end

section
variable {P : Program} {w : World} {H H' : Hp} {h h' : Heap} {a : Addr} {o : HO}
theorem ObjOk.lt (x : ObjOk P w H h a o) : a < h.objs.size := by
  cases o with
  | lst xs => obtain ⟨_, _, _, _, e⟩ := x; exact Heap.lt_size e
  | tup xs => obtain ⟨_, _, _, p⟩ := x; exact p.lt
  | dK kvs => obtain ⟨_, _, _, _, o, _, _, e, _⟩ := x; exact Heap.lt_size e
  | dT kvs => obtain ⟨_, _, _, _, o, _, _, e, _⟩ := x; exact Heap.lt_size e
  | set S n => obtain ⟨o, _, _, _, e, _⟩ := x; exact Heap.lt_size e
  | ins C dx fs => obtain ⟨_, _, _, e, _⟩ := x; exact Heap.lt_size e
  | own y => obtain ⟨_, e⟩ := x; exact Heap.lt_size e
  | xd fs => obtain ⟨_, ⟨_, _, _, e, _⟩, _⟩ := x; exact Heap.lt_size e
  | rng lo hi => obtain ⟨_, _, _, e⟩ := x; exact Heap.lt_size e
  | frz ob u => obtain ⟨e, _⟩ := x; exact Heap.lt_size e
  | tbl ps => exact Heap.lt_size (show h.get? a = some _ from x)
  | met f y => exact Heap.lt_size (show h.get? a = some _ from x)
  | ext φ => obtain ⟨_, ⟨_, e⟩, _⟩ := x; exact Heap.lt_size e
theorem Paired.mapP {α β : Type} {F G : α → β → Prop} : ∀ {l₁ : List α} {l₂ : List β}, Paired F l₁ l₂ → (∀ a b, F a b → G a b) → Paired G l₁ l₂
  | _, _, .nil, _ => .nil
  | _, _, .cons r t, f => .cons (f _ _ r) (Paired.mapP t f)
/-- what an object's description leans on: its own object, its own dict, the tuples -/
theorem ObjOk.stay (x : ObjOk P w H h a o) (k : ∀ b u, (b = a ∨ H b = some (.own a)) → h.get? b = some u → h'.get? b = some u)
    (ho : ∀ b, H b = some (.own a) → H' b = some (.own a)) (ht : ∀ b xs, H b = some (.tup xs) → H' b = some (.tup xs)) : ObjOk P w H' h' a o := by
  induction o with
  | lst xs => obtain ⟨z, its, n, r, e⟩ := x; exact ⟨z, its, n, r, k _ _ (.inl rfl) e⟩
  | tup xs => obtain ⟨z, its, r, ob, e, c⟩ := x; exact ⟨z, its, r, ob, k _ _ (.inl rfl) e, c⟩
  | dK kvs => obtain ⟨z, y, vs, r, ob, es, ep, e, c⟩ := x; exact ⟨z, y, vs, r, ob, es, ep, k _ _ (.inl rfl) e, c⟩
  | dT kvs =>
    obtain ⟨z, y, xs, r, ob, es, ep, e, c⟩ := x
    exact ⟨z, y, xs, Paired.mapP r fun p q z => ⟨z.1, ht _ _ z.2.1, z.2.2⟩, ob, es, ep, k _ _ (.inl rfl) e, c⟩
  | set S n => obtain ⟨ob, es, ep, t, e, c⟩ := x; exact ⟨ob, es, ep, t, k _ _ (.inl rfl) e, c⟩
  | ins C dx fs =>
    obtain ⟨d, z, ne, e, mA, ⟨od, es, ep, e2, c⟩, r⟩ := x
    exact ⟨ho _ d, z, ne, k _ _ (.inl rfl) e, mA, ⟨od, es, ep, k _ _ (.inr d) e2, c⟩, r⟩
  | own y => obtain ⟨ob, e⟩ := x; exact ⟨ob, k _ _ (.inl rfl) e⟩
  | xd fs => obtain ⟨mA, ⟨od, es, ep, e, c⟩, r⟩ := x; exact ⟨mA, ⟨od, es, ep, k _ _ (.inl rfl) e, c⟩, r⟩
  | rng lo hi => obtain ⟨t, u, v, e⟩ := x; exact ⟨t, u, v, k _ _ (.inl rfl) e⟩
  | frz ob u ih => obtain ⟨e, q⟩ := x; exact ⟨k _ _ (.inl rfl) e, ih q⟩
  | tbl ps =>
    have e : h.get? a = some { cls := .none, data := .fields ps } := x
    show h'.get? a = some { cls := .none, data := .fields ps }
    exact k a _ (.inl rfl) e
  | met f y =>
    have e : h.get? a = some (PySem.W.methodObj (.ref f) (.ref y)) := x
    show h'.get? a = some (PySem.W.methodObj (.ref f) (.ref y))
    exact k a _ (.inl rfl) e
  | ext φ => obtain ⟨p, ⟨o, e⟩, st⟩ := x; exact ⟨st _ _ p fun o q => k _ _ (.inl rfl) q, ⟨o, k _ _ (.inl rfl) e⟩, st⟩
theorem HOk.lt (x : HOk P w H h) (e : H a = some o) : a < h.objs.size := (x a o e).lt
theorem HOk.fresh (x : HOk P w H h) (e : h.objs.size ≤ a) : H a = none := by
  cases q : H a with
  | none => rfl
  | some u => exact absurd (Nat.lt_of_lt_of_le (x.lt q) e) (Nat.lt_irrefl _)
/-- every object of the heap is kept -/
theorem HOk.kept (x : HOk P w H h) (k : ∀ b u, h.get? b = some u → h'.get? b = some u) : HOk P w H h' := fun a o e =>
  (x a o e).stay (fun b u _ q => k b u q) (fun _ q => q) fun _ _ q => q
/-- a new object is laid and tracked -/
theorem HOk.laid (x : HOk P w H h) (k : ∀ b u, h.get? b = some u → h'.get? b = some u) (hp : h.objs.size ≤ a) (new : ObjOk P w (upd H a o) h' a o) : HOk P w (upd H a o) h' := fun b u e => by
  have hn := x.fresh hp
  by_cases hb : b = a
  · subst hb; rw [upd_same] at e; cases e; exact new
  · rw [upd_ne hb] at e
    exact (x b u e).stay (fun c v _ q => k c v q) (fun c q => by rw [upd_ne (ne_of_none q hn)]; exact q) fun c xs q => by rw [upd_ne (ne_of_none q hn)]; exact q
end

/-- what may be read as u: it is u, or a known u -/
def Rd (H : Hp) (a : Addr) (u : HO) : Prop := H a = some u ∨ ∃ o, H a = some (.frz o u)
theorem Rd.ok {P : Program} {w : World} {H : Hp} {h : Heap} {a : Addr} {u : HO} (r : Rd H a u) (x : HOk P w H h) : ObjOk P w H h a u := by
  rcases r with r | ⟨o, r⟩
  · exact x a u r
  · obtain ⟨_, q⟩ := x a _ r
    exact q
/-- what may be written -/
def Mut : Option HO → Prop
  | some (.lst _) => True
  | some (.dK _) => True
  | some (.dT _) => True
  | some (.set _ _) => True
  | some (.ins _ _ _) => True
  | some (.ext _) => True
  | _ => False
section
variable {P : Program} {w : World} {H : Hp} {h h' : Heap} {x e : Addr} {o' : HO}
/-- the object at e is changed: x itself, or the dict of the instance x -/
theorem HOk.write (ok : HOk P w H h) (mu : Mut (H x)) (he : e = x ∨ H e = some (.own x)) (k : ∀ b u, b ≠ e → h.get? b = some u → h'.get? b = some u) (heo : ∃ u, h'.get? e = some u)
    (new : ObjOk P w (upd H x o') h' x o') : HOk P w (upd H x o') h' := fun b u q => by
  have nown : ∀ c y, H c = some (.own y) → c ≠ x := fun c y r z => by subst z; rw [r] at mu; exact mu
  have ntup : ∀ c xs, H c = some (.tup xs) → c ≠ x := fun c xs r z => by subst z; rw [r] at mu; exact mu
  by_cases hb : b = x
  · subst hb; rw [upd_same] at q; cases q; exact new
  · rw [upd_ne hb] at q
    by_cases hbe : b = e
    · have q' : H b = some (.own x) := by
        rcases he with z | z
        · exact absurd (hbe.trans z) hb
        · rw [hbe]; exact z
      rw [q] at q'; cases q'
      obtain ⟨v, hv⟩ := heo
      exact ⟨v, by rw [hbe]; exact hv⟩
    · refine (ok b u q).stay (fun c v hc r => k c v ?_ r) (fun c r => by rw [upd_ne (nown c b r)]; exact r) fun c xs r => by rw [upd_ne (ntup c xs r)]; exact r
      rcases hc with rfl | hc
      · exact hbe
      · rintro rfl
        rcases he with z | z
        · exact nown c b hc z
        · rw [hc] at z; cases z; exact hb rfl
end

structure Un (fs ex : List Addr) (H H' : Hp) (h h' : Heap) : Prop where
  keep : ∀ b o, h.get? b = some o → H b = none → b ∉ fs → b ∉ ex → h'.get? b = some o
  slot : ∀ b o, h.get? b = some o → H b = none → b ∈ fs → b ∉ ex → ∃ sl, h'.get? b = some { o with slots := sl }
  free : ∀ b o, h.get? b = some o → H b = none → b ∉ ex → H' b = none
  there : ∀ b o, h.get? b = some o → b ∉ ex → ∃ o', h'.get? b = some o'
  tups : ∀ b xs, H b = some (.tup xs) → H' b = some (.tup xs)
  frzs : ∀ b o u, H b = some (.frz o u) → H' b = some (.frz o u)
  tbls : ∀ b ps, H b = some (.tbl ps) → ∃ more, H' b = some (.tbl (ps ++ more))
section
variable {fs fs' ex ex' : List Addr} {H H1 H2 : Hp} {h h1 h2 h' : Heap} {a x e : Addr} {o : HO}
theorem Un.any (u : Un fs ex H H1 h h1) {b : Addr} {ob : Obj} (q : h.get? b = some ob) (n : H b = none) (hx : b ∉ ex) : ∃ sl, h1.get? b = some { ob with slots := sl } := by
  by_cases hb : b ∈ fs
  · exact u.slot b ob q n hb hx
  · exact ⟨ob.slots, u.keep b ob q n hb hx⟩
theorem Un.kept (k : ∀ b u, h.get? b = some u → h'.get? b = some u) : Un fs ex H H h h' :=
  ⟨fun b ob q _ _ _ => k b ob q, fun b ob q _ _ _ => ⟨ob.slots, k b ob q⟩, fun _ _ _ n _ => n, fun b ob q _ => ⟨ob, k b ob q⟩, fun _ _ q => q, fun _ _ _ q => q, fun _ ps q => ⟨#[], by rw [q]; simp⟩⟩
theorem Un.refl : Un fs ex H H h h := Un.kept fun _ _ q => q
theorem Un.laid (k : ∀ b u, h.get? b = some u → h'.get? b = some u) (hp : h.objs.size ≤ a) (hn : H a = none) : Un fs ex H (upd H a o) h h' where
  keep := fun b u q _ _ _ => k b u q
  slot := fun b u q _ _ _ => ⟨u.slots, k b u q⟩
  free := fun b u q n _ => by rw [upd_ne (Nat.ne_of_lt (Nat.lt_of_lt_of_le (Heap.lt_size q) hp))]; exact n
  there := fun b u q _ => ⟨u, k b u q⟩
  tups := fun b xs q => by rw [upd_ne (ne_of_none q hn)]; exact q
  frzs := fun b u xs q => by rw [upd_ne (ne_of_none q hn)]; exact q
  tbls := fun b ps q => ⟨#[], by rw [upd_ne (ne_of_none q hn), q]; simp⟩
theorem Un.write (mu : Mut (H x)) (he : e = x ∨ H e = some (.own x)) (k : ∀ b u, b ≠ e → h.get? b = some u → h'.get? b = some u) (heo : ∃ u, h'.get? e = some u) : Un fs ex H (upd H x o) h h' := by
  have hx : ∀ b, H b = none → b ≠ x := fun b n z => by subst z; rw [n] at mu; exact mu
  have hb : ∀ b, H b = none → b ≠ e := fun b n z => by
    subst z
    rcases he with r | r
    · exact hx b n r
    · rw [n] at r; cases r
  have hm : ∀ b u, H b = some u → ¬ Mut (some u) → b ≠ x := fun b u q nm z => by subst z; rw [q] at mu; exact nm mu
  refine ⟨fun b u q n _ _ => k b u (hb b n) q, fun b u q n _ _ => ⟨u.slots, k b u (hb b n) q⟩, fun b u q n _ => by rw [upd_ne (hx b n)]; exact n, fun b u q _ => ?_,
    fun b xs q => by rw [upd_ne (hm b _ q fun z => z)]; exact q, fun b u xs q => by rw [upd_ne (hm b _ q fun z => z)]; exact q, fun b ps q => ⟨#[], by rw [upd_ne (hm b _ q fun z => z), q]; simp⟩⟩
  by_cases hbe : b = e
  · subst hbe; exact heo
  · exact ⟨u, k b u hbe q⟩
end

def trk (h : Heap) (H : Hp) : List Addr := (List.range h.objs.size).filter fun a => (H a).isSome
def hidT (h : Heap) (H : Hp) : Heap := PySem.W.hideAll h (trk h H)
theorem hidT_size (h : Heap) (H : Hp) : (hidT h H).objs.size = h.objs.size := PySem.W.hideAll_size _ _
theorem hidT_get {h : Heap} {H : Hp} {b : Addr} {o : Obj} (e : h.get? b = some o) (n : H b = none) : (hidT h H).get? b = some o :=
  PySem.W.hideAll_get _ e fun hm => by
    have q : (H b).isSome = true := (List.mem_filter.mp hm).2
    rw [n] at q; simp at q
theorem of_hidT {h : Heap} {H : Hp} {b : Addr} {o : Obj} (e : (hidT h H).get? b = some o) : h.get? b = some o ∧ H b = none := by
  have e' : h.get? b = some o := PySem.W.of_hideAll (trk h H) e
  refine ⟨e', ?_⟩
  cases q : H b with
  | none => rfl
  | some x =>
    have hm : b ∈ trk h H := List.mem_filter.mpr ⟨List.mem_range.mpr (Heap.lt_size e'), by simp [q]⟩
    have z : (hidT h H).get? b = none := PySem.W.hideAll_none (trk h H) hm
    rw [z] at e; cases e

def allNews (g h : Heap) (L : Addr) : List (Addr × Obj) := (List.range h.objs.size).filterMap fun a => if a = L ∨ (g.get? a).isSome = true then none else (h.get? a).map fun o => (a, o)
def rest (g h : Heap) (L d : Addr) : List (Addr × Obj) := (allNews g h L).filter fun p => decide (p.1 ≠ d)
end L2

namespace L2
open PySem PySem.Spec PyProof.Rows

/-- the module's facts, over the base: the heap at the law's entry without what is tracked there -/
structure Mod (K : PySem.W.Frag) (mg : Str → Option Value) (base : Heap) : Prop where
  kin : K.In base
  glob : base.Ns mainGlobals mg
  blt : ∃ mb, base.Ns builtinsNs mb ∧ ∀ x : Str, x ≠ "__name__" → mb x = bootBuiltins x
  nolimit : base.NoLimit

/-- the context: a def's body (or a comprehension's block) running. base: fixed through the whole law; s₀, H₀: the entry; outer: the frames whose slots others may change (a def's callers); stack: all frames that run;
   ex: iterators that were made ahead of the entry and are walked here (a comprehension's); fn: the names whose cells were made at the entry (a def: all; a comprehension's block: its own); calm: not within an except suite; pn: pins that every state bears; xe: what is wanted of an exception that leaves the code -/
structure Cx where
  prog : Program
  w : World
  K : PySem.W.Frag
  mg : Str → Option Value
  base : Heap
  A : Around
  N : List Str
  s₀ : Shared
  H₀ : Hp
  env : Env
  outer : List Env
  stack : List Env
  ex : List Addr
  fn : Str → Bool
  calm : Bool
  pn : List (Addr × Obj)
  xe : Value → Shared → Prop
/-- the callers' frames -/
def frs (l : List Env) : List Addr := l.filterMap (·.frame)
abbrev Cx.fs (X : Cx) : List Addr := frs X.outer

def Vis (sc : Scope) (x : Str) : Prop := sc.names.lookup x = some .local ∨ sc.names.lookup x = some .cell ∨ sc.names.lookup x = some .free
def Loc (sc : Scope) (x : Str) : Prop := sc.names.lookup x = some .local ∨ sc.names.lookup x = some .cell
def Look (env : Env) (h : Heap) (m : Str → Option Value) (x : Str) (u : Value) : Prop :=
  (env.kindOf x = some .local ∧ m x = some u) ∨ ((env.kindOf x = some .cell ∨ env.kindOf x = some .free) ∧ ∃ c, env.cells.lookup x = some c ∧ h.IsCell c (some u))

structure Cx.Ok (X : Cx) : Prop where
  mod : Mod X.K X.mg X.base
  kind : X.env.scope.kind = .function
  glob : X.env.globals = mainGlobals
  blt : X.env.builtins = builtinsNs
  above : X.s₀.heap.objs.size ≤ X.env.locals
  inj : ∀ x y c, X.env.cells.lookup x = some c → X.env.cells.lookup y = some c → x = y
  has : ∀ x, (X.env.kindOf x = some .cell ∨ X.env.kindOf x = some .free) → ∃ c, X.env.cells.lookup x = some c
  cab : ∀ x c, X.fn x = true → X.env.cells.lookup x = some c → X.s₀.heap.objs.size ≤ c
  hd : X.calm = true → X.A.handled = none
  frames : X.A.frames = some X.stack
  stk : X.stack = X.outer ∨ (X.stack = X.env :: X.outer ∧ X.env.frame = some X.env.locals)
  exf : ∀ b ∈ X.ex, b ≠ X.env.locals ∧ ∀ x c, X.env.cells.lookup x = some c → c ≠ b
  bs : ∀ b o, X.base.get? b = some o → X.s₀.heap.get? b = some o ∧ X.H₀ b = none
  bsz : X.base.objs.size ≤ X.s₀.heap.objs.size
  noex : ∀ b o, X.base.get? b = some o → b ∉ X.ex
  exfs : ∀ b ∈ X.ex, b ∉ X.fs
  funs : X.s₀.heap.FunFrames X.base X.outer
  frf : ∀ b ∈ X.fs, X.H₀ b = none

structure Inv (X : Cx) (pins : List (Addr × Obj)) (σ : List (Option V)) (H : Hp) (s : Shared) : Prop where
  ok : X.Ok
  os : s.os = X.s₀.os
  bare : AllBare s.gens
  base : Un X.fs X.ex X.H₀ H X.s₀.heap s.heap
  loc : ∃ m, s.heap.Ns X.env.locals m ∧ ∀ (i : Nat) (x : Str) (v : V), X.N[i]? = some x → σ[i]? = some (some v) → Vis X.env.scope x → ∃ u, RelV v u ∧ Look X.env s.heap m x u
  cell : ∀ x c, X.env.cells.lookup x = some c → ∃ v, s.heap.IsCell c v
  free : H X.env.locals = none
  freeC : ∀ x c, X.env.cells.lookup x = some c → H c = none
  pin : ∀ p ∈ X.pn ++ pins, s.heap.get? p.1 = some p.2 ∧ H p.1 = none ∧ p.1 ≠ X.env.locals ∧ p.1 ∉ X.fs ∧ ∀ v, p.2.data ≠ .cell v
  hok : HOk X.prog X.w H s.heap
  len : σ.length = X.N.length

section
variable {X : Cx} {pins : List (Addr × Obj)} {σ : List (Option V)} {H H' : Hp} {s : Shared} {h' : Heap}

theorem Cx.Ok.nofr (ok : X.Ok) {b : Addr} {o : Obj} (e : X.base.get? b = some o) : b ∉ X.fs := fun hb => by
  have := (ok.funs.mem hb).1
  rw [e] at this; cases this
theorem Inv.bs (I : Inv X pins σ H s) : ∀ b o, X.base.get? b = some o → s.heap.get? b = some o ∧ H b = none := fun b o e =>
  ⟨I.base.keep b o (I.ok.bs b o e).1 (I.ok.bs b o e).2 (I.ok.nofr e) (I.ok.noex b o e), I.base.free b o (I.ok.bs b o e).1 (I.ok.bs b o e).2 (I.ok.noex b o e)⟩
theorem Inv.bk (I : Inv X pins σ H s) : ∀ b o, X.base.get? b = some o → s.heap.get? b = some o := fun b o e => (I.bs b o e).1
theorem Inv.mod (I : Inv X pins σ H s) : Mod X.K X.mg X.base := I.ok.mod
theorem Inv.kIn (I : Inv X pins σ H s) : X.K.In s.heap := I.ok.mod.kin.keeps I.bk
theorem Inv.lt (I : Inv X pins σ H s) : X.env.locals < s.heap.objs.size := let ⟨_, hn, _⟩ := I.loc; hn.lt
theorem Inv.sz (I : Inv X pins σ H s) : X.s₀.heap.objs.size ≤ s.heap.objs.size := Nat.le_trans I.ok.above (Nat.le_of_lt I.lt)
theorem Inv.nofs (I : Inv X pins σ H s) {a : Addr} (h : s.heap.objs.size ≤ a) : a ∉ X.fs := fun hb => by
  obtain ⟨_, o, ho, _⟩ := I.ok.funs.mem hb
  exact absurd (Nat.lt_of_lt_of_le (Heap.lt_size ho) (Nat.le_trans I.sz h)) (Nat.lt_irrefl _)
theorem Inv.cne (I : Inv X pins σ H s) : ∀ x c, X.env.cells.lookup x = some c → c ≠ X.env.locals := fun x c e z => by
  obtain ⟨v, o, ho, hd⟩ := I.cell x c e
  obtain ⟨m, ⟨o', es, ep, ho', hd', _⟩, _⟩ := I.loc
  rw [z, ho'] at ho; cases ho; rw [hd'] at hd; cases hd
theorem Inv.funs (I : Inv X pins σ H s) : s.heap.FunFrames X.base X.outer := by
  have all : ∀ (l : List Env), (∀ b ∈ frs l, b ∈ X.fs) → X.s₀.heap.FunFrames X.base l → s.heap.FunFrames X.base l := by
    intro l
    induction l with
    | nil => intro _ _; trivial
    | cons env r ih =>
      intro hs hl
      obtain ⟨hk, ⟨L, o, hf, hn, ho, hd⟩, hr⟩ := hl
      have hL : L ∈ X.fs := hs L (by unfold frs; rw [List.filterMap_cons, hf]; exact List.mem_cons_self)
      obtain ⟨sl, e⟩ := I.base.slot L o ho (I.ok.frf L hL) hL fun z => I.ok.exfs L z hL
      exact ⟨hk, ⟨L, _, hf, hn, e, hd⟩, ih (fun b hb => hs b (by unfold frs; rw [List.filterMap_cons, hf]; exact List.mem_cons_of_mem _ hb)) hr⟩
  exact all X.outer (fun _ hb => hb) I.ok.funs

/-- the frames that run, for a call -/
theorem Inv.stack (I : Inv X pins σ H s) : s.heap.FunFrames X.base X.stack := by
  rcases I.ok.stk with e | ⟨e, hf⟩
  · rw [e]; exact I.funs
  · rw [e]
    obtain ⟨m, hn, _⟩ := I.loc
    refine .cons (by rw [I.ok.kind]; decide) hf hn ?_ I.funs
    exact Heap.get?_none_of_le (Nat.le_trans I.ok.bsz I.ok.above)
theorem Inv.stkSub (I : Inv X pins σ H s) : ∀ b ∈ frs X.stack, b ∈ X.env.locals :: X.fs := fun b hb => by
  rcases I.ok.stk with e | ⟨e, hf⟩
  · rw [e] at hb; exact List.mem_cons_of_mem _ hb
  · rw [e] at hb
    unfold frs at hb
    rw [List.filterMap_cons, hf] at hb
    exact hb
theorem Inv.stkFree (I : Inv X pins σ H s) : ∀ b ∈ frs X.stack, H b = none := fun b hb => by
  rcases List.mem_cons.mp (I.stkSub b hb) with e | hb
  · rw [e]; exact I.free
  · obtain ⟨_, o, ho, _⟩ := I.ok.funs.mem hb
    exact I.base.free b o ho (I.ok.frf b hb) fun z => I.ok.exfs b z hb

/-- THE STEP: the untracked objects but the frame and the records at ch are kept (the callers' frames up to slots), the frame's map is kept, the new abstract heap is held -/
theorem Inv.step {g' : Array GenState} {t' : Nat} {d' : Drawn} {ch : List Addr} (I : Inv X pins σ H s)
    (hch : ∀ b ∈ ch, (b ∈ X.ex ∨ X.s₀.heap.objs.size ≤ b) ∧ b ≠ X.env.locals ∧ (∀ x c, X.env.cells.lookup x = some c → c ≠ b) ∧ ∀ p ∈ X.pn ++ pins, p.1 ≠ b)
    (keep : ∀ b o, b ≠ X.env.locals → b ∉ X.fs → b ∉ ch → s.heap.get? b = some o → H b = none → h'.get? b = some o)
    (slot : ∀ b o, b ≠ X.env.locals → b ∈ X.fs → b ∉ ch → s.heap.get? b = some o → H b = none → ∃ sl, h'.get? b = some { o with slots := sl }) (free : ∀ b o, b ∉ ch → s.heap.get? b = some o → H b = none → H' b = none)
    (there : ∀ b o, b ∉ ch → s.heap.get? b = some o → ∃ o', h'.get? b = some o')
    (tups : ∀ b xs, H b = some (.tup xs) → H' b = some (.tup xs)) (frzs : ∀ b o u, H b = some (.frz o u) → H' b = some (.frz o u)) (tbls : ∀ b ps, H b = some (.tbl ps) → ∃ more, H' b = some (.tbl (ps ++ more)))
    (ns : ∀ m, s.heap.Ns X.env.locals m → h'.Ns X.env.locals m) (hok : HOk X.prog X.w H' h') (hg : AllBare g') :
    Inv X pins σ H' { s with heap := h', gens := g', drawn := d', toks := t' } := by
  have neL : ∀ b o, X.s₀.heap.get? b = some o → b ≠ X.env.locals := fun b o e => Nat.ne_of_lt (Nat.lt_of_lt_of_le (Heap.lt_size e) I.ok.above)
  have neC : ∀ b o, X.s₀.heap.get? b = some o → b ∉ X.ex → b ∉ ch := fun b o e hx hb => by
    rcases (hch b hb).1 with z | z
    · exact hx z
    · exact absurd (Nat.lt_of_lt_of_le (Heap.lt_size e) z) (Nat.lt_irrefl _)
  have cellK : ∀ x c, X.env.cells.lookup x = some c → ∀ v, s.heap.IsCell c v → h'.IsCell c v := fun x c e v ⟨o, ho, hd⟩ => by
    have nch : c ∉ ch := fun z => (hch c z).2.2.1 x c e rfl
    by_cases hc : c ∈ X.fs
    · obtain ⟨sl, q⟩ := slot c o (I.cne x c e) hc nch ho (I.freeC x c e)
      exact ⟨_, q, hd⟩
    · exact ⟨o, keep c o (I.cne x c e) hc nch ho (I.freeC x c e), hd⟩
  refine ⟨I.ok, I.os, hg, ⟨fun b o e n hb hx => ?_, fun b o e n hb hx => ?_, fun b o e n hx => ?_, fun b o e hx => ?_, fun b xs e => tups b xs (I.base.tups b xs e), fun b o xs e => frzs b o xs (I.base.frzs b o xs e), fun b ps e => ?_⟩, ?_, fun x c e => ?_, ?_, fun x c e => ?_, fun p hp => ?_, hok, I.len⟩
  · exact keep b o (neL b o e) hb (neC b o e hx) (I.base.keep b o e n hb hx) (I.base.free b o e n hx)
  · obtain ⟨sl, e1⟩ := I.base.slot b o e n hb hx
    obtain ⟨sl', e2⟩ := slot b _ (neL b o e) hb (neC b o e hx) e1 (I.base.free b o e n hx)
    exact ⟨sl', e2⟩
  · obtain ⟨o', e1⟩ := I.base.there b o e hx
    exact free b o' (neC b o e hx) e1 (I.base.free b o e n hx)
  · obtain ⟨o', e1⟩ := I.base.there b o e hx
    exact there b o' (neC b o e hx) e1
  · obtain ⟨m1, e1⟩ := I.base.tbls b ps e
    obtain ⟨m2, e2⟩ := tbls b _ e1
    exact ⟨m1 ++ m2, by rw [e2, Array.append_assoc]⟩
  · obtain ⟨m, hn, hl⟩ := I.loc
    refine ⟨m, ns m hn, fun i x v e1 e2 e3 => ?_⟩
    obtain ⟨u, r, l⟩ := hl i x v e1 e2 e3
    refine ⟨u, r, ?_⟩
    rcases l with l | ⟨k, c, e, z⟩
    · exact .inl l
    · exact .inr ⟨k, c, e, cellK x c e _ z⟩
  · obtain ⟨v, z⟩ := I.cell x c e
    exact ⟨v, cellK x c e v z⟩
  · obtain ⟨m, ⟨o, _, _, ho, _⟩, _⟩ := I.loc
    exact free _ o (fun z => (hch _ z).2.1 rfl) ho I.free
  · obtain ⟨v, o, ho, hd⟩ := I.cell x c e
    exact free c o (fun z => (hch c z).2.2.1 x c e rfl) ho (I.freeC x c e)
  · obtain ⟨e, n, ne, nf, d⟩ := I.pin p hp
    have nch : p.1 ∉ ch := fun z => (hch p.1 z).2.2.2 p hp rfl
    exact ⟨keep p.1 p.2 ne nf nch e n, free p.1 p.2 nch e n, ne, nf, d⟩
/-- .. where the frame's own object is kept too -/
theorem Inv.un {t' : Nat} (I : Inv X pins σ H s) (u : Un X.fs [] H H' s.heap h') (hok : HOk X.prog X.w H' h') : Inv X pins σ H' { s with heap := h', toks := t' } := by
  obtain ⟨m, ⟨o, es, ep, ho, r⟩, _⟩ := id I.loc
  obtain ⟨sl, hL⟩ := u.any ho I.free (by simp)
  exact I.step (g' := s.gens) (d' := s.drawn) (ch := []) (fun _ z => nomatch z) (fun b o _ hb _ e n => u.keep b o e n hb (by simp)) (fun b o _ hb _ e n => u.slot b o e n hb (by simp)) (fun b o _ e n => u.free b o e n (by simp)) (fun b o _ e => u.there b o e (by simp)) u.tups u.frzs u.tbls (fun m' hm => by
    obtain ⟨o', es', ep', ho', r'⟩ := hm
    rw [ho] at ho'; cases ho'
    exact ⟨_, es', ep', hL, r'⟩) hok I.bare
/-- behind a call (or a comprehension's block): the slots of this frame may have changed too, the records at ch may have turned -/
theorem Inv.call {g' : Array GenState} {t' : Nat} {d' : Drawn} {ch : List Addr} (I : Inv X pins σ H s) (u : Un (frs X.stack) ch H H' s.heap h') (hok : HOk X.prog X.w H' h') (hg : AllBare g')
    (hch : ∀ b ∈ ch, (b ∈ X.ex ∨ X.s₀.heap.objs.size ≤ b) ∧ b ≠ X.env.locals ∧ (∀ x c, X.env.cells.lookup x = some c → c ≠ b) ∧ ∀ p ∈ X.pn ++ pins, p.1 ≠ b) :
    Inv X pins σ H' { s with heap := h', gens := g', drawn := d', toks := t' } := by
  obtain ⟨m, ⟨o, es, ep, ho, r⟩, _⟩ := id I.loc
  obtain ⟨sl, hL⟩ := u.any ho I.free fun z => (hch _ z).2.1 rfl
  exact I.step (ch := ch) hch (fun b o hL hb hc e n => u.keep b o e n (fun z => (List.mem_cons.mp (I.stkSub b z)).elim hL hb) hc) (fun b o _ _ hc e n => u.any e n hc) (fun b o hc e n => u.free b o e n hc) (fun b o hc e => u.there b o e hc) u.tups u.frzs u.tbls (fun m' hm => by
    obtain ⟨o', es', ep', ho', r'⟩ := hm
    rw [ho] at ho'; cases ho'
    exact ⟨_, es', ep', hL, r'⟩) hok hg
/-- an untracked record of ours (an iterator) has turned -/
theorem Inv.turned {t' : Nat} {it : Addr} (I : Inv X pins σ H s) (k : ∀ b o, b ≠ it → s.heap.get? b = some o → h'.get? b = some o) (hn : H it = none) (hL : it ≠ X.env.locals)
    (h1 : it ∈ X.ex ∨ X.s₀.heap.objs.size ≤ it) (h2 : ∀ x c, X.env.cells.lookup x = some c → c ≠ it) (h3 : ∀ p ∈ X.pn ++ pins, p.1 ≠ it) : Inv X pins σ H { s with heap := h', toks := t' } := by
  have nit : ∀ b u, H b = some u → b ≠ it := fun b u e z => by rw [z, hn] at e; cases e
  refine I.step (g' := s.gens) (d' := s.drawn) (ch := [it]) (fun b hb => ?_) (fun b o _ _ hc e _ => k b o (fun z => hc (by simp [z])) e) (fun b o _ _ hc e _ => ⟨o.slots, k b o (fun z => hc (by simp [z])) e⟩) (fun _ _ _ _ n => n)
    (fun b o hc e => ⟨o, k b o (fun z => hc (by simp [z])) e⟩) (fun _ _ e => e) (fun _ _ _ e => e) (fun b ps e => ⟨#[], by rw [e]; simp⟩) (fun m hm => ?_) (fun b u e => ?_) I.bare
  · have e : b = it := by simpa using hb
    subst e
    exact ⟨h1, hL, h2, h3⟩
  · obtain ⟨o, es, ep, ho, r⟩ := hm
    exact ⟨o, es, ep, k _ o (Ne.symm hL) ho, r⟩
  · refine (I.hok b u e).stay (fun c v hc q => k c v ?_ q) (fun _ q => q) fun _ _ q => q
    rcases hc with z | z
    · rw [z]; exact nit b u e
    · exact nit c _ z
theorem Inv.tok (I : Inv X pins σ H s) (t : Nat) : Inv X pins σ H { s with toks := t } := I.un (h' := s.heap) (t' := t) Un.refl I.hok
/-- all objects kept -/
theorem Inv.kept {t' : Nat} (I : Inv X pins σ H s) (k : ∀ b u, s.heap.get? b = some u → h'.get? b = some u) : Inv X pins σ H { s with heap := h', toks := t' } := I.un (Un.kept k) (I.hok.kept k)
/-- a new object laid and tracked -/
theorem Inv.laid {a : Addr} {o : HO} {t' : Nat} (I : Inv X pins σ H s) (k : ∀ b u, s.heap.get? b = some u → h'.get? b = some u) (hp : s.heap.objs.size ≤ a) (new : ObjOk X.prog X.w (upd H a o) h' a o) :
    Inv X pins σ (upd H a o) { s with heap := h', toks := t' } := I.un (Un.laid k hp (I.hok.fresh hp)) (I.hok.laid k hp new)
/-- an object written -/
theorem Inv.write {x e : Addr} {o : HO} {t' : Nat} (I : Inv X pins σ H s) (mu : Mut (H x)) (he : e = x ∨ H e = some (.own x)) (k : ∀ b u, b ≠ e → s.heap.get? b = some u → h'.get? b = some u) (heo : ∃ u, h'.get? e = some u)
    (new : ObjOk X.prog X.w (upd H x o) h' x o) : Inv X pins σ (upd H x o) { s with heap := h', toks := t' } := I.un (Un.write mu he k heo) (I.hok.write mu he k heo new)
theorem Inv.pins_of {pins' : List (Addr × Obj)} (I : Inv X pins σ H s) (h : ∀ p ∈ pins', s.heap.get? p.1 = some p.2 ∧ H p.1 = none ∧ p.1 ≠ X.env.locals ∧ p.1 ∉ X.fs ∧ ∀ v, p.2.data ≠ .cell v) : Inv X pins' σ H s :=
  ⟨I.ok, I.os, I.bare, I.base, I.loc, I.cell, I.free, I.freeC, fun p hp => (List.mem_append.mp hp).elim (fun z => I.pin p (List.mem_append_left _ z)) (h p), I.hok, I.len⟩

theorem nodup_ix {N : List Str} (hN : N.Nodup) {i j : Nat} {x : Str} (a : N[i]? = some x) (b : N[j]? = some x) : i = j := by
  obtain ⟨h1, e1⟩ := List.getElem?_eq_some_iff.mp a
  obtain ⟨h2, e2⟩ := List.getElem?_eq_some_iff.mp b
  exact (List.getElem_inj hN).mp (e1.trans e2.symm)

/-- a name is stored; what changed -/
theorem store_ok2 {M : Model} {A : Around} {E : Value → Shared → Prop} {i : Nat} {x : Str} {v : V} {u : Value} {Q : Unit → Shared → Prop} (I : Inv X pins σ H s) (hN : X.N.Nodup) (hi : X.N[i]? = some x) (hx : Loc X.env.scope x) (r : RelV v u)
    (h : ∀ s', Inv X pins (σ.set i (some v)) H s' → (∃ a, Heap.SameBut a s.heap s'.heap ∧ (a = X.env.locals ∨ X.env.cells.lookup x = some a)) → Q () s') (hf : X.fn x = true ∨ X.env.scope.names.lookup x = some .local := by first | exact .inl rfl | exact .inr rfl | assumption) : wpAny M A (storeName X.env x u) Q E s := by
  obtain ⟨m, hn, hl⟩ := id I.loc
  have hcls : (X.env.scope.kind == .class || (X.env.scope.kind == .module && X.env.locals != X.env.globals)) = false := by rw [I.ok.kind]; rfl
  have hiσ : i < σ.length := by rw [I.len]; exact (List.getElem?_eq_some_iff.mp hi).1
  have cne := I.cne
  have tracked : ∀ {a : Addr} {h' : Heap}, (∃ o, s.heap.get? a = some o ∧ H a = none) → Heap.SameBut a s.heap h' → HOk X.prog X.w H h' := fun {a h'} ha hs b ob e => by
    obtain ⟨_, _, hfree⟩ := ha
    refine (I.hok b ob e).stay (fun c w' hc q => (hs.2 c ?_).trans q) (fun _ q => q) fun _ _ q => q
    rintro rfl
    rcases hc with rfl | hc
    · rw [hfree] at e; cases e
    · rw [hfree] at hc; cases hc
  rcases hx with hk | hk
  · refine wpAny_storeName_local hk hn (fun h' hn' hs => ?_) hcls
    obtain ⟨oL, _, _, hoL, _⟩ := id hn
    refine h _ ⟨I.ok, I.os, I.bare, ⟨fun b o e n hb hx => ?_, fun b o e n hb hx => ?_, I.base.free, fun b o e hx => ?_, I.base.tups, I.base.frzs, I.base.tbls⟩, ⟨_, hn', fun j y v' e1 e2 e3 => ?_⟩, fun y c e => ?_, I.free, I.freeC, fun p hp => ?_, tracked ⟨oL, hoL, I.free⟩ hs, by simpa using I.len⟩ ⟨_, hs, .inl rfl⟩
    · exact (hs.2 b (Nat.ne_of_lt (Nat.lt_of_lt_of_le (Heap.lt_size e) I.ok.above))).trans (I.base.keep b o e n hb hx)
    · obtain ⟨sl, e1⟩ := I.base.slot b o e n hb hx
      exact ⟨sl, (hs.2 b (Nat.ne_of_lt (Nat.lt_of_lt_of_le (Heap.lt_size e) I.ok.above))).trans e1⟩
    · obtain ⟨o', e1⟩ := I.base.there b o e hx
      exact ⟨o', (hs.2 b (Nat.ne_of_lt (Nat.lt_of_lt_of_le (Heap.lt_size e) I.ok.above))).trans e1⟩
    · by_cases hj : j = i
      · subst hj
        rw [hi] at e1; cases e1
        rw [List.getElem?_set_self hiσ] at e2
        cases e2
        exact ⟨u, r, .inl ⟨hk, by simp⟩⟩
      · rw [List.getElem?_set_ne (Ne.symm hj)] at e2
        obtain ⟨u', r', q⟩ := hl j y v' e1 e2 e3
        refine ⟨u', r', ?_⟩
        rcases q with ⟨k, e⟩ | ⟨k, c, e, z⟩
        · refine .inl ⟨k, ?_⟩
          have : y ≠ x := fun e => hj (nodup_ix hN e1 (e ▸ hi))
          simp [this, e]
        · exact .inr ⟨k, c, e, z.sameBut hs (cne y c e)⟩
    · obtain ⟨w', z⟩ := I.cell y c e
      exact ⟨w', z.sameBut hs (cne y c e)⟩
    · obtain ⟨e, n, ne, nf, d⟩ := I.pin p hp
      exact ⟨(hs.2 p.1 ne).trans e, n, ne, nf, d⟩
  · have hfn : X.fn x = true := by
      rcases hf with z | z
      · exact z
      · rw [z] at hk; cases hk
    obtain ⟨c, hc⟩ := I.ok.has x (.inl hk)
    obtain ⟨w', z⟩ := I.cell x c hc
    refine wpAny_storeName_cell I.ok.kind hk hc z (fun h' hc' hs => ?_)
    obtain ⟨oc, hoc, hocd⟩ := id z
    refine h { s with heap := h' } ⟨I.ok, I.os, I.bare, ⟨fun b o e n hb hx => ?_, fun b o e n hb hx => ?_, I.base.free, fun b o e hx => ?_, I.base.tups, I.base.frzs, I.base.tbls⟩, ⟨m, hn.sameBut hs (Ne.symm (cne x c hc)), fun j y v' e1 e2 e3 => ?_⟩, fun y c' e => ?_, I.free, I.freeC, fun p hp => ?_, tracked ⟨oc, hoc, I.freeC x c hc⟩ hs, by simpa using I.len⟩ ⟨c, hs, .inr hc⟩
    · exact (hs.2 b (Nat.ne_of_lt (Nat.lt_of_lt_of_le (Heap.lt_size e) (I.ok.cab x c hfn hc)))).trans (I.base.keep b o e n hb hx)
    · obtain ⟨sl, e1⟩ := I.base.slot b o e n hb hx
      exact ⟨sl, (hs.2 b (Nat.ne_of_lt (Nat.lt_of_lt_of_le (Heap.lt_size e) (I.ok.cab x c hfn hc)))).trans e1⟩
    · obtain ⟨o', e1⟩ := I.base.there b o e hx
      exact ⟨o', (hs.2 b (Nat.ne_of_lt (Nat.lt_of_lt_of_le (Heap.lt_size e) (I.ok.cab x c hfn hc)))).trans e1⟩
    · by_cases hj : j = i
      · subst hj
        rw [hi] at e1; cases e1
        rw [List.getElem?_set_self hiσ] at e2
        cases e2
        exact ⟨u, r, .inr ⟨.inl hk, c, hc, hc'⟩⟩
      · rw [List.getElem?_set_ne (Ne.symm hj)] at e2
        obtain ⟨u', r', q⟩ := hl j y v' e1 e2 e3
        refine ⟨u', r', ?_⟩
        rcases q with q | ⟨k, c', e, z'⟩
        · exact .inl q
        · refine .inr ⟨k, c', e, z'.sameBut hs ?_⟩
          rintro rfl
          exact hj (nodup_ix hN e1 (I.ok.inj _ _ _ e hc ▸ hi))
    · by_cases hcc : c' = c
      · subst hcc; exact ⟨_, hc'⟩
      · obtain ⟨w2, z2⟩ := I.cell y c' e
        exact ⟨w2, z2.sameBut hs hcc⟩
    · obtain ⟨e, n, ne, nf, d⟩ := I.pin p hp
      refine ⟨(hs.2 p.1 ?_).trans e, n, ne, nf, d⟩
      intro q
      rw [q, hoc] at e
      have q' : oc = p.2 := Option.some.inj e
      exact d w' (by rw [← q']; exact hocd)
theorem store_ok {M : Model} {A : Around} {E : Value → Shared → Prop} {i : Nat} {x : Str} {v : V} {u : Value} {Q : Unit → Shared → Prop} (I : Inv X pins σ H s) (hN : X.N.Nodup) (hi : X.N[i]? = some x) (hx : Loc X.env.scope x) (r : RelV v u)
    (h : ∀ s', Inv X pins (σ.set i (some v)) H s' → Q () s') (hf : X.fn x = true ∨ X.env.scope.names.lookup x = some .local := by first | exact .inl rfl | exact .inr rfl | assumption) : wpAny M A (storeName X.env x u) Q E s :=
  store_ok2 I hN hi hx r (fun s' I' _ => h s' I') hf
/-- behind a call or a block, the state as it is -/
theorem Inv.call' {s' : Shared} {ch : List Addr} (I : Inv X pins σ H s) (ho : s'.os = s.os) (u : Un (frs X.stack) ch H H' s.heap s'.heap) (hok : HOk X.prog X.w H' s'.heap) (hg : AllBare s'.gens)
    (hch : ∀ b ∈ ch, (b ∈ X.ex ∨ X.s₀.heap.objs.size ≤ b) ∧ b ≠ X.env.locals ∧ (∀ x c, X.env.cells.lookup x = some c → c ≠ b) ∧ ∀ p ∈ X.pn ++ pins, p.1 ≠ b) : Inv X pins σ H' s' := by
  obtain ⟨h', g', d', t', o'⟩ := s'
  have e : o' = s.os := ho
  subst e
  exact I.call (g' := g') (t' := t') (d' := d') u hok hg hch
end

/-- an exception: its class, its own dict's address (where it has one), the abstract heap behind it -/
abbrev XK := Value → Option Addr → Hp → Prop
abbrev St := List (Option V)
abbrev VK := V → Hp → Prop
/-- an expression's reading; a test's; an argument list's -/
abbrev TE := St → Hp → VK → Prop
abbrev TT := St → Hp → (Bool → Hp → Prop) → Prop
abbrev TA := St → Hp → (List V → Hp → Prop) → Prop
/-- what is wanted behind a statement -/
structure Ends where
  nx : St → Hp → Prop
  rt : VK
  bk : St → Hp → Prop := fun _ _ => False
  ct : St → Hp → Prop := fun _ _ => False
abbrev TS := Ends → St → Hp → Prop

def EP (X : Cx) (pins : List (Addr × Obj)) (σ : St) (Q : VK) (u : Value) (s' : Shared) : Prop := ∃ v H', Inv X pins σ H' s' ∧ RelV v u ∧ Q v H'
def TP (X : Cx) (pins : List (Addr × Obj)) (σ : St) (Q : Bool → Hp → Prop) (b : Bool) (s' : Shared) : Prop := ∃ H', Inv X pins σ H' s' ∧ Q b H'
def AP (X : Cx) (pins : List (Addr × Obj)) (σ : St) (Q : List V → Hp → Prop) (us : List Value) (s' : Shared) : Prop := ∃ vs H', Inv X pins σ H' s' ∧ Vals vs us ∧ Q vs H'
def SP (X : Cx) (pins : List (Addr × Obj)) (D : Ends) (f : Flow) (s' : Shared) : Prop :=
  match f with
  | .next => ∃ σ' H', Inv X pins σ' H' s' ∧ D.nx σ' H'
  | .brk => ∃ σ' H', Inv X pins σ' H' s' ∧ D.bk σ' H'
  | .cont => ∃ σ' H', Inv X pins σ' H' s' ∧ D.ct σ' H'
  | .ret u => ∃ v σ' H', Inv X pins σ' H' s' ∧ RelV v u ∧ D.rt v H'

def PE (X : Cx) (e : Expr) (t : TE) : Prop :=
  ∀ (pins : List (Addr × Obj)) (s : Shared) (σ : St) (H : Hp) (Q : VK), Inv X pins σ H s → t σ H Q → wpAny (model X.prog X.w) X.A (eval e X.env) (EP X pins σ Q) X.xe s
def PT (X : Cx) (e : Expr) (t : TT) : Prop :=
  ∀ (pins : List (Addr × Obj)) (s : Shared) (σ : St) (H : Hp) (Q : Bool → Hp → Prop), Inv X pins σ H s → t σ H Q → wpAny (model X.prog X.w) X.A (isTrue e X.env (eval e X.env)) (TP X pins σ Q) X.xe s
/-- a test whatever its 'whole' is (and, or) -/
def PW (X : Cx) (e : Expr) (t : TT) : Prop :=
  ∀ (whole : Sem Value) (pins : List (Addr × Obj)) (s : Shared) (σ : St) (H : Hp) (Q : Bool → Hp → Prop), Inv X pins σ H s → t σ H Q → wpAny (model X.prog X.w) X.A (isTrue e X.env whole) (TP X pins σ Q) X.xe s
theorem PW.pt {X : Cx} {e : Expr} {t : TT} (h : PW X e t) : PT X e t := h _
/-- an argument list (no star), from the left -/
def PA (X : Cx) (es : List Expr) (t : TA) : Prop :=
  ∀ (pos : Pos) (pins : List (Addr × Obj)) (s : Shared) (σ : St) (H : Hp) (Q : List V → Hp → Prop), Inv X pins σ H s → t σ H Q → wpAny (model X.prog X.w) X.A (spliced (backTo pos (starEach es X.env))) (AP X pins σ Q) X.xe s
def PS (X : Cx) (st : Stmt) (t : TS) : Prop :=
  ∀ (pins : List (Addr × Obj)) (s : Shared) (σ : St) (H : Hp) (D : Ends), Inv X pins σ H s → t D σ H → wpAny (model X.prog X.w) X.A (exec st X.env) (SP X pins D) X.xe s
def PSs (X : Cx) (st : List Stmt) (t : TS) : Prop :=
  ∀ (pins : List (Addr × Obj)) (s : Shared) (σ : St) (H : Hp) (D : Ends), Inv X pins σ H s → t D σ H → wpAny (model X.prog X.w) X.A (execs st X.env) (SP X pins D) X.xe s
/-- weaken the end -/
theorem thn {α : Type} {t : Sem α} {Q Q' : α → Shared → Prop} {M : Model} {A : Around} {E : Value → Shared → Prop} {s : Shared} (h : wpAny M A t Q E s) (hQ : ∀ a s, Q a s → Q' a s) : wpAny M A t Q' E s := wpAny_mono h hQ fun _ _ x => x
end L2

namespace L2
open PySem PySem.Spec PyProof.Rows
section
variable {X : Cx}

/-- two expressions in a row -/
theorem bin {a b : Expr} {ta tb : TE} (ha : PE X a ta) (hb : PE X b tb) {pins : List (Addr × Obj)} {s : Shared} {σ : St} {H : Hp} {R : V → V → Hp → Prop} (I : Inv X pins σ H s) (h : ta σ H fun x H1 => tb σ H1 fun y H2 => R x y H2)
    {α : Type} {Q : α → Shared → Prop} {f : Value → Value → Sem α}
    (hf : ∀ v u s2 x y H2, Inv X pins σ H2 s2 → RelV x v → RelV y u → R x y H2 → wpAny (model X.prog X.w) X.A (f v u) Q X.xe s2) :
    wpAny (model X.prog X.w) X.A (eval a X.env) (fun v s₁ => wpAny (model X.prog X.w) X.A (eval b X.env) (fun u s₂ => wpAny (model X.prog X.w) X.A (f v u) Q X.xe s₂) X.xe s₁) X.xe s := by
  refine thn (ha pins s σ H _ I h) fun v s1 ⟨x, H1, I1, r1, q1⟩ => ?_
  refine thn (hb pins s1 σ H1 _ I1 q1) fun u s2 ⟨y, H2, I2, r2, q2⟩ => ?_
  exact hf v u s2 x y H2 I2 r1 r2 q2

def tVar (i : Nat) : TE := fun σ H Q => ∃ v, σ[i]? = some (some v) ∧ Q v H
def tC (v : V) : TE := fun _ H Q => Q v H
theorem pe_var {i : Nat} {x : Str} {pos : Pos} (hN : X.N[i]? = some x) (hv : Vis X.env.scope x) (hd : (x == ("__debug__" : Str)) = false := by decide) (hcd : (x == ("__classdict__" : Str)) = false := by decide) : PE X (.Name x pos) (tVar i) := by
  intro pins s σ H Q I h
  obtain ⟨v, e, h⟩ := h
  obtain ⟨m, hn, hl⟩ := I.loc
  obtain ⟨u, r, l⟩ := hl i x v hN e hv
  have fin : EP X pins σ Q u s := ⟨v, H, I, r, h⟩
  rcases l with ⟨hk, hm⟩ | ⟨hk, c, hc, hcell⟩
  · exact wpAny_Name (wpAny_loadName_local I.ok.kind hk hn hm fin) hd
  · rcases hk with hk | hk
    · exact wpAny_Name (wpAny_loadName_cell I.ok.kind hk hc hcell fin) hd
    · exact wpAny_Name (wpAny_loadName_free I.ok.kind hk hc hcell fin hcd) hd
theorem pe_int {i j pos} : PE X (.Constant (.int i) j pos) (tC (.int i)) := fun _ _ _ H _ I h => wpAny_Constant_int ⟨.int i, H, I.tok _, ⟨_, rfl⟩, h⟩
theorem pe_bl {b j pos} : PE X (.Constant (.bool b) j pos) (tC (.bl b)) := fun _ _ _ H _ I h => Constant_bool ⟨.bl b, H, I, rfl, h⟩
theorem pe_non {j pos} : PE X (.Constant .none j pos) (tC .non) := fun _ _ _ H _ I h => Constant_none ⟨.non, H, I, rfl, h⟩
/-- a global name of the def -/
def Gl (X : Cx) (x : Str) : Prop := X.env.kindOf x = some .globalImplicit
theorem ld_glob {E : Value → Shared → Prop} {pins : List (Addr × Obj)} {s : Shared} {σ : St} {H : Hp} {x : Str} {u : Value} {pos : Pos} {Q : Value → Shared → Prop} (I : Inv X pins σ H s) (hg : Gl X x) (hm : X.mg x = some u) (h : Q u s)
    (hd : (x == ("__debug__" : Str)) = false := by decide) : wpAny (model X.prog X.w) X.A (eval (.Name x pos) X.env) Q E s :=
  Calls.Name_function_global I.ok.kind hg (Calls.loadGlobal_global (by rw [I.ok.glob]; exact I.mod.glob.keeps I.bk) hm h) hd
theorem ld_blt {E : Value → Shared → Prop} {pins : List (Addr × Obj)} {s : Shared} {σ : St} {H : Hp} {x : Str} {u : Value} {pos : Pos} {Q : Value → Shared → Prop} (I : Inv X pins σ H s) (hg : Gl X x) (hm : X.mg x = none) (hv : bootBuiltins x = some u) (h : Q u s)
    (hn : x ≠ "__name__" := by decide) (hd : (x == ("__debug__" : Str)) = false := by decide) : wpAny (model X.prog X.w) X.A (eval (.Name x pos) X.env) Q E s := by
  obtain ⟨mb, h1, h2⟩ := I.mod.blt
  exact Calls.Name_function_global I.ok.kind hg (Calls.loadGlobal_builtin (by rw [I.ok.glob]; exact I.mod.glob.keeps I.bk) hm (by rw [I.ok.blt]; exact h1.keeps I.bk) ((h2 x hn).trans hv) h) hd
theorem pe_bltn {x : Str} {v : V} {u : Value} {pos : Pos} (hg : Gl X x) (hm : X.mg x = none) (hv : bootBuiltins x = some u) (r : RelV v u) (hn : x ≠ "__name__" := by decide) (hd : (x == ("__debug__" : Str)) = false := by decide) : PE X (.Name x pos) (tC v) :=
  fun _ _ _ H _ I h => ld_blt I hg hm hv ⟨v, H, I, r, h⟩ hn hd

variable {a b : Expr} {ta tb : TE} {pos : Pos}
def PC (X : Cx) (op : CmpOp) (a b : Expr) (t : TE) : Prop :=
  ∀ (pins : List (Addr × Obj)) (s : Shared) (σ : St) (H : Hp) (Q : VK), Inv X pins σ H s → t σ H Q →
    wpAny (model X.prog X.w) X.A (eval a X.env) (fun v s₁ => wpAny (model X.prog X.w) X.A (eval b X.env) (fun u s₂ => wpAny (model X.prog X.w) X.A (compareOp op v u) (EP X pins σ Q) X.xe s₂) X.xe s₁) X.xe s
theorem nobehind (b : Expr) {op : CmpOp} (h : op ≠ .In) (h2 : op ≠ .NotIn) : behindInMarks op b = false := by
  have e1 : (op == CmpOp.In) = false := by cases op <;> first | rfl | exact absurd rfl h
  have e2 : (op == CmpOp.NotIn) = false := by cases op <;> first | rfl | exact absurd rfl h2
  cases b <;> simp [behindInMarks, e1, e2]
/-- is None -/
def tIsN (ta : TE) : TE := fun σ H Q => ta σ H fun x H1 => Q (.bl (decide (x = .non))) H1
def tNotN (ta : TE) : TE := fun σ H Q => ta σ H fun x H1 => Q (.bl (!decide (x = .non))) H1
/-- a comparison as a value, as a test -/
def tB (t : TE) : TT := fun σ H Q => t σ H fun x H1 => ∃ c, x = .bl c ∧ Q c H1
theorem pt_cmp {op : CmpOp} {t : TE} (h : PC X op a b t) (h1 : behindInMarks op b = false := by first | exact nobehind _ (by decide) (by decide) | rfl) : PT X (.Compare a [op] [b] pos) (tB t) := by
  intro pins s σ H Q I hw
  refine wpAny_isTrue_Compare1 (thn (h pins s σ H _ I hw) fun v s1 h1 => thn h1 fun u s2 h2 => thn h2 fun c s3 ⟨x, H1, I1, r1, q1⟩ => ?_) h1
  obtain ⟨d, rfl, q⟩ := q1
  cases r1
  exact wpAny_truthy_bool ⟨H1, I1, q⟩
/-- an expression whose value is a bool, as a test -/
theorem pt_val {e : Expr} {t : TE} (h : PE X e t) (he : ∀ whole, isTrue e X.env whole = (do let v ← whole; standAt e.pos; holding [v] (truthy v)) := by intro _; rfl) : PT X e (tB t) := by
  intro pins s σ H Q I hw
  refine isTrue_plain (thn (h pins s σ H _ I hw) fun v s1 ⟨x, H1, I1, r1, q1⟩ => ?_) (he _)
  obtain ⟨d, rfl, q⟩ := q1
  cases r1
  exact wpAny_truthy_bool ⟨H1, I1, q⟩

variable {tA tB' : TT} {rest : List Expr}
def tAnd (t u : TT) : TT := fun σ H Q => t σ H fun c H1 => if c = true then u σ H1 Q else Q false H1
def tOr (t u : TT) : TT := fun σ H Q => t σ H fun c H1 => if c = true then Q true H1 else u σ H1 Q
def tNot (t : TT) : TT := fun σ H Q => t σ H fun c H1 => Q (!c) H1
theorem pw_and1 (ha : PT X a tA) : PW X (.BoolOp .And [a] pos) tA := by
  intro wh pins s σ H Q I h
  refine isTrue_and (thn (ha pins s σ H Q I h) fun c s1 e => ?_)
  cases c with
  | true => exact isTrue_and_nil e
  | false => exact e
theorem pw_or1 (ha : PT X a tA) : PW X (.BoolOp .Or [a] pos) tA := by
  intro wh pins s σ H Q I h
  refine isTrue_or (thn (ha pins s σ H Q I h) fun c s1 e => ?_)
  cases c with
  | false => exact isTrue_or_nil e
  | true => exact e
theorem pw_and (ha : PT X a tA) (hb : PW X (.BoolOp .And (b :: rest) pos) tB') : PW X (.BoolOp .And (a :: b :: rest) pos) (tAnd tA tB') := by
  intro wh pins s σ H Q I h
  refine isTrue_and (thn (ha pins s σ H _ I h) fun c s1 ⟨H1, I1, q1⟩ => ?_)
  cases c with
  | true => exact hb wh pins s1 σ H1 Q I1 q1
  | false => exact ⟨H1, I1, q1⟩
theorem pw_or (ha : PT X a tA) (hb : PW X (.BoolOp .Or (b :: rest) pos) tB') : PW X (.BoolOp .Or (a :: b :: rest) pos) (tOr tA tB') := by
  intro wh pins s σ H Q I h
  refine isTrue_or (thn (ha pins s σ H _ I h) fun c s1 ⟨H1, I1, q1⟩ => ?_)
  cases c with
  | true => exact ⟨H1, I1, q1⟩
  | false => exact hb wh pins s1 σ H1 Q I1 q1
theorem pt_not (ha : PT X a tA) : PT X (.UnaryOp .Not a pos) (tNot tA) := by
  intro pins s σ H Q I h
  exact isTrue_not (ha pins s σ H (fun c H1 => Q (!c) H1) I h)
/-- .. as values (bools) -/
def tAndV (ta tb : TE) : TE := fun σ H Q => ta σ H fun x H1 => ∃ c, x = .bl c ∧ if c = true then tb σ H1 Q else Q (.bl false) H1
def tOrV (ta tb : TE) : TE := fun σ H Q => ta σ H fun x H1 => ∃ c, x = .bl c ∧ if c = true then Q (.bl true) H1 else tb σ H1 Q
def tNotV (ta : TE) : TE := fun σ H Q => ta σ H fun x H1 => ∃ c, x = .bl c ∧ Q (.bl (!c)) H1
theorem pe_one {op} {t : TE} (h : PE X a t) : PE X (.BoolOp op [a] pos) t := fun pins s σ H Q I hw => BoolOp_one (h pins s σ H Q I hw)
theorem pe_and (ha : PE X a ta) (hb : PE X (.BoolOp .And (b :: rest) pos) tb) : PE X (.BoolOp .And (a :: b :: rest) pos) (tAndV ta tb) := by
  intro pins s σ H Q I h
  refine BoolOp_and (thn (ha pins s σ H _ I h) fun v s1 ⟨x, H1, I1, r1, q1⟩ => ?_)
  obtain ⟨c, rfl, q1⟩ := q1
  cases r1
  refine wpAny_truthy_bool ?_
  cases c with
  | true => exact hb pins s1 σ H1 Q I1 q1
  | false => exact ⟨.bl false, H1, I1, rfl, q1⟩
theorem pe_not (ha : PE X a ta) : PE X (.UnaryOp .Not a pos) (tNotV ta) := by
  intro pins s σ H Q I h
  refine UnaryOp_ (thn (ha pins s σ H _ I h) fun v s1 ⟨x, H1, I1, r1, q1⟩ => ?_)
  obtain ⟨c, rfl, q1⟩ := q1
  cases r1
  exact not_of (wpAny_truthy_bool ⟨.bl (!c), H1, I1, rfl, q1⟩)
/-- a if t else b -/
def tIf (t : TT) (ta tb : TE) : TE := fun σ H Q => t σ H fun c H1 => if c = true then ta σ H1 Q else tb σ H1 Q
theorem pe_ifExp {c : Expr} (hc : PT X c tA) (ha : PE X a ta) (hb : PE X b tb) : PE X (.IfExp c a b pos) (tIf tA ta tb) := by
  intro pins s σ H Q I h
  refine wpAny_IfExp (thn (hc pins s σ H _ I h) fun d s1 ⟨H1, I1, q1⟩ => ?_)
  cases d with
  | true => exact ha pins s1 σ H1 Q I1 q1
  | false => exact hb pins s1 σ H1 Q I1 q1
end
end L2

namespace L2
open PySem PySem.Spec PyProof.Rows

def SqL (K : PySem.W.Frag) (H : Hp) (a : Addr) (xs : List V) : Prop :=
  Rd H a (.lst xs) ∨
    ∃ (o : Obj) (its : Array Value) (n : Nat), K.lookup a = some o ∧ o.cls = .type "list" ∧ o.dict = none ∧ o.data = .seq its n ∧ its.size ≤ sizeLine ∧ Vals xs its.toList
def SqT (K : PySem.W.Frag) (H : Hp) (a : Addr) (xs : List V) : Prop :=
  Rd H a (.tup xs) ∨
    ∃ (o : Obj) (its : Array Value) (n : Nat), K.lookup a = some o ∧ o.cls = .type "tuple" ∧ o.data = .seq its n ∧ its.size ≤ sizeLine ∧ Vals xs its.toList
def absV : Value → Option V
  | .none => some .non
  | .bool b => some (.bl b)
  | .int i _ => some (.int i)
  | .str x _ => some (.str x)
  | .bytes b _ => some (.byt b)
  | .float b _ => some (.flt b)
  | .ref a => some (.ref a)
  | .type n => some (.ty n)
  | _ => none
theorem RelV.abs {x : V} {u : Value} (r : RelV x u) : absV u = some x := by
  cases x with
  | non => cases r; rfl
  | bl _ => cases r; rfl
  | int _ => obtain ⟨t, rfl⟩ := r; rfl
  | str _ => obtain ⟨t, rfl⟩ := r; rfl
  | byt _ => obtain ⟨t, rfl⟩ := r; rfl
  | flt _ => obtain ⟨t, rfl⟩ := r; rfl
  | ref _ => cases r; rfl
  | ty _ => cases r; rfl
theorem RelV.inj {x y : V} {u : Value} (r : RelV x u) (q : RelV y u) : x = y := Option.some.inj (r.abs.symm.trans q.abs)
theorem Vals.inj : ∀ {xs ys : List V} {us : List Value}, Vals xs us → Vals ys us → xs = ys
  | _, _, _, .nil, .nil => rfl
  | _, _, _, .cons r t, .cons r' t' => by rw [r.inj r', Vals.inj t t']
section
variable {X : Cx} {pins : List (Addr × Obj)} {σ : St} {H : Hp} {s : Shared} {a : Addr} {xs ys : List V}
theorem SqL.of {K : PySem.W.Frag} (h : H a = some (.lst xs)) : SqL K H a xs := .inl (.inl h)
theorem SqT.of {K : PySem.W.Frag} (h : H a = some (.tup xs)) : SqT K H a xs := .inl (.inl h)
theorem Inv.list (I : Inv X pins σ H s) (h : SqL X.K H a xs) : ∃ its : List Value, Vals xs its ∧ PlainL s.heap a its.toArray ∧ xs.length ≤ sizeLine := by
  rcases h with h | ⟨o, its, n, hk, hc, hd, hs, hz, r⟩
  · obtain ⟨z, its, n, r, e⟩ := h.ok I.hok
    exact ⟨its, r, ⟨_, n, e, rfl, rfl, rfl⟩, z⟩
  · refine ⟨its.toList, r, ⟨o, n, I.kIn a o hk, hc, hd, by simpa using hs⟩, ?_⟩
    have e := r.length
    simp only [Array.length_toList] at e
    omega
theorem Inv.tuple (I : Inv X pins σ H s) (h : SqT X.K H a xs) : ∃ its : List Value, Vals xs its ∧ IsTup s.heap a its.toArray ∧ xs.length ≤ sizeLine := by
  rcases h with h | ⟨o, its, n, hk, hc, hs, hz, r⟩
  · obtain ⟨z, its, r, p⟩ := h.ok I.hok
    exact ⟨its, r, p, z⟩
  · refine ⟨its.toList, r, ⟨o, I.kIn a o hk, hc, n, by simpa using hs⟩, ?_⟩
    have e := r.length
    simp only [Array.length_toList] at e
    omega
theorem Inv.list_inj (I : Inv X pins σ H s) (h : SqL X.K H a xs) (h' : SqL X.K H a ys) : xs = ys := by
  obtain ⟨its, r, ⟨o, n, e, _, _, d⟩, _⟩ := I.list h
  obtain ⟨its', r', ⟨o', n', e', _, _, d'⟩, _⟩ := I.list h'
  rw [e] at e'; cases e'
  rw [d] at d'
  injection d' with d1 _
  have : its = its' := by simpa using congrArg Array.toList d1
  subst this
  exact r.inj r'
theorem Inv.tuple_inj (I : Inv X pins σ H s) (h : SqT X.K H a xs) (h' : SqT X.K H a ys) : xs = ys := by
  obtain ⟨its, r, ⟨o, e, _, n, d⟩, _⟩ := I.tuple h
  obtain ⟨its', r', ⟨o', e', _, n', d'⟩, _⟩ := I.tuple h'
  rw [e] at e'; cases e'
  rw [d] at d'
  injection d' with d1 _
  have : its = its' := by simpa using congrArg Array.toList d1
  subst this
  exact r.inj r'
end

abbrev Cx.wish (X : Cx) (E : Value → Shared → Prop) : Cx := { X with xe := E }
/-- no exception leaves -/
abbrev Cx.nox (X : Cx) : Cx := X.wish fun _ _ => False
theorem Cx.Ok.wish {X : Cx} (ok : X.Ok) (E : Value → Shared → Prop) : (X.wish E).Ok :=
  ⟨ok.mod, ok.kind, ok.glob, ok.blt, ok.above, ok.inj, ok.has, ok.cab, ok.hd, ok.frames, ok.stk, ok.exf, ok.bs, ok.bsz, ok.noex, ok.exfs, ok.funs, ok.frf⟩
theorem Cx.Ok.unwish {X : Cx} {E : Value → Shared → Prop} (ok : (X.wish E).Ok) : X.Ok :=
  ⟨ok.mod, ok.kind, ok.glob, ok.blt, ok.above, ok.inj, ok.has, ok.cab, ok.hd, ok.frames, ok.stk, ok.exf, ok.bs, ok.bsz, ok.noex, ok.exfs, ok.funs, ok.frf⟩
section
variable {X : Cx} {pins : List (Addr × Obj)} {σ : St} {H : Hp} {s : Shared} {E : Value → Shared → Prop}
theorem Inv.wish (I : Inv X pins σ H s) (E : Value → Shared → Prop) : Inv (X.wish E) pins σ H s := ⟨I.ok.wish E, I.os, I.bare, I.base, I.loc, I.cell, I.free, I.freeC, I.pin, I.hok, I.len⟩
theorem Inv.unwish (I : Inv (X.wish E) pins σ H s) : Inv X pins σ H s := ⟨I.ok.unwish, I.os, I.bare, I.base, I.loc, I.cell, I.free, I.freeC, I.pin, I.hok, I.len⟩
theorem SP.unwish {D : Ends} {f : Flow} {s' : Shared} (h : SP (X.wish E) pins D f s') : SP X pins D f s' := by
  cases f with
  | next => obtain ⟨σ', H', I, q⟩ := h; exact ⟨σ', H', I.unwish, q⟩
  | brk => obtain ⟨σ', H', I, q⟩ := h; exact ⟨σ', H', I.unwish, q⟩
  | cont => obtain ⟨σ', H', I, q⟩ := h; exact ⟨σ', H', I.unwish, q⟩
  | ret u => obtain ⟨v, σ', H', I, r, q⟩ := h; exact ⟨v, σ', H', I.unwish, r, q⟩
theorem PSs.nox {st : List Stmt} {t : TS} (h : PSs X.nox st t) : PSs X st t := fun pins s σ H D I hw =>
  wpAny_mono (h pins s σ H D (I.wish _) hw) (fun _ _ q => q.unwish) fun _ _ z => False.elim z
end

section
variable {X : Cx} {st : Stmt} {rest : List Stmt} {t u : TS} {e : Expr} {te : TE} {pos : Pos}
def tNext : TS := fun D σ H => D.nx σ H
def tSeq (t u : TS) : TS := fun D σ H => t { D with nx := u D } σ H
theorem pss_nil : PSs X [] tNext := fun _ _ σ H _ I h => wpAny_execs_nil ⟨σ, H, I, h⟩
theorem pss_cons (h1 : PS X st t) (h2 : PSs X rest u) : PSs X (st :: rest) (tSeq t u) := by
  intro pins s σ H D I h
  refine wpAny_execs_cons (thn (h1 pins s σ H { D with nx := u D } I h) fun f s1 q => ?_)
  cases f with
  | next =>
    obtain ⟨σ', H', I', q⟩ := q
    exact h2 pins s1 σ' H' D I' q
  | ret v => exact q
  | brk => exact q
  | cont => exact q
theorem pss_one (h1 : PS X st t) : PSs X [st] t := by
  intro pins s σ H D I h
  refine wpAny_execs_cons (thn (h1 pins s σ H D I h) fun f s1 q => ?_)
  cases f with
  | next => exact wpAny_execs_nil q
  | ret v => exact q
  | brk => exact q
  | cont => exact q
/-- in a def's body nothing is shown -/
theorem Inv.quiet {pins : List (Addr × Obj)} {σ : St} {H : Hp} {s : Shared} (I : Inv X pins σ H s) : interactive X.env = false := by simp [interactive, I.ok.kind]
/-- an expression whose value is dropped -/
def tDrop (te : TE) : TS := fun D σ H => te σ H fun _ H1 => D.nx σ H1
theorem ps_expr (he : PE X e te) (hs : swapsWith e none pos.line X.env = pure false := by rfl) : PS X (.Expr e pos) (tDrop te) := by
  intro pins s σ H D I h
  exact wpAny_Expr_any (thn (he pins s σ H _ I h) fun v s1 ⟨x, H1, I1, r1, q1⟩ => ⟨σ, H1, I1, q1⟩) I.quiet hs
def tRet (te : TE) : TS := fun D σ H => te σ H D.rt
theorem ps_ret (he : PE X e te) : PS X (.Return (some e) pos) (tRet te) := by
  intro pins s σ H D I h
  exact wpAny_Return_some (thn (he pins s σ H _ I h) fun v s1 ⟨x, H1, I1, r1, q1⟩ => ⟨x, σ, H1, I1, r1, q1⟩)
def tRetN : TS := fun D _ H => D.rt .non H
def tIfS (c : TT) (t u : TS) : TS := fun D σ H => c σ H fun b H1 => if b = true then t D σ H1 else u D σ H1
theorem ps_if {c : Expr} {a b : List Stmt} {tc : TT} (hc : PT X c tc) (ha : PSs X a t) (hb : PSs X b u) : PS X (.If c a b pos) (tIfS tc t u) := by
  intro pins s σ H D I h
  refine wpAny_If (thn (hc pins s σ H _ I h) fun d s1 ⟨H1, I1, q1⟩ => ?_)
  cases d with
  | true => exact ha pins s1 σ H1 D I1 q1
  | false => exact hb pins s1 σ H1 D I1 q1
end

abbrev TG := V → St → Hp → (St → Hp → Prop) → Prop
abbrev TGs := List V → St → Hp → (St → Hp → Prop) → Prop
def PG (X : Cx) (target : Expr) (t : TG) : Prop :=
  ∀ (pins : List (Addr × Obj)) (s : Shared) (σ : St) (H : Hp) (v : V) (u : Value) (Q : St → Hp → Prop), Inv X pins σ H s → RelV v u → t v σ H Q →
    wpAny (model X.prog X.w) X.A (assign target X.env u) (fun _ s' => ∃ σ' H', Inv X pins σ' H' s' ∧ Q σ' H') X.xe s
/-- several targets, one after another -/
def PGs (X : Cx) (ts : List Expr) (t : TGs) : Prop :=
  ∀ (pins : List (Addr × Obj)) (s : Shared) (σ : St) (H : Hp) (vs : List V) (us : List Value) (Q : St → Hp → Prop), Inv X pins σ H s → Vals vs us → t vs σ H Q →
    wpAny (model X.prog X.w) X.A (assignInOrder ((assignEach ts X.env).map (·.2)) us) (fun _ s' => ∃ σ' H', Inv X pins σ' H' s' ∧ Q σ' H') X.xe s
/-- o[i] = v, by values -/
abbrev TSet := V → V → V → Hp → (Hp → Prop) → Prop
def PSet (X : Cx) (t : TSet) : Prop :=
  ∀ (pins : List (Addr × Obj)) (s : Shared) (σ : St) (H : Hp) (o i v : V) (ov iv u : Value) (Q : Hp → Prop), Inv X pins σ H s → RelV o ov → RelV i iv → RelV v u → t o i v H Q →
    wpAny (model X.prog X.w) X.A (setItem ov iv u) (fun _ s' => ∃ H', Inv X pins σ H' s' ∧ Q H') X.xe s
section
variable {X : Cx} {pos : Pos}
def gName (i : Nat) : TG := fun v σ H Q => Q (σ.set i (some v)) H
theorem pg_name {i : Nat} {x : Str} (hN : X.N.Nodup) (hi : X.N[i]? = some x) (hx : Loc X.env.scope x) (hf : X.fn x = true ∨ X.env.scope.names.lookup x = some .local := by first | exact .inl rfl | exact .inr rfl | assumption) : PG X (.Name x pos) (gName i) := by
  intro pins s σ H v u Q I r h
  exact wpAny_assign_Name (store_ok I hN hi hx r (fun s' I' => ⟨_, H, I', h⟩) hf)
def gNil : TGs := fun vs σ H Q => vs = [] ∧ Q σ H
def gCons (t : TG) (u : TGs) : TGs := fun vs σ H Q => ∃ v r, vs = v :: r ∧ t v σ H fun σ' H' => u r σ' H' Q
theorem pgs_nil : PGs X [] gNil := by
  intro pins s σ H vs us Q I r h
  obtain ⟨e, h⟩ := h
  subst e
  cases r
  exact assignInOrder_nil ⟨σ, H, I, h⟩
theorem pgs_cons {e : Expr} {es : List Expr} {t : TG} {u : TGs} (h1 : PG X e t) (h2 : PGs X es u)
    (hs : (assignEach (e :: es) X.env).map (·.2) = assign e X.env :: (assignEach es X.env).map (·.2) := by rfl) : PGs X (e :: es) (gCons t u) := by
  intro pins s σ H vs us Q I r h
  obtain ⟨v, vr, e1, h⟩ := h
  subst e1
  cases r with
  | cons r rr =>
    rw [hs]
    refine assignInOrder_cons (thn (h1 pins s σ H _ _ _ I r h) fun _ s1 ⟨σ1, H1, I1, q1⟩ => ?_)
    exact h2 pins s1 σ1 H1 _ _ Q I1 rr q1
/-- (a, b, ..) = a tuple of that length -/
def gTup (K : PySem.W.Frag) (n : Nat) (t : TGs) : TG := fun v σ H Q => ∃ a xs, v = .ref a ∧ SqT K H a xs ∧ xs.length = n ∧ t xs σ H Q
theorem pg_tup {es : List Expr} {k : Nat} {t : TGs} {n : Nat} (hc : X.calm = true) (h : PGs X es t)
    (hn : (assignEach es X.env).length = n := by rfl) (hst : (assignEach es X.env).findIdx? (·.1) = none := by rfl) : PG X (.Tuple es k pos) (gTup X.K n t) := by
  intro pins s σ H v u Q I r hw
  obtain ⟨a, xs, e1, hq, hl, hw⟩ := hw
  subst e1
  cases r
  obtain ⟨its, rv, ht, hz⟩ := I.tuple hq
  refine assign_Tuple_tuple (I.ok.hd hc) ht (by simp [hn, ← hl, rv.length]) hst fun h' hx => ?_
  have I1 : Inv X pins σ H { s with heap := h' } := I.kept (t' := s.toks) fun b o e => hx b o (Nat.ne_of_lt (Heap.lt_size e)) e
  exact h pins _ σ H xs _ Q I1 (by simpa using rv) hw
/-- o[i] = .. -/
def gSub (to ti : TE) (t : TSet) : TG := fun v σ H Q => to σ H fun o H1 => ti σ H1 fun i H2 => t o i v H2 fun H3 => Q σ H3
theorem pg_sub {o i : Expr} {to ti : TE} {t : TSet} (ho : PE X o to) (hi : PE X i ti) (hs : PSet X t)
    (ha : ∀ v, assign (.Subscript o i pos) X.env v = (do
      let ov ← holding [v] (eval o X.env)
      let iv ← holding [v, ov] (eval i X.env)
      standAt pos
      holding [v, ov, iv] (setItem ov iv v)
      release [v, ov, iv] []) := by intro _; rfl) : PG X (.Subscript o i pos) (gSub to ti t) := by
  intro pins s σ H v u Q I r h
  rw [ha]
  refine wpAny_bind (wpAny_holding (thn (ho pins s σ H _ I h) fun ov s1 ⟨x, H1, I1, r1, q1⟩ => ?_))
  refine wpAny_bind (wpAny_holding (thn (hi pins s1 σ H1 _ I1 q1) fun iv s2 ⟨y, H2, I2, r2, q2⟩ => ?_))
  refine wpAny_bind (wpAny_standAt (wpAny_bind (wpAny_holding (thn (hs pins s2 σ H2 x y v ov iv u _ I2 r1 r2 r q2) fun _ s3 ⟨H3, I3, q3⟩ => ?_))))
  exact wpAny_release ⟨σ, H3, I3, q3⟩
/-- target = value -/
def tAsg (te : TE) (g : TG) : TS := fun D σ H => te σ H fun x H1 => g x σ H1 D.nx
theorem ps_asg {tg e : Expr} {te : TE} {g : TG} (he : PE X e te) (hg : PG X tg g) (hs : swapsWithSole [tg] e pos.line X.env = pure false := by rfl) (hw : swappedStores [tg] e X.env = pure none := by rfl)
    (h1 : (assignEach [tg] X.env).map (·.2) = [assign tg X.env] := by rfl) : PS X (.Assign [tg] e pos) (tAsg te g) := by
  intro pins s σ H D I h
  refine wpAny_Assign_stores (thn (he pins s σ H _ I h) fun v s1 ⟨x, H1, I1, r1, q1⟩ => ?_) hs hw
  rw [h1]
  exact thn (hg pins s1 σ H1 x v _ I1 r1 q1) fun _ s2 q => q
/-- name = value -/
theorem ps_set {i : Nat} {x : Str} {e : Expr} {te : TE} {pos' : Pos} (hN : X.N.Nodup) (hi : X.N[i]? = some x) (hx : Loc X.env.scope x) (he : PE X e te) (hs : swapsWith e (some (.Name x pos')) pos.line X.env = pure false := by rfl) (hf : X.fn x = true ∨ X.env.scope.names.lookup x = some .local := by first | exact .inl rfl | exact .inr rfl | assumption) :
    PS X (.Assign [.Name x pos'] e pos) (tAsg te (gName i)) := by
  intro pins s σ H D I h
  refine wpAny_Assign_Name (thn (he pins s σ H _ I h) fun v s1 ⟨y, H1, I1, r1, q1⟩ => ?_) hs
  exact store_ok I1 hN hi hx r1 (fun s2 I2 => ⟨_, H1, I2, q1⟩) hf
end

section
variable {X : Cx} {pos : Pos}
/-- the invariant W with its measure -/
def tWhile (c : TT) (tb : TS) : TS := fun D σ H => ∃ W : Nat → St → Hp → Prop, (∃ m, W m σ H) ∧ ∀ m σ H, W m σ H →
  c σ H fun b H1 => if b = true then ∃ N : St → Hp → Prop, (∀ σ' H', N σ' H' → ∃ m', m' < m ∧ W m' σ' H') ∧ tb { D with nx := N, ct := N, bk := D.nx } σ H1 else D.nx σ H1
theorem ps_while {c : Expr} {body : List Stmt} {tc : TT} {tb : TS} (hp : PassesOwn (model X.prog X.w) X.A X.env X.xe) (hc : PT X c tc) (hb : PSs X body tb) : PS X (.While c body [] pos) (tWhile tc tb) := by
  intro pins s σ H D I h
  obtain ⟨W, ⟨m0, w0⟩, turn⟩ := h
  refine wpAny_While (codeAny_whileLoop (fun n s' => ∃ σ' H', Inv X pins σ' H' s' ∧ W n σ' H') ?_ m0 ⟨σ, H, I, w0⟩)
  rintro n s1 ⟨σ1, H1, I1, w1⟩
  refine wpAny_passesOwn hp (thn (hc pins s1 σ1 H1 _ I1 (turn n σ1 H1 w1)) fun b s2 ⟨H2, I2, q2⟩ => ?_)
  cases b with
  | true =>
    obtain ⟨N, hN, q2⟩ := q2
    rw [if_pos rfl]
    refine wpAny_passesOwn hp (thn (hb pins s2 σ1 H2 _ I2 q2) fun f s3 q3 => ?_)
    cases f with
    | next =>
      obtain ⟨σ3, H3, I3, n3⟩ := q3
      obtain ⟨m', hm, w3⟩ := hN σ3 H3 n3
      exact ⟨m', hm, σ3, H3, I3, w3⟩
    | cont =>
      obtain ⟨σ3, H3, I3, n3⟩ := q3
      obtain ⟨m', hm, w3⟩ := hN σ3 H3 n3
      exact ⟨m', hm, σ3, H3, I3, w3⟩
    | brk => exact q3
    | ret v => exact q3
  | false =>
    rw [if_neg Bool.false_ne_true]
    exact wpAny_execs_nil ⟨σ1, H2, I2, q2⟩
end

/-- at turn i: it yields x (the heap may grow), or it stops -/
structure It where
  go : Nat → Hp → Prop
  yld : Nat → Hp → V → Hp → Prop
  stop : Nat → Hp → Prop
/-- the iterator's own objects may turn: they are not the frame's, not pinned, younger than the entry (or a comprehension's own) -/
def FpOk (X : Cx) (pins : List (Addr × Obj)) (H : Hp) (b : Addr) : Prop :=
  H b = none ∧ b ≠ X.env.locals ∧ b ∉ X.fs ∧ (b ∈ X.ex ∨ X.s₀.heap.objs.size ≤ b) ∧ (∀ x c, X.env.cells.lookup x = some c → c ≠ b) ∧ ∀ p ∈ X.pn ++ pins, p.1 ≠ b
theorem Inv.fpOk {X : Cx} {pins : List (Addr × Obj)} {σ : St} {H H' : Hp} {s : Shared} {b : Addr} (I : Inv X pins σ H s) (hb : s.heap.objs.size ≤ b) (hn : H' b = none) : FpOk X pins H' b := by
  refine ⟨hn, Nat.ne_of_gt (Nat.lt_of_lt_of_le I.lt hb), I.nofs hb, .inr (Nat.le_trans I.sz hb), fun x c e z => ?_, fun p hp z => ?_⟩
  · obtain ⟨v, q⟩ := I.cell x c e
    exact absurd (Nat.lt_of_lt_of_le q.lt (by rw [z]; exact hb)) (Nat.lt_irrefl _)
  · exact absurd (Nat.lt_of_lt_of_le (Heap.lt_size (I.pin p hp).1) (by rw [z]; exact hb)) (Nat.lt_irrefl _)
structure Turn (P : Program) (w : World) (K : PySem.W.Frag) (tg : Expr) (J : It) (fp : List Addr) (it : Addr) (tn : Nat → Heap → Prop) : Prop where
  mem : it ∈ fp
  obj : ∀ i h, tn i h → ∀ b ∈ fp, ∃ o, h.get? b = some o ∧ ∀ v, o.data ≠ .cell v
  keep : ∀ i h h', tn i h → (∀ b ∈ fp, ∀ o, h.get? b = some o → h'.get? b = some o) → tn i h'
  item : ∀ (X : Cx), X.prog = P → X.w = w → X.K = K → X.calm = true → ∀ (i : Nat) (pins : List (Addr × Obj)) (s : Shared) (σ : St) (H : Hp) (E : Value → Shared → Prop), Inv X pins σ H s → (∀ b ∈ fp, FpOk X pins H b) → tn i s.heap → J.go i H →
    wpAny (model P w) X.A (pyNext (.ref it)) (fun r s1 => ∃ u, r = some u ∧
      wpAny (model P w) X.A (letOwnedTupleGo tg (.ref it) u) (fun _ s2 => ∃ x H', Inv X pins σ H' s2 ∧ RelV x u ∧ J.yld i H x H' ∧ tn (i + 1) s2.heap ∧ ∀ b ∈ fp, H' b = none) E s1) E s
  done : ∀ (X : Cx), X.prog = P → X.w = w → X.K = K → X.calm = true → ∀ (i : Nat) (pins : List (Addr × Obj)) (s : Shared) (σ : St) (H : Hp) (E : Value → Shared → Prop), Inv X pins σ H s → (∀ b ∈ fp, FpOk X pins H b) → tn i s.heap → J.stop i H →
    wpAny (model P w) X.A (pyNext (.ref it)) (fun r s1 => r = none ∧ Inv X pins σ H s1) E s
  self : ∀ (A : Around) (i : Nat) (s : Shared) (Q : Value → Shared → Prop) (E : Value → Shared → Prop), tn i s.heap → Q (.ref it) s → wpAny (model P w) A (pyIter (.ref it)) Q E s
abbrev TI := St → Hp → (It → Hp → Prop) → Prop
/-- an iterator has come -/
def PIE (X : Cx) (pins : List (Addr × Obj)) (σ : St) (tg : Expr) (R : It → Hp → Prop) (itv : Value) (s2 : Shared) : Prop :=
  ∃ (it : Addr) (fp : List Addr) (tn : Nat → Heap → Prop) (J : It) (H' : Hp), itv = .ref it ∧ Inv X pins σ H' s2 ∧ Turn X.prog X.w X.K tg J fp it tn ∧ tn 0 s2.heap ∧ (∀ b ∈ fp, FpOk X pins H' b) ∧ R J H'
def PI (X : Cx) (tg iter : Expr) (wi : TI) : Prop :=
  ∀ (pins : List (Addr × Obj)) (s : Shared) (σ : St) (H : Hp) (R : It → Hp → Prop), Inv X pins σ H s → wi σ H R →
    wpAny (model X.prog X.w) X.A (eval iter X.env) (fun v s1 => wpAny (model X.prog X.w) X.A (pyIter v) (PIE X pins σ tg R) X.xe s1) X.xe s

/-- the step ahead of the store is nothing for an iterator that keeps no tuple -/
theorem go_of {M : Model} {A : Around} {E : Value → Shared → Prop} {s : Shared} {tg : Expr} {it : Addr} {u : Value} {o : Obj} {n : String} {vs : Array Value} {Q : Unit → Shared → Prop} (ho : s.heap.get? it = some o) (hc : o.cls = .type n) (hd : o.data = .fields vs)
    (hn : ["enumerate", "zip", "dict_itemiterator", "dict_reverseitemiterator", "odict_iterator", "itertools.zip_longest", "itertools.pairwise"].contains n = false) (hQ : Q () s) : wpAny M A (letOwnedTupleGo tg (.ref it) u) Q E s := by
  unfold letOwnedTupleGo
  cases tg <;> first
    | exact wpAny_pure hQ
    | (cases u <;> first
        | exact wpAny_pure hQ
        | (refine wpAny_bind (wpAny_load ho ?_)
           rw [hc, hd]
           show wpAny M A (if (["enumerate", "zip", "dict_itemiterator", "dict_reverseitemiterator", "odict_iterator", "itertools.zip_longest", "itertools.pairwise"].contains n && vs[0]? == some (rawInt _)) = true then _ else _) Q E s
           rw [if_neg (by intro h; rw [hn, Bool.false_and] at h; cases h)]
           exact wpAny_pure hQ))

/-- the list at a, as it stands at each turn (a loop may append to it) -/
def Itl (K : PySem.W.Frag) (a : Addr) : It :=
  ⟨fun i H => ∃ xs x, SqL K H a xs ∧ xs[i]? = some x, fun i H x H' => H' = H ∧ ∀ xs, SqL K H a xs → xs[i]? = some x, fun i H => ∃ xs, SqL K H a xs ∧ xs.length ≤ i⟩
def Itt (K : PySem.W.Frag) (a : Addr) : It :=
  ⟨fun i H => ∃ xs x, SqT K H a xs ∧ xs[i]? = some x, fun i H x H' => H' = H ∧ ∀ xs, SqT K H a xs → xs[i]? = some x, fun i H => ∃ xs, SqT K H a xs ∧ xs.length ≤ i⟩
/-- lo, lo + 1, .. (n of them) -/
def Itr (lo : Int) (n : Nat) : It := ⟨fun i _ => i < n, fun i H x H' => H' = H ∧ x = .int (lo + i), fun i _ => n ≤ i⟩
theorem turn_list {P : Program} {w : World} {K : PySem.W.Frag} {tg : Expr} (a it : Addr) : Turn P w K tg (Itl K a) [it] it (fun i h => h.IsListIter it a i) where
  mem := by simp
  obj := fun i h st b hb => by
    have e : b = it := by simpa using hb
    subst e
    obtain ⟨o, e, c, d⟩ := st
    exact ⟨o, e, fun v z => by rw [d] at z; cases z⟩
  keep := fun i h h' st k => st.at fun o e => k it (by simp) o e
  item := by
    intro X hP hw hK hc i pins s σ H E I hf st hg
    subst hP hw hK
    obtain ⟨xs, x, hq, hx⟩ := hg
    obtain ⟨its, rv, p, hz⟩ := I.list hq
    obtain ⟨u, hu, ru⟩ := rv.get hx
    obtain ⟨f0, f1, f2, f3, f4, f5⟩ := hf it (by simp)
    refine wpAny_pyNext_list_item st p.isList (x := u) (by simpa using hu) fun h' st' sb => ?_
    have I1 : Inv X pins σ H { s with heap := h' } := I.turned (t' := s.toks) (fun b o hb e => (sb.2 b hb).trans e) f0 f1 f3 f4 f5
    obtain ⟨o, e, c, d⟩ := id st'
    exact ⟨u, rfl, go_of (s := { s with heap := h' }) e c d (by decide) ⟨x, H, I1, ru, ⟨rfl, fun ys hy => by rw [I.list_inj hy hq]; exact hx⟩, st', fun b hb => (hf b hb).1⟩⟩
  done := by
    intro X hP hw hK hc i pins s σ H E I hf st hg
    subst hP hw hK
    obtain ⟨xs, hq, hx⟩ := hg
    obtain ⟨its, rv, p, hz⟩ := I.list hq
    obtain ⟨f0, f1, f2, f3, f4, f5⟩ := hf it (by simp)
    have hl := rv.length
    exact wpAny_pyNext_list_end (I.ok.hd hc) st p.isList (by simp; omega) fun h' eb => ⟨rfl, I.turned (t' := s.toks) (fun b o hb e => eb b o hb e) f0 f1 f3 f4 f5⟩
  self := fun _ _ _ _ _ st h => wpAny_pyIter_listiter st h
theorem turn_range {P : Program} {w : World} {K : PySem.W.Frag} {tg : Expr} (it : Addr) (lo : Int) (n : Nat) : Turn P w K tg (Itr lo n) [it] it (fun i h => IsRangeIter h it (lo + (i : Nat) * 1) ((n : Int) - (i : Nat)) 1) where
  mem := by simp
  obj := fun i h st b hb => by
    have e : b = it := by simpa using hb
    subst e
    exact ⟨_, st, fun v z => by
      have z' : Data.fields _ = Data.cell v := z
      cases z'⟩
  keep := fun i h h' st k => k it (by simp) _ st
  item := by
    intro X hP hw hK hc i pins s σ H E I hf st hg
    subst hP hw hK
    obtain ⟨f0, f1, f2, f3, f4, f5⟩ := hf it (by simp)
    have W := Walks.range (prog := X.prog) (w := X.w) (I.ok.hd hc) it lo 1 n
    refine W.item i s _ _ hg st fun v h' tk hv st' kk => ?_
    obtain ⟨t, rfl⟩ := hv
    have I1 : Inv X pins σ H { s with heap := h', toks := tk } := I.turned (fun b o hb e => kk b o (by simpa using hb) e) f0 f1 f3 f4 f5
    refine ⟨_, rfl, go_of (s := { s with heap := h', toks := tk }) (n := "range_iterator") st' rfl rfl (by decide) ⟨.int (lo + i), H, I1, ⟨t, ?_⟩, ⟨rfl, rfl⟩, st', fun b hb => (hf b hb).1⟩⟩
    rw [Int.mul_one]
  done := by
    intro X hP hw hK hc i pins s σ H E I hf st hg
    subst hP hw hK
    obtain ⟨f0, f1, f2, f3, f4, f5⟩ := hf it (by simp)
    exact wpAny_pyNext_range_end (I.ok.hd hc) st (by have : n ≤ i := hg; omega) fun h' eb => ⟨rfl, I.turned (t' := s.toks) (fun b o hb e => eb b o hb e) f0 f1 f3 f4 f5⟩
  self := fun _ _ _ _ _ st h => wpAny_pyIter_rangeiter st h
end L2

namespace L2
open PySem PySem.Spec PyProof.Rows
section
variable {X : Cx} {tg : Expr}
def iList (K : PySem.W.Frag) (tl : TE) : TI := fun σ H R => tl σ H fun x H1 => ∃ a, x = .ref a ∧ (∃ xs, SqL K H1 a xs) ∧ R (Itl K a) H1
def iTup (K : PySem.W.Frag) (tl : TE) : TI := fun σ H R => tl σ H fun x H1 => ∃ a, x = .ref a ∧ (∃ xs, SqT K H1 a xs) ∧ R (Itt K a) H1
theorem pi_list {l : Expr} {tl : TE} (hl : PE X l tl) : PI X tg l (iList X.K tl) := by
  intro pins s σ H R I h
  refine thn (hl pins s σ H _ I h) fun v s1 ⟨x, H1, I1, r1, q1⟩ => ?_
  obtain ⟨a, e, ⟨xs, hq⟩, q⟩ := q1
  subst e
  cases r1
  obtain ⟨its, rv, p, hz⟩ := I1.list hq
  refine wpAny_pyIter_list p.isList ?_
  refine ⟨s1.heap.objs.size, [s1.heap.objs.size], _, _, H1, rfl, I1.kept (t' := s1.toks) fun b o e => Heap.get?_push_of_some _ e, turn_list a _, ⟨_, Heap.get?_push_size _ rfl, rfl, rfl⟩, fun b hb => ?_, q⟩
  have e : b = s1.heap.objs.size := by simpa using hb
  subst e
  exact I1.fpOk (Nat.le_refl _) (I1.hok.fresh (Nat.le_refl _))
/-- a range object just made, walked -/
theorem range_it {pins : List (Addr × Obj)} {σ : St} {H : Hp} {s : Shared} {R : It → Hp → Prop} {E : Value → Shared → Prop} {lo hi : Int} {t u v : Tok} {tk : Nat} (I : Inv X pins σ H s) (h1 : -(2 ^ 62) ≤ lo) (h2 : lo < 2 ^ 62) (h3 : -(2 ^ 62) ≤ hi) (h4 : hi < 2 ^ 62)
    (q : R (Itr lo (hi - lo).toNat) H) : wpAny (model X.prog X.w) X.A (pyIter (.ref s.heap.objs.size)) (PIE X pins σ tg R) E { s with heap := s.heap.push { cls := .type "range", data := .fields #[.int lo t, .int hi u, .int 1 v] }, toks := tk } := by
  refine wpAny_pyIter_range (IsRange.new ..) (small_one h1 h2 h3 h4) ?_
  have I1 : Inv X pins σ H { s with heap := s.heap.push { cls := .type "range", data := .fields #[.int lo t, .int hi u, .int 1 v] }, toks := tk } := I.kept fun b o e => Heap.get?_push_of_some _ e
  refine ⟨(s.heap.push { cls := .type "range", data := .fields #[.int lo t, .int hi u, .int 1 v] }).objs.size, [(s.heap.push { cls := .type "range", data := .fields #[.int lo t, .int hi u, .int 1 v] }).objs.size], _, _, H, rfl,
    I1.kept (t' := tk) fun b o e => Heap.get?_push_of_some _ e, turn_range _ lo (hi - lo).toNat, ?_, fun b hb => ?_, q⟩
  · have e1 : lo + ((0 : Nat) : Int) * 1 = lo := by simp
    have e2 : (((hi - lo).toNat : Nat) : Int) - ((0 : Nat) : Int) = Builtin.Range.rangeSize lo hi 1 := by rw [rangeSize_one]; split <;> omega
    show IsRangeIter _ _ (lo + ((0 : Nat) : Int) * 1) ((((hi - lo).toNat : Nat) : Int) - ((0 : Nat) : Int)) 1
    rw [e1, e2]
    exact Heap.get?_push_size _ rfl
  · have e : b = (s.heap.push { cls := .type "range", data := .fields #[.int lo t, .int hi u, .int 1 v] }).objs.size := by simpa using hb
    subst e
    exact I1.fpOk (Nat.le_refl _) (I1.hok.fresh (Nat.le_refl _))
def iRng1 (ta : TA) : TI := fun σ H R => ta σ H fun vs H1 => ∃ j : Int, vs = [.int j] ∧ -(2 ^ 62) ≤ j ∧ j < 2 ^ 62 ∧ R (Itr 0 j.toNat) H1
def iRng2 (ta : TA) : TI := fun σ H R => ta σ H fun vs H1 => ∃ i j : Int, vs = [.int i, .int j] ∧ (-(2 ^ 62) ≤ i ∧ i < 2 ^ 62 ∧ -(2 ^ 62) ≤ j ∧ j < 2 ^ 62) ∧ R (Itr i (j - i).toNat) H1
theorem pi_range1 {a : Expr} {ta : TA} {p pos : Pos} (hg : Gl X "range") (hm : X.mg "range" = none) (ha : PA X [a] ta) (hs : starEach [a] X.env = [(false, eval a X.env)] := by rfl) : PI X tg (.Call (.Name "range" p) [a] [] pos) (iRng1 ta) := by
  intro pins s σ H R I h
  refine Call_ (ld_blt I hg hm boot_range (PyProof.Rows.callWith_type1 (thn (ha pos pins s σ H _ I h) fun us s1 ⟨vs, H1, I1, r1, q1⟩ => ?_) hs rfl))
  obtain ⟨j, e, q1, q2, q⟩ := q1
  subst e
  cases r1 with
  | cons r rr =>
    cases rr
    obtain ⟨t, rfl⟩ := r
    exact call_range_1 (range_it I1 (by omega) (by omega) q1 q2 (by simpa using q))
/-- W: the invariant by the turn and a measure; N: what the body is to reach -/
def tFor (wi : TI) (g : TG) (tb : TS) : TS := fun D σ H => wi σ H fun J H1 => ∃ W : Nat → Nat → St → Hp → Prop, (∃ m, W 0 m σ H1) ∧ ∀ i m σ H, W i m σ H →
  (J.stop i H ∧ D.nx σ H) ∨ (J.go i H ∧ ∃ N : St → Hp → Prop, (∀ σ' H', N σ' H' → ∃ m', m' < m ∧ W (i + 1) m' σ' H') ∧ ∀ x H', J.yld i H x H' → g x σ H' fun σ2 H2 => tb { D with nx := N, ct := N, bk := D.nx } σ2 H2)
/-- the records at fp as they stand -/
def pinsAt (fp : List Addr) (h : Heap) : List (Addr × Obj) := fp.filterMap fun b => (h.get? b).map fun o => (b, o)
theorem mem_pinsAt {fp : List Addr} {h : Heap} {b : Addr} {o : Obj} (hb : b ∈ fp) (e : h.get? b = some o) : (b, o) ∈ pinsAt fp h := List.mem_filterMap.mpr ⟨b, hb, by rw [e]; rfl⟩
theorem of_pinsAt {fp : List Addr} {h : Heap} {p : Addr × Obj} (hp : p ∈ pinsAt fp h) : p.1 ∈ fp ∧ h.get? p.1 = some p.2 := by
  obtain ⟨b, hb, e⟩ := List.mem_filterMap.mp hp
  cases q : h.get? b with
  | none => rw [q] at e; cases e
  | some o =>
    rw [q] at e
    have e' : (b, o) = p := Option.some.inj e
    subst e'
    exact ⟨hb, q⟩
theorem Inv.pinned {pins : List (Addr × Obj)} {σ : St} {H : Hp} {s : Shared} {fp : List Addr} (I : Inv X pins σ H s) (hf : ∀ b ∈ fp, FpOk X pins H b) (ho : ∀ b ∈ fp, ∃ o, s.heap.get? b = some o ∧ ∀ v, o.data ≠ .cell v) : Inv X (pins ++ pinsAt fp s.heap) σ H s :=
  I.pins_of fun p hp => (List.mem_append.mp hp).elim (fun z => I.pin p (List.mem_append_right _ z)) fun z => by
    obtain ⟨hb, e⟩ := of_pinsAt z
    obtain ⟨f0, f1, f2, _⟩ := hf p.1 hb
    obtain ⟨o, e', d⟩ := ho p.1 hb
    rw [e] at e'; cases e'
    exact ⟨e, f0, f1, f2, d⟩
theorem Inv.unpinned {pins pl : List (Addr × Obj)} {σ : St} {H : Hp} {s : Shared} (I : Inv X (pins ++ pl) σ H s) : Inv X pins σ H s := I.pins_of fun p hp => I.pin p (List.mem_append_right _ (List.mem_append_left _ hp))
theorem ps_for {iter : Expr} {body : List Stmt} {wi : TI} {g : TG} {tb : TS} {pos : Pos} (hp : PassesOwn (model X.prog X.w) X.A X.env X.xe) (hc : X.calm = true) (hi : PI X tg iter wi) (hg : PG X tg g) (hb : PSs X body tb)
    (hs : ∀ x, foldedSetIterable iter X.env x = pure x := by intro _; rfl) : PS X (.For tg iter body [] pos) (tFor wi g tb) := by
  intro pins s σ H D I h
  refine wpAny_For (thn (hi pins s σ H _ I h) fun v s1 h1 => thn h1 fun itv s2 h2 => ?_) hs
  obtain ⟨it, fp, tn, J, H2, e, I2, T, st2, f2, W, ⟨m0, w0⟩, turn⟩ := h2
  subst e
  -- what stays true of the iterator's objects through the loop
  have stat : ∀ {H' : Hp}, (∀ b ∈ fp, H' b = none) → ∀ b ∈ fp, FpOk X pins H' b := fun hn b hb => ⟨hn b hb, (f2 b hb).2⟩
  refine codeAny_forLoop_any (fun n s' => ∃ i σ' H', Inv X pins σ' H' s' ∧ tn i s'.heap ∧ (∀ b ∈ fp, H' b = none) ∧ W i n σ' H') ?_ m0 ⟨0, σ, H2, I2, st2, fun b hb => (f2 b hb).1, w0⟩
  rintro n s3 ⟨i, σ3, H3, I3, st3, fr3, w3⟩
  rcases turn i n σ3 H3 w3 with ⟨stop, qn⟩ | ⟨go, N, hN, step⟩
  · refine wpAny_passesOwn hp (thn (T.done X rfl rfl rfl hc i pins s3 σ3 H3 X.xe I3 (stat fr3) st3 stop) fun r s4 ⟨hr, I4⟩ => ?_)
    subst hr
    exact wpAny_execs_nil ⟨σ3, H3, I4, qn⟩
  · refine wpAny_passesOwn hp (thn (T.item X rfl rfl rfl hc i pins s3 σ3 H3 X.xe I3 (stat fr3) st3 go) fun r s4 ⟨u, hr, h4⟩ => ?_)
    subst hr
    refine wpAny_passesOwn hp (thn h4 fun _ s5 ⟨x, H5, I5, r5, y5, st5, fr5⟩ => ?_)
    have I5' := I5.pinned (stat fr5) (T.obj _ _ st5)
    refine wpAny_passesOwn hp (thn (hg _ s5 σ3 H5 x u _ I5' r5 (step x H5 y5)) fun _ s6 ⟨σ6, H6, I6, q6⟩ => ?_)
    refine wpAny_passesOwn hp (thn (hb _ s6 σ6 H6 _ I6 q6) fun f s7 q7 => ?_)
    have again : ∀ {σ7 : St} {H7 : Hp}, Inv X (pins ++ pinsAt fp s5.heap) σ7 H7 s7 → N σ7 H7 → ∃ m, m < n ∧ ∃ i σ' H', Inv X pins σ' H' s7 ∧ tn i s7.heap ∧ (∀ b ∈ fp, H' b = none) ∧ W i m σ' H' := fun {σ7 H7} I7 n7 => by
      obtain ⟨m', hm, w7⟩ := hN σ7 H7 n7
      refine ⟨m', hm, i + 1, σ7, H7, I7.unpinned, T.keep _ _ _ st5 fun b hb o e => (I7.pin (b, o) (List.mem_append_right _ (List.mem_append_right _ (mem_pinsAt hb e)))).1, fun b hb => ?_, w7⟩
      obtain ⟨o, e, d⟩ := T.obj _ _ st5 b hb
      exact (I7.pin (b, o) (List.mem_append_right _ (List.mem_append_right _ (mem_pinsAt hb e)))).2.1
    cases f with
    | next => obtain ⟨σ7, H7, I7, n7⟩ := q7; exact again I7 n7
    | cont => obtain ⟨σ7, H7, I7, n7⟩ := q7; exact again I7 n7
    | brk => obtain ⟨σ7, H7, I7, q7⟩ := q7; exact ⟨σ7, H7, I7.unpinned, q7⟩
    | ret v => obtain ⟨x7, σ7, H7, I7, r7, q7⟩ := q7; exact ⟨x7, σ7, H7, I7.unpinned, r7, q7⟩
end

end L2

namespace L2
open PySem PySem.Spec PyProof.Rows

abbrev R2 := V → V → Hp → VK → Prop
/-- a two-place operation on values: f is binaryOp op, inplaceOp op or compareOp op -/
def OpR (X : Cx) (f : Value → Value → Sem Value) (r : R2) : Prop :=
  ∀ (pins : List (Addr × Obj)) (s : Shared) (σ : St) (H : Hp) (x y : V) (v u : Value) (Q : VK), Inv X pins σ H s → RelV x v → RelV y u → r x y H Q →
    wpAny (model X.prog X.w) X.A (f v u) (EP X pins σ Q) X.xe s
/-- a one-place operation -/
def UnR (X : Cx) (f : Value → Sem Value) (r : V → Hp → VK → Prop) : Prop :=
  ∀ (pins : List (Addr × Obj)) (s : Shared) (σ : St) (H : Hp) (x : V) (v : Value) (Q : VK), Inv X pins σ H s → RelV x v → r x H Q →
    wpAny (model X.prog X.w) X.A (f v) (EP X pins σ Q) X.xe s
/-- a call of a value that is known (a builtin, a type) with values -/
def CallR (X : Cx) (f : Value) (r : List V → Hp → VK → Prop) : Prop :=
  ∀ (pins : List (Addr × Obj)) (s : Shared) (σ : St) (H : Hp) (xs : List V) (us : List Value) (Q : VK), Inv X pins σ H s → Vals xs us → r xs H Q →
    wpAny (model X.prog X.w) X.A (call f us) (EP X pins σ Q) X.xe s
/-- a value's truth -/
def TruR (X : Cx) (r : V → Hp → (Bool → Hp → Prop) → Prop) : Prop :=
  ∀ (pins : List (Addr × Obj)) (s : Shared) (σ : St) (H : Hp) (x : V) (v : Value) (Q : Bool → Hp → Prop), Inv X pins σ H s → RelV x v → r x H Q →
    wpAny (model X.prog X.w) X.A (truthy v) (TP X pins σ Q) X.xe s

def tOp (r : R2) (ta tb : TE) : TE := fun σ H Q => ta σ H fun x H1 => tb σ H1 fun y H2 => r x y H2 Q
def tUn (r : V → Hp → VK → Prop) (ta : TE) : TE := fun σ H Q => ta σ H fun x H1 => r x H1 Q
/-- ints in, under C, and a value out -/
def rI (C : Int → Int → Prop) (g : Int → Int → V) : R2 := fun x y H Q => ∃ i j, x = .int i ∧ y = .int j ∧ C i j ∧ Q (g i j) H
def rI0 (g : Int → Int → V) : R2 := fun x y H Q => ∃ i j, x = .int i ∧ y = .int j ∧ Q (g i j) H
def rU (g : Int → V) : V → Hp → VK → Prop := fun x H Q => ∃ i, x = .int i ∧ Q (g i) H

section
variable {X : Cx} {a b c : Expr} {ta tb tc : TE} {pos : Pos}

theorem binT (ha : PE X a ta) (hb : PE X b tb) {pins : List (Addr × Obj)} {s : Shared} {σ : St} {H : Hp} {R : V → V → Hp → Prop} (I : Inv X pins σ H s)
    (h : ta σ H fun x H1 => tb σ H1 fun y H2 => R x y H2) {Q : Value → Shared → Prop} {f : Value → Value → Sem Value}
    (hf : ∀ v u s2 x y H2, Inv X pins σ H2 s2 → RelV x v → RelV y u → R x y H2 → wpAny (model X.prog X.w) X.A (f v u) Q X.xe s2) :
    wpAny (model X.prog X.w) X.A (eval a X.env) (fun v s₁ => wpAny (model X.prog X.w) X.A (eval b X.env) (fun u s₂ => wpAny (model X.prog X.w) X.A (f v u) Q X.xe s₂) X.xe s₁) X.xe s := by
  refine thn (ha pins s σ H _ I h) fun v s1 ⟨x, H1, I1, r1, q1⟩ => ?_
  refine thn (hb pins s1 σ H1 _ I1 q1) fun u s2 ⟨y, H2, I2, r2, q2⟩ => ?_
  exact hf v u s2 x y H2 I2 r1 r2 q2

theorem pe_op {op : Operator} {r : R2} (ho : OpR X (binaryOp op) r) (ha : PE X a ta) (hb : PE X b tb) : PE X (.BinOp a op b pos) (tOp r ta tb) := by
  intro pins s σ H Q I h
  exact wpAny_BinOp (binT ha hb I h fun v u s2 x y H2 I2 rx ry q => ho pins s2 σ H2 x y v u Q I2 rx ry q)
theorem pe_un {op : UnaryOp} {r : V → Hp → VK → Prop} (ho : UnR X (unaryOp op) r) (ha : PE X a ta) : PE X (.UnaryOp op a pos) (tUn r ta) := by
  intro pins s σ H Q I h
  exact UnaryOp_ (thn (ha pins s σ H _ I h) fun v s1 ⟨x, H1, I1, r1, q1⟩ => ho pins s1 σ H1 x v Q I1 r1 q1)
theorem opI {f : Value → Value → Sem Value} {C : Int → Int → Prop} {g : Int → Int → Int}
    (rule : ∀ (i j : Int) (t u : Tok) (s : Shared) (Q : Value → Shared → Prop) (E : Value → Shared → Prop), C i j → Q (.int (g i j) s.toks) { s with toks := s.toks + 1 } → wpAny (model X.prog X.w) X.A (f (.int i t) (.int j u)) Q E s) :
    OpR X f (rI C fun i j => .int (g i j)) := by
  intro pins s σ H x y v u Q I rx ry h
  obtain ⟨i, j, rfl, rfl, hc, q⟩ := h
  obtain ⟨t, rfl⟩ := rx
  obtain ⟨t', rfl⟩ := ry
  exact rule i j t t' s _ _ hc ⟨.int (g i j), H, I.tok _, ⟨_, rfl⟩, q⟩
theorem opI0 {f : Value → Value → Sem Value} {g : Int → Int → Int}
    (rule : ∀ (i j : Int) (t u : Tok) (s : Shared) (Q : Value → Shared → Prop) (E : Value → Shared → Prop), Q (.int (g i j) s.toks) { s with toks := s.toks + 1 } → wpAny (model X.prog X.w) X.A (f (.int i t) (.int j u)) Q E s) :
    OpR X f (rI0 fun i j => .int (g i j)) := by
  intro pins s σ H x y v u Q I rx ry h
  obtain ⟨i, j, rfl, rfl, q⟩ := h
  obtain ⟨t, rfl⟩ := rx
  obtain ⟨t', rfl⟩ := ry
  exact rule i j t t' s _ _ ⟨.int (g i j), H, I.tok _, ⟨_, rfl⟩, q⟩
theorem opB0 {f : Value → Value → Sem Value} {g : Int → Int → Bool}
    (rule : ∀ (i j : Int) (t u : Tok) (s : Shared) (Q : Value → Shared → Prop) (E : Value → Shared → Prop), Q (.bool (g i j)) s → wpAny (model X.prog X.w) X.A (f (.int i t) (.int j u)) Q E s) :
    OpR X f (rI0 fun i j => .bl (g i j)) := by
  intro pins s σ H x y v u Q I rx ry h
  obtain ⟨i, j, rfl, rfl, q⟩ := h
  obtain ⟨t, rfl⟩ := rx
  obtain ⟨t', rfl⟩ := ry
  exact rule i j t t' s _ _ ⟨.bl (g i j), H, I, rfl, q⟩

def CDiv (i j : Int) : Prop := 0 < j ∧ j < 1073741824
def CPow (i j : Int) : Prop := 0 ≤ j ∧ j ≤ 1000000 ∧ i.natAbs < 2 ^ 64
def CMul (i j : Int) : Prop := (-(2 ^ 64) < i ∧ i < 2 ^ 64) ∨ (-(2 ^ 64) < j ∧ j < 2 ^ 64)
theorem CMul.ok {i j : Int} (h : CMul i j) : IntMulOk i j := by
  rcases h with ⟨h1, h2⟩ | ⟨h1, h2⟩
  · exact .of_left (intBits_le_64 h1 h2)
  · exact .of_right (intBits_le_64 h1 h2)
theorem two_pow_nn (k : Nat) : (0 : Int) ≤ 2 ^ k := by
  rw [two_pow_cast]
  exact Int.natCast_nonneg _

theorem op_add : OpR X (binaryOp .Add) (rI0 fun i j => .int (i + j)) := opI0 fun _ _ _ _ _ _ _ q => add_int q
theorem op_sub : OpR X (binaryOp .Sub) (rI0 fun i j => .int (i - j)) := opI0 fun _ _ _ _ _ _ _ q => sub_int q
theorem op_mul : OpR X (binaryOp .Mult) (rI CMul fun i j => .int (i * j)) := opI fun _ _ _ _ _ _ _ hc q => mul_int q hc.ok
/-- // by a positive divisor -/
theorem op_fdiv : OpR X (binaryOp .FloorDiv) (rI CDiv fun i j => .int (i / j)) := opI fun i j _ _ _ _ _ hc q => by
  have h1 : (0 : Int) < j := hc.1
  have h2 : j < 1073741824 := hc.2
  exact floordiv_int (by omega) (by rw [Int.fdiv_eq_ediv_of_nonneg i (by omega)]; exact q) (.inl (PyProof.noPylong_small (by omega)))
/-- % by a positive divisor of any size -/
theorem op_mod : OpR X (binaryOp .Mod) (rI (fun _ j => 0 < j) fun i j => .int (i % j)) := opI fun i j _ _ _ _ _ hc q => by
  have h1 : (0 : Int) < j := hc
  exact mod_int' (by omega) (by rw [Int.fmod_eq_emod_of_nonneg i (by omega)]; exact q)
theorem op_pow : OpR X (binaryOp .Pow) (rI CPow fun i j => .int (i ^ j.toNat)) := opI fun _ _ _ _ _ _ _ hc q => pow_int_small hc.1 hc.2.1 hc.2.2 q
theorem op_shr : OpR X (binaryOp .RShift) (rI (fun _ j => 0 ≤ j) fun i j => .int (i / 2 ^ j.toNat)) := opI fun i j _ _ _ _ _ hc q =>
  rshift_int hc (by rw [Int.fdiv_eq_ediv_of_nonneg i (two_pow_nn _)]; exact q)
theorem op_and : OpR X (binaryOp .BitAnd) (rI0 fun i j => .int (Builtin.bitAnd i j)) := opI0 fun _ _ _ _ _ _ _ q => and_int q
theorem unI {f : Value → Sem Value} {g : Int → Int}
    (rule : ∀ (i : Int) (t : Tok) (s : Shared) (Q : Value → Shared → Prop) (E : Value → Shared → Prop), Q (.int (g i) s.toks) { s with toks := s.toks + 1 } → wpAny (model X.prog X.w) X.A (f (.int i t)) Q E s) :
    UnR X f (rU fun i => .int (g i)) := by
  intro pins s σ H x v Q I rx h
  obtain ⟨i, rfl, q⟩ := h
  obtain ⟨t, rfl⟩ := rx
  exact rule i t s _ _ ⟨.int (g i), H, I.tok _, ⟨_, rfl⟩, q⟩
theorem un_neg : UnR X (unaryOp .USub) (rU fun i => .int (-i)) := unI fun _ _ _ _ _ q => neg_int q
end

/-- the scalars that == tells apart as data does -/
def scal : V → V → Bool
  | .non, .non => true | .non, .int _ => true | .int _, .non => true | .non, .bl _ => true | .bl _, .non => true | .non, .str _ => true | .str _, .non => true
  | .int _, .int _ => true | .bl _, .bl _ => true | .str _, .str _ => true | .byt _, .byt _ => true
  | .int _, .str _ => true | .str _, .int _ => true | .bl _, .str _ => true | .str _, .bl _ => true
  | _, _ => false
def rEq : R2 := fun x y H Q => scal x y = true ∧ Q (.bl (decide (x = y))) H
def rNe : R2 := fun x y H Q => scal x y = true ∧ Q (.bl (!decide (x = y))) H

theorem dec_int {i j : Int} : decide (V.int i = V.int j) = (i == j) := by
  rw [Bool.eq_iff_iff]
  simp
theorem dec_bl {i j : Bool} : decide (V.bl i = V.bl j) = (i == j) := by
  rw [Bool.eq_iff_iff]
  simp
theorem dec_str {i j : Str} : decide (V.str i = V.str j) = (i == j) := by
  rw [Bool.eq_iff_iff]
  simp
theorem dec_byt {i j : Array UInt8} : decide (V.byt i = V.byt j) = (i.toList == j.toList) := by
  rw [Bool.eq_iff_iff]
  cases i
  cases j
  simp

section
variable {X : Cx} {a b c : Expr} {ta tb tc : TE} {pos : Pos}
theorem fin_bl {pins : List (Addr × Obj)} {σ : St} {H : Hp} {s : Shared} {Q : VK} {k k' : Bool} (I : Inv X pins σ H s) (q : Q (.bl k) H) (e : k = k') : EP X pins σ Q (.bool k') s := by
  subst e
  exact ⟨.bl k, H, I, rfl, q⟩
theorem op_eq : OpR X (compareOp .Eq) rEq := by
  intro pins s σ H x y v u Q I rx ry h
  obtain ⟨hs, q⟩ := h
  cases x with
  | non =>
    cases rx
    cases y with
    | non => cases ry; exact PySem.EqNone.eq_none_none (fin_bl I q (by simp))
    | bl j => cases ry; exact PySem.EqNone.eq_none_bool (fin_bl I q (by simp))
    | int j => obtain ⟨t', rfl⟩ := ry; exact PySem.EqNone.eq_none_int (fin_bl I q (by simp))
    | str j => obtain ⟨t', rfl⟩ := ry; exact PySem.EqNone.eq_none_str (fin_bl I q (by simp))
    | _ => exact absurd (show false = true from hs) Bool.false_ne_true
  | bl i =>
    cases rx
    cases y with
    | non => cases ry; exact PySem.EqNone.eq_bool_none (fin_bl I q (by simp))
    | bl j => cases ry; exact eq_bool (fin_bl I q dec_bl)
    | str j => obtain ⟨t', rfl⟩ := ry; exact PySem.EqMixed.eq_bool_str (fin_bl I q (by simp))
    | _ => exact absurd (show false = true from hs) Bool.false_ne_true
  | int i =>
    obtain ⟨t, rfl⟩ := rx
    cases y with
    | non => cases ry; exact PySem.EqNone.eq_int_none (fin_bl I q (by simp))
    | int j => obtain ⟨t', rfl⟩ := ry; exact eq_int (fin_bl I q dec_int)
    | str j => obtain ⟨t', rfl⟩ := ry; exact PySem.EqMixed.eq_int_str (fin_bl I q (by simp))
    | _ => exact absurd (show false = true from hs) Bool.false_ne_true
  | str i =>
    obtain ⟨t, rfl⟩ := rx
    cases y with
    | non => cases ry; exact PySem.EqNone.eq_str_none (fin_bl I q (by simp))
    | bl j => cases ry; exact PySem.EqMixed.eq_str_bool (fin_bl I q (by simp))
    | int j => obtain ⟨t', rfl⟩ := ry; exact PySem.EqMixed.eq_str_int (fin_bl I q (by simp))
    | str j => obtain ⟨t', rfl⟩ := ry; exact eq_str (fin_bl I q dec_str)
    | _ => exact absurd (show false = true from hs) Bool.false_ne_true
  | byt i =>
    obtain ⟨t, rfl⟩ := rx
    cases y with
    | byt j => obtain ⟨t', rfl⟩ := ry; exact PySem.W.eq_bytes (fin_bl I q dec_byt)
    | _ => exact absurd (show false = true from hs) Bool.false_ne_true
  | _ => cases y <;> exact absurd (show false = true from hs) Bool.false_ne_true
theorem op_ne : OpR X (compareOp .NotEq) rNe := by
  intro pins s σ H x y v u Q I rx ry h
  obtain ⟨hs, q⟩ := h
  cases x with
  | non =>
    cases rx
    cases y with
    | non => cases ry; exact PySem.EqNone.ne_none_none (fin_bl I q (by simp))
    | bl j => cases ry; exact PySem.EqNone.ne_none_bool (fin_bl I q (by simp))
    | int j => obtain ⟨t', rfl⟩ := ry; exact PySem.EqNone.ne_none_int (fin_bl I q (by simp))
    | str j => obtain ⟨t', rfl⟩ := ry; exact PySem.EqNone.ne_none_str (fin_bl I q (by simp))
    | _ => exact absurd (show false = true from hs) Bool.false_ne_true
  | bl i =>
    cases rx
    cases y with
    | non => cases ry; exact PySem.EqNone.ne_bool_none (fin_bl I q (by simp))
    | bl j => cases ry; exact ne_bool (fin_bl I q (congrArg not dec_bl))
    | str j => obtain ⟨t', rfl⟩ := ry; exact PySem.EqMixed.ne_bool_str (fin_bl I q (by simp))
    | _ => exact absurd (show false = true from hs) Bool.false_ne_true
  | int i =>
    obtain ⟨t, rfl⟩ := rx
    cases y with
    | non => cases ry; exact PySem.EqNone.ne_int_none (fin_bl I q (by simp))
    | int j => obtain ⟨t', rfl⟩ := ry; exact ne_int (fin_bl I q (congrArg not dec_int))
    | str j => obtain ⟨t', rfl⟩ := ry; exact PySem.EqMixed.ne_int_str (fin_bl I q (by simp))
    | _ => exact absurd (show false = true from hs) Bool.false_ne_true
  | str i =>
    obtain ⟨t, rfl⟩ := rx
    cases y with
    | non => cases ry; exact PySem.EqNone.ne_str_none (fin_bl I q (by simp))
    | bl j => cases ry; exact PySem.EqMixed.ne_str_bool (fin_bl I q (by simp))
    | int j => obtain ⟨t', rfl⟩ := ry; exact PySem.EqMixed.ne_str_int (fin_bl I q (by simp))
    | str j => obtain ⟨t', rfl⟩ := ry; exact ne_str (fin_bl I q (congrArg not dec_str))
    | _ => exact absurd (show false = true from hs) Bool.false_ne_true
  | byt i =>
    obtain ⟨t, rfl⟩ := rx
    cases y with
    | byt j => obtain ⟨t', rfl⟩ := ry; exact PySem.W.ne_bytes (fin_bl I q (congrArg not dec_byt))
    | _ => exact absurd (show false = true from hs) Bool.false_ne_true
  | _ => cases y <;> exact absurd (show false = true from hs) Bool.false_ne_true

theorem op_lt : OpR X (compareOp .Lt) (rI0 fun i j => .bl (decide (i < j))) := opB0 fun _ _ _ _ _ _ _ q => lt_int q
theorem op_le : OpR X (compareOp .LtE) (rI0 fun i j => .bl (decide (i ≤ j))) := opB0 fun _ _ _ _ _ _ _ q => le_int q
theorem op_gt : OpR X (compareOp .Gt) (rI0 fun i j => .bl (decide (j < i))) := opB0 fun _ _ _ _ _ _ _ q => gt_int q
theorem op_ge : OpR X (compareOp .GtE) (rI0 fun i j => .bl (decide (j ≤ i))) := opB0 fun _ _ _ _ _ _ _ q => ge_int q
/-- is None, is not None: the right side a value none -/
theorem op_isN : OpR X (compareOp .Is) (fun x y H Q => y = .non ∧ Q (.bl (decide (x = .non))) H) := by
  intro pins s σ H x y v u Q I rx ry h
  obtain ⟨rfl, q⟩ := h
  cases ry
  refine is_none_gen (fin_bl I q ?_)
  cases x <;> first
    | (cases rx; rfl)
    | (obtain ⟨t, rfl⟩ := rx; rfl)
theorem op_notN : OpR X (compareOp .IsNot) (fun x y H Q => y = .non ∧ Q (.bl (!decide (x = .non))) H) := by
  intro pins s σ H x y v u Q I rx ry h
  obtain ⟨rfl, q⟩ := h
  cases ry
  refine isnot_none_gen (fin_bl I q ?_)
  cases x <;> first
    | (cases rx; rfl)
    | (obtain ⟨t, rfl⟩ := rx; rfl)

theorem nomark (b : Expr) {op : CmpOp} (h : op ≠ .In := by decide) (h2 : op ≠ .NotIn := by decide) : behindInMarks op b = false := by
  have e1 : (op == CmpOp.In) = false := by cases op <;> first | rfl | exact absurd rfl h
  have e2 : (op == CmpOp.NotIn) = false := by cases op <;> first | rfl | exact absurd rfl h2
  cases b <;> simp [behindInMarks, e1, e2]
/-- a comparison as a value; hm: nomark b, or (for in, not in) by with_unfolding_all rfl -/
theorem pe_cmpR {op : CmpOp} {r : R2} (ho : OpR X (compareOp op) r) (ha : PE X a ta) (hb : PE X b tb) (hm : behindInMarks op b = false) : PE X (.Compare a [op] [b] pos) (tOp r ta tb) := by
  intro pins s σ H Q I h
  exact wpAny_Compare1 (binT ha hb I h fun v u s2 x y H2 I2 rx ry q => ho pins s2 σ H2 x y v u Q I2 rx ry q) hm
/-- a reading of a value as a test -/
def tTest (t : TE) : TT := fun σ H Q => t σ H fun x H' => ∃ k, x = .bl k ∧ Q k H'
theorem pt_cmpR {op : CmpOp} {r : R2} (ho : OpR X (compareOp op) r) (ha : PE X a ta) (hb : PE X b tb) (hm : behindInMarks op b = false) : PT X (.Compare a [op] [b] pos) (tTest (tOp r ta tb)) := by
  intro pins s σ H Q I h
  refine wpAny_isTrue_Compare1 (thn (ha pins s σ H _ I h) fun v s1 ⟨x, H1, I1, r1, q1⟩ => thn (hb pins s1 σ H1 _ I1 q1) fun u s2 ⟨y, H2, I2, r2, q2⟩ =>
    thn (ho pins s2 σ H2 x y v u _ I2 r1 r2 q2) fun c s3 ⟨z, H3, I3, r3, k, e, q3⟩ => ?_) hm
  subst e
  cases r3
  exact wpAny_truthy_bool ⟨H3, I3, q3⟩
/-- a op1 b op2 c -/
def tChain (r r' : R2) (ta tb tc : TE) : TE := fun σ H Q => ta σ H fun x H1 => tb σ H1 fun y H2 => r x y H2 fun z H3 => ∃ k, z = .bl k ∧
  (if k = true then tc σ H3 fun w' H4 => r' y w' H4 Q else Q (.bl false) H3)
/-- a value's truth by the abstract heap -/
def TruV (K : PySem.W.Frag) (x : V) (H : Hp) (k : Bool) : Prop :=
  match x with
  | .non => k = false
  | .bl b => k = b
  | .int i => k = (i != 0)
  | .str y => y.length ≤ sizeLine ∧ k = ((y.length : Int) != 0)
  | .byt y => y.size ≤ sizeLine ∧ k = ((y.size : Int) != 0)
  | .ref p => (∃ xs, SqL K H p xs ∧ k = !xs.isEmpty) ∨ (∃ xs, SqT K H p xs ∧ k = !xs.isEmpty) ∨ ∃ kvs, H p = some (.dK kvs) ∧ k = !kvs.isEmpty
  | _ => False
theorem isEmpty_kv {κ : Type} {kvs : List (κ × V)} {vs : List (κ × Value)} (r : KV kvs vs) : (!vs.isEmpty) = !kvs.isEmpty := by
  cases r <;> rfl
theorem isEmpty_of {xs : List V} {its : List Value} (r : Vals xs its) : (!its.toArray.isEmpty) = !xs.isEmpty := by
  cases r <;> simp
theorem line63 : (sizeLine : Nat) < 2 ^ 63 := by rw [sizeLine_eq]; decide
theorem tru_ok : TruR X (fun x H Q => ∃ k, TruV X.K x H k ∧ Q k H) := by
  intro pins s σ H x v Q I rx h
  obtain ⟨k, e, q⟩ := h
  have hl := line63
  have hs : sizeLine = 16777216 := sizeLine_eq
  cases x with
  | non =>
    cases rx
    have e' : k = false := e
    subst e'
    exact truthy_none ⟨H, I, q⟩
  | bl b =>
    cases rx
    have e' : k = b := e
    subst e'
    exact wpAny_truthy_bool ⟨H, I, q⟩
  | int i =>
    obtain ⟨t, rfl⟩ := rx
    have e' : k = (i != 0) := e
    subst e'
    exact PySem.P.truthy_int ⟨H, I, q⟩
  | str y =>
    obtain ⟨t, rfl⟩ := rx
    obtain ⟨hy, e'⟩ : y.length ≤ sizeLine ∧ k = ((y.length : Int) != 0) := e
    subst e'
    exact PySem.P.truthy_str (by omega) ⟨H, I.tok _, q⟩
  | byt y =>
    obtain ⟨t, rfl⟩ := rx
    obtain ⟨hy, e'⟩ : y.size ≤ sizeLine ∧ k = ((y.size : Int) != 0) := e
    subst e'
    exact PySem.W.truthy_bytes (by omega) ⟨H, I.tok _, q⟩
  | ref p =>
    cases rx
    have e' : (∃ xs, SqL X.K H p xs ∧ k = !xs.isEmpty) ∨ (∃ xs, SqT X.K H p xs ∧ k = !xs.isEmpty) ∨ ∃ kvs, H p = some (.dK kvs) ∧ k = !kvs.isEmpty := e
    rcases e' with ⟨xs, hx, e'⟩ | ⟨xs, hx, e'⟩ | ⟨kvs, hx, e'⟩
    · subst e'
      obtain ⟨its, r, pl, hz⟩ := I.list hx
      have hlen := r.length
      exact wpAny_truthy_list pl.isList (by simp only [List.size_toArray]; omega) ⟨H, I.tok _, by rw [isEmpty_of r]; exact q⟩
    · subst e'
      obtain ⟨its, r, pl, hz⟩ := I.tuple hx
      have hlen := r.length
      exact truthy_tuple pl (by simp only [List.size_toArray]; omega) ⟨H, I.tok _, by rw [isEmpty_of r]; exact q⟩
    · subst e'
      obtain ⟨hz, hS, vs, r, m⟩ : kvs.length ≤ sizeLine ∧ (p == sysModules) = false ∧ ∃ vs, KV kvs vs ∧ s.heap.DictOf (mixKind X.prog X.w) p vs := I.hok p _ hx
      have hlen : kvs.length = vs.length := Paired.length r
      exact wpAny_truthy_dict hS m (by omega) ⟨H, I.tok _, by rw [isEmpty_kv r]; exact q⟩
  | _ => exact (show False from e).elim
/-- any expression whose test is its value's truth (a name, a call, a subscript, a field ..: he by fun _ => rfl) -/
theorem pt_truth (ha : PE X a ta) (he : ∀ whole, isTrue a X.env whole = (do let v ← whole; standAt a.pos; holding [v] (truthy v))) :
    PT X a (fun σ H Q => ta σ H fun x H' => ∃ k, TruV X.K x H' k ∧ Q k H') := by
  intro pins s σ H Q I h
  exact isTrue_plain (thn (ha pins s σ H _ I h) fun v s1 ⟨x, H1, I1, r1, q1⟩ => tru_ok pins s1 σ H1 x v Q I1 r1 q1) (he _)

theorem vals1 {x : V} {us : List Value} (r : Vals [x] us) : ∃ u, us = [u] ∧ RelV x u := by
  cases r with
  | cons r1 r2 => cases r2; exact ⟨_, rfl, r1⟩
theorem vals2 {x y : V} {us : List Value} (r : Vals [x, y] us) : ∃ u w', us = [u, w'] ∧ RelV x u ∧ RelV y w' := by
  cases r with
  | cons r1 r2 =>
    cases r2 with
    | cons r3 r4 => cases r4; exact ⟨_, _, rfl, r1, r3⟩
theorem call_max2 (hc : X.calm = true) : CallR X (.builtin "max") (fun xs H Q => ∃ i j, xs = [.int i, .int j] ∧ Q (.int (if j > i then j else i)) H) := by
  intro pins s σ H xs us Q I r h
  obtain ⟨i, j, rfl, q⟩ := h
  obtain ⟨u, w', rfl, ⟨t, rfl⟩, ⟨t', rfl⟩⟩ := vals2 r
  refine max_two_ints (I.ok.hd hc) fun h' tk k => ⟨_, H, I.kept k, ?_, q⟩
  by_cases hj : j > i
  · rw [if_pos hj, if_pos hj]; exact ⟨_, rfl⟩
  · rw [if_neg hj, if_neg hj]; exact ⟨_, rfl⟩
end
end L2

namespace L2
open PySem PySem.Spec PyProof.Rows

structure ObjM (h : Heap) (x dx C : Addr) (mA : Str → Option Value) : Prop where
  obj : h.get? x = some (PySem.W.instObj C dx)
  ns : h.Ns1 dx mA
  ne : dx ≠ x

theorem lookIn_ns {h : Heap} {dx : Addr} {mA : Str → Option Value} (n : h.Ns1 dx mA) : ∃ od, h.get? dx = some od ∧ ∀ name, PySem.W.lookIn name od = some (mA name) := by
  obtain ⟨o, es, ep, ho, hd, hk, _, hm⟩ := n
  refine ⟨o, ho, fun name => ?_⟩
  have e := hm name
  unfold nsFind findBy at e
  rw [← Array.find?_toList] at e
  unfold PySem.W.lookIn
  rw [hd]
  dsimp only
  split
  · rename_i y q
    rw [q] at e
    exact congrArg some e
  · rename_i q
    rw [q] at e
    have a : es.toList.any (·.refKey) = false := by
      rw [List.any_eq_false]
      intro y hy
      obtain ⟨z, t, hkey⟩ := hk y (Array.mem_toList_iff.mp hy)
      simp [DictEntry.refKey, hkey]
    have a' : ¬ es.toList.any (·.refKey) = true := by rw [a]; exact Bool.false_ne_true
    rw [if_neg a']
    exact congrArg some e

theorem ObjM.look {h : Heap} {x dx C : Addr} {mA : Str → Option Value} (I : ObjM h x dx C mA) : ∃ od, PySem.W.InstAt h x (PySem.W.instObj C dx) C (some od) ∧ ∀ name, PySem.W.lookIn name od = some (mA name) :=
  let ⟨od, ho, hl⟩ := lookIn_ns I.ns
  ⟨od, ⟨I.obj, rfl, rfl, ho⟩, hl⟩

section
variable {prog : Program} {w : World} {A : Around} {E : Value → Shared → Prop} {s : Shared} {K : PySem.W.Frag} {x dx C f : Addr} {mA : Str → Option Value} {name : Str} {v : Value}

theorem get_map {expr : Bool} {Q : Value → Shared → Prop} (X : K.In s.heap) (I : ObjM s.heap x dx C mA) (hg : PySem.W.plainGet K C name = true) (hh : PySem.W.hasDictIn K C = true)
    (ha : PySem.W.findIn K (.ref C) name = some none) (hv : mA name = some v) (hv' : PySem.W.handedIn v = true) (h : Q v { s with toks := s.toks + 1 }) :
    wpAny (model prog w) A (getAttr (.ref x) name expr) Q E s := by
  obtain ⟨od, J, hl⟩ := I.look
  exact PySem.W.get_value X J (PySem.W.plainGet_of hg).1 (PySem.W.findObj_own hh ha rfl (by rw [hl, hv])) hv' h

theorem get_meth {pl : Sem Bool} {Q : Value × List Value → Shared → Prop} (X : K.In s.heap) (I : ObjM s.heap x dx C mA) (hg : PySem.W.plainGet K C name = true)
    (hf : PySem.W.findIn K (.ref C) name = some (some (.ref f))) (ht : PySem.W.isFn K (.ref f) = true) (hv : mA name = none) (h : Q (.ref f, [.ref x]) s) :
    wpAny (model prog w) A (getMethod (.ref x) name pl) Q E s := by
  obtain ⟨od, J, hl⟩ := I.look
  exact PySem.W.method_fn X J (PySem.W.plainGet_of hg).1 (PySem.W.plainGet_of hg).2 hf (beq_iff_eq.mp ht) (by show (PySem.W.lookIn name od).map (·.isSome) = some false; rw [hl, hv]; rfl) h

theorem set_map {ns : List Str} {Q : Unit → Shared → Prop} (X : K.In s.heap) (I : ObjM s.heap x dx C mA)
    (hs : PySem.W.findIn K (.ref C) "__setattr__" = some (some (.builtin "object.__setattr__"))) (hp : PySem.W.plainOver K C = true) (ht : PySem.W.takerIn K C name = some none) (hh : PySem.W.hasDictIn K C = true)
    (hw : PySem.Within mA ns) (hsz : ns.length ≤ sizeLine)
    (h : ∀ h', ObjM h' x dx C (fun y => if y = name then some v else mA y) → Heap.SameBut dx s.heap h' → Q () { s with heap := h', toks := s.toks + 2 }) :
    wpAny (model prog w) A (setAttr (.ref x) name v) Q E s := by
  obtain ⟨od, J, hl⟩ := I.look
  refine PySem.W.set_plain X J hs (PySem.W.osa_open (s := { s with toks := s.toks + 1 }) (r := none) X J hp ht fun b => ?_)
  obtain ⟨cd, hc, hd'⟩ := PySem.W.any_some hh
  have hx : s.heap.get? x = some ⟨.ref C, some dx, .plain, #[]⟩ := I.obj
  refine wpAny_bind (wpAny_pure (wpAny_bind (wpAny_bind (wpAny_loadPart hx (wpAny_bind (PySem.W.Looks.here (s := { s with toks := s.toks + 1 }) (PySem.W.looks_clsIn X hc) ?_))))))
  rw [hd']
  refine wpAny_pure (a := some dx) (wpAny_bind (wpAny_pure (wpAny_bind ?_)))
  refine wpAny_nsSet1 (s := { s with toks := s.toks + 1 }) I.ns fun h' hn2 hs2 => ?_
  obtain ⟨oD, esD, epD, hoD, hdD, hcD⟩ := hn2.count (PySem.Within.cons name v hw)
  refine wpAny_bind (wpAny_lookBehind hoD (by rw [hdD]; exact pastItsLine_dict (Nat.le_trans hcD (by rw [List.length_cons]; omega))) ?_)
  exact wpAny_pure (h _ ⟨(hs2.2 _ (Ne.symm I.ne)).trans I.obj, hn2, I.ne⟩ hs2)

/-- C(..): the dict at the heap's end, the instance behind it; then its __init__ -/
theorem make_map {R : Result → Shared → Prop} {vs : List Value} {kw : List (Str × Value)} (X : K.In s.heap) (hm : PySem.W.makesIn K C = true)
    (hi : PySem.W.findIn K (.ref C) "__init__" = some (some (.ref f))) (hf : PySem.W.typeIn K (.ref f) = some (.type "function"))
    (h : codeAny (model prog w) (A.under (.builtin "type.__call__" ⟨.ref C :: vs, kw⟩)) (.call (.ref f) ⟨.ref (s.heap.objs.size + 1) :: vs, kw⟩) (PySem.W.InitBack (s.heap.objs.size + 1) R)
      { s with heap := (s.heap.push PySem.W.emptyDict).push (PySem.W.instObj C s.heap.objs.size) }) :
    codeAny (model prog w) A (.call (.ref C) ⟨vs, kw⟩) R s := by
  obtain ⟨hh, g, d, t, os⟩ := s
  exact PySem.W.make_core (PySem.W.makes_of X hm) (PySem.W.looks_findIn X hi) (fun self => PySem.W.bind_fn X self hf) (.inl rfl) h
end

def putF (f : Str) (v : V) : List (Str × V) → List (Str × V)
  | [] => [(f, v)]
  | (g, x) :: r => if g = f then (g, v) :: r else (g, x) :: putF f v r
theorem lookup_putF (f g : Str) (v : V) : ∀ fs : List (Str × V), (putF f v fs).lookup g = if g = f then some v else fs.lookup g
  | [] => by
    show List.lookup g [(f, v)] = _
    by_cases h : g = f
    · have hb : (g == f) = true := beq_iff_eq.mpr h
      simp only [List.lookup, hb, if_pos h]
    · have hb : (g == f) = false := beq_eq_false_iff_ne.mpr h
      simp only [List.lookup, hb, if_neg h]
  | (k, x) :: r => by
    have ih := lookup_putF f g v r
    rw [show putF f v ((k, x) :: r) = (if k = f then (k, v) :: r else (k, x) :: putF f v r) from rfl]
    by_cases hk : k = f
    · rw [if_pos hk]
      by_cases h : g = k
      · have hb : (g == k) = true := beq_iff_eq.mpr h
        simp only [List.lookup, hb, if_pos (h.trans hk)]
      · have hb : (g == k) = false := beq_eq_false_iff_ne.mpr h
        simp only [List.lookup, hb, if_neg (fun e : g = f => h (e.trans hk.symm))]
    · rw [if_neg hk]
      by_cases h : g = k
      · have hb : (g == k) = true := beq_iff_eq.mpr h
        simp only [List.lookup, hb, if_neg (fun e : g = f => hk (h.symm.trans e))]
      · have hb : (g == k) = false := beq_eq_false_iff_ne.mpr h
        simp only [List.lookup, hb]
        exact ih
theorem keys_putF (f : Str) (v : V) : ∀ fs : List (Str × V), f ∈ (putF f v fs).map (·.1) ∧ ∀ g, g ∈ fs.map (·.1) → g ∈ (putF f v fs).map (·.1)
  | [] => ⟨by simp [putF], fun g h => by simp at h⟩
  | (k, x) :: r => by
    obtain ⟨i1, i2⟩ := keys_putF f v r
    rw [show putF f v ((k, x) :: r) = (if k = f then (k, v) :: r else (k, x) :: putF f v r) from rfl]
    by_cases hk : k = f
    · rw [if_pos hk]
      subst hk
      exact ⟨by simp, fun g h => by simpa using h⟩
    · rw [if_neg hk]
      refine ⟨?_, fun g h => ?_⟩
      · rw [List.map_cons]
        exact List.mem_cons_of_mem _ i1
      · rw [List.map_cons] at h ⊢
        rcases List.mem_cons.mp h with e | e
        · exact List.mem_cons.mpr (.inl e)
        · exact List.mem_cons_of_mem _ (i2 g e)
theorem length_putF (f : Str) (v : V) : ∀ fs : List (Str × V), (putF f v fs).length ≤ fs.length + 1
  | [] => by simp [putF]
  | (k, x) :: r => by
    have ih := length_putF f v r
    rw [show putF f v ((k, x) :: r) = (if k = f then (k, v) :: r else (k, x) :: putF f v r) from rfl]
    by_cases hk : k = f
    · rw [if_pos hk, List.length_cons, List.length_cons]; omega
    · rw [if_neg hk, List.length_cons, List.length_cons]; omega

theorem RelO.some_of {v : V} {o : Option Value} (r : RelO (some v) o) : ∃ u, o = some u ∧ RelV v u := by
  cases o with
  | none => exact (show False from r).elim
  | some u => exact ⟨u, rfl, r⟩
theorem RelO.none_of {o : Option Value} (r : RelO none o) : o = none := by
  cases o with
  | none => rfl
  | some u => exact (show False from r).elim
theorem handed_of {v : V} {u : Value} (r : RelV v u) : PySem.W.handedIn u = true := by
  cases v with
  | non => cases (show u = Value.none from r); rfl
  | bl b => cases (show u = Value.bool b from r); rfl
  | int i => obtain ⟨t, e⟩ := (show ∃ t, u = Value.int i t from r); cases e; rfl
  | str x => obtain ⟨t, e⟩ := (show ∃ t, u = Value.str x t from r); cases e; rfl
  | byt b => obtain ⟨t, e⟩ := (show ∃ t, u = Value.bytes b t from r); cases e; rfl
  | flt b => obtain ⟨t, e⟩ := (show ∃ t, u = Value.float b t from r); cases e; rfl
  | ref a => cases (show u = Value.ref a from r); rfl
  | ty n => cases (show u = Value.type n from r); rfl

section
variable {P : Program} {w : World} {H H' : Hp} {h h' : Heap} {a C dx : Addr} {fs fs' : List (Str × V)}
theorem ins_get (hok : HOk P w H h) (e : H a = some (.ins C dx fs)) : ∃ mA, ObjM h a dx C mA ∧ (∀ f, RelO (fs.lookup f) (mA f)) ∧ PySem.Within mA (fs.map (·.1)) ∧ fs.length ≤ 1000 ∧ H dx = some (.own a) := by
  obtain ⟨d, z, ne, ob, mA, n, r, q⟩ := (show ObjOk P w H h a (.ins C dx fs) from hok a _ e)
  exact ⟨mA, ⟨ob, n, ne⟩, r, q, z, d⟩
end

structure Cls (K : PySem.W.Frag) (C : Addr) : Prop where
  pg : PySem.W.plainGet K C Str.empty = true
  hd : PySem.W.hasDictIn K C = true
  po : PySem.W.plainOver K C = true
  sa : PySem.W.findIn K (.ref C) "__setattr__" = some (some (.builtin "object.__setattr__"))
theorem Cls.get {K : PySem.W.Frag} {C : Addr} (c : Cls K C) (f : Str) : PySem.W.plainGet K C f = true := c.pg
/-- no class of it has the name -/
def NoAttr (K : PySem.W.Frag) (C : Addr) (f : Str) : Prop := PySem.W.findIn K (.ref C) f = some none
theorem NoAttr.taker {K : PySem.W.Frag} {C : Addr} {f : Str} (n : NoAttr K C f) : PySem.W.takerIn K C f = some none := by
  unfold PySem.W.takerIn
  rw [show PySem.W.findIn K (.ref C) f = some none from n]
  rfl
/-- a method: a plain def of the class or of one above it -/
structure Meth (K : PySem.W.Frag) (C : Addr) (m : Str) (f : Addr) : Prop where
  at_ : PySem.W.findIn K (.ref C) m = some (some (.ref f))
  fn : PySem.W.isFn K (.ref f) = true
  kp : PySem.W.keepIn K (.ref f) = true

section
variable {X : Cx} {pins : List (Addr × Obj)} {σ : St} {H : Hp} {s : Shared} {a C dx : Addr} {fs : List (Str × V)} {f : Str} {v : V} {A : Around} {E : Value → Shared → Prop}

theorem getattr_ok {b : Bool} {Q : Value → Shared → Prop} (I : Inv X pins σ H s) (e : H a = some (.ins C dx fs)) (c : Cls X.K C) (n : NoAttr X.K C f) (l : fs.lookup f = some v)
    (h : ∀ u s', Inv X pins σ H s' → RelV v u → Q u s') : wpAny (model X.prog X.w) A (getAttr (.ref a) f b) Q E s := by
  obtain ⟨mA, O, r, _, _, _⟩ := ins_get I.hok e
  obtain ⟨u, hu, ru⟩ := RelO.some_of (v := v) (o := mA f) (by rw [← l]; exact r f)
  exact get_map I.kIn O (c.get f) c.hd n hu (handed_of ru) (h u _ (I.tok _) ru)

theorem getmeth_ok {m : Str} {g : Addr} {pl : Sem Bool} {Q : Value × List Value → Shared → Prop} (I : Inv X pins σ H s) (e : H a = some (.ins C dx fs)) (c : Cls X.K C) (k : Meth X.K C m g) (l : fs.lookup m = none)
    (h : Q (.ref g, [.ref a]) s) : wpAny (model X.prog X.w) A (getMethod (.ref a) m pl) Q E s := by
  obtain ⟨mA, O, r, _, _, _⟩ := ins_get I.hok e
  have hn : mA m = none := RelO.none_of (by rw [← l]; exact r m)
  exact get_meth I.kIn O (c.get m) k.at_ k.fn hn h

theorem setattr_ok {y : V} {u : Value} {Q : Unit → Shared → Prop} (I : Inv X pins σ H s) (e : H a = some (.ins C dx fs)) (c : Cls X.K C) (n : NoAttr X.K C f) (hl : fs.length < 1000) (ry : RelV y u)
    (h : ∀ s', Inv X pins σ (upd H a (.ins C dx (putF f y fs))) s' → Q () s') : wpAny (model X.prog X.w) A (setAttr (.ref a) f u) Q E s := by
  obtain ⟨mA, O, r, wi, _, ho⟩ := ins_get I.hok e
  have hz : (fs.map (·.1)).length ≤ sizeLine := by rw [List.length_map, sizeLine_eq]; omega
  refine set_map I.kIn O c.sa c.po n.taker c.hd wi hz fun h' O' sb => h _ ?_
  have hd : ∃ o, h'.get? dx = some o := let ⟨o, _, _, e', _⟩ := O'.ns; ⟨o, e'⟩
  refine I.write (x := a) (e := dx) (by rw [e]; exact True.intro) (.inr ho) (fun b q hb z => (sb.2 b hb).trans z) hd ?_
  refine ⟨by rw [upd_ne O.ne]; exact ho, ?_, O.ne, O'.obj, _, O'.ns, fun g => ?_, fun g hg => ?_⟩
  · have := length_putF f y fs; omega
  · show RelO ((putF f y fs).lookup g) (if g = f then some u else mA g)
    rw [lookup_putF]
    by_cases q : g = f
    · rw [if_pos q, if_pos q]; exact ry
    · rw [if_neg q, if_neg q]; exact r g
  · by_cases q : g = f
    · rw [q]; exact (keys_putF f y fs).1
    · refine (keys_putF f y fs).2 g (wi g fun z => hg ?_)
      show (if g = f then some u else mA g) = none
      rw [if_neg q]; exact z

/-- a new instance, tracked, without attributes -/
theorem Inv.made (I : Inv X pins σ H s) : Inv X pins σ (upd (upd H s.heap.objs.size (.own (s.heap.objs.size + 1))) (s.heap.objs.size + 1) (.ins C s.heap.objs.size []))
    { s with heap := (s.heap.push PySem.W.emptyDict).push (PySem.W.instObj C s.heap.objs.size) } := by
  have e1 : (s.heap.push PySem.W.emptyDict).get? s.heap.objs.size = some PySem.W.emptyDict := Heap.get?_push_size s.heap rfl
  have e2 : ((s.heap.push PySem.W.emptyDict).push (PySem.W.instObj C s.heap.objs.size)).get? (s.heap.objs.size + 1) = some (PySem.W.instObj C s.heap.objs.size) := by
    have := Heap.get?_push_size (s.heap.push PySem.W.emptyDict) (o := PySem.W.instObj C s.heap.objs.size) rfl
    rwa [Heap.size_push] at this
  have e3 : (s.heap.push PySem.W.emptyDict).Ns s.heap.objs.size (fun _ => none) := ⟨PySem.W.emptyDict, #[], _, e1, rfl, (fun e he => absurd he (by simp)), fun _ => rfl⟩
  have I1 := I.laid (a := s.heap.objs.size) (o := .own (s.heap.objs.size + 1)) (h' := s.heap.push PySem.W.emptyDict) (t' := s.toks) (fun b u q => Heap.get?_push_of_some _ q) (Nat.le_refl _) ⟨_, e1⟩
  refine I1.laid (a := s.heap.objs.size + 1) (o := .ins C s.heap.objs.size []) (t' := s.toks) (fun b u q => Heap.get?_push_of_some _ q) (Nat.le_of_eq (Heap.size_push _ _)) ?_
  have ne : s.heap.objs.size ≠ s.heap.objs.size + 1 := Nat.ne_of_lt (Nat.lt_succ_self _)
  refine ⟨by rw [upd_ne ne, upd_same], Nat.zero_le _, ne, e2, fun _ => none, (Heap.Ns1.of_empty e3).at fun o q => Heap.get?_push_of_some _ q, fun _ => True.intro, fun y hy => absurd rfl hy⟩

/-- e.f where nothing but the object is asked: through attributeBase (super) and the last hold -/
theorem attr_of {prog : Program} {w : World} {env : Env} {e : Expr} {f : Str} {pos : Pos} {s : Shared} {Q : Value → Shared → Prop} (hb : attributeBase e f env (eval e env) = eval e env)
    (h : wpAny (model prog w) A (eval e env) (fun o s₁ => wpAny (model prog w) A (getAttr o f true) Q E s₁) E s) : wpAny (model prog w) A (eval (.Attribute e f pos) env) Q E s :=
  Attribute_any_ h (by rw [arm_eval_Attribute, hb])
end

/-- e.f, an attribute of the instance -/
def tFld (K : PySem.W.Frag) (ta : TE) (f : Str) : TE := fun σ H Q => ta σ H fun x H1 => ∃ a C dx fs v, x = .ref a ∧ H1 a = some (.ins C dx fs) ∧ Cls K C ∧ NoAttr K C f ∧ fs.lookup f = some v ∧ Q v H1
/-- e.f = value -/
def sFld (K : PySem.W.Frag) (ta tv : TE) (f : Str) : TS := fun D σ H => tv σ H fun y H1 => ta σ H1 fun x H2 => ∃ a C dx fs, x = .ref a ∧ H2 a = some (.ins C dx fs) ∧ Cls K C ∧ NoAttr K C f ∧ fs.length < 1000 ∧
  D.nx σ (upd H2 a (.ins C dx (putF f y fs)))
section
variable {X : Cx} {o e value : Expr} {f : Str} {pos pos' tpos : Pos} {ta tv : TE}
theorem pe_fld (he : PE X e ta) (hb : attributeBase e f X.env (eval e X.env) = eval e X.env) : PE X (.Attribute e f pos) (tFld X.K ta f) := by
  intro pins s σ H Q I h
  refine attr_of hb (thn (he pins s σ H _ I h) fun u s1 ⟨x, H1, I1, rx, a, C, dx, fs, v, ex, ea, c, n, l, q⟩ => ?_)
  subst ex
  obtain rfl : u = Value.ref a := rx
  exact getattr_ok I1 ea c n l fun u' s2 I2 ru => ⟨v, H1, I2, ru, q⟩
theorem ps_fld (ha : PE X o ta) (hv : PE X value tv) (hs : swapsWith value (some (.Attribute o f pos')) pos.line X.env = pure false) : PS X (.Assign [.Attribute o f pos'] value pos) (sFld X.K ta tv f) := by
  intro pins s σ H D I h
  refine plainObj_wpAny_Assign_Attribute (thn (hv pins s σ H _ I h) fun u s1 ⟨y, H1, I1, ry, q⟩ => thn (ha pins s1 σ H1 _ I1 q) fun ov s2 ⟨x, H2, I2, rx, a, C, dx, fs, ex, ea, c, n, l, q2⟩ => ?_) hs
  subst ex
  obtain rfl : ov = Value.ref a := rx
  exact setattr_ok I2 ea c n l ry fun s3 I3 => ⟨σ, _, I3, q2⟩
/-- what is between an instance and its method: the tree of a method call -/
theorem methcall_of {pl : Sem Bool} {m : Str} {apos : Pos} {args : List Expr} {pins : List (Addr × Obj)} {s : Shared} {σ : St} {H : Hp} {Q : Value → Shared → Prop} {te : TE} (he : PE X e te) (I : Inv X pins σ H s)
    (h : te σ H fun x H1 => ∃ a C dx fs g, x = .ref a ∧ H1 a = some (.ins C dx fs) ∧ Cls X.K C ∧ Meth X.K C m g ∧ fs.lookup m = none ∧
      ∀ s1, Inv X pins σ H1 s1 → wpAny (model X.prog X.w) X.A (callWith pos (.ref g) [.ref a] (backTo pos (starEach args X.env)) (backToKw pos (keywordEach [] X.env))) Q X.xe s1)
    (ht : eval (.Call (.Attribute e m apos) args [] pos) X.env = (do
      let ov ← eval e X.env
      standAt apos.atName
      let (f, first) ← holding [ov] (getMethod ov m pl)
      callWith pos f first (backTo pos (starEach args X.env)) (backToKw pos (keywordEach [] X.env)))) :
    wpAny (model X.prog X.w) X.A (eval (.Call (.Attribute e m apos) args [] pos) X.env) Q X.xe s := by
  refine PySem.W.methodCall_KW (pl := pl) (thn (he pins s σ H _ I h) fun u s1 ⟨x, H1, I1, rx, a, C, dx, fs, g, ex, ea, c, k, l, q⟩ => ?_) ht
  subst ex
  obtain rfl : u = Value.ref a := rx
  exact getmeth_ok I1 ea c k l (q s1 I1)
end

section
variable {X : Cx} {pins : List (Addr × Obj)} {σ : St} {H : Hp} {s : Shared} {A : Around} {E : Value → Shared → Prop} {Q : Value → Shared → Prop} {c : Value} {b : Bool}
/-- the type of a value, as the fragment's deciders take it; for an instance its class -/
inductive TyOf (K : PySem.W.Frag) (H : Hp) : V → Value → Prop where
  | non : TyOf K H .non (.type "NoneType")
  | bl (x : Bool) : TyOf K H (.bl x) (.type "bool")
  | int (i : Int) : TyOf K H (.int i) (.type "int")
  | str (x : Str) : TyOf K H (.str x) (.type "str")
  | flt (x : UInt64) : TyOf K H (.flt x) (.type "float")
  | lst {a : Addr} {xs : List V} (e : H a = some (.lst xs)) : TyOf K H (.ref a) (.type "list")
  | frz {a : Addr} {o : Obj} {xs : List V} (e : H a = some (.frz o (.lst xs))) : TyOf K H (.ref a) (.type "list")
  | tup {a : Addr} {xs : List V} (e : H a = some (.tup xs)) : TyOf K H (.ref a) (.type "tuple")
  | dK {a : Addr} {kvs : List (Key × V)} (e : H a = some (.dK kvs)) : TyOf K H (.ref a) (.type "dict")
  | dT {a : Addr} {kvs : List (List Key × V)} (e : H a = some (.dT kvs)) : TyOf K H (.ref a) (.type "dict")
  | ins {a C dx : Addr} {fs : List (Str × V)} (e : H a = some (.ins C dx fs)) (cl : Cls K C) (ha : PySem.W.findIn K (.ref C) "__class__" = some (some (.builtin "object.__class__")))
      (hn : PySem.W.specialIn K (.builtin "object.__class__") "__get__" = some (some (.builtin "getset_descriptor.__get__"))) (htk : PySem.W.takesIn K (.builtin "object.__class__") = some true)
      (hm : PySem.W.mroIn K C (.type "object") = some true) : TyOf K H (.ref a) (.ref C)
/-- isinstance(x, c) for one class c, a built-in or an own one: kitOne's answer -/
theorem isinst_ok {x : V} {u t : Value} (I : Inv X pins σ H s) (rx : RelV x u) (ty : TyOf X.K H x t) (e : PySem.W.kitOne X.K t c = some b) (h : ∀ tk, Q (.bool b) { s with toks := tk }) :
    wpAny (model X.prog X.w) A (call (.builtin "isinstance") [u, c]) Q E s := by
  cases ty with
  | non => cases (show u = Value.none from rx); exact PySem.W.kia_one PySem.W.kitx_none I.kIn True.intro e (fun z => nomatch z) h
  | bl y => cases (show u = Value.bool y from rx); exact PySem.W.kia_one PySem.W.kitx_bool I.kIn True.intro e (fun z => nomatch z) h
  | int i => obtain ⟨t, q⟩ := (show ∃ t, u = Value.int i t from rx); cases q; exact PySem.W.kia_one PySem.W.kitx_int I.kIn True.intro e (fun z => nomatch z) h
  | str y => obtain ⟨t, q⟩ := (show ∃ t, u = Value.str y t from rx); cases q; exact PySem.W.kia_one PySem.W.kitx_str I.kIn True.intro e (fun z => nomatch z) h
  | flt y => obtain ⟨t, q⟩ := (show ∃ t, u = Value.float y t from rx); cases q; exact PySem.W.kia_one PySem.W.kitx_float I.kIn True.intro e (fun z => nomatch z) h
  | @lst a xs ea =>
    cases (show u = Value.ref a from rx)
    obtain ⟨_, _, n, _, h1⟩ := (show ObjOk X.prog X.w H s.heap a (.lst xs) from I.hok a _ ea)
    exact PySem.W.kia_one PySem.W.kitx_list I.kIn ⟨_, h1, rfl⟩ e (fun z => nomatch z) h
  | @frz a ob xs ea =>
    cases (show u = Value.ref a from rx)
    obtain ⟨_, _, _, n, _, h1⟩ := (show ObjOk X.prog X.w H s.heap a (.frz ob (.lst xs)) from I.hok a _ ea)
    exact PySem.W.kia_one PySem.W.kitx_list I.kIn ⟨_, h1, rfl⟩ e (fun z => nomatch z) h
  | @tup a xs ea =>
    cases (show u = Value.ref a from rx)
    obtain ⟨_, _, _, p⟩ := (show ObjOk X.prog X.w H s.heap a (.tup xs) from I.hok a _ ea)
    obtain ⟨o, h1, h2, _⟩ := p
    exact PySem.W.kia_one PySem.W.kitx_tuple I.kIn ⟨o, h1, h2⟩ e (fun z => nomatch z) h
  | @dK a kvs ea =>
    cases (show u = Value.ref a from rx)
    obtain ⟨_, _, vs, _, p⟩ := (show ObjOk X.prog X.w H s.heap a (.dK kvs) from I.hok a _ ea)
    obtain ⟨o, es, ep, h1, h2, _⟩ := p
    exact PySem.W.kia_one PySem.W.kitx_dict I.kIn ⟨o, h1, h2.1⟩ e (fun z => nomatch z) h
  | @dT a kvs ea =>
    cases (show u = Value.ref a from rx)
    obtain ⟨_, _, xs, _, o, es, ep, h1, h2, _⟩ := (show ObjOk X.prog X.w H s.heap a (.dT kvs) from I.hok a _ ea)
    exact PySem.W.kia_one PySem.W.kitx_dict I.kIn ⟨o, h1, h2.1⟩ e (fun z => nomatch z) h
  | @ins a C dx fs ea cl ha hn htk hm =>
    cases (show u = Value.ref a from rx)
    obtain ⟨mA, O, _⟩ := ins_get I.hok ea
    obtain ⟨od, J, _⟩ := O.look
    exact PySem.W.kia_one (PySem.W.kitx_own (cl.get _) cl.hd ha hn htk hm) I.kIn J e (fun z => nomatch z) h
end
end L2

namespace L2
open PySem PySem.Spec PyProof.Rows

structure Room (k : Nat) (A : Around) : Prop where
  hd : A.handled = none
  dp : A.depth + 3 * k + 5 < recursionLimit
  un : A.units + 16 * k + 200 < cLine
theorem Room.mono {j k : Nat} {A : Around} (r : Room k A) (h : j ≤ k) : Room j A := ⟨r.hd, by have := r.dp; omega, by have := r.un; omega⟩
theorem Room.deeper {k : Nat} {A : Around} (r : Room (k + 1) A) (env : Env) : Room k (A.deeper env) :=
  ⟨r.hd, by have := r.dp; show A.depth + 1 + 3 * k + 5 < _; omega, by have := r.un; show A.units + 3 + 16 * k + 200 < _; omega⟩
theorem make_depth {A : Around} {C : Addr} {us : List Value} {kw : List (Str × Value)} : (A.under (.builtin "type.__call__" ⟨.ref C :: us, kw⟩)).depth = A.depth + 1 := by
  first | rfl | simp [Around.under, Code.weight, Code.isCreation, Code.isGuard, Code.isCaller, Code.frames, Code.isFrame, guardIds]
theorem make_units {A : Around} {C : Addr} {us : List Value} {kw : List (Str × Value)} : (A.under (.builtin "type.__call__" ⟨.ref C :: us, kw⟩)).units = A.units + 1 := by
  first | rfl | simp [Around.under, Code.cUnits, Code.frames, Code.isFrame]
theorem Room.make {k : Nat} {A : Around} (r : Room (k + 1) A) (C : Addr) (us : List Value) (kw : List (Str × Value)) : Room k (A.under (.builtin "type.__call__" ⟨.ref C :: us, kw⟩)) :=
  ⟨r.hd, by have := r.dp; rw [make_depth]; omega, by have := r.un; rw [make_units]; omega⟩
theorem Room.depth {k : Nat} {A : Around} (r : Room k A) : A.depth < recursionLimit := by have := r.dp; omega
theorem Room.units {k : Nat} {A : Around} (r : Room k A) : A.units + 64 < cLine := by have := r.un; omega
def tNil : TA := fun _ H Q => Q [] H
def tCons (ta : TE) (tr : TA) : TA := fun σ H Q => ta σ H fun x H1 => tr σ H1 fun xs H2 => Q (x :: xs) H2
section
variable {X : Cx} {e : Expr} {es : List Expr} {te : TE} {t : TA} {pos : Pos}
theorem pa_nil : PA X [] tNil := fun _ _ _ _ H Q I h => Calls.spliced_nil ⟨[], H, I, .nil, h⟩
theorem pa_cons (ha : PE X e te) (hr : PA X es t) (hs : starEach (e :: es) X.env = (false, eval e X.env) :: starEach es X.env := by rfl) : PA X (e :: es) (tCons te t) := by
  intro pos pins s σ H Q I h
  rw [hs]
  show wpAny _ _ (spliced ((false, eval e X.env) :: backTo pos (starEach es X.env))) _ _ s
  refine Calls.spliced_cons (thn (ha pins s σ H _ I h) fun u s1 ⟨x, H1, I1, r1, q1⟩ => ?_)
  exact thn (hr pos pins s1 σ H1 _ I1 q1) fun us s2 ⟨xs, H2, I2, r2, q2⟩ => ⟨x :: xs, H2, I2, .cons r1 r2, q2⟩

/-- a tuple, a list of written items -/
def tTup (t : TA) : TE := fun σ H Q => t σ H fun xs H1 => xs.length ≤ sizeLine ∧ ∀ p, H1 p = none → Q (.ref p) (upd H1 p (.tup xs))
def tLst (t : TA) : TE := fun σ H Q => t σ H fun xs H1 => xs.length ≤ sizeLine ∧ ∀ p, H1 p = none → Q (.ref p) (upd H1 p (.lst xs))
theorem pe_tup {x1} (h : PA X es t) : PE X (.Tuple es x1 pos) (tTup t) := by
  intro pins s σ H Q I hq
  refine wpAny_Tuple_spliced (thn (h pos pins s σ H _ I hq) fun us s1 ⟨xs, H1, I1, r, z, q⟩ => ⟨by rw [← r.length]; exact z, ?_⟩)
  have hf : H1 s1.heap.objs.size = none := I1.hok.fresh (Nat.le_refl _)
  refine ⟨.ref s1.heap.objs.size, upd H1 s1.heap.objs.size (.tup xs), I1.laid (t' := s1.toks) (fun b u e => Heap.get?_push_of_some _ e) (Nat.le_refl _) ?_, rfl, q _ hf⟩
  exact ⟨z, us, r, ⟨_, Heap.get?_push_size _ rfl, rfl, _, rfl⟩⟩
theorem pe_lst (h : PA X es t) : PE X (.List es pos) (tLst t) := by
  intro pins s σ H Q I hq
  refine wpAny_List_spliced (thn (h pos pins s σ H _ I hq) fun us s1 ⟨xs, H1, I1, r, z, q⟩ => ⟨by rw [← r.length]; exact z, ?_⟩)
  have hf : H1 s1.heap.objs.size = none := I1.hok.fresh (Nat.le_refl _)
  refine ⟨.ref s1.heap.objs.size, upd H1 s1.heap.objs.size (.lst xs), I1.laid (t' := s1.toks) (fun b u e => Heap.get?_push_of_some _ e) (Nat.le_refl _) ?_, rfl, q _ hf⟩
  exact ⟨z, us, 0, r, Heap.get?_push_size _ rfl⟩
end

/-- a def's promise: the bound arguments in the parameters' order, the heap, the wanted end, the wanted exception -/
abbrev Sp := List V → Hp → VK → XK → Prop
/-- how an exception lies behind a call (file 08 gives it): the callers' frames, abstract heap and state ahead of the call, the wish, the exception, the state -/
abbrev CXT := List Env → Hp → Shared → XK → Value → Shared → Prop

/-- the state at a call -/
structure Env0 (P : Program) (w : World) (K : PySem.W.Frag) (mg : Str → Option Value) (base : Heap) (A : Around) (outer : List Env) (s : Shared) (H : Hp) : Prop where
  frames : A.frames = some outer
  mod : Mod K mg base
  bs : ∀ b o, base.get? b = some o → s.heap.get? b = some o ∧ H b = none
  bsz : base.objs.size ≤ s.heap.objs.size
  funs : s.heap.FunFrames base outer
  frf : ∀ b ∈ frs outer, H b = none
  hok : HOk P w H s.heap
  bare : AllBare s.gens
/-- a call's end -/
def CE (outer : List Env) (P : Program) (w : World) (H : Hp) (s : Shared) (Q : VK) (u : Value) (s' : Shared) : Prop :=
  ∃ v H', s'.os = s.os ∧ AllBare s'.gens ∧ Un (frs outer) [] H H' s.heap s'.heap ∧ HOk P w H' s'.heap ∧ RelV v u ∧ Q v H'
def CR (CX : CXT) (outer : List Env) (P : Program) (w : World) (H : Hp) (s : Shared) (Q : VK) (E : XK) (r : Result) (s' : Shared) : Prop :=
  match r with
  | .ok (.ret u) => CE outer P w H s Q u s'
  | .ok _ => False
  | .error e => CX outer H s E e s'
structure FnOk (P : Program) (w : World) (K : PySem.W.Frag) (mg : Str → Option Value) (base : Heap) (CX : CXT) (k : Nat) (f : Addr) (fd : FuncData) (ps : List Str) (sp : Sp) : Prop where
  len : ∀ vs H Q E, sp vs H Q E → vs.length = ps.length
  run : ∀ (A : Around) (outer : List Env) (s : Shared) (H : Hp) (args : Args) (us : List Value) (vs : List V) (Q : VK) (E : XK), Room k A → Env0 P w K mg base A outer s H → BindsTo s fd args (ps.zip us) → Vals vs us → sp vs H Q E →
    codeAny (model P w) A (.call (.ref f) args) (CR CX outer P w H s Q E) s
theorem Env0.make {P : Program} {w : World} {K : PySem.W.Frag} {mg : Str → Option Value} {base : Heap} {A : Around} {outer : List Env} {s : Shared} {H : Hp} (e : Env0 P w K mg base A outer s H) (C : Addr) (us : List Value) (kw : List (Str × Value)) :
    Env0 P w K mg base (A.under (.builtin "type.__call__" ⟨.ref C :: us, kw⟩)) outer s H := ⟨by first | exact e.frames | (simpa [Around.under, Code.envs, Code.isFrame, pushEnvs] using e.frames), e.mod, e.bs, e.bsz, e.funs, e.frf, e.hok, e.bare⟩
section
variable {X : Cx} {pins : List (Addr × Obj)} {σ : St} {H : Hp} {s s' : Shared}
/-- from a body: what a callee wants -/
theorem Inv.env0 (I : Inv X pins σ H s) : Env0 X.prog X.w X.K X.mg X.base X.A X.stack s H :=
  ⟨I.ok.frames, I.ok.mod, I.bs, Nat.le_trans I.ok.bsz I.sz, I.stack, I.stkFree, I.hok, I.bare⟩
/-- behind a call -/
theorem Inv.after {Q : VK} {u : Value} (I : Inv X pins σ H s) (h : CE X.stack X.prog X.w H s Q u s') : EP X pins σ Q u s' := by
  obtain ⟨v, H', os, bare, un, hok, r, q⟩ := h
  obtain ⟨hh, g, d, t, os'⟩ := s'
  obtain rfl : os' = s.os := os
  exact ⟨v, H', I.call (h' := hh) (g' := g) (d' := d) (t' := t) (ch := []) un hok bare (fun b z => absurd z (by simp)), r, q⟩
end

/-- f(..): the written arguments, then the defaults dvs; E: what is wanted of an exception -/
def tCall (sp : Sp) (dvs : List V) (E : XK) (t : TA) : TE := fun σ H Q => t σ H fun vs H1 => sp (vs ++ dvs) H1 Q E
/-- o.m(..) of an instance of the class at C -/
def tMeth (C : Addr) (m : Str) (sp : Sp) (dvs : List V) (E : XK) (ta : TE) (t : TA) : TE := fun σ H Q => ta σ H fun x H1 => ∃ a dx fs, x = .ref a ∧ H1 a = some (.ins C dx fs) ∧ fs.lookup m = none ∧
  t σ H1 fun vs H2 => sp (x :: (vs ++ dvs)) H2 Q E
/-- C(..): a new instance and its dict, then __init__ -/
def tMake (C : Addr) (sp : Sp) (dvs : List V) (E : XK) (t : TA) : TE := fun σ H Q => t σ H fun vs H1 => ∀ x dx, H1 x = none → H1 dx = none → dx ≠ x →
  sp (.ref x :: (vs ++ dvs)) (upd (upd H1 dx (.own x)) x (.ins C dx [])) (fun v H2 => v = .non ∧ Q (.ref x) H2) E

/-- how the parameters are bound: us the positional arguments, kw the keywords' values by name, ds the defaults that fill up -/
def Binds (K : PySem.W.Frag) (fd : FuncData) (ps : List Str) (ds : List Value) : Prop :=
  ∀ (s : Shared) (us : List Value), K.In s.heap → (us ++ ds).length = ps.length → BindsTo s fd ⟨us, []⟩ (ps.zip (us ++ ds))
/-- every parameter is given -/
theorem Binds.all {K : PySem.W.Frag} {fd : FuncData} {ps : List Str} (h : ∀ us : List Value, us.length = ps.length → bindArgs fd ⟨us, []⟩ = pure (ps.zip us)) : Binds K fd ps [] := fun s us _ hl => by
  rw [List.append_nil] at hl ⊢
  exact .of_eq (h us hl)

/-- an exception of a callee reaches what this body wants of exceptions -/
def Passes (CX : CXT) (X : Cx) (E : XK) : Prop := ∀ (pins : List (Addr × Obj)) (σ : St) (H : Hp) (s : Shared) (e : Value) (s' : Shared), Inv X pins σ H s → CX X.stack H s E e s' → X.xe e s'

section
variable {X : Cx} {CX : CXT} {k : Nat} {f C : Addr} {fd : FuncData} {ps : List Str} {sp : Sp} {dvs : List V} {ds : List Value} {E : XK} {x m : Str} {p pos apos : Pos} {e o : Expr} {es : List Expr} {ta : TE} {t : TA}

/-- the callee runs -/
theorem run_fn {pins : List (Addr × Obj)} {σ : St} {H : Hp} {s : Shared} {Q : VK} {us : List Value} {vs : List V} (F : FnOk X.prog X.w X.K X.mg X.base CX k f fd ps sp) (hr : Room k X.A) (hb : Binds X.K fd ps ds) (hd : Vals dvs ds) (hx : Passes CX X E)
    (I : Inv X pins σ H s) (r : Vals vs us) (h : sp (vs ++ dvs) H Q E) : wpAny (model X.prog X.w) X.A (call (.ref f) us) (EP X pins σ Q) X.xe s := by
  have r2 : Vals (vs ++ dvs) (us ++ ds) := r.append hd
  have hl : (us ++ ds).length = ps.length := by rw [← r2.length]; exact F.len _ _ _ _ h
  refine wpAny_call (codeAny_mono (F.run X.A X.stack s H ⟨us, []⟩ (us ++ ds) (vs ++ dvs) Q E hr I.env0 (hb s us I.kIn hl) r2 h) fun r s' hq => ?_)
  cases r with
  | error e => exact hx pins σ H s e s' I hq
  | ok fl =>
    cases fl with
    | ret u => exact I.after hq
    | next => exact False.elim hq
    | brk => exact False.elim hq
    | cont => exact False.elim hq

theorem pe_call (F : FnOk X.prog X.w X.K X.mg X.base CX k f fd ps sp) (hr : Room k X.A) (hg : Gl X x) (hm : X.mg x = some (.ref f)) (hk : PySem.W.keepIn X.K (.ref f) = true) (hb : Binds X.K fd ps ds) (hd : Vals dvs ds) (hx : Passes CX X E)
    (ha : PA X (e :: es) t) (hdb : (x == ("__debug__" : Str)) = false := by decide) (he : starEach (e :: es) X.env = (false, eval e X.env) :: starEach es X.env := by rfl) (hpl : (backTo pos (starEach es X.env)).any (·.1) = false := by rfl) :
    PE X (.Call (.Name x p) (e :: es) [] pos) (tCall sp dvs E t) := by
  intro pins s σ H Q I h
  refine wpAny_Call_Name_kw (ld_glob I hg hm ?_ hdb)
  refine PySem.W.callWith_K (h₀ := X.base) I.ok.mod.kin hk (thn (ha pos pins s σ H _ I h) fun us s1 ⟨vs, H1, I1, r, q⟩ => ⟨I1.kIn, ?_⟩) he hpl
  exact run_fn F hr hb hd hx I1 r q
/-- o.m(e, ..) -/
theorem pe_meth {pl : Sem Bool} (he : PE X o ta) (c : Cls X.K C) (hm : Meth X.K C m f) (F : FnOk X.prog X.w X.K X.mg X.base CX k f fd ps sp) (hr : Room k X.A) (hb : Binds X.K fd ps ds) (hd : Vals dvs ds) (hx : Passes CX X E) (ha : PA X (e :: es) t)
    (hst : starEach (e :: es) X.env = (false, eval e X.env) :: starEach es X.env := by rfl) (hpl : (backTo pos (starEach es X.env)).any (·.1) = false := by rfl)
    (ht : eval (.Call (.Attribute o m apos) (e :: es) [] pos) X.env = (do
      let ov ← eval o X.env
      standAt apos.atName
      let (f, first) ← holding [ov] (getMethod ov m pl)
      callWith pos f first (backTo pos (starEach (e :: es) X.env)) (backToKw pos (keywordEach [] X.env))) := by rfl) :
    PE X (.Call (.Attribute o m apos) (e :: es) [] pos) (tMeth C m sp dvs E ta t) := by
  intro pins s σ H Q I h
  refine PySem.W.methodCall_KW (pl := pl) (thn (he pins s σ H _ I h) fun u s1 ⟨x, H1, I1, rx, a, dx, fs, ex, ea, l, q⟩ => ?_) ht
  subst ex
  obtain rfl : u = Value.ref a := rx
  refine getmeth_ok I1 ea c hm l ?_
  refine PySem.W.callWith_K (first := [.ref a]) (h₀ := X.base) I.ok.mod.kin hm.kp (thn (ha pos pins s1 σ H1 _ I1 q) fun us s2 ⟨vs, H2, I2, r, q2⟩ => ⟨I2.kIn, ?_⟩) hst hpl
  exact run_fn (us := .ref a :: us) (vs := .ref a :: vs) F hr hb hd hx I2 (.cons rfl r) q2
/-- what a class must have to be made -/
structure Mk (K : PySem.W.Frag) (C f : Addr) : Prop where
  makes : PySem.W.makesIn K C = true
  init : PySem.W.findIn K (.ref C) "__init__" = some (some (.ref f))
  fn : PySem.W.isFn K (.ref f) = true
  kp : PySem.W.keepIn K (.ref C) = true

theorem run_make {pins : List (Addr × Obj)} {σ : St} {H : Hp} {s : Shared} {Q : VK} {us : List Value} {vs : List V} (M : Mk X.K C f) (F : FnOk X.prog X.w X.K X.mg X.base CX k f fd ps sp) (hr : Room (k + 1) X.A) (hb : Binds X.K fd ps ds) (hd : Vals dvs ds)
    (hx : Passes CX X E) (I : Inv X pins σ H s) (r : Vals vs us)
    (h : ∀ x dx, H x = none → H dx = none → dx ≠ x → sp (.ref x :: (vs ++ dvs)) (upd (upd H dx (.own x)) x (.ins C dx [])) (fun v H2 => v = .non ∧ Q (.ref x) H2) E) :
    wpAny (model X.prog X.w) X.A (call (.ref C) us) (EP X pins σ Q) X.xe s := by
  have hq := h (s.heap.objs.size + 1) s.heap.objs.size (I.hok.fresh (Nat.le_succ _)) (I.hok.fresh (Nat.le_refl _)) (Nat.ne_of_lt (Nat.lt_succ_self _))
  have I2 := Inv.made (C := C) I
  have r2 : Vals (V.ref (s.heap.objs.size + 1) :: (vs ++ dvs)) (Value.ref (s.heap.objs.size + 1) :: (us ++ ds)) := .cons rfl (r.append hd)
  have hl : (Value.ref (s.heap.objs.size + 1) :: us ++ ds).length = ps.length := by
    have e := r2.length
    rw [F.len _ _ _ _ hq] at e
    exact e.symm
  refine wpAny_call (make_map (f := f) I.kIn M.makes M.init (beq_iff_eq.mp M.fn) (codeAny_mono (F.run _ X.stack _ _ ⟨Value.ref (s.heap.objs.size + 1) :: us, []⟩ (Value.ref (s.heap.objs.size + 1) :: (us ++ ds)) _ _ E (hr.make C us [])
    (I2.env0.make C us []) (hb _ (Value.ref (s.heap.objs.size + 1) :: us) I2.kIn hl) r2 hq) fun r s' hq' => ?_))
  cases r with
  | error e => exact hx pins σ _ _ e s' I2 hq'
  | ok fl =>
    cases fl with
    | ret u =>
      obtain ⟨v, H', I3, rv, ev, q3⟩ := I2.after hq'
      subst ev
      exact ⟨rv, ⟨V.ref (s.heap.objs.size + 1), H', I3, rfl, q3⟩⟩
    | next => exact False.elim hq'
    | brk => exact False.elim hq'
    | cont => exact False.elim hq'
theorem pe_make (M : Mk X.K C f) (F : FnOk X.prog X.w X.K X.mg X.base CX k f fd ps sp) (hr : Room (k + 1) X.A) (hg : Gl X x) (hm : X.mg x = some (.ref C)) (hb : Binds X.K fd ps ds) (hd : Vals dvs ds) (hx : Passes CX X E)
    (ha : PA X (e :: es) t) (hdb : (x == ("__debug__" : Str)) = false := by decide) (he : starEach (e :: es) X.env = (false, eval e X.env) :: starEach es X.env := by rfl) (hpl : (backTo pos (starEach es X.env)).any (·.1) = false := by rfl) :
    PE X (.Call (.Name x p) (e :: es) [] pos) (tMake C sp dvs E t) := by
  intro pins s σ H Q I h
  refine wpAny_Call_Name_kw (ld_glob I hg hm ?_ hdb)
  refine PySem.W.callWith_K (h₀ := X.base) I.ok.mod.kin M.kp (thn (ha pos pins s σ H _ I h) fun us s1 ⟨vs, H1, I1, r, q⟩ => ⟨I1.kIn, ?_⟩) he hpl
  exact run_make M F hr hb hd hx I1 r q
end

section
variable {X : Cx} {CX : CXT} {k : Nat} {f C : Addr} {fd : FuncData} {ps ks : List Str} {sp : Sp} {E : XK} {x m : Str} {p pos apos kpos : Pos} {e o : Expr} {es : List Expr} {kws : List Keyword} {te ta : TE} {t tk : TA} {nm : Option Str}
variable {g : List Value → List Value → List Value} {gV : List V → List V → List V}
end

/-- names: the parameters first -/
structure FnScope (N P : List Str) (sc : Scope) : Prop where
  kind : sc.kind = .function
  co : sc.isCoroutine = false
  gen : sc.isGenerator = false
  nd : N.Nodup
  pre : N.take P.length = P
  par : ∀ x ∈ P, sc.names.lookup x = some .local ∨ sc.names.lookup x = some .cell
  nofree : ∀ y ∈ sc.names, y.2 ≠ .free

theorem bindL_out {kindOf : Str → Option NameKind} {x : Str} : ∀ {binds : List (Str × Value)} {m : Str → Option Value}, (∀ v, (x, v) ∉ binds) → bindL kindOf binds m x = m x
  | [], _, _ => rfl
  | (n, v) :: r, m, h => by
    unfold bindL
    rw [bindL_out fun w hw => h w (List.mem_cons_of_mem _ hw)]
    split
    · have : x ≠ n := by rintro rfl; exact h v List.mem_cons_self
      simp [this]
    · rfl
theorem bindC_out {kindOf : Str → Option NameKind} {x : Str} : ∀ {binds : List (Str × Value)} {m : Str → Option Value}, (∀ v, (x, v) ∉ binds) → bindC kindOf binds m x = m x
  | [], _, _ => rfl
  | (n, v) :: r, m, h => by
    unfold bindC
    rw [bindC_out fun w hw => h w (List.mem_cons_of_mem _ hw)]
    split
    · rfl
    · have : x ≠ n := by rintro rfl; exact h v List.mem_cons_self
      simp [this]
theorem bindL_get {kindOf : Str → Option NameKind} {x : Str} {v : Value} : ∀ {P : List Str} {vs : List Value} {i : Nat} {m : Str → Option Value}, P.Nodup → P[i]? = some x → vs[i]? = some v → kindOf x = some .local →
    bindL kindOf (P.zip vs) m x = some v
  | [], _, _, _, _, h, _, _ => by simp at h
  | _ :: _, [], _, _, _, _, h, _ => by simp at h
  | p :: P, w :: vs, 0, m, nd, h1, h2, hk => by
    simp at h1 h2; subst h1; subst h2
    show bindL kindOf ((p, w) :: P.zip vs) m p = _
    unfold bindL
    rw [bindL_out fun v hv => (List.nodup_cons.mp nd).1 (List.of_mem_zip hv).1, if_pos hk]
    simp
  | p :: P, w :: vs, i + 1, m, nd, h1, h2, hk => by
    show bindL kindOf ((p, w) :: P.zip vs) m x = _
    unfold bindL
    exact bindL_get (i := i) (List.nodup_cons.mp nd).2 (by simpa using h1) (by simpa using h2) hk
theorem bindC_get {kindOf : Str → Option NameKind} {x : Str} {v : Value} : ∀ {P : List Str} {vs : List Value} {i : Nat} {m : Str → Option Value}, P.Nodup → P[i]? = some x → vs[i]? = some v → kindOf x ≠ some .local →
    bindC kindOf (P.zip vs) m x = some v
  | [], _, _, _, _, h, _, _ => by simp at h
  | _ :: _, [], _, _, _, _, h, _ => by simp at h
  | p :: P, w :: vs, 0, m, nd, h1, h2, hk => by
    simp at h1 h2; subst h1; subst h2
    show bindC kindOf ((p, w) :: P.zip vs) m p = _
    unfold bindC
    rw [bindC_out fun v hv => (List.nodup_cons.mp nd).1 (List.of_mem_zip hv).1, if_neg hk]
    simp
  | p :: P, w :: vs, i + 1, m, nd, h1, h2, hk => by
    show bindC kindOf ((p, w) :: P.zip vs) m x = _
    unfold bindC
    exact bindC_get (i := i) (List.nodup_cons.mp nd).2 (by simpa using h1) (by simpa using h2) hk

/-- the names' values at the entry -/
def start (N : List Str) (vs : List V) : St := vs.map some ++ List.replicate (N.length - vs.length) none

/-- the context of a def's body, at its entry; an exception leaves the frame, then lies as CX says -/
def cxOf (CX : CXT) (P : Program) (w : World) (K : PySem.W.Frag) (mg : Str → Option Value) (base : Heap) (N : List Str) (qual : Str) (scope : Scope) (f : Addr) (cd : Value) (A : Around) (outer : List Env) (s : Shared) (H : Hp) (E : XK) : Cx where
  prog := P
  w := w
  K := K
  mg := mg
  base := base
  A := A.deeper (envOfC qual scope s.heap.objs.size f cd)
  N := N
  s₀ := s
  H₀ := H
  env := envOfC qual scope s.heap.objs.size f cd
  outer := outer
  stack := envOfC qual scope s.heap.objs.size f cd :: outer
  ex := []
  calm := true
  fn := fun _ => true
  pn := []
  xe := fun e s' => wpAny (model P w) (A.deeper (envOfC qual scope s.heap.objs.size f cd)) (leaving (envOfC qual scope s.heap.objs.size f cd) e) (fun _ s'' => CX outer H s E e s'') (fun e' s'' => CX outer H s E e' s'') s'

theorem cell_has {sc : Scope} {n : Nat} {x : Str} (h : sc.names.lookup x = some .cell) : ∃ c, (cellsFrom n sc.names []).lookup x = some c := by
  have q := PySem.W.cellsFrom_some sc.names n [] (.inl h)
  exact Option.isSome_iff_exists.mp q

theorem inv_start {CX : CXT} {P : Program} {w : World} {K : PySem.W.Frag} {mg : Str → Option Value} {base : Heap} {N ps : List Str} {qual : Str} {scope : Scope} {f : Addr} {cd : Value} {A : Around} {outer : List Env} {s s1 : Shared} {H : Hp} {E : XK} {us : List Value} {vs : List V}
    (S : FnScope N ps scope) (hd : A.handled = none) (e0 : Env0 P w K mg base A outer s H) (hl : vs.length = ps.length) (r : Vals vs us)
    (x : InCallC s s.heap.objs.size (bindL (envOfC qual scope s.heap.objs.size f cd).kindOf (ps.zip us) fun _ => none) (cellsFrom (s.heap.objs.size + 1) scope.names []) (bindC (envOfC qual scope s.heap.objs.size f cd).kindOf (ps.zip us) fun _ => none) s1) :
    Inv (cxOf CX P w K mg base N qual scope f cd A outer s H E) [] (start N vs) H s1 := by
  have hpl : ps.length ≤ N.length := by have := congrArg List.length S.pre; rw [List.length_take] at this; omega
  obtain ⟨h1, tk, rfl, hk⟩ := x.done
  have noA : ∀ b : Addr, b ∉ (cxOf CX P w K mg base N qual scope f cd A outer s H E).ex := fun b z => absurd (show b ∈ ([] : List Addr) from z) (by simp)
  refine ⟨⟨e0.mod, S.kind, rfl, rfl, Nat.le_refl _, fun y z c h1 h2 => ?_, fun y hy => ?_, fun y c _ h => ?_, fun _ => hd, Around.frames_deeper e0.frames, .inr ⟨rfl, rfl⟩, fun b z => absurd z (noA b), e0.bs, e0.bsz, fun b _ _ => noA b, fun b z => absurd z (noA b), e0.funs, e0.frf⟩,
    rfl, e0.bare, Un.kept hk, ⟨_, x.toInCall.ns, fun i y v h1 h2 h3 => ?_⟩, fun y c h => ⟨_, x.cell y c h⟩, e0.hok.fresh (Nat.le_refl _), fun y c h => ?_, fun p hp => absurd (show p ∈ ([] : List (Addr × Obj)) from hp) (by simp), e0.hok.kept hk, ?_⟩
  · exact name_of_addr x.apart (PySem.mem_of_lookup h1) (PySem.mem_of_lookup h2)
  · have hy : scope.names.lookup y = some .cell ∨ scope.names.lookup y = some .free := hy
    rcases hy with hy | hy
    · exact cell_has hy
    · exact absurd rfl (S.nofree _ (PySem.mem_of_lookup hy))
  · exact Nat.le_of_lt (x.above y c (PySem.mem_of_lookup h))
  · have hi : i < vs.length := by
      unfold start at h2
      by_cases hi : i < vs.length
      · exact hi
      · rw [List.getElem?_append_right (by simpa using hi)] at h2
        rw [List.getElem?_replicate] at h2
        split at h2 <;> cases h2
    have ha : vs[i]? = some v := by
      unfold start at h2
      rw [List.getElem?_append_left (by simpa using hi), List.getElem?_map] at h2
      cases e : vs[i]? with
      | none => rw [e] at h2; cases h2
      | some a => rw [e] at h2; cases h2; rfl
    obtain ⟨u, hu, rv⟩ := r.get ha
    have hp : ps[i]? = some y := by
      rw [← S.pre, List.getElem?_take_of_lt (by omega)]; exact h1
    have ndP : ps.Nodup := by rw [← S.pre]; exact S.nd.sublist (List.take_sublist _ _)
    refine ⟨u, rv, ?_⟩
    rcases S.par y (List.mem_of_getElem? hp) with k | k
    · exact .inl ⟨k, bindL_get ndP hp hu k⟩
    · obtain ⟨c, e⟩ := cell_has (n := s.heap.objs.size + 1) k
      refine .inr ⟨.inl k, c, e, ?_⟩
      have q := x.cell y c e
      rw [bindC_get ndP hp hu (by show scope.names.lookup y ≠ _; rw [k]; decide)] at q
      exact q
  · exact e0.hok.fresh (Nat.le_of_lt (x.above y c (PySem.mem_of_lookup h)))
  · unfold start
    show _ = N.length
    rw [List.length_append, List.length_map, List.length_replicate]
    omega

/-- THE RULE: a def (or a method) of the text, by its body. The body's reading t is chosen for each entry; it is run at the parameters' values -/
theorem fn_of {CX : CXT} {P : Program} {w : World} {K : PySem.W.Frag} {mg : Str → Option Value} {base : Heap} {k : Nat} {f : Addr} {name qual : Str} {params : Arguments} {body : List Stmt} {scope : Scope} {dV kV doc pm cdv ct oc : Value} {an od : Option Addr}
    {osl : Array (Option Value)} {N ps : List Str} {sp : Sp} (lk : K.lookup f = some ⟨oc, od, .func (PySem.W.fnOf name qual params body scope dV kV doc pm an cdv ct), osl⟩) (hcd : PySem.W.codeIn K cdv qual = true) (S : FnScope N ps scope)
    (len : ∀ vs H Q E, sp vs H Q E → vs.length = ps.length)
    (hbody : ∀ (A : Around) (outer : List Env) (s : Shared) (H : Hp) (vs : List V) (Q : VK) (E : XK), Room k (A.deeper (envOfC qual scope s.heap.objs.size f cdv)) → sp vs H Q E →
      ∃ t, PSs (cxOf CX P w K mg base N qual scope f cdv A outer s H E) body t ∧ t { nx := fun _ H' => Q .non H', rt := Q } (start N vs) H) :
    FnOk P w K mg base CX (k + 1) f (PySem.W.fnOf name qual params body scope dV kV doc pm an cdv ct) ps sp := by
  refine ⟨len, fun A outer s H args us vs Q E hr e0 hb r hsp => ?_⟩
  have hl := len _ _ _ _ hsp
  have KX : K.In s.heap := e0.mod.kin.keeps fun b o e => (e0.bs b o e).1
  have lim : s.heap.NoLimit := e0.mod.nolimit.keeps fun b o e => (e0.bs b o e).1
  have hkind : ∀ y ∈ ps.zip us, scope.names.lookup y.1 = some .local ∨ (scope.names.lookup y.1 = some .cell ∧ ((cellsFrom (s.heap.objs.size + 1) scope.names []).lookup y.1).isSome = true) := fun ⟨n, v⟩ hy => by
    rcases S.par n (List.of_mem_zip hy).1 with q | q
    · exact .inl q
    · exact .inr ⟨q, PySem.W.cellsFrom_some _ _ _ (.inl q)⟩
  refine codeAny_call_function hr.depth (KX _ _ lk) rfl S.co S.gen rfl (PySem.W.codeRec_of KX hcd) (hb _ _ _ _ ?_)
  refine wpAny_newFunctionEnv_cells S.kind hkind fun env he s1 x => ?_
  subst he
  refine ⟨lim.keeps x.toInCall.keep, codeAny_func ?_⟩
  obtain ⟨t, ht, hq⟩ := hbody A outer s H vs Q E (hr.deeper _) hsp
  have I : Inv (cxOf CX P w K mg base N qual scope f cdv A outer s H E) [] (start N vs) H s1 := inv_start S hr.hd e0 hl r x
  refine wpAny_mono (ht [] s1 (start N vs) H _ I hq) (fun fl s' hs => ?_) fun e s' hs => hs
  have fin : ∀ {σ' : St} {H' : Hp} {v : V} {u : Value}, Inv (cxOf CX P w K mg base N qual scope f cdv A outer s H E) [] σ' H' s' → RelV v u → Q v H' → CE outer P w H s Q u s' :=
    fun {σ' H' v u} J rv q => ⟨v, H', J.os, J.bare, J.base, J.hok, rv, q⟩
  cases fl with
  | ret u =>
    obtain ⟨v, σ', H', J, rv, q⟩ := hs
    exact fin J rv q
  | next =>
    obtain ⟨σ', H', J, q⟩ := hs
    exact fin (v := V.non) (u := Value.none) J rfl q
  | brk =>
    obtain ⟨_, _, _, q⟩ := hs
    exact False.elim q
  | cont =>
    obtain ⟨_, _, _, q⟩ := hs
    exact False.elim q
end L2

namespace L2
open PySem PySem.Spec PyProof.Rows
section
variable {X : Cx} {x : Str} {p pos : Pos} {e : Expr} {es : List Expr} {t : TA} {id T : String} {r : List V → Hp → VK → Prop}

def tCB (r : List V → Hp → VK → Prop) (t : TA) : TE := fun σ H Q => t σ H fun vs H1 => r vs H1 Q
/-- f(e, ..), f a built-in function -/
theorem pe_callB (hc : CallR X (.builtin id) r) (hg : Gl X x) (hm : X.mg x = none) (hv : bootBuiltins x = some (.builtin id)) (ha : PA X (e :: es) t) (hn : x ≠ "__name__" := by decide) (hdb : (x == ("__debug__" : Str)) = false := by decide)
    (he : starEach (e :: es) X.env = (false, eval e X.env) :: starEach es X.env := by rfl) (hpl : (backTo pos (starEach es X.env)).any (·.1) = false := by rfl) : PE X (.Call (.Name x p) (e :: es) [] pos) (tCB r t) := by
  intro pins s σ H Q I h
  refine wpAny_Call_Name_kw (ld_blt I hg hm hv ?_ hn hdb)
  exact PyProof.Rows.callWith_builtin1 (thn (ha pos pins s σ H _ I h) fun us s1 ⟨vs, H1, I1, r1, q1⟩ => hc pins s1 σ H1 vs us Q I1 r1 q1) he hpl
/-- T(e, ..), T a built-in type -/
theorem pe_callTy (hc : CallR X (.type T) r) (hg : Gl X x) (hm : X.mg x = none) (hv : bootBuiltins x = some (.type T)) (ha : PA X (e :: es) t) (hn : x ≠ "__name__" := by decide) (hdb : (x == ("__debug__" : Str)) = false := by decide)
    (he : starEach (e :: es) X.env = (false, eval e X.env) :: starEach es X.env := by rfl) (hpl : (backTo pos (starEach es X.env)).any (·.1) = false := by rfl) : PE X (.Call (.Name x p) (e :: es) [] pos) (tCB r t) := by
  intro pins s σ H Q I h
  refine wpAny_Call_Name_kw (ld_blt I hg hm hv ?_ hn hdb)
  exact PyProof.Rows.callWith_type1 (thn (ha pos pins s σ H _ I h) fun us s1 ⟨vs, H1, I1, r1, q1⟩ => hc pins s1 σ H1 vs us Q I1 r1 q1) he hpl
end
end L2

namespace HT
open PySem PyProof.Rows

section
open PySem.SeqAt
open PySem.AutoSeq1 (wpAny_loadPart')
open PySem.MeetsSeq PySem.MeetsSeq2 PySem.MeetsSeq3

end

section
variable {prog : Program} {w : World} {A : Around} {E : Value → Shared → Prop} {s : Shared}

/-- a slice's bound as a place among n (d where it is left out) -/
def sIx (n d : Nat) : Option Int → Nat
  | none => d
  | some v => if v < 0 then (v + (n : Int)).toNat else min v.toNat n
theorem sIx_none (n d : Nat) : sIx n d none = d := rfl
theorem sIx_nat (n d k : Nat) : sIx n d (some (k : Int)) = min k n := by
  show (if (k : Int) < 0 then ((k : Int) + (n : Int)).toNat else min (k : Int).toNat n) = min k n
  rw [if_neg (by omega), Int.toNat_natCast]
end
end HT

namespace L2
open PySem PySem.Spec PyProof.Rows

abbrev TO := St → Hp → (Option Int → Hp → Prop) → Prop
/-- a slice's part (left out, or an int) -/
def PO (X : Cx) (e : Option Expr) (t : TO) : Prop :=
  ∀ (pins : List (Addr × Obj)) (s : Shared) (σ : St) (H : Hp) (Q : Option Int → Hp → Prop), Inv X pins σ H s → t σ H Q →
    wpAny (model X.prog X.w) X.A (evalPart e X.env) (fun u s' => ∃ o H', Inv X pins σ H' s' ∧ IsPart u o ∧ Q o H') X.xe s
def tNoPart : TO := fun _ H Q => Q none H
def tPart (t : TE) : TO := fun σ H Q => t σ H fun x H1 => ∃ i, x = .int i ∧ Q (some i) H1

section
variable {X : Cx} {e : Expr} {te : TE} {lo hi : Option Expr} {tl th : TO} {pos p2 : Pos}

theorem po_none : PO X none tNoPart := by
  intro pins s σ H Q I h
  rw [evalPart_none]
  exact wpAny_pure ⟨none, H, I, .none, h⟩
theorem po_some (h : PE X e te) : PO X (some e) (tPart te) := by
  intro pins s σ H Q I hw
  rw [evalPart_some]
  refine thn (h pins s σ H _ I hw) fun u s1 ⟨x, H1, I1, r1, q1⟩ => ?_
  obtain ⟨i, rfl, q⟩ := q1
  obtain ⟨t, rfl⟩ := r1
  exact ⟨some i, H1, I1, .int i t, q⟩

/-- what a slice of a value is, by values: the slice object stands at sl -/
def SlR (X : Cx) (r : V → Option Int → Option Int → Hp → VK → Prop) : Prop :=
  ∀ (pins : List (Addr × Obj)) (s : Shared) (σ : St) (H : Hp) (x : V) (v vl vu : Value) (lo hi : Option Int) (sl : Addr) (Q : VK), Inv X pins σ H s → RelV x v → s.heap.IsSliceOf sl vl vu .none → IsPart vl lo → IsPart vu hi → r x lo hi H Q →
    ∃ T id, typeLookup (.type T) "__getitem__" = pure (some (.builtin id)) ∧ s.TypeIs v T ∧ wpAny (model X.prog X.w) X.A (getItem v (.ref sl)) (EP X pins σ Q) X.xe s
def tSl (r : V → Option Int → Option Int → Hp → VK → Prop) (te : TE) (tl th : TO) : TE := fun σ H Q => te σ H fun x H1 => tl σ H1 fun l H2 => th σ H2 fun u H3 => r x l u H3 Q
/-- a[lo:hi], any a -/
theorem pe_slice {r : V → Option Int → Option Int → Hp → VK → Prop} (hr : SlR X r) (he : PE X e te) (hl : PO X lo tl) (hu : PO X hi th) : PE X (.Subscript e (.Slice lo hi none p2) pos) (tSl r te tl th) := by
  intro pins s σ H Q I h
  refine Subscript_ (thn (he pins s σ H _ I h) fun v s1 ⟨x, H1, I1, r1, q1⟩ => ?_)
  refine wpAny_Slice (thn (hl pins s1 σ H1 _ I1 q1) fun vl s2 ⟨l, H2, I2, pl, q2⟩ => thn (hu pins s2 σ H2 _ I2 q2) fun vu s3 ⟨u, H3, I3, pu, q3⟩ => ?_)
  rw [evalPart_none]
  refine wpAny_pure ?_
  have I4 : Inv X pins σ H3 { s3 with heap := s3.heap.push { cls := .type "slice", data := .fields #[vl, vu, .none] } } := I3.kept (t' := s3.toks) fun b ob q => Heap.get?_push_of_some _ q
  obtain ⟨T, id, hT, ht, hg⟩ := hr pins { s3 with heap := s3.heap.push { cls := .type "slice", data := .fields #[vl, vu, .none] } } σ H3 x v vl vu l u s3.heap.objs.size Q I4 r1 (Heap.IsSliceOf.new ..) pl pu q3
  show wpAny (model X.prog X.w) X.A (subscriptTail e (.Slice lo hi none p2) v (.ref s3.heap.objs.size)) (EP X pins σ Q) X.xe { s3 with heap := s3.heap.push { cls := .type "slice", data := .fields #[vl, vu, .none] } }
  exact tail_any (ops := [.ref s3.heap.objs.size, v]) ht hT hg (by with_unfolding_all rfl)

/-- the items of xs[lo:hi] -/
def cutV (xs : List V) (lo hi : Option Int) : List V := (xs.drop (HT.sIx xs.length 0 lo)).take (HT.sIx xs.length xs.length hi - HT.sIx xs.length 0 lo)
theorem cutV_length (xs : List V) (lo hi : Option Int) : (cutV xs lo hi).length ≤ xs.length := by
  unfold cutV
  rw [List.length_take, List.length_drop]
  omega
end
end L2

namespace L2
open PySem PySem.Spec PyProof.Rows

/-- the place that an index of any sign means -/
def ixN (n : Nat) (i : Int) : Option Nat := if 0 ≤ i then (if i < n then some i.toNat else none) else if -(n : Int) ≤ i then some (i + n).toNat else none
def atI {α : Type} (xs : List α) (i : Int) : Option α := (ixN xs.length i).bind fun j => xs[j]?
theorem ixN_seq {n : Nat} {i : Int} {j : Nat} (h : ixN n i = some j) : seqIndex? i n = some j ∧ j < n ∧ -(n : Int) ≤ i ∧ i < n := by
  unfold ixN at h
  by_cases h0 : 0 ≤ i
  · rw [if_pos h0] at h
    by_cases h1 : i < n
    · rw [if_pos h1] at h
      have e : i.toNat = j := Option.some.inj h
      exact ⟨by rw [seqIndex_of h0 h1, e], by omega, by omega, h1⟩
    · rw [if_neg h1] at h; cases h
  · rw [if_neg h0] at h
    by_cases h1 : -(n : Int) ≤ i
    · rw [if_pos h1] at h
      have e : (i + n).toNat = j := Option.some.inj h
      exact ⟨by rw [seqIndex_neg (by omega) h1, e], by omega, h1, by omega⟩
    · rw [if_neg h1] at h; cases h
theorem atI_get {α : Type} {xs : List α} {i : Int} {v : α} (h : atI xs i = some v) : ∃ j, seqIndex? i xs.length = some j ∧ xs[j]? = some v ∧ j < xs.length ∧ -(xs.length : Int) ≤ i ∧ i < xs.length := by
  unfold atI at h
  cases e : ixN xs.length i with
  | none => rw [e] at h; cases h
  | some j =>
    rw [e] at h
    obtain ⟨h1, h2, h3, h4⟩ := ixN_seq e
    exact ⟨j, h1, h, h2, h3, h4⟩
theorem atI_nat {α : Type} {xs : List α} {j : Nat} {v : α} (h : xs[j]? = some v) : atI xs (j : Int) = some v := by
  have hj : j < xs.length := (List.getElem?_eq_some_iff.mp h).1
  have e : ixN xs.length (j : Int) = some j := by
    unfold ixN
    rw [if_pos (by omega), if_pos (by omega)]; simp
  unfold atI; rw [e]; exact h
/-- what stands as an index of a plain subscript -/
def PlainIx (b : Expr) : Prop := ∀ o i, subscripted b false o i = operate [o, i] (getItem o i)
/-- a subscript by values -/
def IxR (X : Cx) (r : R2) : Prop :=
  ∀ (value slice : Expr) (pins : List (Addr × Obj)) (s : Shared) (σ : St) (H : Hp) (x y : V) (v u : Value) (Q : VK), Inv X pins σ H s → RelV x v → RelV y u → r x y H Q →
    subscripted slice false v u = operate [v, u] (getItem v u) → wpAny (model X.prog X.w) X.A (subscriptTail value slice v u) (EP X pins σ Q) X.xe s
/-- a call of a builtin's method by values: the receiver, the arguments -/
def MtR (X : Cx) (id : String) (r : V → List V → Hp → VK → Prop) : Prop :=
  ∀ (pins : List (Addr × Obj)) (s : Shared) (σ : St) (H : Hp) (x : V) (xs : List V) (v : Value) (us : List Value) (Q : VK), Inv X pins σ H s → RelV x v → Vals xs us → r x xs H Q →
    wpAny (model X.prog X.w) X.A (call (.builtin id) (v :: us)) (EP X pins σ Q) X.xe s
section
variable {X : Cx} {a b : Expr} {ta tb : TE} {pos : Pos}
/-- a[b] -/
theorem pe_ix {r : R2} (hr : IxR X r) (ha : PE X a ta) (hb : PE X b tb) (hs : PlainIx b) : PE X (.Subscript a b pos) (tOp r ta tb) := by
  intro pins s σ H Q I h
  exact Subscript_ (binT ha hb I h fun v u s2 x y H2 I2 rx ry q => hr a b pins s2 σ H2 x y v u Q I2 rx ry q (hs _ _))

def rIxL (K : PySem.W.Frag) : R2 := fun x y H Q => ∃ p xs i v, x = .ref p ∧ y = .int i ∧ SqL K H p xs ∧ atI xs i = some v ∧ Q v H
def rIxT (K : PySem.W.Frag) : R2 := fun x y H Q => ∃ p xs i v, x = .ref p ∧ y = .int i ∧ SqT K H p xs ∧ atI xs i = some v ∧ Q v H
theorem ix_list : IxR X (rIxL X.K) := by
  intro value slice pins s σ H x y v u Q I rx ry h hs
  obtain ⟨p, xs, i, z, rfl, rfl, hq, he, q⟩ := h
  cases rx
  obtain ⟨t, rfl⟩ := ry
  obtain ⟨its, r, pl, hz⟩ := I.list hq
  obtain ⟨j, h1, h2, h3, h4, h5⟩ := atI_get he
  obtain ⟨w, ew, rw'⟩ := r.get h2
  have hl := r.length
  have hn := line63
  have fin : EP X pins σ Q w s := ⟨z, H, I, rw', q⟩
  by_cases h0 : 0 ≤ i
  · have hj : i.toNat = j := by
      rw [seqIndex_of h0 h5] at h1
      exact Option.some.inj h1
    exact item_listR pl.isList h0 (by omega) (by rw [hj]; simpa using ew) fin hs
  · have hj : (i + (its.toArray.size : Int)).toNat = j := by
      rw [seqIndex_neg (by omega) h4] at h1
      rw [List.size_toArray, ← hl]
      exact Option.some.inj h1
    exact subscriptTail_builtinR (x := w) pl.isList.typeIs slot_list_getitem.lookup
      (wpAny_getItem_list_neg (Q := fun r s' => r = w ∧ EP X pins σ Q r s') pl.isList (by omega) (by rw [List.size_toArray] <;> omega) (by omega) (by rw [hj]; simpa using ew) ⟨rfl, fin⟩) hs
theorem ix_tup : IxR X (rIxT X.K) := by
  intro value slice pins s σ H x y v u Q I rx ry h hs
  obtain ⟨p, xs, i, z, rfl, rfl, hq, he, q⟩ := h
  cases rx
  obtain ⟨t, rfl⟩ := ry
  obtain ⟨its, r, pl, hz⟩ := I.tuple hq
  obtain ⟨j, h1, h2, h3, h4, h5⟩ := atI_get he
  obtain ⟨w, ew, rw'⟩ := r.get h2
  have hl := r.length
  have hn := line63
  have fin : EP X pins σ Q w s := ⟨z, H, I, rw', q⟩
  exact subscriptTail_builtinR (x := w) pl.typeIs slot_tuple_getitem.lookup
    (getItem_tuple (j := j) (Q := fun r s' => r = w ∧ EP X pins σ Q r s') pl (by omega) (by omega) (by rw [List.size_toArray, ← hl]; exact h1) (by simpa using ew) ⟨rfl, fin⟩) hs
/-- the list's object behind a store -/
theorem mapSeq_set (its : List Value) (n j : Nat) (u : Value) : Obj.mapSeq (·.setIfInBounds j u) { cls := .type "list", data := .seq its.toArray n } = { cls := .type "list", data := .seq (its.set j u).toArray n } := by
  simp [Obj.mapSeq]
theorem Inv.lst {pins : List (Addr × Obj)} {σ : St} {H : Hp} {s : Shared} {p : Addr} {xs : List V} (I : Inv X pins σ H s) (h : H p = some (.lst xs)) :
    ∃ (its : List Value) (n : Nat), Vals xs its ∧ s.heap.get? p = some { cls := .type "list", data := .seq its.toArray n } ∧ xs.length ≤ sizeLine := by
  obtain ⟨z, its, n, r, e⟩ := I.hok p _ h
  exact ⟨its, n, r, e, z⟩
/-- the list at p is written by an update of its object -/
theorem Inv.lstUpd {pins : List (Addr × Obj)} {σ : St} {H : Hp} {s : Shared} {p : Addr} {xs ys : List V} {its its' : List Value} {n n' : Nat} {f : Obj → Obj} (I : Inv X pins σ H s) (h : H p = some (.lst xs))
    (ho : s.heap.get? p = some { cls := .type "list", data := .seq its.toArray n }) (hf : f { cls := .type "list", data := .seq its.toArray n } = { cls := .type "list", data := .seq its'.toArray n' }) (r : Vals ys its') (hz : ys.length ≤ sizeLine) (t : Nat) :
    Inv X pins σ (upd H p (.lst ys)) { s with heap := s.heap.update p f, toks := t } := by
  have e : (s.heap.update p f).get? p = some { cls := .type "list", data := .seq its'.toArray n' } := by
    rw [Heap.get?_update_self f ho (by rw [hf] <;> rfl), hf]
  refine I.write (x := p) (e := p) (by rw [h]; trivial) (.inl rfl) (fun b u hb q => (Heap.get?_update_other _ _ (Ne.symm hb)).trans q) ⟨_, e⟩ ?_
  exact ⟨hz, its', n', r, e⟩
def rSetL : V → V → V → Hp → (Hp → Prop) → Prop := fun o i v H Q => ∃ p xs k j, o = .ref p ∧ i = .int k ∧ H p = some (.lst xs) ∧ ixN xs.length k = some j ∧ Q (upd H p (.lst (xs.set j v)))
theorem set_list : PSet X rSetL := by
  intro pins s σ H o i v ov iv u Q I ro ri rv h
  obtain ⟨p, xs, k, j, rfl, rfl, hp, hj, q⟩ := h
  cases ro
  obtain ⟨t, rfl⟩ := ri
  obtain ⟨its, n, r, ho, hz⟩ := I.lst hp
  obtain ⟨h1, h2, h3, h4⟩ := ixN_seq hj
  have hl := r.length
  have hn := line63
  have I' : Inv X pins σ (upd H p (.lst (xs.set j v))) { s with heap := s.heap.update p (Obj.mapSeq (·.setIfInBounds j u)) } :=
    I.lstUpd hp ho (mapSeq_set its n j u) (r.set rv j) (by rw [List.length_set]; exact hz) s.toks
  by_cases h0 : 0 ≤ k
  · have hk : k.toNat = j := by
      rw [seqIndex_of h0 h4] at h1
      exact Option.some.inj h1
    exact PySem.W.ki_setAt ho h0 (by omega) (by rw [List.size_toArray, ← hl]; exact h4) (by rw [hk]; exact ⟨_, I', q⟩)
  · have hk : (k + (its.toArray.size : Int)).toNat = j := by
      rw [seqIndex_neg (by omega) h3] at h1
      rw [List.size_toArray, ← hl]
      exact Option.some.inj h1
    exact PySem.W.ki_setBack ho (by omega) (by rw [List.size_toArray, ← hl]; exact h3) (by omega) (by rw [hk]; exact ⟨_, I', q⟩)

theorem slice_bounds (lo hi : Option Int) (n : Nat) : (sliceBounds lo hi none n).1 = ((HT.sIx n 0 lo : Nat) : Int) ∧ (sliceBounds lo hi none n).2.1 = ((HT.sIx n n hi : Nat) : Int) ∧ (sliceBounds lo hi none n).2.2 = 1 := by
  refine ⟨?_, ?_, rfl⟩
  · cases lo with
    | none => simp [sliceBounds, HT.sIx]
    | some i =>
      simp only [sliceBounds, HT.sIx, Option.getD_none, show (1 : Int) > 0 by decide, if_true]
      by_cases h : i < 0
      · simp only [h, if_true] <;> omega
      · simp only [h, if_false] <;> omega
  · cases hi with
    | none => simp [sliceBounds, HT.sIx]
    | some i =>
      simp only [sliceBounds, HT.sIx, Option.getD_none, show (1 : Int) > 0 by decide, if_true]
      by_cases h : i < 0
      · simp only [h, if_true] <;> omega
      · simp only [h, if_false] <;> omega
theorem slicePick_cut (its : List Value) (lo hi : Option Int) : slicePick its.toArray lo hi none = ((its.drop (HT.sIx its.length 0 lo)).take (HT.sIx its.length its.length hi - HT.sIx its.length 0 lo)).toArray := by
  obtain ⟨h1, h2, h3⟩ := slice_bounds lo hi its.toArray.size
  unfold slicePick
  rw [h1, h2, h3]
  simp only [sliceRange_one, pick_run, List.size_toArray] <;> rfl
/-- xs[lo:hi] of a list: a new list -/
def rSlL (K : PySem.W.Frag) : V → Option Int → Option Int → Hp → VK → Prop := fun x lo hi H Q => ∃ a xs, x = .ref a ∧ SqL K H a xs ∧ ∀ p, H p = none → Q (.ref p) (upd H p (.lst (cutV xs lo hi)))
theorem sl_list : SlR X (rSlL X.K) := by
  intro pins s σ H x v vl vu lo hi sl Q I rx hs pl pu h
  obtain ⟨a, xs, rfl, hx, q⟩ := h
  cases rx
  obtain ⟨its, r, ht, hz⟩ := I.list hx
  have hlen := r.length
  refine ⟨"list", _, slot_list_getitem.lookup, ht.isList.typeIs, ?_⟩
  refine wpAny_getItem_list_slice ht.isList hs pl pu .none (by simp) ?_ (by rw [List.size_toArray] <;> omega)
  rw [slicePick_cut, ← hlen]
  refine ⟨.ref s.heap.objs.size, _, I.laid (t' := s.toks) (o := .lst (cutV xs lo hi)) (fun b ob q => Heap.get?_push_of_some _ q) (Nat.le_refl _) ?_, rfl, q _ (I.hok.fresh (Nat.le_refl _))⟩
  exact ⟨Nat.le_trans (cutV_length xs lo hi) hz, _, 0, (r.drop (HT.sIx xs.length 0 lo)).take (HT.sIx xs.length xs.length hi - HT.sIx xs.length 0 lo), Heap.get?_push_size _ rfl⟩

def flatV : V → Bool
  | .non => true
  | .bl _ => true
  | .int _ => true
  | .str _ => true
  | _ => false
/-- == of flat values -/
def eqV : V → V → Bool
  | .non, .non => true
  | .bl a, .bl b => a == b
  | .bl a, .int b => (if a then 1 else 0) == b
  | .int a, .bl b => a == (if b then 1 else 0)
  | .int a, .int b => a == b
  | .str a, .str b => a == b
  | _, _ => false
theorem eqAt_V {A : Around} {s : Shared} {y x : V} {u v : Value} (ry : RelV y u) (rx : RelV x v) (fy : flatV y = true) (fx : flatV x = true) : SeqAt.EqAt A s u v (eqV y x) := by
  cases y with
  | non =>
    cases ry
    cases x with
    | non => cases rx; exact SeqAt.EqAt.same _
    | bl b => cases rx; exact SeqAt.EqAt.none_bool b
    | int b => obtain ⟨t, rfl⟩ := rx; exact SeqAt.EqAt.none_int b t
    | str b => obtain ⟨t, rfl⟩ := rx; exact SeqAt.EqAt.none_str b t
    | _ => exact absurd (show false = true from fx) Bool.false_ne_true
  | bl a =>
    cases ry
    cases x with
    | non => cases rx; exact SeqAt.EqAt.bool_none a
    | bl b => cases rx; exact SeqAt.EqAt.bool_bool a b
    | int b => obtain ⟨t, rfl⟩ := rx; exact SeqAt.EqAt.bool_int a b t
    | str b => obtain ⟨t, rfl⟩ := rx; exact SeqAt.EqAt.bool_str a b t
    | _ => exact absurd (show false = true from fx) Bool.false_ne_true
  | int a =>
    obtain ⟨t', rfl⟩ := ry
    cases x with
    | non => cases rx; exact SeqAt.EqAt.int_none a t'
    | bl b => cases rx; exact SeqAt.EqAt.int_bool a t' b
    | int b => obtain ⟨t, rfl⟩ := rx; exact SeqAt.EqAt.int_int a t' b t
    | str b => obtain ⟨t, rfl⟩ := rx; exact SeqAt.EqAt.int_str a t' b t
    | _ => exact absurd (show false = true from fx) Bool.false_ne_true
  | str a =>
    obtain ⟨t', rfl⟩ := ry
    cases x with
    | non => cases rx; exact SeqAt.EqAt.str_none a t'
    | bl b => cases rx; exact SeqAt.EqAt.str_bool a t' b
    | int b => obtain ⟨t, rfl⟩ := rx; exact SeqAt.EqAt.str_int a t' b t
    | str b => obtain ⟨t, rfl⟩ := rx; exact SeqAt.EqAt.str_str a t' b t
    | _ => exact absurd (show false = true from fx) Bool.false_ne_true
  | _ => exact absurd (show false = true from fy) Bool.false_ne_true
/-- the items' answers, read off the values (a value's own answer does not lean on its token) -/
def eqU (x : V) (u : Value) : Bool := match u with
  | .none => eqV .non x
  | .bool b => eqV (.bl b) x
  | .int i _ => eqV (.int i) x
  | .str z _ => eqV (.str z) x
  | _ => false
theorem eqU_of {x y : V} {u : Value} (r : RelV y u) (f : flatV y = true) : eqU x u = eqV y x := by
  cases y with
  | non => cases r; rfl
  | bl b => cases r; rfl
  | int i => obtain ⟨t, rfl⟩ := r; rfl
  | str z => obtain ⟨t, rfl⟩ := r; rfl
  | _ => exact absurd (show false = true from f) Bool.false_ne_true
theorem any_eqU {x : V} : ∀ {xs : List V} {us : List Value}, Vals xs us → xs.all flatV = true → us.any (eqU x) = xs.any fun y => eqV y x
  | _, _, .nil, _ => rfl
  | y :: xs, u :: us, .cons r t, f => by
    rw [List.all_cons, Bool.and_eq_true] at f
    rw [List.any_cons, List.any_cons, eqU_of r f.1, any_eqU t f.2]
theorem mem_eqAt {A : Around} {s : Shared} {x : V} {v : Value} (rx : RelV x v) (fx : flatV x = true) : ∀ {xs : List V} {us : List Value}, Vals xs us → xs.all flatV = true → ∀ u ∈ us, SeqAt.EqAt A s u v (eqU x u)
  | _, _, .nil, _ => fun u hu => by cases hu
  | y :: xs, u :: us, .cons r t, f => fun u' hu => by
    rw [List.all_cons, Bool.and_eq_true] at f
    rcases List.mem_cons.mp hu with rfl | hu
    · rw [eqU_of r f.1]; exact eqAt_V r rx f.1 fx
    · exact mem_eqAt rx fx t f.2 u' hu
def inV (x : V) (xs : List V) : Bool := xs.any fun y => eqV y x
/-- x in a list or tuple of flat items -/
def rIn (K : PySem.W.Frag) (neg : Bool) : R2 := fun x y H Q => ∃ p xs, y = .ref p ∧ (SqL K H p xs ∨ SqT K H p xs) ∧ flatV x = true ∧ xs.all flatV = true ∧ Q (.bl (if neg then !inV x xs else inV x xs)) H
theorem op_in_seq : OpR X (compareOp .In) (rIn X.K false) := by
  intro pins s σ H x y v u Q I rx ry h
  obtain ⟨p, xs, rfl, hq, fx, fs, q⟩ := h
  cases ry
  rcases hq with hq | hq
  · obtain ⟨its, r, pl, hz⟩ := I.list hq
    refine SeqAt.in_listAt (eqU x) pl.isList (fun w hw => mem_eqAt rx fx r fs w (by simpa using hw)) ⟨.bl _, H, I, rfl, ?_⟩
    rw [show its.toArray.any (eqU x) = its.any (eqU x) by simp, any_eqU r fs]
    exact q
  · obtain ⟨its, r, pl, hz⟩ := I.tuple hq
    refine SeqAt.in_tupleAt (eqU x) pl (fun w hw => mem_eqAt rx fx r fs w (by simpa using hw)) ⟨.bl _, H, I, rfl, ?_⟩
    rw [show its.toArray.any (eqU x) = its.any (eqU x) by simp, any_eqU r fs]
    exact q
theorem op_notIn_seq : OpR X (compareOp .NotIn) (rIn X.K true) := by
  intro pins s σ H x y v u Q I rx ry h
  obtain ⟨p, xs, rfl, hq, fx, fs, q⟩ := h
  cases ry
  rcases hq with hq | hq
  · obtain ⟨its, r, pl, hz⟩ := I.list hq
    refine SeqAt.notIn_listAt (eqU x) pl.isList (fun w hw => mem_eqAt rx fx r fs w (by simpa using hw)) ⟨.bl _, H, I, rfl, ?_⟩
    rw [show its.toArray.any (eqU x) = its.any (eqU x) by simp, any_eqU r fs]
    exact q
  · obtain ⟨its, r, pl, hz⟩ := I.tuple hq
    refine SeqAt.notIn_tupleAt (eqU x) pl (fun w hw => mem_eqAt rx fx r fs w (by simpa using hw)) ⟨.bl _, H, I, rfl, ?_⟩
    rw [show its.toArray.any (eqU x) = its.any (eqU x) by simp, any_eqU r fs]
    exact q
theorem call_len_seq : CallR X (.builtin "len") (fun xs H Q => ∃ p ys, xs = [.ref p] ∧ (SqL X.K H p ys ∨ SqT X.K H p ys) ∧ Q (.int ys.length) H) := by
  intro pins s σ H xs us Q I r h
  obtain ⟨p, ys, rfl, hq, q⟩ := h
  obtain ⟨u, rfl, rx⟩ := vals1 r
  cases rx
  have hn := line63
  rcases hq with hq | hq
  · obtain ⟨its, r', pl, hz⟩ := I.list hq
    have hlen := r'.length
    exact Calls.call_len_list pl.isList (by simp only [List.size_toArray] <;> omega) ⟨.int ys.length, H, I.tok _, ⟨s.toks + 1, by rw [List.size_toArray, hlen]⟩, q⟩
  · obtain ⟨its, r', pl, hz⟩ := I.tuple hq
    have hlen := r'.length
    exact len_tuple pl (by simp only [List.size_toArray] <;> omega) ⟨.int ys.length, H, I.tok _, ⟨s.toks + 1, by rw [List.size_toArray, hlen]⟩, q⟩
theorem call_list_of : CallR X (.type "list") (fun xs H Q => ∃ p ys, xs = [.ref p] ∧ (SqL X.K H p ys ∨ SqT X.K H p ys) ∧ ∀ l, H l = none → Q (.ref l) (upd H l (.lst ys))) := by
  intro pins s σ H xs us Q I r h
  obtain ⟨p, ys, rfl, hq, q⟩ := h
  obtain ⟨u, rfl, rx⟩ := vals1 r
  cases rx
  have fin : ∀ (its : List Value), Vals ys its → ys.length ≤ sizeLine → ∀ (h' : Heap) (c' : Nat), (∀ b o', s.heap.get? b = some o' → h'.get? b = some o') →
      h'.get? s.heap.objs.size = some { cls := .type "list", dict := none, data := .seq its.toArray c', slots := #[] } → EP X pins σ Q (.ref s.heap.objs.size) { s with heap := h' } := fun its r' hz h' c' kp e =>
    ⟨.ref s.heap.objs.size, _, I.laid (t' := s.toks) kp (Nat.le_refl _) (show ObjOk X.prog X.w _ h' _ (.lst ys) from ⟨hz, its, c', r', e⟩), rfl, q _ (I.hok.fresh (Nat.le_refl _))⟩
  rcases hq with hq | hq
  · obtain ⟨its, r', pl, hz⟩ := I.list hq
    have hlen := r'.length
    obtain ⟨o, ho, hc, n, hd⟩ := pl.isList
    exact call_list_seq p (.inl rfl) ho hc hd (fun h' c' kp e => fin its r' hz h' c' kp e) (by simp only [List.size_toArray] <;> omega)
  · obtain ⟨its, r', pl, hz⟩ := I.tuple hq
    have hlen := r'.length
    obtain ⟨o, ho, hc, n, hd⟩ := pl
    exact call_list_seq p (.inr rfl) ho hc hd (fun h' c' kp e => fin its r' hz h' c' kp e) (by simp only [List.size_toArray] <;> omega)
/-- the value is of that builtin type -/
def tyV (K : PySem.W.Frag) (T : String) (x : V) (H : Hp) : Prop := match x with
  | .str _ => T = "str"
  | .int _ => T = "int"
  | .ref p => (T = "list" ∧ ∃ xs, SqL K H p xs) ∨ (T = "tuple" ∧ ∃ o, K.lookup p = some o ∧ o.cls = .type "tuple" ∧ o.dict = none) ∨
      (T = "dict" ∧ ((∃ kvs, H p = some (.dK kvs)) ∨ ∃ kvs, H p = some (.dT kvs))) ∨ (T = "set" ∧ ∃ S n, H p = some (.set S n))
  | _ => False
theorem tyV_is {pins : List (Addr × Obj)} {σ : St} {H : Hp} {s : Shared} {T : String} {x : V} {v : Value} (I : Inv X pins σ H s) (r : RelV x v) (ty : tyV X.K T x H) :
    s.TypeIs v T ∧ ∀ a, v = .ref a → ∃ ob, s.heap.get? a = some ob ∧ ob.dict = none := by
  cases x with
  | str z =>
    obtain ⟨t, rfl⟩ := r
    cases (show T = "str" from ty)
    exact ⟨typeIs_str s z t, fun _ e => nomatch e⟩
  | int i =>
    obtain ⟨t, rfl⟩ := r
    cases (show T = "int" from ty)
    exact ⟨typeIs_int s i t, fun _ e => nomatch e⟩
  | ref p =>
    cases r
    rcases ty with ⟨rfl, xs, hq⟩ | ⟨rfl, o, hk, hc, hd⟩ | ⟨rfl, hk⟩ | ⟨rfl, S, n, hk⟩
    · obtain ⟨its, _, pl, _⟩ := I.list hq
      refine ⟨pl.isList.typeIs, fun a e => ?_⟩
      cases e
      obtain ⟨o, n, e, c, hd, _⟩ := pl
      exact ⟨o, e, hd⟩
    · refine ⟨⟨o, I.kIn p o hk, hc⟩, fun a e => ?_⟩
      cases e
      exact ⟨o, I.kIn _ o hk, hd⟩
    · have z : ∃ o, s.heap.get? p = some o ∧ o.ExactDict := by
        rcases hk with ⟨kvs, hk⟩ | ⟨kvs, hk⟩
        · obtain ⟨_, _, _, _, o, _, _, e, ex, _⟩ := I.hok p _ hk
          exact ⟨o, e, ex⟩
        · obtain ⟨_, _, _, _, o, _, _, e, ex, _⟩ := I.hok p _ hk
          exact ⟨o, e, ex⟩
      obtain ⟨o, e, ex⟩ := z
      refine ⟨⟨o, e, ex.1⟩, fun a e2 => ?_⟩
      cases e2
      exact ⟨o, e, ex.2.1⟩
    · obtain ⟨o, _, _, _, e, ex, _⟩ := I.hok p _ hk
      refine ⟨⟨o, e, ex.1⟩, fun a e2 => ?_⟩
      cases e2
      exact ⟨o, e, ex.2.1⟩
  | _ => exact False.elim ty
def tBM0 (K : PySem.W.Frag) (T : String) (r : V → List V → Hp → VK → Prop) (to : TE) : TE := fun σ H Q => to σ H fun x H1 => tyV K T x H1 ∧ r x [] H1 Q
def tBM (K : PySem.W.Frag) (T : String) (r : V → List V → Hp → VK → Prop) (to : TE) (t : TA) : TE := fun σ H Q => to σ H fun x H1 => tyV K T x H1 ∧ t σ H1 fun xs H2 => r x xs H2 Q
variable {o e : Expr} {es : List Expr} {to : TE} {t : TA} {name : Str} {apos cpos : Pos} {T id : String} {r : V → List V → Hp → VK → Prop}
theorem pe_bm (pa : PlainAttrs T) (slot : Slot T name id) (hty : typeOf (.builtin id) = pure (.type "method_descriptor")) (hm : MtR X id r) (ho : PE X o to) (ha : PA X (e :: es) t)
    (hbase : attributeBase o name X.env (eval o X.env) = eval o X.env := by rfl)
    (hfew : ((backTo cpos (starEach (e :: es) X.env)).all (fun x => !x.1) && (backToKw cpos (keywordEach [] X.env)).all (fun x => x.1.isSome)
      && decide ((e :: es).length + ([] : List Keyword).length + (if ([] : List Keyword).isEmpty then 0 else 1) < 30)) = true := by rfl)
    (hline : (apos.endLine == cpos.line) = true := by rfl) (hs : starEach (e :: es) X.env = (false, eval e X.env) :: starEach es X.env := by rfl) (hplain : (backTo cpos (starEach es X.env)).any (·.1) = false := by rfl) :
    PE X (.Call (.Attribute o name apos) (e :: es) [] cpos) (tBM X.K T r to t) := by
  intro pins s σ H Q I h
  refine wpAny_Call_method_late hbase hfew hline rfl (thn (ho pins s σ H _ I h) fun v s1 ⟨x, H1, I1, r1, ty, q1⟩ => ?_)
  obtain ⟨h1, h2⟩ := tyV_is I1 r1 ty
  refine ⟨T, id, pa, slot, hty, h1, h2, ?_⟩
  have hA := ha cpos pins s1 σ H1 _ I1 q1
  rw [hs] at hA ⊢
  refine Calls.callWith_builtin (by show (false || (backTo cpos (starEach es X.env)).any (·.1)) = false; rw [hplain] <;> rfl) (Calls.evalArgs_plain ?_)
  exact thn hA fun us s2 ⟨vs, H2, I2, r2, q2⟩ => hm pins s2 σ H2 x vs v us Q I2 r1 r2 q2
/- xs.append(e), list.index on a module's tuple .. are MtR facts of 06m -/
end
end L2

namespace L2
open PySem PySem.Spec PyProof.Rows

def MtM (X : Cx) (id : String) (r : V → List V → Hp → VK → Prop) : Prop :=
  ∀ (pins : List (Addr × Obj)) (s : Shared) (σ : St) (H : Hp) (x : V) (xs : List V) (v : Value) (us : List Value) (Q : VK), Inv X pins σ H s → RelV x v → Vals xs us → r x xs H Q →
    wpAny (model X.prog X.w) X.A (call (.builtin id) (v :: us)) (EP X pins σ Q) X.xe s

theorem Vals.one : ∀ {x : V} {us : List Value}, Vals [x] us → ∃ u, us = [u] ∧ RelV x u
  | _, _, .cons r .nil => ⟨_, rfl, r⟩
theorem Vals.two : ∀ {x y : V} {us : List Value}, Vals [x, y] us → ∃ u v, us = [u, v] ∧ RelV x u ∧ RelV y v
  | _, _, _, .cons r (.cons q .nil) => ⟨_, _, rfl, r, q⟩
theorem Vals.eraseIdx : ∀ {xs : List V} {us : List Value} (i : Nat), Vals xs us → Vals (xs.eraseIdx i) (us.eraseIdx i)
  | _, _, _, .nil => .nil
  | _, _, 0, .cons _ t => t
  | _, _, i + 1, .cons r t => .cons r (Vals.eraseIdx i t)
theorem Vals.reverse {xs : List V} {us : List Value} (h : Vals xs us) : Vals xs.reverse us.reverse := by
  induction h with
  | nil => exact .nil
  | cons r t ih => rw [List.reverse_cons, List.reverse_cons]; exact Vals.append ih (.cons r .nil)
theorem Vals.rep {xs : List V} {us : List Value} (h : Vals xs us) : ∀ k : Nat, Vals (List.replicate k xs).flatten (List.replicate k us).flatten
  | 0 => .nil
  | k + 1 => by
    rw [List.replicate_succ, List.replicate_succ, List.flatten_cons, List.flatten_cons]
    exact Vals.append h (Vals.rep h k)
theorem len_erase {α : Type} : ∀ (l : List α) (i : Nat), (l.eraseIdx i).length ≤ l.length
  | [], _ => Nat.le_refl _
  | _ :: _, 0 => Nat.le_succ _
  | _ :: r, i + 1 => Nat.succ_le_succ (len_erase r i)
theorem foldl_rep (its : List Value) : ∀ (k : Nat) (acc : List Value),
    List.foldl (fun x1 x2 => x1 ++ x2) acc.toArray (List.replicate k its.toArray) = (acc ++ (List.replicate k its).flatten).toArray
  | 0, acc => by simp
  | k + 1, acc => by
    have e : acc.toArray ++ its.toArray = (acc ++ its).toArray := by simp
    have e2 : (acc ++ its) ++ (List.replicate k its).flatten = acc ++ (List.replicate (k + 1) its).flatten := by
      rw [List.replicate_succ, List.flatten_cons, List.append_assoc]
    rw [← e2, ← foldl_rep its k (acc ++ its), ← e, List.replicate_succ, List.foldl_cons]

section
variable {X : Cx} {pins : List (Addr × Obj)} {σ : St} {H : Hp} {s : Shared} {l b : Addr} {xs ys zs : List V}

theorem Inv.lset {its its' : List Value} {n : Nat} {f : Array Value → Array Value} {t' : Nat} (I : Inv X pins σ H s) (hH : H l = some (.lst xs))
    (e : s.heap.get? l = some { cls := .type "list", data := .seq its.toArray n }) (hf : f its.toArray = its'.toArray) (hv : Vals ys its') (hz : ys.length ≤ sizeLine) :
    Inv X pins σ (upd H l (.lst ys)) { s with heap := s.heap.update l (Obj.mapSeq f), toks := t' } := by
  have q := PySem.IsL.update e f
  rw [hf] at q
  refine I.write (x := l) (e := l) (by rw [hH]; exact trivial) (.inl rfl) (fun b' u hb hu => (Heap.get?_update_other s.heap (Obj.mapSeq f) (Ne.symm hb)).trans hu) ⟨_, q⟩ ?_
  exact ⟨hz, its', _, hv, q⟩
theorem Inv.lnew {its : List Value} {t' : Nat} (I : Inv X pins σ H s) (hv : Vals ys its) (hz : ys.length ≤ sizeLine) :
    Inv X pins σ (upd H s.heap.objs.size (.lst ys)) { s with heap := s.heap.push { cls := .type "list", data := .seq its.toArray }, toks := t' } :=
  I.laid (fun _ _ q => Heap.get?_push_of_some _ q) (Nat.le_refl _) ⟨hz, its, 0, hv, Heap.get?_push_size _ rfl⟩
theorem Inv.fresh (I : Inv X pins σ H s) : H s.heap.objs.size = none := I.hok.fresh (Nat.le_refl _)
theorem Inv.lstM (I : Inv X pins σ H s) (hH : H l = some (.lst xs)) : xs.length ≤ sizeLine ∧ ∃ (its : List Value) (n : Nat), Vals xs its ∧ xs.length = its.length ∧ s.heap.get? l = some { cls := .type "list", data := .seq its.toArray n } := by
  obtain ⟨z, its, n, r, e⟩ := I.hok l _ hH
  exact ⟨z, its, n, r, r.length, e⟩

theorem notLongL {n : Nat} (h : n ≤ sizeLine) : Builtin.List.listTooLong n = false := by
  unfold Builtin.List.listTooLong
  exact decide_eq_false (by omega)
end

section
variable {X : Cx}

def rAppend : V → List V → Hp → VK → Prop := fun x vs H Q => ∃ l xs y, x = .ref l ∧ vs = [y] ∧ H l = some (.lst xs) ∧ xs.length < sizeLine ∧ Q .non (upd H l (.lst (xs ++ [y])))
theorem mt_append : MtM X "list.append" rAppend := by
  intro pins s σ H x vs v us Q I rx rv h
  obtain ⟨l, xs, y, rfl, rfl, hH, hz, q⟩ := h
  cases rx
  obtain ⟨u, rfl, ru⟩ := rv.one
  obtain ⟨z, its, n, r, hl, e⟩ := I.lstM hH
  refine call_meets F.slot_list_append ⟨_, e, rfl⟩ F.entry_list_append (F.args_list_append_2 _ _) (PySem.list_append l its.toArray n u (by rw [List.size_toArray]; omega)) ⟨e, ?_⟩
  refine ⟨.non, _, I.lset (its' := its ++ [u]) hH e (by simp) (r.append (.cons ru .nil)) ?_, rfl, q⟩
  rw [List.length_append, List.length_singleton]
  omega

def rExtend : V → List V → Hp → VK → Prop := fun x vs H Q => ∃ l b xs zs, x = .ref l ∧ vs = [.ref b] ∧ H l = some (.lst xs) ∧ H b = some (.lst zs) ∧ xs.length + zs.length ≤ sizeLine ∧ Q .non (upd H l (.lst (xs ++ zs)))
theorem mt_extend : MtM X "list.extend" rExtend := by
  intro pins s σ H x vs v us Q I rx rv h
  obtain ⟨l, b, xs, zs, rfl, rfl, hH, hB, hz, q⟩ := h
  cases rx
  obtain ⟨u, rfl, ru⟩ := rv.one
  cases ru
  obtain ⟨z, its, n, r, hl, e⟩ := I.lstM hH
  obtain ⟨z2, its2, n2, r2, hl2, e2⟩ := I.lstM hB
  have hsz : its.toArray.size + its2.toArray.size ≤ sizeLine := by rw [List.size_toArray, List.size_toArray]; omega
  have hlong : ¬ (!its.toArray.isEmpty && Builtin.List.listTooLong (its.toArray.size + its2.toArray.size)) = true := by
    rw [notLongL hsz, Bool.and_false]
    exact Bool.false_ne_true
  refine call_meets F.slot_list_extend ⟨_, e, rfl⟩ F.entry_list_extend (F.args_list_extend_2 _ _)
    (AutoSeq1.list_extend_list_list_0 l its.toArray n b its2.toArray n2 hlong (by rw [List.size_toArray]; omega) (by omega)) ⟨e, e2, ?_⟩
  refine ⟨.non, _, I.lset (its' := its ++ its2) hH e (by simp) (r.append r2) ?_, rfl, q⟩
  rw [List.length_append]
  omega

def rPopAt : V → List V → Hp → VK → Prop := fun x vs H Q => ∃ l xs i k y, x = .ref l ∧ vs = [.int i] ∧ H l = some (.lst xs) ∧ -(2 ^ 63) ≤ i ∧ i < 2 ^ 63 ∧ seqIndex? i xs.length = some k ∧ xs[k]? = some y ∧ Q y (upd H l (.lst (xs.eraseIdx k)))
theorem mt_popAt : MtM X "list.pop" rPopAt := by
  intro pins s σ H x vs v us Q I rx rv h
  obtain ⟨l, xs, i, k, y, rfl, rfl, hH, h1, h2, hk, hy, q⟩ := h
  cases rx
  obtain ⟨u, rfl, ru⟩ := rv.one
  obtain ⟨t, rfl⟩ := ru
  obtain ⟨z, its, n, r, hl, e⟩ := I.lstM hH
  obtain ⟨w, hw, rw'⟩ := r.get hy
  refine call_meets F.slot_list_pop ⟨_, e, rfl⟩ F.entry_list_pop (F.args_list_pop_2 _ _)
    (MeetsSeq.list_pop_at l its.toArray n i t k w (fitsIndex_both h1 h2) (by rw [List.size_toArray, ← hl]; exact hk) (by rw [← Array.getElem?_toList]; exact hw) (by rw [List.size_toArray]; omega)) ⟨e, ?_⟩
  refine ⟨y, _, I.lset (its' := its.eraseIdx k) hH e ?_ (r.eraseIdx k) ?_, rw', q⟩
  · show its.toArray.eraseIdxIfInBounds k = (its.eraseIdx k).toArray
    rw [List.eraseIdxIfInBounds_toArray]
  · have := len_erase xs k
    omega

def rClear : V → List V → Hp → VK → Prop := fun x vs H Q => ∃ l xs, x = .ref l ∧ vs = [] ∧ H l = some (.lst xs) ∧ Q .non (upd H l (.lst []))
def rCat : R2 := fun x y H Q => ∃ l b xs zs, x = .ref l ∧ y = .ref b ∧ H l = some (.lst xs) ∧ H b = some (.lst zs) ∧ xs.length + zs.length ≤ sizeLine ∧ ∀ p, H p = none → Q (.ref p) (upd H p (.lst (xs ++ zs)))
theorem op_cat : OpR X (binaryOp .Add) rCat := by
  intro pins s σ H x y v u Q I rx ry h
  obtain ⟨l, b, xs, zs, rfl, rfl, hH, hB, hz, q⟩ := h
  cases rx
  cases ry
  obtain ⟨z, its, n, r, hl, e⟩ := I.lstM hH
  obtain ⟨z2, its2, n2, r2, hl2, e2⟩ := I.lstM hB
  refine PySem.P.add_list e e2 ?_ (by rw [List.size_toArray, List.size_toArray]; omega)
  have ea : its.toArray ++ its2.toArray = (its ++ its2).toArray := by simp
  rw [ea]
  exact ⟨.ref _, _, I.lnew (t' := s.toks) (r.append r2) (by rw [List.length_append]; omega), rfl, q _ I.fresh⟩
/-- a list times an int (a negative one is nothing) -/
def rRep : R2 := fun x y H Q => ∃ l k xs, x = .ref l ∧ y = .int k ∧ H l = some (.lst xs) ∧ -(2 ^ 63) ≤ k ∧ k < 2 ^ 63 ∧ xs.length * k.toNat ≤ sizeLine ∧
  ∀ p, H p = none → Q (.ref p) (upd H p (.lst (List.replicate k.toNat xs).flatten))
theorem len_rep {α : Type} (xs : List α) (k : Nat) : (List.replicate k xs).flatten.length = k * xs.length := by
  induction k with
  | zero => simp
  | succ k ih => rw [List.replicate_succ, List.flatten_cons, List.length_append, ih, Nat.succ_mul, Nat.add_comm]
theorem op_rep : OpR X (binaryOp .Mult) rRep := by
  intro pins s σ H x y v u Q I rx ry h
  obtain ⟨l, k, xs, rfl, rfl, hH, h1, h2, hz, q⟩ := h
  cases rx
  obtain ⟨t, rfl⟩ := ry
  obtain ⟨z, its, n, r, hl, e⟩ := I.lstM hH
  have hlen : its.toArray.size * k.toNat ≤ sizeLine := by rw [List.size_toArray, ← hl]; exact hz
  have hcap : ¬ its.toArray.size * k.toNat > (2 ^ 63 - 1) / 8 := by
    have : (sizeLine : Nat) ≤ (2 ^ 63 - 1) / 8 := by decide
    omega
  have hfit : ¬ (!Builtin.List.listFitsIndex k) = true := by
    rw [fitsIndex_both h1 h2]
    exact Bool.false_ne_true
  have hlong : ¬ Builtin.List.listTooLong (its.toArray.size * k.toNat) = true := by
    rw [notLongL hlen]
    exact Bool.false_ne_true
  have hnew : List.foldl (fun x1 x2 => x1 ++ x2) #[] (List.replicate (if its.toArray.isEmpty = true then 0 else k.toNat) its.toArray) = (List.replicate k.toNat its).flatten.toArray := by
    have f0 : ∀ m : Nat, List.foldl (fun x1 x2 => x1 ++ x2) #[] (List.replicate m its.toArray) = (List.replicate m its).flatten.toArray := fun m => by
      have := foldl_rep its m []
      rw [List.nil_append] at this
      exact this
    rw [f0]
    cases its with
    | nil => simp
    | cons a r' => rw [if_neg (by simp)]
  refine wpAny_binaryOp_repeat_ref (T := "list") (U := "int") (by decide) ⟨_, e, rfl⟩ (fun s' => typeIs_int s' k t) noFill_list_mul F.fills_int_mul F.slot_int_rmul repeat_list F.slot_int_index.lookup
    (call_meets F.slot_int_rmul (typeIs_int s k t) F.entry_int_rmul (F.args_int_rmul_2 _ _) (int___rmul___int_list k t l its.toArray n)
      ⟨e, rfl, ⟨_, e, rfl⟩, call_meets F.slot_list_mul ⟨_, e, rfl⟩ F.entry_list_mul (F.args_list_mul_2 _ _) (AutoListH.list___mul___list_int_3 l its.toArray n k t hfit hcap hlong) ⟨e, ?_⟩⟩)
  rw [hnew]
  exact ⟨.ref _, _, I.lnew (t' := s.toks) (r.rep k.toNat) (by rw [len_rep, Nat.mul_comm]; exact hz), rfl, q _ I.fresh⟩

end

section
variable {prog : Program} {w : World} {A : Around} {E : Value → Shared → Prop} {s : Shared}
end

section
variable {X : Cx}
end
end L2

namespace Att
open PySem PySem.W PySem.Calls PyProof.Rows

theorem ints_of_wellAll {P : Params} {h : Heap} : ∀ (ns : List Int) (vs : List Value), WellAll P h vs (ns.map WData.int) → IntsAre vs ns := by
  intro ns
  induction ns with
  | nil =>
    intro vs w
    rw [List.map_nil] at w
    cases w
    exact .nil
  | cons n ns ih =>
    intro vs w
    rw [List.map_cons] at w
    cases w with
    | cons a b =>
      cases a
      exact .cons _ _ (ih _ b)

theorem script_of {l : OpenLaw} {n : Nat} (hn : l.most = some n) {P : Params} {h : Heap} {args : List WData} {vals : List Value}
    (hpre : l.row.toRowW.claim.pre args = true) (hwl : WellAll P h vals args) :
    ∃ a vs ns, vals = [Value.ref a] ∧ args = [WData.list (ns.map WData.int)] ∧ h.get? a = some { cls := .type "list", data := .seq vs.toArray } ∧ IntsAre vs ns ∧ ns.length ≤ n := by
  have hsh : WShape.hasAll [] args [.list .int] = true := (pre_splitW hpre).1
  have hc : l.pre.holds [] { args := args } = true := (pre_splitW hpre).2
  obtain ⟨d, r, rfl, h1, h2⟩ := hasAllW_cons hsh
  obtain rfl := hasAllW_nil h2
  obtain ⟨xs, rfl, h3⟩ := hasW_list h1
  obtain ⟨ns, rfl⟩ := items_int h3
  have hlen : ns.length ≤ n := by
    unfold OpenLaw.pre at hc
    have h4 : (WTm.not (.lt (.lit (.int (n : Int))) (.len (.arg 0)))).holds [] { args := [.list (ns.map .int)] } = true := by
      have h4 := (holds_andW hc).1
      rw [hn] at h4
      exact h4
    have h5 := condW_of h4 (w_not (w_lt w_lit (w_len_list (w_arg rfl))))
    rw [List.length_map] at h5
    refine Nat.le_of_not_lt fun q => ?_
    have q' : (n : Int) < ((ns.length : Nat) : Int) := by omega
    first
      | (rw [decide_eq_true q'] at h5; exact absurd h5 (by decide))
      | (simp at h5; omega)
  cases hwl with
  | cons w1 w2 =>
    cases w2
    cases w1 with
    | list ho hall => exact ⟨_, _, ns, rfl, rfl, ho, ints_of_wellAll ns _ hall, hlen⟩

theorem post_true (l : OpenLaw) (args : List WData) : l.row.toRowW.claim.post args (.bool true) args = true :=
  postW_of (r := l.row.toRowW) (X := (true == true))
    (show WShape.has [] (.bool true) .bool = true by first | rfl | decide | simp [WShape.has, WShape.arms, WShape.armsAll])
    (show (WTm.eq .res (.lit (.bool true))).value [] { args := args, res := some (.bool true), after := args } = some (.bool (true == true)) from w_eq_bool (w_res rfl) w_lit) rfl

/-- the same from a codeAny of the CALL (for a layer whose function contracts speak of calls) -/
theorem attach_call {l : OpenLaw} {n : Nat} {q : Program} {loose : List Str} {XP : (Str → Option Value) → Heap → Prop} {YP : World → Heap → Prop} {d : DefRec}
    (hn : l.most = some n) (hdf : d.params.defaults = [])
    (call : ∀ (w : World) (s₀ s₁ : Shared) (mg mb : Str → Option Value) (fa : Addr) (o : Obj) (pm cd doc : Value) (a : Addr) (vs : List Value) (ns : List Int),
      Ground q loose [] XP w s₀ mg mb s₁.heap → YP w s₁.heap →
      s₁.heap.get? fa = some o → o.data = .func (docDef d.name d.params d.body d.scope pm cd doc) → s₁.heap.CodeRec cd d.name → mg d.name = some (.ref fa) →
      s₁.heap.get? a = some { cls := .type "list", data := .seq vs.toArray } → IntsAre vs ns → ns.length ≤ n → s₁.gens = #[] →
      codeAny (model l.prog w) callerA (.call (.ref fa) ⟨[.ref a], []⟩) (fun r s' => r = .ok (.ret (.bool true)) ∧ OldK s₁.heap s'.heap ∧ s'.os = s₁.os ∧ AllBare s'.gens) s₁) :
    WalkO q loose XP YP l.row.toRowW d [] (fun f vs => PySem.call f vs) := by
  intro w s₀ s₁ mg mb G Y fa o pm cd doc dV kV ho hd hcd hD hmg hg args vals as hpre hlay hrd hwl hlo
  obtain rfl : dV = .none := Dflts.none hD hdf
  obtain rfl : kV = .none := Dflts.noKw hD
  obtain ⟨a, vs, ns, rfl, rfl, hobj, hints, hlen⟩ := script_of hn hpre hwl
  refine enter_call (codeAny_mono (call w s₀ s₁ mg mb fa o pm cd doc a vs ns G Y ho (fd_plain hd) hcd hmg hobj hints hlen hg) fun r s' hq => ?_)
  obtain ⟨rfl, h2, h3, h4⟩ := hq
  exact ⟨.inl ⟨.bool true, .bool true, [], rfl, fun _ => rfl, .bool true, post_true l _, fun _ => ⟨List.Pairwise.nil, fun _ hm => (nomatch hm)⟩⟩, h2, h3, h4⟩

section
variable {prog : Program} {w : World} {A : Around} {E : Value → Shared → Prop} {s : Shared} {K : Frag}

end
end Att

namespace L2
open PySem PySem.Spec PyProof.Rows

theorem vals_ints : ∀ {vs : List Value} {ns : List Int}, IntsAre vs ns → Vals (ns.map V.int) vs
  | _, _, .nil => .nil
  | _, _, .cons n t h => .cons ⟨t, rfl⟩ (vals_ints h)

/-- nothing is tracked but the script, known to the object (or it is an object of the module) -/
def Only (H : Hp) : Prop := ∀ b, H b = none ∨ ∃ o xs, H b = some (.frz o (.lst xs))

/-- THE HEAD: the law's promise, at the heap behind the top. F, the promise of the law's def, may use that base is part of the heap (so K.In base, base.Ns mainGlobals mg stand in Mod) -/
theorem law_call {P : Program} {w : World} {K : PySem.W.Frag} {mg mb : Str → Option Value} {CX : CXT} {k : Nat} {fa a : Addr} {fd : FuncData} {x : Str} {sp : Sp} {s₁ : Shared} {vs : List Value} {ns : List Int}
    (KX : K.In s₁.heap) (hns : s₁.heap.Ns mainGlobals mg) (hb : s₁.heap.Ns builtinsNs mb) (hbb : ∀ x : Str, x ≠ "__name__" → mb x = bootBuiltins x) (hlim : s₁.heap.NoLimit) (hg : s₁.gens = #[])
    (ha : s₁.heap.get? a = some { cls := .type "list", data := .seq vs.toArray }) (hi : IntsAre vs ns) (hl : ns.length ≤ sizeLine) (hr : Room k callerA)
    (F : ∀ base : Heap, K.In base → base.Ns mainGlobals mg → FnOk P w K mg base CX k fa fd [x] sp) (hbind : ∀ (s : Shared) (u : Value), BindsTo s fd ⟨[u], []⟩ [(x, u)])
    (hsp : ∀ H : Hp, Only H → SqL K H a (ns.map V.int) → sp [.ref a] H (fun v _ => v = .bl true) fun _ _ _ => False)
    (hCX : ∀ H e s', CX [] H s₁ (fun _ _ _ => False) e s' → False) :
    codeAny (model P w) callerA (.call (.ref fa) ⟨[.ref a], []⟩) (fun r s' => r = .ok (.ret (.bool true)) ∧ OldK s₁.heap s'.heap ∧ s'.os = s₁.os ∧ AllBare s'.gens) s₁ := by
  have rv := vals_ints hi
  have lenV := hi.length
  -- from an abstract heap in which nothing but the script may be tracked
  have core : ∀ H : Hp, Only H → SqL K H a (ns.map V.int) → HOk P w H s₁.heap → (∀ b, H b ≠ none → b = a) → (H a ≠ none → K.lookup a = none) →
      codeAny (model P w) callerA (.call (.ref fa) ⟨[.ref a], []⟩) (fun r s' => r = .ok (.ret (.bool true)) ∧ OldK s₁.heap s'.heap ∧ s'.os = s₁.os ∧ AllBare s'.gens) s₁ := by
    intro H hO hS hok hA hK
    have base_of : ∀ {b : Addr} {o : Obj}, s₁.heap.get? b = some o → H b = none → (hidT s₁.heap H).get? b = some o := fun e n => hidT_get e n
    have noA : ∀ {b : Addr} {o : Obj} {es : Array DictEntry} {ep : Nat}, s₁.heap.get? b = some o → o.data = .dict es ep → H b = none := fun {b o es ep} e d => by
      cases q : H b with
      | none => rfl
      | some u =>
        have e' : b = a := hA b (by rw [q]; simp)
        subst e'
        rw [ha] at e; cases e
        have d' : Data.seq vs.toArray _ = Data.dict es ep := d
        cases d'
    have nsK : ∀ {b : Addr} {m : Str → Option Value}, s₁.heap.Ns b m → (hidT s₁.heap H).Ns b m := fun {b m} ⟨o, es, ep, e, d, r⟩ => ⟨o, es, ep, base_of e (noA e d), d, r⟩
    have hKb : K.In (hidT s₁.heap H) := fun b o e => base_of (KX b o e) (by
      cases q : H b with
      | none => rfl
      | some u =>
        have e' : b = a := hA b (by rw [q]; simp)
        subst e'
        rw [hK (by rw [q]; simp)] at e; cases e)
    have hM : Mod K mg (hidT s₁.heap H) := ⟨hKb, nsK hns, ⟨mb, nsK hb, hbb⟩, let ⟨mc, h1, h2⟩ := hlim; ⟨mc, nsK h1, h2⟩⟩
    have e0 : Env0 P w K mg (hidT s₁.heap H) callerA [] s₁ H := ⟨rfl, hM, fun b o e => of_hidT e, Nat.le_of_eq (hidT_size _ _), trivial, fun b hb => absurd (show b ∈ ([] : List Addr) from hb) (by simp), hok, .of_eq hg⟩
    refine codeAny_mono ((F _ hKb (nsK hns)).run callerA [] s₁ H ⟨[.ref a], []⟩ [.ref a] [.ref a] _ _ hr e0 (hbind s₁ (.ref a)) (.cons rfl .nil) (hsp H hO hS)) fun r s' h => ?_
    cases r with
    | error e => exact (hCX H e s' h).elim
    | ok fl =>
      cases fl with
      | next => exact False.elim h
      | brk => exact False.elim h
      | cont => exact False.elim h
      | ret u =>
        obtain ⟨v, H', os, bare, un, hok', r', q⟩ := h
        have q' : v = .bl true := q
        subst q'
        obtain rfl : u = Value.bool true := r'
        refine ⟨rfl, OldK.of_keep fun b o e => ?_, os, bare⟩
        cases q : H b with
        | none => exact un.keep b o e q (by intro z; exact absurd (show b ∈ ([] : List Addr) from z) (by simp)) (by simp)
        | some u =>
          rcases hO b with z | ⟨ob, xs, z⟩
          · rw [q] at z; cases z
          · have z2 := un.frzs b ob _ z
            obtain ⟨e1, _⟩ := hok b _ z
            obtain ⟨e2, _⟩ := hok' b _ z2
            rw [e] at e1; cases e1
            exact e2
  cases hk : K.lookup a with
  | some o =>
    -- the script is one of the module's own objects
    have e := KX a o hk
    rw [ha] at e
    cases e
    refine core (fun _ => none) (fun _ => .inl rfl) (.inr ⟨_, vs.toArray, _, hk, rfl, rfl, rfl, by rw [List.size_toArray, lenV]; exact hl, by simpa using rv⟩) (fun b u z => by have z' : (none : Option HO) = some u := z; cases z') (fun b z => absurd rfl z) fun z => absurd rfl z
  | none =>
    refine core (fun b => if b = a then some (.frz { cls := .type "list", data := .seq vs.toArray } (.lst (ns.map V.int))) else none) (fun b => ?_) (.inl (.inr ⟨{ cls := .type "list", data := .seq vs.toArray }, if_pos rfl⟩)) (fun b u z => ?_) (fun b z => ?_) fun _ => hk
    · by_cases hb : b = a
      · exact .inr ⟨_, _, if_pos hb⟩
      · exact .inl (if_neg hb)
    · by_cases hb : b = a
      · have z' := (if_pos hb).symm.trans z
        cases z'
        subst hb
        exact ⟨ha, by rw [List.length_map]; exact hl, vs, _, rv, ha⟩
      · have z' := (if_neg hb).symm.trans z
        cases z'
    · by_cases hb : b = a
      · exact hb
      · exact absurd (if_neg hb) z
end L2

namespace L2
open PySem PySem.Spec PyProof.Rows

/-- the goal that k_head leaves (case hc), from the law's promise. F gives the function object fd (K's own) once, then the promise over every base -/
theorem walk_of {l : PySem.W.OpenLaw} {n k : Nat} {q : Program} {loose : List Str} {XP : (Str → Option Value) → Heap → Prop} {YP : World → Heap → Prop} {d : DefRec} {K : Params → PySem.W.Frag} {CX : World → CXT} {sp : World → Sp} {x : Str}
    (hn : l.most = some n) (hn2 : n ≤ sizeLine) (hdf : d.params.defaults = []) (hr : Room k callerA)
    (hY : ∀ (w : World) (h : Heap), YP w h → (K w.params).In h)
    (F : ∀ (w : World) (mg : Str → Option Value) (fa : Addr) (h : Heap), (K w.params).In h → h.Ns mainGlobals mg → mg d.name = some (.ref fa) →
      ∃ fd : FuncData, (∀ (s : Shared) (u : Value), BindsTo s fd ⟨[u], []⟩ [(x, u)]) ∧
        ∀ base : Heap, (K w.params).In base → base.Ns mainGlobals mg → FnOk l.prog w (K w.params) mg base (CX w) k fa fd [x] (sp w))
    (hsp : ∀ (w : World) (H : Hp) (a : Addr) (ns : List Int), ns.length ≤ n → Only H → SqL (K w.params) H a (ns.map V.int) → sp w [.ref a] H (fun v _ => v = .bl true) fun _ _ _ => False)
    (hCX : ∀ (w : World) (H : Hp) (s : Shared) (e : Value) (s' : Shared), CX w [] H s (fun _ _ _ => False) e s' → False) :
    PySem.W.WalkO q loose XP YP l.row.toRowW d [] (fun f vs => PySem.call f vs) := by
  refine Att.attach_call hn hdf fun w s₀ s₁ mg mb fa o pm cd doc a vs ns G Y ho hd hcd hmg hobj hints hlen hg => ?_
  have KX := hY w _ Y
  obtain ⟨fd, hb, hF⟩ := F w mg fa _ KX G.T.g hmg
  exact law_call KX G.T.g G.T.b G.T.builtins G.T.nolimit hg hobj hints (Nat.le_trans hlen hn2) hr hF hb (fun H hO hS => hsp w H a ns hlen hO hS) fun H e s' => hCX w H s₁ e s'
end L2

/- THE LAST THEOREM (shape; LID, My.* are yours):
   My.Adr: a structure of the addresses that your layer names (classes, functions); My.Txt K t: a structure (Prop) of the equations over K;
   My.txt_mk : {K} {implicit addresses ..} (e1 : nsIn K mainGlobals "law" = some (some (.ref f))) (e2 : K.lookup f = some ⟨oc, od, .func (fnOf "law" "law" params body scope dV kV doc pm an cdv ct), sl⟩) (e3 : codeIn K cdv "law" = true) .. : ∃ t, My.Txt K t

(the tactic k_is has no namespace: write k_is) -/

namespace L2
open PySem PySem.Spec PyProof.Rows

/-- the j-th statement of a class's body -/
def inClass (s : Stmt) (j : Nat) : Stmt := match s with
  | .ClassDef _ _ _ body _ _ _ _ _ _ _ => body.getD j (.Pass ⟨0, 0, 0, 0⟩)
  | _ => .Pass ⟨0, 0, 0, 0⟩
def defArgs (s : Stmt) : Arguments := match s with
  | .FunctionDef _ a _ _ _ _ _ _ _ _ => a
  | _ => { posonlyargs := [], args := [], vararg := none, kwonlyargs := [], kw_defaults := [], kwarg := none, defaults := [] }
def defBody (s : Stmt) : List Stmt := match s with
  | .FunctionDef _ _ b _ _ _ _ _ _ _ => b
  | _ => []
def defScope (s : Stmt) : Scope := match s with
  | .FunctionDef _ _ _ _ _ _ sc _ _ _ => sc
  | _ => { kind := .function, names := [], isGenerator := false, isCoroutine := false }

abbrev CX0 : CXT := fun _ _ _ _ _ _ => False
abbrev E0 : XK := fun _ _ _ => False
theorem pass0 {X : Cx} : Passes CX0 X E0 := fun _ _ _ _ _ _ _ h => h.elim

structure Fun (K : PySem.W.Frag) (x qual : Str) (st : Stmt) (f : Addr) (fd : FuncData) : Prop where
  ex : ∃ (oc : Value) (od : Option Addr) (kV doc pm : Value) (an : Option Addr) (cdv ct : Value) (osl : Array (Option Value)),
    fd = PySem.W.fnOf x qual (defArgs st) (defBody st) (defScope st) .none kV doc pm an cdv ct ∧ K.lookup f = some ⟨oc, od, .func fd, osl⟩ ∧ PySem.W.codeIn K cdv qual = true
  kp : PySem.W.keepIn K (.ref f) = true
section
variable {P : Program} {w : World} {K : PySem.W.Frag} {mg : Str → Option Value} {base : Heap}
/-- THE RULE for a def: its body as a term of rules, and the reading of that term -/
theorem Fun.ok {x qual : Str} {st : Stmt} {f : Addr} {fd : FuncData} {N ps : List Str} {k : Nat} {sp : Sp} (F : Fun K x qual st f fd) (S : FnScope N ps (defScope st)) (len : ∀ vs H Q E, sp vs H Q E → vs.length = ps.length)
    (hbody : ∀ (cdv : Value) (A : Around) (outer : List Env) (s : Shared) (H : Hp) (vs : List V) (Q : VK) (E : XK), Room k (A.deeper (envOfC qual (defScope st) s.heap.objs.size f cdv)) → sp vs H Q E →
      ∃ t, PSs (cxOf CX0 P w K mg base N qual (defScope st) f cdv A outer s H E).nox (defBody st) t ∧ t { nx := fun _ H' => Q .non H', rt := Q } (start N vs) H) : FnOk P w K mg base CX0 (k + 1) f fd ps sp := by
  obtain ⟨oc, od, kV, doc, pm, an, cdv, ct, osl, rfl, lk, hcd⟩ := F.ex
  refine fn_of lk hcd S len fun A outer s H vs Q E hr hsp => ?_
  obtain ⟨t, h, q⟩ := hbody cdv A outer s H vs Q E hr hsp
  exact ⟨t, h.nox, q⟩
/-- how its arguments bind (no defaults): h is «fun _ _ _ _ _ _ us hl => match us, hl with | [_, _], _ => rfl», one _ a parameter -/
theorem Fun.binds {x qual : Str} {st : Stmt} {f : Addr} {fd : FuncData} {ps : List Str} (F : Fun K x qual st f fd)
    (h : ∀ (kV doc pm : Value) (an : Option Addr) (cdv ct : Value) (us : List Value), us.length = ps.length → bindArgs (PySem.W.fnOf x qual (defArgs st) (defBody st) (defScope st) .none kV doc pm an cdv ct) ⟨us, []⟩ = pure (ps.zip us)) : Binds K fd ps [] := by
  obtain ⟨oc, od, kV, doc, pm, an, cdv, ct, osl, rfl, lk, hcd⟩ := F.ex
  exact .all (h kV doc pm an cdv ct)
theorem fun_mk {x qual : Str} {st : Stmt} {f : Addr} {oc : Value} {od an : Option Addr} {osl : Array (Option Value)} {kV doc pm cdv ct : Value} (l : K.lookup f = some ⟨oc, od, .func (PySem.W.fnOf x qual (defArgs st) (defBody st) (defScope st) .none kV doc pm an cdv ct), osl⟩)
    (c : PySem.W.codeIn K cdv qual = true) (k : PySem.W.keepIn K (.ref f) = true) : Fun K x qual st f (PySem.W.fnOf x qual (defArgs st) (defBody st) (defScope st) .none kV doc pm an cdv ct) := ⟨⟨oc, od, kV, doc, pm, an, cdv, ct, osl, rfl, l, c⟩, k⟩
end
theorem hu_of {A : Around} {k : Nat} (hr : Room k A) : A.units + 1 < cLine := Nat.lt_of_le_of_lt (Nat.add_le_add_left (by decide : 1 ≤ 64) _) hr.units
theorem small1000 {n : Nat} (h : n ≤ 1000) : n < sizeLine := Nat.lt_of_le_of_lt h (by decide)

section
variable {X : Cx}
theorem pv (i : Nat) {x : Str} {pos : Pos} (hN : X.N[i]? = some x := by rfl) (hv : Vis X.env.scope x := by first | exact Or.inl rfl | exact Or.inr (Or.inl rfl) | exact Or.inr (Or.inr rfl)) (hd : (x == ("__debug__" : Str)) = false := by decide)
    (hcd : (x == ("__classdict__" : Str)) = false := by decide) : PE X (.Name x pos) (tVar i) := pe_var hN hv hd hcd
end

/-- all that was tracked is as it was -/
def Same (H H' : Hp) : Prop := ∀ b o, H b = some o → H' b = some o
theorem Same.refl (H : Hp) : Same H H := fun _ _ h => h
theorem Same.trans {H H1 H2 : Hp} (a : Same H H1) (b : Same H1 H2) : Same H H2 := fun c o h => b c o (a c o h)
theorem Same.free {H H' : Hp} (e : Same H H') {l : Addr} (h : H' l = Option.none) : H l = Option.none := by
  cases q : H l with
  | none => rfl
  | some o =>
    rw [e l o q] at h
    cases h
theorem Same.seq {K : PySem.W.Frag} {H H' : Hp} {a : Addr} {xs : List V} (e : Same H H') (h : SqL K H a xs) : SqL K H' a xs := by
  rcases h with (h | ⟨o, h⟩) | h
  · exact .inl (.inl (e _ _ h))
  · exact .inl (.inr ⟨o, e _ _ h⟩)
  · exact .inr h

end L2

set_option Elab.async false
set_option linter.all false
set_option maxRecDepth 100000
set_option maxHeartbeats 4000000
namespace L2
open PySem PySem.Spec PyProof.Rows
structure Cal (P : Program) (w : World) (K : PySem.W.Frag) (mg : Str → Option Value) (base : Heap) (x : Str) (ps : List Str) (k : Nat) (sp : Sp) : Prop where
  ex : ∃ (f : Addr) (fd : FuncData), FnOk P w K mg base CX0 k f fd ps sp ∧ Binds K fd ps [] ∧ PySem.W.keepIn K (.ref f) = true ∧ mg x = some (.ref f)
theorem pe_cal {X : Cx} {x : Str} {ps : List Str} {k : Nat} {sp : Sp} {e : Expr} {es : List Expr} {t : TA} {p pos : Pos} (C : Cal X.prog X.w X.K X.mg X.base x ps k sp) (hr : Room k X.A) (hg : Gl X x) (ha : PA X (e :: es) t)
    (hdb : (x == ("__debug__" : Str)) = false := by decide) (he : starEach (e :: es) X.env = (false, eval e X.env) :: starEach es X.env := by rfl) (hpl : (backTo pos (starEach es X.env)).any (·.1) = false := by rfl) :
    PE X (.Call (.Name x p) (e :: es) [] pos) (tCall sp [] E0 t) := by
  obtain ⟨f, fd, F, b, hk, hm⟩ := C.ex
  exact pe_call F hr hg hm hk b .nil pass0 ha hdb he hpl
def subN (n T : String) : Bool := n == T || (n == "bool" && T == "int")
def tyN (H : Hp) (x : V) (n : String) : Prop := match x with
  | .bl _ => n = "bool"
  | .int _ => n = "int"
  | .str _ => n = "str"
  | .ref a => (n = "list" ∧ ∃ xs, H a = some (.lst xs)) ∨ (n = "tuple" ∧ ∃ xs, H a = some (.tup xs))
  | _ => False
theorem tyN_int {H : Hp} {i : Int} {n : String} : tyN H (.int i) n = (n = "int") := rfl
theorem tyN_bl {H : Hp} {i : Bool} {n : String} : tyN H (.bl i) n = (n = "bool") := rfl
theorem tyN_str {H : Hp} {i : Str} {n : String} : tyN H (.str i) n = (n = "str") := rfl
theorem tyN_ref {H : Hp} {a : Addr} {n : String} : tyN H (.ref a) n = ((n = "list" ∧ ∃ xs, H a = some (.lst xs)) ∨ (n = "tuple" ∧ ∃ xs, H a = some (.tup xs))) := rfl
def okT (T : String) : Prop := T = "int" ∨ T = "bool" ∨ T = "str" ∨ T = "list" ∨ T = "tuple"
theorem kit_sub {K : PySem.W.Frag} {n T : String} (hn : okT n) (hT : okT T) : PySem.W.kitOne K (.type n) (.type T) = some (subN n T) := by
  rcases hn with rfl | rfl | rfl | rfl | rfl <;> rcases hT with rfl | rfl | rfl | rfl | rfl <;> rfl
theorem tyN_of {K : PySem.W.Frag} {H : Hp} {x : V} {n : String} (h : tyN H x n) : TyOf K H x (.type n) ∧ okT n := by
  cases x with
  | bl b => cases (show n = "bool" from h); exact ⟨.bl b, by simp [okT]⟩
  | int i => cases (show n = "int" from h); exact ⟨.int i, by simp [okT]⟩
  | str i => cases (show n = "str" from h); exact ⟨.str i, by simp [okT]⟩
  | ref a =>
    rcases (show (n = "list" ∧ ∃ xs, H a = some (.lst xs)) ∨ (n = "tuple" ∧ ∃ xs, H a = some (.tup xs)) from h) with ⟨rfl, xs, e⟩ | ⟨rfl, xs, e⟩
    · exact ⟨.lst e, by simp [okT]⟩
    · exact ⟨.tup e, by simp [okT]⟩
  | _ => exact False.elim h
theorem okT_int : okT "int" := by simp [okT]
theorem okT_bool : okT "bool" := by simp [okT]
theorem okT_str : okT "str" := by simp [okT]
theorem okT_list : okT "list" := by simp [okT]
theorem okT_tuple : okT "tuple" := by simp [okT]
theorem subN_ii : subN "int" "int" = true := rfl
theorem subN_ib : subN "int" "bool" = false := rfl
theorem subN_bb : subN "bool" "bool" = true := rfl
theorem subN_bi : subN "bool" "int" = true := rfl
theorem subN_ss : subN "str" "str" = true := rfl
theorem subN_ll : subN "list" "list" = true := rfl
theorem subN_tt : subN "tuple" "tuple" = true := rfl
def rIsi : List V → Hp → VK → Prop := fun xs H Q => ∃ x T n, xs = [x, .ty T] ∧ okT T ∧ tyN H x n ∧ Q (.bl (subN n T)) H
theorem call_isi {X : Cx} : CallR X (.builtin "isinstance") rIsi := by
  intro pins s σ H xs us Q I r h
  obtain ⟨x, T, n, rfl, hT, ty, q⟩ := h
  obtain ⟨u, u', rfl, rx, rT⟩ := vals2 r
  obtain rfl : u' = Value.type T := rT
  obtain ⟨ty', hn⟩ := tyN_of (K := X.K) ty
  exact isinst_ok I rx ty' (kit_sub hn hT) fun tk => ⟨.bl _, H, I.tok _, rfl, q⟩
theorem scal_ii {i j : Int} : scal (.int i) (.int j) = true := rfl
theorem scal_bb {i j : Bool} : scal (.bl i) (.bl j) = true := rfl
theorem scal_ss {i j : Str} : scal (.str i) (.str j) = true := rfl
theorem tEqI' {i j : Int} : decide (V.int i = V.int j) = decide (i = j) := by
  by_cases h : i = j
  · subst h; simp
  · have : ¬ V.int i = V.int j := fun e => h (V.int.inj e)
    simp [h, this]
def tCut (t u : TS) : TS := fun D σ H => ∃ R : St → Hp → Prop, t { D with nx := R } σ H ∧ ∀ σ' H', R σ' H' → u D σ' H'
theorem pss_cut {X : Cx} {st : Stmt} {rest : List Stmt} {t u : TS} (h1 : PS X st t) (h2 : PSs X rest u) : PSs X (st :: rest) (tCut t u) := by
  intro pins s σ H D I h
  obtain ⟨R, ha, hb⟩ := h
  refine wpAny_execs_cons (thn (h1 pins s σ H { D with nx := R } I ha) fun f s1 q => ?_)
  cases f with
  | next =>
    obtain ⟨σ', H', I', q⟩ := q
    exact h2 pins s1 σ' H' D I' (hb σ' H' q)
  | ret v => exact q
  | brk => exact q
  | cont => exact q
theorem cut_of {t u : TS} {D : Ends} {σ : St} {H : Hp} (R : St → Hp → Prop) (h1 : t { D with nx := R } σ H) (h2 : ∀ σ' H', R σ' H' → u D σ' H') : tCut t u D σ H := ⟨R, h1, h2⟩
theorem for_rangeW {lo : Int} {n : Nat} {σ : St} {H : Hp} {DN : St → Hp → Prop} {B : (St → Hp → Prop) → V → St → Hp → Prop} (Pv : Nat → St → Hp → Prop) (h0 : Pv 0 σ H)
    (hs : ∀ i σ H, i < n → Pv i σ H → B (Pv (i + 1)) (.int (lo + i)) σ H) (hd : ∀ σ H, Pv n σ H → DN σ H) :
    ∃ W : Nat → Nat → St → Hp → Prop, (∃ m, W 0 m σ H) ∧ ∀ i m σ H, W i m σ H →
      ((Itr lo n).stop i H ∧ DN σ H) ∨ ((Itr lo n).go i H ∧ ∃ N : St → Hp → Prop, (∀ σ' H', N σ' H' → ∃ m', m' < m ∧ W (i + 1) m' σ' H') ∧ ∀ x H', (Itr lo n).yld i H x H' → B N x σ H') := by
  refine ⟨fun i m σ H => m = n - i ∧ i ≤ n ∧ Pv i σ H, ⟨n, by simp, Nat.zero_le _, h0⟩, ?_⟩
  rintro i m σ H ⟨rfl, hi, p⟩
  by_cases hlt : i < n
  · refine .inr ⟨hlt, Pv (i + 1), fun σ' H' p' => ⟨n - (i + 1), by omega, rfl, hlt, p'⟩, fun x H' y => ?_⟩
    obtain ⟨e, y⟩ := y
    subst e y
    exact hs i σ _ hlt p
  · have e : i = n := by lia
    subst e
    exact .inl ⟨Nat.le_refl _, hd σ H p⟩
theorem for_listW {K : PySem.W.Frag} {a : Addr} {xs : List V} {σ : St} {H : Hp} {DN : St → Hp → Prop} {B : (St → Hp → Prop) → V → St → Hp → Prop} (Pv : Nat → St → Hp → Prop) (h0 : Pv 0 σ H)
    (hl : ∀ i σ H, i ≤ xs.length → Pv i σ H → SqL K H a xs)
    (hs : ∀ i x σ H, xs[i]? = some x → Pv i σ H → B (Pv (i + 1)) x σ H) (hd : ∀ σ H, Pv xs.length σ H → DN σ H) :
    ∃ W : Nat → Nat → St → Hp → Prop, (∃ m, W 0 m σ H) ∧ ∀ i m σ H, W i m σ H →
      ((Itl K a).stop i H ∧ DN σ H) ∨ ((Itl K a).go i H ∧ ∃ N : St → Hp → Prop, (∀ σ' H', N σ' H' → ∃ m', m' < m ∧ W (i + 1) m' σ' H') ∧ ∀ x H', (Itl K a).yld i H x H' → B N x σ H') := by
  refine ⟨fun i m σ H => m = xs.length - i ∧ i ≤ xs.length ∧ Pv i σ H, ⟨xs.length, by simp, Nat.zero_le _, h0⟩, ?_⟩
  rintro i m σ H ⟨rfl, hi, p⟩
  have q := hl i σ H hi p
  by_cases hlt : i < xs.length
  · refine .inr ⟨⟨xs, xs[i], q, by simp [hlt]⟩, Pv (i + 1), fun σ' H' p' => ⟨xs.length - (i + 1), by omega, rfl, hlt, p'⟩, fun x H' y => ?_⟩
    obtain ⟨e, y⟩ := y
    subst e
    exact hs i x σ _ (y xs q) p
  · have e : i = xs.length := by lia
    subst e
    exact .inl ⟨⟨xs, q, Nat.le_refl _⟩, hd σ H p⟩
end L2

set_option Elab.async false
set_option linter.all false
set_option maxRecDepth 100000
set_option maxHeartbeats 4000000
namespace L2
open PySem PySem.Spec PyProof.Rows
def clStep (env : Env) (cs : List (Str × Addr)) (y : Str × NameKind) : List (Str × Addr) := if y.2 == .free then (y.1, (env.cells.lookup y.1).getD 0) :: cs else cs
def clOf (names : List (Str × NameKind)) (env : Env) : List (Str × Addr) := names.foldl (clStep env) []
theorem closure_go {env : Env} : ∀ (names : List (Str × NameKind)) (acc : List (Str × Addr)), (∀ y ∈ names, y.2 = .free → ∃ c, env.cells.lookup y.1 = some c) →
    (forIn names acc fun (x : Str × NameKind) (cs : List (Str × Addr)) => if (x.2 == NameKind.free) = true then (do let a ← cellOf env x.1; pure (ForInStep.yield ((x.1, a) :: cs))) else (pure (ForInStep.yield cs) : Sem (ForInStep (List (Str × Addr))))) = pure (names.foldl (clStep env) acc)
  | [], _, _ => rfl
  | y :: r, acc, h => by
    have ih := closure_go (env := env) r
    rw [List.forIn_cons]
    by_cases hk : y.2 = .free
    · obtain ⟨c, hc⟩ := h y List.mem_cons_self hk
      have hb : (y.2 == NameKind.free) = true := by rw [hk]; rfl
      have e : cellOf env y.1 = pure c := by unfold cellOf; rw [hc]
      rw [if_pos hb, e]
      show (forIn r ((y.1, c) :: acc) _ : Sem _) = _
      rw [ih _ fun z hz => h z (List.mem_cons_of_mem _ hz), List.foldl_cons]
      show _ = pure (r.foldl (clStep env) (if (y.2 == NameKind.free) = true then (y.1, (env.cells.lookup y.1).getD 0) :: acc else acc))
      rw [if_pos hb, hc]; rfl
    · have hb : ¬ (y.2 == NameKind.free) = true := by simpa using hk
      rw [if_neg hb]
      show (forIn r acc _ : Sem _) = _
      rw [ih _ fun z hz => h z (List.mem_cons_of_mem _ hz), List.foldl_cons]
      show _ = pure (r.foldl (clStep env) (if (y.2 == NameKind.free) = true then (y.1, (env.cells.lookup y.1).getD 0) :: acc else acc))
      rw [if_neg hb]
theorem closure_is {scope : Scope} {env : Env} (h : ∀ y ∈ scope.names, y.2 = .free → ∃ c, env.cells.lookup y.1 = some c) : closureFor scope env = pure (clOf scope.names env) := by
  have e := closure_go scope.names [] h
  unfold closureFor clOf
  refine Eq.trans ?_ (congrArg (fun t => t >>= fun (r : List (Str × Addr)) => (pure r : Sem (List (Str × Addr)))) e)
  rfl
theorem mem_cl {env : Env} : ∀ {names : List (Str × NameKind)} {acc : List (Str × Addr)} {p : Str × Addr}, p ∈ names.foldl (clStep env) acc → p ∈ acc ∨ ((p.1, NameKind.free) ∈ names ∧ p.2 = (env.cells.lookup p.1).getD 0)
  | [], _, _, h => .inl h
  | y :: r, acc, p, h => by
    rw [List.foldl_cons] at h
    rcases mem_cl h with h | ⟨h, e⟩
    · unfold clStep at h
      split at h
      · rename_i hk
        rcases List.mem_cons.mp h with rfl | h
        · have : y.2 = .free := by simpa using hk
          exact .inr ⟨by rw [← this]; exact List.mem_cons_self, rfl⟩
        · exact .inl h
      · exact .inl h
    · exact .inr ⟨List.mem_cons_of_mem _ h, e⟩
theorem cl_mem {env : Env} {x : Str} : ∀ {names : List (Str × NameKind)} {acc : List (Str × Addr)}, ((∃ c, (x, c) ∈ acc) ∨ (x, NameKind.free) ∈ names) → ∃ c, (x, c) ∈ names.foldl (clStep env) acc
  | [], _, h => by
    rcases h with h | h
    · exact h
    · cases h
  | y :: r, acc, h => by
    rw [List.foldl_cons]
    refine cl_mem ?_
    rcases h with ⟨c, h⟩ | h
    · refine .inl ⟨c, ?_⟩
      unfold clStep
      split
      · exact List.mem_cons_of_mem _ h
      · exact h
    · rcases List.mem_cons.mp h with rfl | h
      · refine .inl ⟨(env.cells.lookup x).getD 0, ?_⟩
        unfold clStep
        exact List.mem_cons_self
      · exact .inr h
theorem lookup_some_of_mem {x : Str} {c : Addr} : ∀ {l : List (Str × Addr)}, (x, c) ∈ l → ∃ c', l.lookup x = some c'
  | [], h => by cases h
  | (y, d) :: r, h => by
    rw [List.lookup_cons]
    by_cases e : x == y
    · rw [e]; exact ⟨d, rfl⟩
    · have e' : (x == y) = false := by simpa using e
      rw [e']
      rcases List.mem_cons.mp h with z | z
      · cases z; simp at e
      · exact lookup_some_of_mem z

def Cx.comp (X : Cx) (scope : Scope) (N' : List Str) (s₀ : Shared) (H₀ : Hp) (fp : List Addr) (C : Addr) : Cx where
  prog := X.prog
  w := X.w
  K := X.K
  mg := X.mg
  base := X.base
  A := X.A
  N := N'
  s₀ := s₀
  H₀ := H₀
  env := compEnvC scope (clOf scope.names X.env) C X.env
  outer := X.stack
  stack := X.stack
  ex := fp
  fn := fun _ => false
  calm := X.calm
  pn := []
  xe := fun _ _ => False
/-- what is asked of the scopes (all by rfl) -/
structure CompSc (X : Cx) (scope : Scope) (N' own fnames : List Str) (fr : List Nat) : Prop where
  kind : scope.kind = .function
  nocell : (scope.names.all fun y => y.2 != .cell) = true
  free : (scope.names.all fun y => y.2 != .free || X.env.kindOf y.1 == some .cell) = true
  loc : (scope.names.all fun y => y.2 != .local || scope.names.lookup y.1 == some .local) = true
  fn : (fnames.all fun x => X.env.kindOf x == some .cell && (relabel scope X.env).names.lookup x == some .cell) = true
  N : N' = own ++ fnames
  fr : fr.map (fun j => X.N[j]?) = fnames.map some
/-- the block's first names: its own are unset, the free ones as they stand -/
def compSt (k : Nat) (fr : List Nat) (σ : St) : St := List.replicate k none ++ fr.map fun j => (σ[j]?).getD none

/-- the tests of a comprehension -/
def PTs (X : Cx) (ifs : List Expr) (t : TT) : Prop :=
  ∀ (pins : List (Addr × Obj)) (s : Shared) (σ : St) (H : Hp) (Q : Bool → Hp → Prop), Inv X pins σ H s → t σ H Q →
    wpAny (model X.prog X.w) X.A (forIn ifs true fun c r => if r = true then do let ok ← isTrue c X.env (eval c X.env); pure (ForInStep.yield ok) else pure (ForInStep.yield r)) (TP X pins σ Q) X.xe s
def tTrue : TT := fun _ H Q => Q true H
theorem pts_nil {X : Cx} : PTs X [] tTrue := fun pins s σ H Q I h => wpAny_pure ⟨H, I, h⟩
theorem pts_one {X : Cx} {c : Expr} {t : TT} (hc : PT X c t) : PTs X [c] t := by
  intro pins s σ H Q I h
  rw [List.forIn_cons]
  refine wpAny_bind ?_
  rw [if_pos rfl]
  refine wpAny_bind (thn (hc pins s σ H Q I h) fun b s1 q => wpAny_pure ?_)
  exact wpAny_pure q

section
variable {X : Cx} {scope : Scope} {N' own fnames : List Str} {fr : List Nat} {pins : List (Addr × Obj)} {σ : St} {H : Hp} {s₃ : Shared} {fp : List Addr}
theorem CompSc.has (S : CompSc X scope N' own fnames fr) (ok : X.Ok) : ∀ y ∈ scope.names, y.2 = .free → ∃ c, X.env.cells.lookup y.1 = some c := fun y hy hf => by
  have h := List.all_eq_true.mp S.free y hy
  rw [hf] at h
  exact ok.has _ (.inl (by simpa using h))
theorem CompSc.cell (S : CompSc X scope N' own fnames fr) (ok : X.Ok) {y : Str} {c : Addr} (h : (clOf scope.names X.env).lookup y = some c) : X.env.cells.lookup y = some c := by
  rcases mem_cl (PySem.mem_of_lookup h) with z | ⟨z, e⟩
  · cases z
  · obtain ⟨d, hd⟩ := S.has ok _ z rfl
    have hd' : X.env.cells.lookup y = some d := hd
    have e' : c = (X.env.cells.lookup y).getD 0 := e
    rw [hd'] at e'
    rw [hd', e']; rfl
theorem mem_of_lookupK {x : Str} {k : NameKind} : ∀ {l : List (Str × NameKind)}, l.lookup x = some k → (x, k) ∈ l
  | [], h => by simp at h
  | (y, d) :: r, h => by
    rw [List.lookup_cons] at h
    by_cases e : x == y
    · rw [e] at h
      have e1 : x = y := by simpa using e
      cases h; subst e1
      exact List.mem_cons_self
    · have e' : (x == y) = false := by simpa using e
      rw [e'] at h
      exact List.mem_cons_of_mem _ (mem_of_lookupK h)
theorem CompSc.names (S : CompSc X scope N' own fnames fr) {y : Str} {k : NameKind} (h : (relabel scope X.env).names.lookup y = some k) (hk : k = .cell ∨ k = .free) : (y, NameKind.free) ∈ scope.names := by
  have hm := mem_of_lookupK h
  unfold relabel at hm
  obtain ⟨⟨n, k0⟩, hn, e⟩ := List.mem_map.mp hm
  dsimp only at e
  split at e
  · rename_i hc
    have : k0 = .free := by
      simp only [Bool.and_eq_true, beq_iff_eq] at hc
      exact hc.1.1
    cases e; subst this; exact hn
  · cases e
    rcases hk with rfl | rfl
    · have := List.all_eq_true.mp S.nocell _ hn
      simp at this
    · exact hn
/-- the block's context is in order -/
theorem comp_ok {C : Addr} (S : CompSc X scope N' own fnames fr) (I : Inv X pins σ H s₃) (hC : s₃.heap.objs.size ≤ C) (hf : ∀ b ∈ fp, FpOk X pins H b) (hlt : ∀ b ∈ fp, b < s₃.heap.objs.size) : (X.comp scope N' s₃ H fp C).Ok := by
  have cellI : ∀ y c, (clOf scope.names X.env).lookup y = some c → X.env.cells.lookup y = some c := fun y c h => S.cell I.ok h
  refine ⟨I.ok.mod, S.kind, I.ok.glob, I.ok.blt, hC, fun x y c h1 h2 => I.ok.inj x y c (cellI x c h1) (cellI y c h2), fun x hx => ?_, fun x c h => (by cases h), I.ok.hd, I.ok.frames, .inl rfl, fun b hb => ⟨?_, fun x c h => (hf b hb).2.2.2.2.1 x c (cellI x c h)⟩, fun b o e => I.bs b o e, Nat.le_trans I.ok.bsz I.sz, fun b o e hb => ?_, fun b hb hb' => ?_, I.stack, I.stkFree⟩
  · have hm : (x, NameKind.free) ∈ scope.names := by
      rcases hx with h | h
      · exact S.names (show (relabel scope X.env).names.lookup x = some .cell from h) (.inl rfl)
      · exact S.names (show (relabel scope X.env).names.lookup x = some .free from h) (.inr rfl)
    obtain ⟨c, hc⟩ := cl_mem (env := X.env) (acc := []) (.inr hm)
    exact lookup_some_of_mem hc
  · intro z
    have h1 := hlt b hb
    have z' : b = C := z
    rw [z'] at h1
    exact absurd (Nat.lt_of_lt_of_le h1 hC) (Nat.lt_irrefl _)
  · obtain ⟨_, _, _, h3, _⟩ := hf b hb
    rcases h3 with h3 | h3
    · exact I.ok.noex b o e h3
    · exact absurd (Nat.lt_of_lt_of_le (Heap.lt_size e) (Nat.le_trans I.ok.bsz h3)) (Nat.lt_irrefl _)
  · obtain ⟨_, h1, h2, _⟩ := hf b hb
    rcases List.mem_cons.mp (I.stkSub b hb') with z | z
    · exact h1 z
    · exact h2 z
theorem comp_start {h₄ : Heap} {t₄ : Nat} {m : Str → Option Value} (S : CompSc X scope N' own fnames fr) (I : Inv X pins σ H s₃) (hf : ∀ b ∈ fp, FpOk X pins H b) (hlt : ∀ b ∈ fp, b < s₃.heap.objs.size)
    (k : ∀ b o, s₃.heap.get? b = some o → h₄.get? b = some o) (hn : h₄.Ns s₃.heap.objs.size m) :
    Inv (X.comp scope N' s₃ H fp s₃.heap.objs.size) [] (compSt own.length fr σ) H { s₃ with heap := h₄, toks := t₄ } := by
  have hlen : fr.length = fnames.length := by simpa using congrArg List.length S.fr
  refine ⟨comp_ok S I (Nat.le_refl _) hf hlt, rfl, I.bare, Un.kept k, ⟨m, hn, fun i x v e1 e2 e3 => ?_⟩, fun y c h => ?_, I.hok.fresh (Nat.le_refl _), fun y c h => I.freeC y c (S.cell I.ok h), fun p hp => absurd (show p ∈ ([] : List (Addr × Obj)) from hp) (by simp), I.hok.kept k, ?_⟩
  · have e1' : (own ++ fnames)[i]? = some x := by rw [← S.N]; exact e1
    have hi : own.length ≤ i := by
      refine Nat.le_of_not_lt fun z => ?_
      unfold compSt at e2
      rw [List.getElem?_append_left (by simpa using z), List.getElem?_replicate, if_pos z] at e2
      cases e2
    unfold compSt at e2
    rw [List.getElem?_append_right (by simpa using hi), List.length_replicate, List.getElem?_map] at e2
    rw [List.getElem?_append_right hi] at e1'
    cases q : fr[i - own.length]? with
    | none => rw [q] at e2; cases e2
    | some t =>
      rw [q] at e2
      have e2' : (σ[t]?).getD none = some v := Option.some.inj e2
      have hσ : σ[t]? = some (some v) := by
        cases z : σ[t]? with
        | none => rw [z] at e2'; cases e2'
        | some o => rw [z] at e2'; exact congrArg some e2'
      have hN : X.N[t]? = some x := by
        have z := congrArg (fun l => l[i - own.length]?) S.fr
        simp only [List.getElem?_map, q, e1', Option.map_some] at z
        exact Option.some.inj z
      have hx : x ∈ fnames := List.mem_of_getElem? e1'
      have hk := List.all_eq_true.mp S.fn x hx
      simp only [Bool.and_eq_true, beq_iff_eq] at hk
      obtain ⟨mX, _, hl⟩ := I.loc
      obtain ⟨u, r, l⟩ := hl t x v hN hσ (.inr (.inl hk.1))
      refine ⟨u, r, ?_⟩
      rcases l with ⟨kl, _⟩ | ⟨_, c, hc, o, ho, hd⟩
      · rw [hk.1] at kl; cases kl
      · obtain ⟨d, hd'⟩ := cl_mem (env := X.env) (acc := []) (.inr (S.names hk.2 (.inl rfl)))
        obtain ⟨c', hc'⟩ := lookup_some_of_mem hd'
        have z := S.cell I.ok hc'
        rw [hc] at z
        cases z
        exact .inr ⟨.inl hk.2, c, hc', o, k c o ho, hd⟩
  · obtain ⟨v, o, ho, hd⟩ := I.cell y c (S.cell I.ok h)
    exact ⟨v, o, k c o ho, hd⟩
  · unfold compSt
    show _ = N'.length
    rw [S.N, List.length_append, List.length_append, List.length_replicate, List.length_map, hlen]

/-- the block: what is wanted of its turns -/
def tBlk (k : Nat) (fr : List Nat) (g : TG) (tt : TT) (te : TE) (J : It) (σ : St) (H1 : Hp) (Q : VK) : Prop :=
  ∀ D, H1 D = none → ∃ W : Nat → Nat → St → Hp → Prop, (∃ m, W 0 m (compSt k fr σ) (upd H1 D (.lst []))) ∧ ∀ i m σ' H', W i m σ' H' →
    (J.stop i H' ∧ Q (.ref D) H') ∨ (J.go i H' ∧ ∃ N : St → Hp → Prop, (∀ σ2 H2, N σ2 H2 → ∃ m', m' < m ∧ W (i + 1) m' σ2 H2) ∧ ∀ x H2, J.yld i H' x H2 →
      g x σ' H2 fun σ2 H3 => tt σ2 H3 fun b H4 => if b = true then te σ2 H4 fun v H5 => ∃ xs, H5 D = some (.lst xs) ∧ xs.length < sizeLine ∧ N σ2 (upd H5 D (.lst (xs ++ [v]))) else N σ2 H4)
def tComp (wi : TI) (k : Nat) (fr : List Nat) (g : TG) (tt : TT) (te : TE) : TE := fun σ H Q => wi σ H fun J H1 => tBlk k fr g tt te J σ H1 Q

theorem comp_run {elt tg iter : Expr} {ifs : List Expr} {pos : Pos} {g : TG} {tt : TT} {te : TE} {s₂ : Shared} {H2 : Hp} {J : It} {it : Addr} {tn : Nat → Heap → Prop} {RR : Value → Addr → Result → Shared → Prop} {E : Value → Shared → Prop} {Q : VK}
    (S : CompSc X scope N' own fnames fr) (hc : X.calm = true)
    (hb : ∀ (s₀ : Shared) (H₀ : Hp) (fp : List Addr) (C : Addr), PG (X.comp scope N' s₀ H₀ fp C) tg g ∧ PTs (X.comp scope N' s₀ H₀ fp C) ifs tt ∧ PE (X.comp scope N' s₀ H₀ fp C) elt te)
    (I2 : Inv X pins σ H2 s₂) (T : Turn X.prog X.w X.K tg J fp it tn) (st2 : tn 0 s₂.heap) (f2 : ∀ b ∈ fp, FpOk X pins H2 b) (hq : tBlk own.length fr g tt te J σ H2 Q)
    (hRR : ∀ D C H' s', Inv X pins σ H' s' → (∃ m, s'.heap.Ns C m) → FpOk X pins H' C → Q (.ref D) H' → RR (.ref D) C (.ok .next) s') :
    wpAny (model X.prog X.w) X.A (newList []) (fun acc s₃ => wpAny (model X.prog X.w) X.A (newFunctionEnv scope X.env.globals (clOf scope.names X.env) [] X.env.qual none .none (some X.env)) (fun cenv s₄ =>
      codeAny (model X.prog X.w) X.A (.compStart (.ListComp elt [⟨tg, iter, ifs, 0⟩] scope pos) 0 (.ref it) acc { cenv with scope := relabel scope X.env }) (RR acc cenv.locals) s₄) E s₃) E s₂ := by
  have nocell : ∀ y ∈ scope.names, y.2 ≠ .cell := fun y hy z => by
    have := List.all_eq_true.mp S.nocell y hy
    rw [z] at this
    simp at this
  refine wpAny_newObj_type (wpAny_newFunctionEnv nocell (by intro y hy; simp at hy) (fun h₁ hns₁ hsb₁ => ?_) S.kind)
  have hlt2 : ∀ b ∈ fp, b < s₂.heap.objs.size := fun b hb' => by
    obtain ⟨o, e, _⟩ := T.obj _ _ st2 b hb'
    exact Heap.lt_size e
  have I3 : Inv X pins σ (upd H2 s₂.heap.objs.size (.lst [])) { s₂ with heap := s₂.heap.push { cls := .type "list", data := .seq ([] : List Value).toArray }, toks := s₂.toks } := I2.lnew (its := []) (ys := []) .nil (Nat.zero_le _)
  have hD : H2 s₂.heap.objs.size = none := I2.fresh
  obtain ⟨W, ⟨m0, w0⟩, turn⟩ := hq _ hD
  generalize hs3 : ({ s₂ with heap := s₂.heap.push { cls := .type "list", data := .seq ([] : List Value).toArray }, toks := s₂.toks } : Shared) = s₃ at I3
  have eh : s₃.heap = s₂.heap.push { cls := .type "list", data := .seq ([] : List Value).toArray } := by rw [← hs3]
  have hsz : s₃.heap.objs.size = s₂.heap.objs.size + 1 := by rw [eh, Heap.size_push]
  have f3 : ∀ b ∈ fp, FpOk X pins (upd H2 s₂.heap.objs.size (.lst [])) b := fun b hb' => by
    refine ⟨?_, (f2 b hb').2⟩
    rw [upd_ne (Nat.ne_of_lt (hlt2 b hb'))]
    exact (f2 b hb').1
  have hlt3 : ∀ b ∈ fp, b < s₃.heap.objs.size := fun b hb' => by rw [hsz]; exact Nat.lt_succ_of_lt (hlt2 b hb')
  have old : ∀ b o, s₃.heap.get? b = some o → h₁.get? b = some o := fun b o e => by
    have hb1 : b ≠ s₃.heap.objs.size := Nat.ne_of_lt (Heap.lt_size e)
    refine hsb₁.extBut b o ?_ ?_
    · show b ≠ (s₂.heap.push _).objs.size
      rw [← eh]; exact hb1
    · show (Heap.push (s₂.heap.push _) _).get? b = some o
      rw [← eh]
      exact Heap.get?_push_of_some _ e
  have hns : ∃ m, h₁.Ns s₃.heap.objs.size m := ⟨_, by rw [eh]; exact hns₁⟩
  obtain ⟨m1, hns⟩ := hns
  have I4 : Inv (X.comp scope N' s₃ (upd H2 s₂.heap.objs.size (.lst [])) fp s₃.heap.objs.size) [] (compSt own.length fr σ) (upd H2 s₂.heap.objs.size (.lst [])) { s₃ with heap := h₁, toks := s₂.toks + ([] : List (Str × Value)).length } :=
    comp_start S I3 f3 hlt3 old hns
  have st4 : tn 0 h₁ := T.keep _ _ _ st2 fun b hb' o e => old b o (by rw [eh]; exact Heap.get?_push_of_some _ e)
  obtain ⟨hpg, hpt, hpe⟩ := hb s₃ (upd H2 s₂.heap.objs.size (.lst [])) fp s₃.heap.objs.size
  have fpok : ∀ {H' : Hp}, (∀ b ∈ fp, H' b = none) → ∀ b ∈ fp, FpOk (X.comp scope N' s₃ (upd H2 s₂.heap.objs.size (.lst [])) fp s₃.heap.objs.size) [] H' b := fun hn b hb' =>
    ⟨hn b hb', fun z => by
        have h1 := hlt3 b hb'
        have z' : b = s₃.heap.objs.size := z
        rw [z'] at h1
        exact absurd h1 (Nat.lt_irrefl _), fun z => I4.ok.exfs b hb' z, .inl hb', fun x c e => (I4.ok.exf b hb').2 x c e, fun p hp => absurd (show p ∈ ([] : List (Addr × Obj)) from hp) (by simp)⟩
  have loop : ∀ s4 : Shared, s4 = { s₃ with heap := h₁, toks := s₂.toks + ([] : List (Str × Value)).length } →
      codeAny (model X.prog X.w) X.A (.compLoop (.ListComp elt [⟨tg, iter, ifs, 0⟩] scope pos) 0 (.ref it) (.ref s₂.heap.objs.size) (compEnvC scope (clOf scope.names X.env) s₃.heap.objs.size X.env)) (RR (.ref s₂.heap.objs.size) s₃.heap.objs.size) s4 := by
    rintro s4 rfl
    refine codeAny_loop rfl (fun n s => ∃ i σ' H', Inv (X.comp scope N' s₃ (upd H2 s₂.heap.objs.size (.lst [])) fp s₃.heap.objs.size) [] σ' H' s ∧ tn i s.heap ∧ (∀ b ∈ fp, H' b = none) ∧ W i n σ' H') ?_ m0
      ⟨0, _, _, I4, st4, fun b hb' => (f3 b hb').1, w0⟩
    rintro n s5 ⟨i, σ5, H5, I5, st5, fr5, w5⟩
    show wpAny _ X.A ((compTurn (.ListComp elt [⟨tg, iter, ifs, 0⟩] scope pos) 0 (.ref it) (.ref s₂.heap.objs.size) (compEnvC scope (clOf scope.names X.env) s₃.heap.objs.size X.env)).onRaise (fun x => do noteFrame x (compEnvC scope (clOf scope.names X.env) s₃.heap.objs.size X.env); theTreesLotGoes x)) _ _ s5
    refine wpAny_noted ?_
    rw [compTurn_list]
    refine wpAny_bind (wpAny_standAt (wpAny_bind ?_))
    rcases turn i n σ5 H5 w5 with ⟨stop, q⟩ | ⟨go, N, hN, step⟩
    · refine wpAny_mono (T.done (X.comp scope N' s₃ (upd H2 s₂.heap.objs.size (.lst [])) fp s₃.heap.objs.size) rfl rfl rfl hc i [] s5 σ5 H5 (fun _ _ => False) I5 (fpok fr5) st5 stop) (fun r s6 hr => ?_) fun _ _ z => z.elim
      obtain ⟨rfl, I6⟩ := hr
      refine wpAny_pure ?_
      obtain ⟨m6, hn6, _⟩ := id I6.loc
      have I7 : Inv X pins σ H5 s6 := I3.call' (ch := fp) I6.os I6.base I6.hok I6.bare fun b hb' => by
        obtain ⟨_, h1, _, h3, h4, h5⟩ := f3 b hb'
        exact ⟨h3, h1, h4, h5⟩
      exact hRR _ _ H5 s6 I7 ⟨m6, hn6⟩ (I3.fpOk (Nat.le_refl _) I6.free) q
    · refine wpAny_mono (T.item (X.comp scope N' s₃ (upd H2 s₂.heap.objs.size (.lst [])) fp s₃.heap.objs.size) rfl rfl rfl hc i [] s5 σ5 H5 (fun _ _ => False) I5 (fpok fr5) st5 go) (fun r s6 hr => ?_) fun _ _ z => z.elim
      obtain ⟨u, rfl, h6⟩ := hr
      refine wpAny_bind (wpAny_mono h6 (fun _ s7 h7 => ?_) fun _ _ z => z.elim)
      obtain ⟨x, H7, I7, r7, y7, st7, fr7⟩ := h7
      have I7' := I7.pinned (fpok fr7) (T.obj _ _ st7)
      refine wpAny_bind (wpAny_mono (hpg _ s7 σ5 H7 x u _ I7' r7 (step x H7 y7)) (fun _ s8 h8 => ?_) fun _ _ z => z.elim)
      obtain ⟨σ8, H8, I8, q8⟩ := h8
      have again' : ∀ {σ9 : St} {H9 : Hp} {s9 : Shared}, Inv (X.comp scope N' s₃ (upd H2 s₂.heap.objs.size (.lst [])) fp s₃.heap.objs.size) ([] ++ pinsAt fp s7.heap) σ9 H9 s9 → N σ9 H9 →
          ∃ m, m < n ∧ ∃ i σ' H', Inv (X.comp scope N' s₃ (upd H2 s₂.heap.objs.size (.lst [])) fp s₃.heap.objs.size) [] σ' H' s9 ∧ tn i s9.heap ∧ (∀ b ∈ fp, H' b = none) ∧ W i m σ' H' := fun {σ9 H9 s9} I9 n9 => by
        obtain ⟨m', hm, w9⟩ := hN σ9 H9 n9
        refine ⟨m', hm, i + 1, σ9, H9, I9.unpinned, T.keep _ _ _ st7 fun b hb' o e => (I9.pin (b, o) (List.mem_append_right _ (List.mem_append_right _ (mem_pinsAt hb' e)))).1, fun b hb' => ?_, w9⟩
        obtain ⟨o, e, d⟩ := T.obj _ _ st7 b hb'
        exact (I9.pin (b, o) (List.mem_append_right _ (List.mem_append_right _ (mem_pinsAt hb' e)))).2.1
      refine wpAny_bind (wpAny_mono (hpt _ s8 σ8 H8 _ I8 q8) (fun b s9 h9 => ?_) fun _ _ z => z.elim)
      obtain ⟨H9, I9, q9⟩ := h9
      cases b with
      | false =>
        rw [if_neg Bool.false_ne_true] at q9
        exact wpAny_pure ⟨rfl, again' I9 q9⟩
      | true =>
        rw [if_pos rfl] at q9
        refine wpAny_bind (wpAny_bind (wpAny_mono (hpe _ s9 σ8 H9 _ I9 q9) (fun v s10 h10 => ?_) fun _ _ z => z.elim))
        obtain ⟨y, H10, I10, r10, xs, hx, hz, q10⟩ := h10
        refine wpAny_bind (wpAny_mono (mt_append (X := X.comp scope N' s₃ (upd H2 s₂.heap.objs.size (.lst [])) fp s₃.heap.objs.size) _ s10 σ8 H10 (.ref s₂.heap.objs.size) [y] (.ref s₂.heap.objs.size) [v] (fun _ H' => N σ8 H') I10 rfl (.cons r10 .nil) ⟨_, xs, y, rfl, rfl, hx, hz, q10⟩) (fun r s11 h11 => ?_) fun _ _ z => z.elim)
        obtain ⟨_, H11, I11, _, q11⟩ := h11
        exact wpAny_pure (wpAny_pure ⟨rfl, again' I11 q11⟩)
  have e3 : ({ s₂ with heap := s₂.heap.push { cls := .type "list", data := .seq ([] : List Value).toArray } } : Shared) = s₃ := hs3
  have go4 := codeAny_compStart_list (loop _ rfl) (T.self X.A 0 _ _ _ st4 (loop _ rfl))
  subst hs3
  exact go4
theorem pe_comp {elt tg iter : Expr} {ifs : List Expr} {pos : Pos} {wi : TI} {g : TG} {tt : TT} {te : TE} (S : CompSc X scope N' own fnames fr) (hc : X.calm = true) (hi : PI X tg iter wi)
    (hb : ∀ (s₀ : Shared) (H₀ : Hp) (fp : List Addr) (C : Addr), PG (X.comp scope N' s₀ H₀ fp C) tg g ∧ PTs (X.comp scope N' s₀ H₀ fp C) ifs tt ∧ PE (X.comp scope N' s₀ H₀ fp C) elt te)
    (hs : ∀ x, foldedSetIterable iter X.env x = pure x := by intro _; rfl) : PE X (.ListComp elt [⟨tg, iter, ifs, 0⟩] scope pos) (tComp wi own.length fr g tt te) := by
  intro pins s σ H Q I h
  rw [eval_ListComp]
  refine wpAny_comprehension_free (use := none) rfl hs (closure_is (S.has I.ok)) S.kind (fun y hy hl => ?_) (wpAny_mono (hi pins s σ H _ I h) (fun xv s₁ h₁ => wpAny_mono h₁ (fun itv s₂ h₂ => ?_) fun _ _ e => e) fun _ _ e => e)
  · have := List.all_eq_true.mp S.loc y hy
    rw [hl] at this
    simpa using this
  · obtain ⟨it, fp, tn, J, H2, rfl, I2, T, st2, f2, q2⟩ := h₂
    refine comp_run S hc hb I2 T st2 f2 q2 (RR := fun acc C => compPost (model X.prog X.w) X.A X.xe none (EP X pins σ Q) acc C) fun D C H' s' I' hn fC q => ?_
    obtain ⟨m, hn⟩ := hn
    obtain ⟨f0, f1, f2', f3, f4, f5⟩ := fC
    exact ⟨m, hn, fun h' hs' => ⟨.ref D, H', I'.turned (t' := s'.toks) (fun b o hb' e => (hs'.2 b hb').trans e) f0 f1 f3 f4 f5, rfl, q⟩⟩
/-- x = [..]: the name is stored ahead of the block's end -/
theorem ps_comp {i : Nat} {x : Str} {pos' spos : Pos} {elt tg iter : Expr} {ifs : List Expr} {pos : Pos} {wi : TI} {g : TG} {tt : TT} {te : TE} (hN : X.N.Nodup) (hi' : X.N[i]? = some x) (hx : X.env.scope.names.lookup x = some .local) (S : CompSc X scope N' own fnames fr) (hc : X.calm = true) (hi : PI X tg iter wi)
    (hb : ∀ (s₀ : Shared) (H₀ : Hp) (fp : List Addr) (C : Addr), PG (X.comp scope N' s₀ H₀ fp C) tg g ∧ PTs (X.comp scope N' s₀ H₀ fp C) ifs tt ∧ PE (X.comp scope N' s₀ H₀ fp C) elt te)
    (hsw : swapsWith (.ListComp elt [⟨tg, iter, ifs, 0⟩] scope pos) (some (.Name x pos')) spos.line X.env = pure true := by rfl)
    (hs : ∀ x, foldedSetIterable iter X.env x = pure x := by intro _; rfl) : PS X (.Assign [.Name x pos'] (.ListComp elt [⟨tg, iter, ifs, 0⟩] scope pos) spos) (tAsg (tComp wi own.length fr g tt te) (gName i)) := by
  intro pins s σ H D I h
  rw [exec_Assign_Name_used _ _ _ _ hsw]
  refine wpAny_bind (wpAny_standAt (wpAny_bind ?_))
  show wpAny _ X.A (do let _ ← comprehension (.ListComp elt [⟨tg, iter, ifs, 0⟩] scope pos) scope X.env _ (newList []) false (eval iter X.env) (some (assign (.Name x pos') X.env))) _ _ s
  refine wpAny_bind (wpAny_mono (wpAny_comprehension_free (use := some (assign (.Name x pos') X.env)) (Q := fun _ s' => SP X pins D .next s') rfl hs (closure_is (S.has I.ok)) S.kind (fun y hy hl => ?_)
    (wpAny_mono (hi pins s σ H _ I h) (fun xv s₁ h₁ => wpAny_mono h₁ (fun itv s₂ h₂ => ?_) fun _ _ e => e) fun _ _ e => e)) (fun _ s' hq => wpAny_pure (wpAny_pure hq)) fun _ _ e => e)
  · have := List.all_eq_true.mp S.loc y hy
    rw [hl] at this
    simpa using this
  · obtain ⟨it, fp, tn, J, H2, rfl, I2, T, st2, f2, q2⟩ := h₂
    refine comp_run S hc hb I2 T st2 f2 q2 (RR := fun acc C => compPost (model X.prog X.w) X.A X.xe (some (assign (.Name x pos') X.env)) (fun _ s' => SP X pins D .next s') acc C) fun D' C H' s' I' hn fC q => ?_
    obtain ⟨m, hn⟩ := hn
    obtain ⟨f0, f1, f2', f3, f4, f5⟩ := fC
    show wpAny _ X.A (assign (.Name x pos') X.env (.ref D')) _ _ _
    refine wpAny_assign_Name (store_ok2 I' hN hi' (.inl hx) (v := .ref D') rfl (fun s'' I'' hch => ?_) (.inr hx))
    obtain ⟨a, hsa, hca⟩ := hch
    have hCa : C ≠ a := by
      rcases hca with z | z
      · rw [z]; exact f1
      · exact fun e => f4 x a z e.symm
    refine ⟨m, hn.sameBut hsa hCa, fun h' hs' => ⟨_, H', I''.turned (t' := s''.toks) (fun b o hb' e => (hs'.2 b hb').trans e) f0 f1 f3 f4 f5, q⟩⟩
end
end L2

set_option Elab.async false
set_option linter.all false
set_option maxRecDepth 100000
set_option maxHeartbeats 4000000
namespace L2
open PySem PySem.Spec PyProof.Rows
inductive DV where
  | int (i : Int) | bl (b : Bool) | str (x : Str) | non | lst (xs : List DV) | tup (xs : List DV)
def Den (K : PySem.W.Frag) (H : Hp) : Nat → V → DV → Prop
  | _, .int i, .int j => i = j
  | _, .bl i, .bl j => i = j
  | _, .str i, .str j => i = j
  | _, .non, .non => True
  | n + 1, .ref a, .lst ds => ∃ xs, SqL K H a xs ∧ Paired (Den K H n) xs ds
  | n + 1, .ref a, .tup ds => ∃ xs, SqT K H a xs ∧ Paired (Den K H n) xs ds
  | _, _, _ => False
/-- two data that are compared place by place -/
def Like : Nat → DV → DV → Prop
  | _, .int _, .int _ => True
  | _, .bl _, .bl _ => True
  | _, .str _, .str _ => True
  | _, .non, .non => True
  | n + 1, .lst ds, .lst es => ds.length = es.length → ∀ (i : Nat) d e, ds[i]? = some d → es[i]? = some e → Like n d e
  | n + 1, .tup ds, .tup es => ∀ (i : Nat) d e, ds[i]? = some d → es[i]? = some e → Like n d e
  | _, _, _ => False
theorem Paired.get' {α β : Type} {F : α → β → Prop} : ∀ {xs : List α} {ys : List β} {i : Nat} {x : α}, Paired F xs ys → xs[i]? = some x → ∃ y, ys[i]? = some y ∧ F x y
  | _, _, _, _, .nil, e => by simp at e
  | _, _, 0, _, .cons r _, e => by simp at e; subst e; exact ⟨_, rfl, r⟩
  | _, _, i + 1, x, .cons _ t, e => by
    obtain ⟨u, h1, h2⟩ := Paired.get' (i := i) (x := x) t (by simpa using e)
    exact ⟨u, by simpa using h1, h2⟩
section
variable {X : Cx} {pins : List (Addr × Obj)} {σ : St} {H : Hp} {s : Shared}
theorem paired_inj {α β : Type} {F : α → β → Prop} (hF : ∀ x d e, F x d → F x e → d = e) : ∀ {xs : List α} {ds es : List β}, Paired F xs ds → Paired F xs es → ds = es
  | _, _, _, .nil, .nil => rfl
  | _, _, _, .cons a b, .cons c d => by rw [hF _ _ _ a c, paired_inj hF b d]
theorem not_both (I : Inv X pins σ H s) {a : Addr} {xs ys : List V} (h : SqL X.K H a xs) (h' : SqT X.K H a ys) : False := by
  obtain ⟨its, _, ⟨o, n, e, c, _⟩, _⟩ := I.list h
  obtain ⟨its', _, ⟨o', e', c', _⟩, _⟩ := I.tuple h'
  rw [e] at e'; cases e'
  rw [c] at c'
  exact absurd c' (by decide)
theorem den_inj (I : Inv X pins σ H s) : ∀ (n : Nat) (x : V) (d e : DV), Den X.K H n x d → Den X.K H n x e → d = e := by
  intro n
  induction n with
  | zero =>
    intro x d e h1 h2
    cases x <;> cases d <;> simp only [Den] at h1 <;> cases e <;> simp only [Den] at h2 <;> first | rfl | (subst h1; subst h2; rfl)
  | succ n ih =>
    intro x d e h1 h2
    cases x with
    | ref a =>
      cases d with
      | lst ds =>
        obtain ⟨xs, hs, hp⟩ : ∃ xs, SqL X.K H a xs ∧ Paired (Den X.K H n) xs ds := h1
        cases e with
        | lst es =>
          obtain ⟨ys, hs', hp'⟩ : ∃ xs, SqL X.K H a xs ∧ Paired (Den X.K H n) xs es := h2
          rw [I.list_inj hs' hs] at hp'
          rw [paired_inj ih hp hp']
        | tup es =>
          obtain ⟨ys, hs', hp'⟩ : ∃ xs, SqT X.K H a xs ∧ Paired (Den X.K H n) xs es := h2
          exact (not_both I hs hs').elim
        | _ => exact False.elim h2
      | tup ds =>
        obtain ⟨xs, hs, hp⟩ : ∃ xs, SqT X.K H a xs ∧ Paired (Den X.K H n) xs ds := h1
        cases e with
        | tup es =>
          obtain ⟨ys, hs', hp'⟩ : ∃ xs, SqT X.K H a xs ∧ Paired (Den X.K H n) xs es := h2
          rw [I.tuple_inj hs' hs] at hp'
          rw [paired_inj ih hp hp']
        | lst es =>
          obtain ⟨ys, hs', hp'⟩ : ∃ xs, SqL X.K H a xs ∧ Paired (Den X.K H n) xs es := h2
          exact (not_both I hs' hs).elim
        | _ => exact False.elim h2
      | _ => exact False.elim h1
    | int i => cases d <;> simp only [Den] at h1 <;> cases e <;> simp only [Den] at h2 <;> (subst h1; subst h2; rfl)
    | bl i => cases d <;> simp only [Den] at h1 <;> cases e <;> simp only [Den] at h2 <;> (subst h1; subst h2; rfl)
    | str i => cases d <;> simp only [Den] at h1 <;> cases e <;> simp only [Den] at h2 <;> (subst h1; subst h2; rfl)
    | non => cases d <;> simp only [Den] at h1 <;> cases e <;> simp only [Den] at h2 <;> rfl
    | _ => cases d <;> exact False.elim h1
open Classical in
/-- the answer of == -/
noncomputable def eqD (d e : DV) : Bool := decide (d = e)
theorem eqD_same (d : DV) : eqD d d = true := by simp [eqD]
theorem all_places {ds es : List DV} (h : ds.length = es.length) : ((List.range ds.length).all fun j => eqD (ds[j]?.getD (.int 0)) (es[j]?.getD (.int 0))) = eqD (.lst ds) (.lst es) := by
  rw [Bool.eq_iff_iff]
  simp only [List.all_eq_true, List.mem_range, eqD, decide_eq_true_eq, DV.lst.injEq]
  constructor
  · intro hj
    refine List.ext_getElem? fun i => ?_
    by_cases hi : i < ds.length
    · have := hj i hi
      rw [List.getElem?_eq_getElem hi, List.getElem?_eq_getElem (by lia : i < es.length)] at this ⊢
      simpa using this
    · rw [List.getElem?_eq_none (by lia), List.getElem?_eq_none (by lia)]
  · rintro rfl j _
    rfl
theorem all_placesT {ds es : List DV} : (((List.range (min ds.length es.length)).all fun j => eqD (ds[j]?.getD (.int 0)) (es[j]?.getD (.int 0))) && ds.length == es.length) = eqD (.tup ds) (.tup es) := by
  by_cases h : ds.length = es.length
  · have e : eqD (.tup ds) (.tup es) = eqD (.lst ds) (.lst es) := by simp [eqD]
    rw [e, ← all_places h, h]
    simp [h]
  · have : ¬ ds = es := fun e => h (congrArg List.length e)
    have e : eqD (.tup ds) (.tup es) = false := by simp [eqD, this]
    rw [e]
    simp [h]
theorem eqAt_D (I : Inv X pins σ H s) : ∀ (n : Nat) (A : Around) (x y : V) (d e : DV) (u v : Value), Den X.K H n x d → Den X.K H n y e → Like n d e → RelV x u → RelV y v → A.units + n < cLine → SeqAt.EqAt A s u v (eqD d e) := by
  intro n
  have leaf : ∀ (n : Nat) (A : Around) (x y : V) (d e : DV) (u v : Value), (∀ a, x ≠ .ref a) → Den X.K H n x d → Den X.K H n y e → Like n d e → RelV x u → RelV y v → SeqAt.EqAt A s u v (eqD d e) := by
    intro n A x y d e u v hx h1 h2 hl r1 r2
    cases x with
    | ref a => exact absurd rfl (hx a)
    | non =>
      cases d <;> simp only [Den] at h1
      cases e <;> simp only [Like] at hl
      cases y <;> simp only [Den] at h2
      cases r1
      cases r2
      rw [eqD_same]
      exact SeqAt.EqAt.same _
    | int i =>
      cases d <;> simp only [Den] at h1
      subst h1
      cases e <;> simp only [Like] at hl
      cases y <;> simp only [Den] at h2
      subst h2
      obtain ⟨t, rfl⟩ := r1
      obtain ⟨t', rfl⟩ := r2
      rename_i j
      have e1 : eqD (.int i) (.int j) = (i == j) := by
        rw [Bool.eq_iff_iff]; simp [eqD]
      rw [e1]
      exact SeqAt.EqAt.int_int i t j t'
    | bl i =>
      cases d <;> simp only [Den] at h1
      subst h1
      cases e <;> simp only [Like] at hl
      cases y <;> simp only [Den] at h2
      subst h2
      cases r1
      cases r2
      rename_i j
      have e1 : eqD (.bl i) (.bl j) = (i == j) := by
        rw [Bool.eq_iff_iff]; simp [eqD]
      rw [e1]
      exact SeqAt.EqAt.bool_bool i j
    | str i =>
      cases d <;> simp only [Den] at h1
      subst h1
      cases e <;> simp only [Like] at hl
      cases y <;> simp only [Den] at h2
      subst h2
      obtain ⟨t, rfl⟩ := r1
      obtain ⟨t', rfl⟩ := r2
      rename_i j
      have e1 : eqD (.str i) (.str j) = (i == j) := by
        rw [Bool.eq_iff_iff]; simp [eqD]
      rw [e1]
      exact SeqAt.EqAt.str_str i t j t'
    | _ => cases n <;> cases d <;> exact False.elim h1
  induction n with
  | zero =>
    intro A x y d e u v h1 h2 hl r1 r2 hu
    refine leaf 0 A x y d e u v (fun a z => ?_) h1 h2 hl r1 r2
    subst z
    cases d <;> exact False.elim h1
  | succ n ih =>
    intro A x y d e u v h1 h2 hl r1 r2 hu
    cases x with
    | ref a =>
      cases r1
      cases d with
      | lst ds =>
        obtain ⟨xs, hs, hp⟩ : ∃ xs, SqL X.K H a xs ∧ Paired (Den X.K H n) xs ds := h1
        cases e with
        | lst es =>
          cases y with
          | ref b =>
            cases r2
            obtain ⟨ys, hs', hp'⟩ : ∃ xs, SqL X.K H b xs ∧ Paired (Den X.K H n) xs es := h2
            by_cases hab : a = b
            · subst hab
              rw [I.list_inj hs' hs] at hp'
              rw [paired_inj (den_inj I n) hp hp', eqD_same]
              exact SeqAt.EqAt.same _
            · refine SeqAt.EqAt.of_refs hab ?_
              obtain ⟨its, ri, pl, _⟩ := I.list hs
              obtain ⟨its', ri', pl', _⟩ := I.list hs'
              have l1 := ri.length
              have l2 := ri'.length
              have l3 : xs.length = ds.length := Paired.length hp
              have l4 : ys.length = es.length := Paired.length hp'
              by_cases hlen : ds.length = es.length
              · rw [← all_places hlen]
                have hsz : its.toArray.size = its'.toArray.size := by rw [List.size_toArray, List.size_toArray]; lia
                have := SeqAt.RcAt.lists (e := fun j => eqD (ds[j]?.getD (.int 0)) (es[j]?.getD (.int 0))) pl.isList pl'.isList hsz (by lia : A.units < cLine) (fun j h1' h2' => ?_)
                · rw [List.size_toArray, ← l1, l3] at this
                  exact this
                · rw [List.size_toArray] at h1' h2'
                  have hj1 : xs[j]? = some xs[j] := List.getElem?_eq_getElem (by lia)
                  have hj2 : ys[j]? = some ys[j] := List.getElem?_eq_getElem (by lia)
                  obtain ⟨d', hd, hdd⟩ := Paired.get' hp hj1
                  obtain ⟨e', he, hee⟩ := Paired.get' hp' hj2
                  obtain ⟨u', hu', ru'⟩ := ri.get hj1
                  obtain ⟨v', hv', rv'⟩ := ri'.get hj2
                  have eu : its.toArray[j] = u' := by
                    have : its[j]? = some its[j] := List.getElem?_eq_getElem h1'
                    rw [this] at hu'; simpa using Option.some.inj hu'
                  have ev : its'.toArray[j] = v' := by
                    have : its'[j]? = some its'[j] := List.getElem?_eq_getElem h2'
                    rw [this] at hv'; simpa using Option.some.inj hv'
                  rw [eu, ev, hd, he]
                  exact ih A.in1 _ _ d' e' u' v' hdd hee (hl hlen j d' e' hd he) ru' rv' (by show A.units + 1 + n < cLine; lia)
              · have hne : ¬ ds = es := fun z => hlen (congrArg List.length z)
                have e1 : eqD (.lst ds) (.lst es) = false := by simp [eqD, hne]
                rw [e1]
                exact SeqAt.RcAt.lists_lengths pl.isList pl'.isList (by simp only [List.size_toArray, bne_iff_ne, ne_eq]; lia) (by lia)
          | _ => exact False.elim h2
        | _ => exact False.elim hl
      | tup ds =>
        obtain ⟨xs, hs, hp⟩ : ∃ xs, SqT X.K H a xs ∧ Paired (Den X.K H n) xs ds := h1
        cases e with
        | tup es =>
          cases y with
          | ref b =>
            cases r2
            obtain ⟨ys, hs', hp'⟩ : ∃ xs, SqT X.K H b xs ∧ Paired (Den X.K H n) xs es := h2
            by_cases hab : a = b
            · subst hab
              rw [I.tuple_inj hs' hs] at hp'
              rw [paired_inj (den_inj I n) hp hp', eqD_same]
              exact SeqAt.EqAt.same _
            · refine SeqAt.EqAt.of_refs hab ?_
              obtain ⟨its, ri, pl, _⟩ := I.tuple hs
              obtain ⟨its', ri', pl', _⟩ := I.tuple hs'
              have l1 := ri.length
              have l2 := ri'.length
              have l3 : xs.length = ds.length := Paired.length hp
              have l4 : ys.length = es.length := Paired.length hp'
              rw [← all_placesT]
              have := SeqAt.RcAt.tuples (e := fun j => eqD (ds[j]?.getD (.int 0)) (es[j]?.getD (.int 0))) (show s.heap.IsTuple a its.toArray from pl) (show s.heap.IsTuple b its'.toArray from pl') (by lia : A.units < cLine) (fun j h1' h2' => ?_)
              · rw [List.size_toArray, List.size_toArray, ← l1, l3, ← l2, l4] at this
                exact this
              · rw [List.size_toArray] at h1' h2'
                have hj1 : xs[j]? = some xs[j] := List.getElem?_eq_getElem (by lia)
                have hj2 : ys[j]? = some ys[j] := List.getElem?_eq_getElem (by lia)
                obtain ⟨d', hd, hdd⟩ := Paired.get' hp hj1
                obtain ⟨e', he, hee⟩ := Paired.get' hp' hj2
                obtain ⟨u', hu', ru'⟩ := ri.get hj1
                obtain ⟨v', hv', rv'⟩ := ri'.get hj2
                have eu : its.toArray[j] = u' := by
                  have : its[j]? = some its[j] := List.getElem?_eq_getElem h1'
                  rw [this] at hu'; simpa using Option.some.inj hu'
                have ev : its'.toArray[j] = v' := by
                  have : its'[j]? = some its'[j] := List.getElem?_eq_getElem h2'
                  rw [this] at hv'; simpa using Option.some.inj hv'
                rw [eu, ev, hd, he]
                exact ih A.in1 _ _ d' e' u' v' hdd hee (hl j d' e' hd he) ru' rv' (by show A.units + 1 + n < cLine; lia)
          | _ => exact False.elim h2
        | _ => exact False.elim hl
      | _ => exact False.elim h1
    | int i => exact leaf (n + 1) A (.int i) y d e u v (fun _ z => nomatch z) h1 h2 hl r1 r2
    | bl i => exact leaf (n + 1) A (.bl i) y d e u v (fun _ z => nomatch z) h1 h2 hl r1 r2
    | str i => exact leaf (n + 1) A (.str i) y d e u v (fun _ z => nomatch z) h1 h2 hl r1 r2
    | non => exact leaf (n + 1) A .non y d e u v (fun _ z => nomatch z) h1 h2 hl r1 r2
    | _ => cases d <;> exact False.elim h1
end
section
variable {X : Cx} {pins : List (Addr × Obj)} {σ : St} {H : Hp} {s : Shared}
theorem rc_lists (I : Inv X pins σ H s) {n : Nat} {A : Around} {a b : Addr} {ds es : List DV} (h1 : Den X.K H (n + 1) (.ref a) (.lst ds)) (h2 : Den X.K H (n + 1) (.ref b) (.lst es)) (hl : Like (n + 1) (.lst ds) (.lst es)) (hu : A.units + n + 1 < cLine) :
    SeqAt.RcAt A s (.ref a) (.ref b) (eqD (.lst ds) (.lst es)) ∧ SeqAt.RcNeAt A s (.ref a) (.ref b) (!eqD (.lst ds) (.lst es)) := by
  obtain ⟨xs, hs, hp⟩ : ∃ xs, SqL X.K H a xs ∧ Paired (Den X.K H n) xs ds := h1
  obtain ⟨ys, hs', hp'⟩ : ∃ xs, SqL X.K H b xs ∧ Paired (Den X.K H n) xs es := h2
  obtain ⟨its, ri, pl, _⟩ := I.list hs
  obtain ⟨its', ri', pl', _⟩ := I.list hs'
  have l1 := ri.length
  have l2 := ri'.length
  have l3 : xs.length = ds.length := Paired.length hp
  have l4 : ys.length = es.length := Paired.length hp'
  have go : ∀ j (h1' : j < its.toArray.size) (h2' : j < its'.toArray.size), ds.length = es.length → SeqAt.EqAt A.in1 s its.toArray[j] its'.toArray[j] (eqD (ds[j]?.getD (.int 0)) (es[j]?.getD (.int 0))) := fun j h1' h2' hlen => by
    rw [List.size_toArray] at h1' h2'
    have hj1 : xs[j]? = some xs[j] := List.getElem?_eq_getElem (by lia)
    have hj2 : ys[j]? = some ys[j] := List.getElem?_eq_getElem (by lia)
    obtain ⟨d', hd, hdd⟩ := Paired.get' hp hj1
    obtain ⟨e', he, hee⟩ := Paired.get' hp' hj2
    obtain ⟨u', hu', ru'⟩ := ri.get hj1
    obtain ⟨v', hv', rv'⟩ := ri'.get hj2
    have eu : its.toArray[j] = u' := by
      have : its[j]? = some its[j] := List.getElem?_eq_getElem h1'
      rw [this] at hu'; simpa using Option.some.inj hu'
    have ev : its'.toArray[j] = v' := by
      have : its'[j]? = some its'[j] := List.getElem?_eq_getElem h2'
      rw [this] at hv'; simpa using Option.some.inj hv'
    rw [eu, ev, hd, he]
    exact eqAt_D I n A.in1 _ _ d' e' u' v' hdd hee (hl hlen j d' e' hd he) ru' rv' (by show A.units + 1 + n < cLine; lia)
  by_cases hlen : ds.length = es.length
  · rw [← all_places hlen]
    have hsz : its.toArray.size = its'.toArray.size := by rw [List.size_toArray, List.size_toArray]; lia
    have r1 := SeqAt.RcAt.lists (e := fun j => eqD (ds[j]?.getD (.int 0)) (es[j]?.getD (.int 0))) pl.isList pl'.isList hsz (by lia : A.units < cLine) (fun j h1' h2' => go j h1' h2' hlen)
    have r2 := SeqAt.RcNeAt.lists (e := fun j => eqD (ds[j]?.getD (.int 0)) (es[j]?.getD (.int 0))) pl.isList pl'.isList hsz (by lia : A.units < cLine) (fun j h1' h2' => go j h1' h2' hlen)
    rw [List.size_toArray, ← l1, l3] at r1 r2
    exact ⟨r1, r2⟩
  · have hne : ¬ ds = es := fun z => hlen (congrArg List.length z)
    have e1 : eqD (.lst ds) (.lst es) = false := by simp [eqD, hne]
    rw [e1]
    exact ⟨SeqAt.RcAt.lists_lengths pl.isList pl'.isList (by simp only [List.size_toArray, bne_iff_ne, ne_eq]; lia) (by lia), SeqAt.RcNeAt.lists_lengths pl.isList pl'.isList (by simp only [List.size_toArray, bne_iff_ne, ne_eq]; lia) (by lia)⟩
theorem rc_tuples (I : Inv X pins σ H s) {n : Nat} {A : Around} {a b : Addr} {ds es : List DV} (h1 : Den X.K H (n + 1) (.ref a) (.tup ds)) (h2 : Den X.K H (n + 1) (.ref b) (.tup es)) (hl : Like (n + 1) (.tup ds) (.tup es)) (hu : A.units + n + 1 < cLine) :
    SeqAt.RcAt A s (.ref a) (.ref b) (eqD (.tup ds) (.tup es)) ∧ SeqAt.RcNeAt A s (.ref a) (.ref b) (!eqD (.tup ds) (.tup es)) := by
  obtain ⟨xs, hs, hp⟩ : ∃ xs, SqT X.K H a xs ∧ Paired (Den X.K H n) xs ds := h1
  obtain ⟨ys, hs', hp'⟩ : ∃ xs, SqT X.K H b xs ∧ Paired (Den X.K H n) xs es := h2
  obtain ⟨its, ri, pl, _⟩ := I.tuple hs
  obtain ⟨its', ri', pl', _⟩ := I.tuple hs'
  have l1 := ri.length
  have l2 := ri'.length
  have l3 : xs.length = ds.length := Paired.length hp
  have l4 : ys.length = es.length := Paired.length hp'
  have go : ∀ j (h1' : j < its.toArray.size) (h2' : j < its'.toArray.size), SeqAt.EqAt A.in1 s its.toArray[j] its'.toArray[j] (eqD (ds[j]?.getD (.int 0)) (es[j]?.getD (.int 0))) := fun j h1' h2' => by
    rw [List.size_toArray] at h1' h2'
    have hj1 : xs[j]? = some xs[j] := List.getElem?_eq_getElem (by lia)
    have hj2 : ys[j]? = some ys[j] := List.getElem?_eq_getElem (by lia)
    obtain ⟨d', hd, hdd⟩ := Paired.get' hp hj1
    obtain ⟨e', he, hee⟩ := Paired.get' hp' hj2
    obtain ⟨u', hu', ru'⟩ := ri.get hj1
    obtain ⟨v', hv', rv'⟩ := ri'.get hj2
    have eu : its.toArray[j] = u' := by
      have : its[j]? = some its[j] := List.getElem?_eq_getElem h1'
      rw [this] at hu'; simpa using Option.some.inj hu'
    have ev : its'.toArray[j] = v' := by
      have : its'[j]? = some its'[j] := List.getElem?_eq_getElem h2'
      rw [this] at hv'; simpa using Option.some.inj hv'
    rw [eu, ev, hd, he]
    exact eqAt_D I n A.in1 _ _ d' e' u' v' hdd hee (hl j d' e' hd he) ru' rv' (by show A.units + 1 + n < cLine; lia)
  rw [← all_placesT]
  have r1 := SeqAt.RcAt.tuples (e := fun j => eqD (ds[j]?.getD (.int 0)) (es[j]?.getD (.int 0))) (show s.heap.IsTuple a its.toArray from pl) (show s.heap.IsTuple b its'.toArray from pl') (by lia : A.units < cLine) go
  have r2 := SeqAt.RcNeAt.tuples (e := fun j => eqD (ds[j]?.getD (.int 0)) (es[j]?.getD (.int 0))) (show s.heap.IsTuple a its.toArray from pl) (show s.heap.IsTuple b its'.toArray from pl') (by lia : A.units < cLine) go
  rw [List.size_toArray, List.size_toArray, ← l1, l3, ← l2, l4] at r1 r2
  exact ⟨r1, r2⟩
end
/-- == of two lists, two tuples by what they hold -/
def rEqD (K : PySem.W.Frag) (n : Nat) : R2 := fun x y H Q => ∃ a b d e, x = .ref a ∧ y = .ref b ∧ Den K H (n + 1) (.ref a) d ∧ Den K H (n + 1) (.ref b) e ∧ Like (n + 1) d e ∧ Q (.bl (eqD d e)) H
def rNeD (K : PySem.W.Frag) (n : Nat) : R2 := fun x y H Q => ∃ a b d e, x = .ref a ∧ y = .ref b ∧ Den K H (n + 1) (.ref a) d ∧ Den K H (n + 1) (.ref b) e ∧ Like (n + 1) d e ∧ Q (.bl (!eqD d e)) H
theorem op_eqD {X : Cx} {k : Nat} (n : Nat) (hr : Room k X.A) (hn : n ≤ 9 := by decide) : OpR X (compareOp .Eq) (rEqD X.K n) := by
  intro pins s σ H x y v u Q I rx ry h
  obtain ⟨a, b, d, e, rfl, rfl, hd, he, hl, q⟩ := h
  cases rx; cases ry
  have hu := hr.units
  cases d with
  | lst ds =>
    cases e with
    | lst es => exact (rc_lists I (A := X.A) hd he hl (by lia)).1 _ _ _ _ ⟨.bl _, H, I, rfl, q⟩
    | _ => exact False.elim hl
  | tup ds =>
    cases e with
    | tup es => exact (rc_tuples I (A := X.A) hd he hl (by lia)).1 _ _ _ _ ⟨.bl _, H, I, rfl, q⟩
    | _ => exact False.elim hl
  | _ => exact False.elim hd
theorem op_neD {X : Cx} {k : Nat} (n : Nat) (hr : Room k X.A) (hn : n ≤ 9 := by decide) : OpR X (compareOp .NotEq) (rNeD X.K n) := by
  intro pins s σ H x y v u Q I rx ry h
  obtain ⟨a, b, d, e, rfl, rfl, hd, he, hl, q⟩ := h
  cases rx; cases ry
  have hu := hr.units
  cases d with
  | lst ds =>
    cases e with
    | lst es => exact (rc_lists I (A := X.A) hd he hl (by lia)).2 _ _ _ _ ⟨.bl _, H, I, rfl, q⟩
    | _ => exact False.elim hl
  | tup ds =>
    cases e with
    | tup es => exact (rc_tuples I (A := X.A) hd he hl (by lia)).2 _ _ _ _ ⟨.bl _, H, I, rfl, q⟩
    | _ => exact False.elim hl
  | _ => exact False.elim hd
theorem paired_ints {F : V → DV → Prop} (hF : ∀ i : Int, F (.int i) (.int i)) : ∀ ns : List Int, Paired F (ns.map V.int) (ns.map DV.int)
  | [] => .nil
  | i :: r => .cons (hF i) (paired_ints hF r)
theorem den_int {K : PySem.W.Frag} {H : Hp} {n : Nat} {i : Int} : Den K H n (.int i) (.int i) := by cases n <;> rfl
theorem den_ints {K : PySem.W.Frag} {H : Hp} {n : Nat} {a : Addr} {ns : List Int} (h : SqL K H a (ns.map V.int)) : Den K H (n + 1) (.ref a) (.lst (ns.map DV.int)) := ⟨_, h, paired_ints (fun _ => den_int) ns⟩
end L2

set_option Elab.async false
set_option linter.all false
set_option maxRecDepth 100000
set_option maxHeartbeats 4000000
namespace L2
open PySem PySem.Spec PyProof.Rows
section
variable {X : Cx}
theorem call_all (hc : X.calm = true) : CallR X (.builtin "all") (fun xs H Q => ∃ (p : Addr) (bs : List Bool), xs = [.ref p] ∧ SqL X.K H p (bs.map V.bl) ∧ Q (.bl (bs.all id)) H) := by
  intro pins s σ H xs us Q I r h
  obtain ⟨p, bs, rfl, hp, q⟩ := h
  obtain ⟨u, rfl, ru⟩ := vals1 r
  cases ru
  obtain ⟨its, ri, pl, hz⟩ := I.list hp
  have hl := ri.length
  rw [List.length_map] at hl
  refine call_all_walk (wpAny_pyIter_list pl.isList ?_)
  have hlt : p < s.heap.objs.size := by obtain ⟨o, e, _⟩ := pl.isList; exact Heap.lt_size e
  refine ⟨s.heap.objs.size, _, _, _, _, _, fun i => bs[i]?.getD true, rfl, Walks.list (A := X.A.in1) (I.ok.hd hc) s.heap.objs.size p (Nat.ne_of_lt hlt) its.toArray, ⟨⟨_, Heap.get?_push_size _ rfl, rfl, rfl⟩, pl.isList.at fun o e => Heap.get?_push_of_some _ e⟩, ?_, ?_⟩
  · intro i v s' Q' E' hv hq
    have hv' : its[i]? = some v := by simpa using hv
    have hi : i < its.length := (List.getElem?_eq_some_iff.mp hv').1
    have hb : (bs.map V.bl)[i]? = some (.bl (bs[i]'(by lia))) := by rw [List.getElem?_map, List.getElem?_eq_getElem (by lia)]; rfl
    obtain ⟨w', e, rw'⟩ := ri.get hb
    rw [hv'] at e
    cases e
    obtain rfl : v = Value.bool _ := rw'
    dsimp only at hq
    rw [List.getElem?_eq_getElem (by omega)] at hq
    exact wpAny_truthy_bool hq
  · intro h' tk hk
    have e : (List.range its.toArray.size).all (fun i => bs[i]?.getD true) = bs.all id := by
      rw [List.size_toArray, ← hl, Bool.eq_iff_iff]
      simp only [List.all_eq_true, List.mem_range, id]
      constructor
      · intro h x hx
        obtain ⟨i, hi, e⟩ := List.getElem_of_mem hx
        have := h i hi
        rw [List.getElem?_eq_getElem hi] at this
        rw [← e]; exact this
      · intro h i hi
        rw [List.getElem?_eq_getElem hi]
        exact h _ (List.getElem_mem hi)
    rw [e]
    refine ⟨.bl _, H, I.kept fun b o e => hk b o ?_ (Heap.get?_push_of_some _ e), rfl, q⟩
    intro z
    have z' : b = s.heap.objs.size := by simpa using z
    exact absurd (Heap.lt_size e) (by rw [z']; exact Nat.lt_irrefl _)
theorem preSum_take (ns : List Int) : ∀ j : Nat, j ≤ ns.length → preSum (fun i => ns[i]?.getD 0) j = (ns.take j).sum
  | 0, _ => by simp [preSum]
  | j + 1, h => by
    rw [preSum, preSum_take ns j (by lia), ← List.take_append_getElem (by lia : j < ns.length), List.sum_append, List.getElem?_eq_getElem (by lia : j < ns.length)]
    simp
end
end L2

set_option Elab.async false
set_option linter.all false
set_option maxRecDepth 100000
set_option maxHeartbeats 4000000
namespace L2
open PySem PySem.Spec PyProof.Rows
section
variable {prog : Program} {w : World} {A : Around} {E : Value → Shared → Prop} {s : Shared}
end
section
variable {prog : Program} {w : World} {A : Around} {E : Value → Shared → Prop} {s : Shared}
end
end L2

set_option Elab.async false
set_option linter.all false
set_option maxRecDepth 100000
set_option maxHeartbeats 400000
namespace L2
open PySem PySem.Spec PyProof.Rows
def Iten (S : Hp → Addr → List V → Prop) (a : Addr) (k : Nat) : It :=
  ⟨fun i H => ∃ xs x, S H a xs ∧ xs[i]? = some x, fun i H x H' => ∃ t y, x = .ref t ∧ H t = none ∧ H' = upd H t (.tup [.int (((k + i : Nat)) : Int), y]) ∧ ∀ xs, S H a xs → xs[i]? = some y, fun i H => ∃ xs, S H a xs ∧ xs.length = i⟩
section
variable {X : Cx} {pins : List (Addr × Obj)} {σ : St} {H : Hp} {s : Shared}
/-- two records turn, a pair is laid -/
theorem Inv.pair {e it t : Addr} {g : Heap} {tk : Nat} {o : HO} (I : Inv X pins σ H s) (fe : FpOk X pins H e) (fi : FpOk X pins H it) (ht : s.heap.objs.size ≤ t)
    (k : ∀ b o, b ≠ e → b ≠ it → s.heap.get? b = some o → g.get? b = some o) (new : ObjOk X.prog X.w (upd H t o) g t o) : Inv X pins σ (upd H t o) { s with heap := g, toks := tk } := by
  have hn : H t = none := I.hok.fresh ht
  obtain ⟨e0, e1, e2, e3, e4, e5⟩ := fe
  obtain ⟨i0, i1, i2, i3, i4, i5⟩ := fi
  have nt : ∀ b o, s.heap.get? b = some o → b ≠ t := fun b o q z => by
    subst z
    exact absurd (Nat.lt_of_lt_of_le (Heap.lt_size q) ht) (Nat.lt_irrefl _)
  have nch : ∀ b, b ∉ [e, it] → b ≠ e ∧ b ≠ it := fun b hb => ⟨fun z => hb (by simp [z]), fun z => hb (by simp [z])⟩
  have ne : ∀ b u, H b = some u → b ≠ e ∧ b ≠ it := fun b u q => ⟨ne_of_none q e0, ne_of_none q i0⟩
  refine I.step (g' := s.gens) (d' := s.drawn) (ch := [e, it]) (fun b hb => ?_) (fun b o _ _ hc q _ => k b o (nch b hc).1 (nch b hc).2 q) (fun b o _ _ hc q _ => ⟨o.slots, k b o (nch b hc).1 (nch b hc).2 q⟩) (fun b o _ q n => by rw [upd_ne (nt b o q)]; exact n)
    (fun b o hc q => ⟨o, k b o (nch b hc).1 (nch b hc).2 q⟩) (fun b xs q => by rw [upd_ne (ne_of_none q hn)]; exact q) (fun b o u q => by rw [upd_ne (ne_of_none q hn)]; exact q) (fun b ps q => ⟨#[], by rw [upd_ne (ne_of_none q hn), q]; simp⟩) (fun m hm => ?_) (fun b u q => ?_) I.bare
  · rcases List.mem_cons.mp hb with z | z
    · subst z; exact ⟨e3, e1, e4, e5⟩
    · have z' : b = it := by simpa using z
      subst z'; exact ⟨i3, i1, i4, i5⟩
  · obtain ⟨ol, es, ep, ho, r⟩ := hm
    exact ⟨ol, es, ep, k _ ol (Ne.symm e1) (Ne.symm i1) ho, r⟩
  · by_cases hb : b = t
    · subst hb; rw [upd_same] at q; cases q; exact new
    · rw [upd_ne hb] at q
      refine (I.hok b u q).stay (fun c v hc z => k c v ?_ ?_ z) (fun c z => by rw [upd_ne (ne_of_none z hn)]; exact z) fun c xs z => by rw [upd_ne (ne_of_none z hn)]; exact z
      · rcases hc with z' | z'
        · rw [z']; exact (ne b u q).1
        · exact (ne c _ z').1
      · rcases hc with z' | z'
        · rw [z']; exact (ne b u q).2
        · exact (ne c _ z').2
end
/-- what draws from the sequence at a by the iterator at it -/
structure SrcOk (P : Program) (w : World) (K : PySem.W.Frag) (S : Hp → Addr → List V → Prop) (a it : Addr) (sq : Heap → Array Value → Prop) (ti : Nat → Heap → Prop) : Prop where
  obj : ∀ i h, ti i h → ∃ o, h.get? it = some o ∧ ∀ v, o.data ≠ .cell v
  keep : ∀ i h h', ti i h → (∀ o, h.get? it = some o → h'.get? it = some o) → ti i h'
  sk : ∀ h h' vs, sq h vs → (∀ o, h.get? a = some o → h'.get? a = some o) → sq h' vs
  ne : ∀ h vs i, sq h vs → ti i h → a ≠ it
  nee : ∀ h vs e j old, sq h vs → IsEnum h e it j old → a ≠ e
  abs : ∀ (X : Cx) (pins : List (Addr × Obj)) (σ : St) (H : Hp) (s : Shared) (xs : List V), X.K = K → Inv X pins σ H s → S H a xs → ∃ its : List Value, Vals xs its ∧ sq s.heap its.toArray
  one : ∀ (X : Cx) (pins : List (Addr × Obj)) (σ : St) (H : Hp) (s : Shared) (xs ys : List V), X.K = K → Inv X pins σ H s → S H a xs → S H a ys → xs = ys
  item : ∀ (A : Around) (i : Nat) (s : Shared) (vs : Array Value) (u : Value) (Q : Value → Shared → Prop) (E : Value → Shared → Prop), ti i s.heap → sq s.heap vs → vs[i]? = some u →
    (∀ g, ti (i + 1) g → Heap.SameBut it s.heap g → Q u { s with heap := g }) → wpAny (model P w) A (Builtin.SmallTypes.nextOf (.ref it)) Q E s
  done : ∀ (A : Around) (i : Nat) (s : Shared) (vs : Array Value) (Q : Value → Shared → Prop) (E : Value → Shared → Prop), A.handled = none → ti i s.heap → sq s.heap vs → vs[i]? = none →
    (∀ g e, Heap.ExtBut it s.heap g → (∃ o, g.get? e = some o ∧ o.cls = .type "StopIteration") → E (.ref e) { s with heap := g }) → wpAny (model P w) A (Builtin.SmallTypes.nextOf (.ref it)) Q E s
theorem src_list {P : Program} {w : World} {K : PySem.W.Frag} (a it : Addr) : SrcOk P w K (SqL K) a it (fun h vs => h.IsList a vs) (fun i h => h.IsListIter it a i) where
  obj := fun i h st => by
    obtain ⟨o, e, c, d⟩ := st
    exact ⟨o, e, fun v z => by rw [d] at z; cases z⟩
  keep := fun i h h' st k => st.at k
  sk := fun h h' vs q k => q.at k
  ne := fun h vs i q st z => by
    obtain ⟨o, e, c, _⟩ := q
    obtain ⟨o', e', c', _⟩ := st
    rw [z, e'] at e
    cases e
    rw [c'] at c
    exact absurd (Value.type.inj c) (by decide)
  nee := fun h vs e j old q en z => by
    obtain ⟨o, q, c, _⟩ := q
    subst z
    rw [show h.get? a = _ from en] at q
    cases q
    exact absurd (Value.type.inj c) (by decide)
  abs := fun X pins σ H s xs hK I hq => by
    subst hK
    obtain ⟨its, rv, p, hz⟩ := I.list hq
    exact ⟨its, rv, p.isList⟩
  one := fun X pins σ H s xs ys hK I h1 h2 => by subst hK; exact I.list_inj h1 h2
  item := fun A i s vs u Q E st q hx k => wpAny_nextOf_list_item st q hx k
  done := fun A i s vs Q E hh st q hx k => wpAny_nextOf_list_end hh st q hx k
theorem SrcOk.draws {P : Program} {w : World} {K : PySem.W.Frag} {S : Hp → Addr → List V → Prop} {a it : Addr} {sq : Heap → Array Value → Prop} {ti : Nat → Heap → Prop} (O : SrcOk P w K S a it sq ti) {A : Around} (hh : A.handled = none) (k : Nat) (vs : Array Value) :
    Draws P w A it [it, a] (k + vs.size) (fun j y => ∃ i, j = k + i ∧ vs[i]? = some y) (fun j h => ∃ i, j = k + i ∧ ti i h ∧ sq h vs) where
  live := fun j h q => by
    obtain ⟨i, _, st, _⟩ := q
    obtain ⟨o, e, _⟩ := O.obj i h st
    exact ⟨o, e⟩
  frame := fun j h h' q kk => by
    obtain ⟨i, e, st, sv⟩ := q
    exact ⟨i, e, O.keep i h h' st fun o z => kk it (by simp) o z, O.sk h h' vs sv fun o z => kk a (by simp) o z⟩
  item := fun j s Q E hj q kq => by
    obtain ⟨i, rfl, st, sv⟩ := q
    have hi : i < vs.size := by lia
    refine O.item A i s vs vs[i] Q E st sv (by simp [hi]) fun g st' sb => ?_
    exact kq _ g s.toks ⟨i, rfl, by simp [hi]⟩ ⟨i + 1, by lia, st', O.sk _ _ vs sv fun o z => (sb.2 a (O.ne _ vs i sv st)).trans z⟩ sb
  done := fun s Q E q kq => by
    obtain ⟨i, hi, st, sv⟩ := q
    have : i = vs.size := by lia
    subst this
    exact O.done A _ s vs Q E hh st sv (by simp) kq
theorem turn_enum {P : Program} {w : World} {K : PySem.W.Frag} {S : Hp → Addr → List V → Prop} {elts : List Expr} {x1 : Nat} {tp : Pos} (a e it : Addr) (k : Nat) (hei : e ≠ it) {sq : Heap → Array Value → Prop} {ti : Nat → Heap → Prop} (O : SrcOk P w K S a it sq ti) :
    Turn P w K (.Tuple elts x1 tp) (Iten S a k) [e, it] e (fun i h => (∃ old, IsEnum h e it (((k + i : Nat)) : Int) old) ∧ ti i h) where
  mem := by simp
  obj := fun i h st b hb => by
    obtain ⟨⟨old, he⟩, st⟩ := st
    rcases List.mem_cons.mp hb with z | z
    · subst z
      exact ⟨_, he, fun v z => by
        have z' : Data.fields _ = Data.cell v := z
        cases z'⟩
    · have z' : b = it := by simpa using z
      subst z'
      exact O.obj i h st
  keep := fun i h h' st kk => by
    obtain ⟨⟨old, he⟩, st⟩ := st
    exact ⟨⟨old, kk e (by simp) _ he⟩, O.keep i h h' st fun o q => kk it (by simp) o q⟩
  item := by
    intro X hP hw hK hc i pins s σ H E I hf st hg
    obtain ⟨⟨old, he⟩, st⟩ := st
    obtain ⟨xs, x, hq, hx⟩ := hg
    have fe := hf e (by simp)
    have fi := hf it (by simp)
    obtain ⟨its, rv, sv⟩ := O.abs X pins σ H s xs hK I hq
    obtain ⟨u, hu, ru⟩ := rv.get hx
    have hlt : i < its.toArray.size := by
      rw [List.size_toArray]
      exact (List.getElem?_eq_some_iff.mp hu).1
    have hef : e ∉ [it, a] := fun z => by
      rcases List.mem_cons.mp z with z | z
      · exact hei z
      · exact O.nee _ _ _ _ _ sv he (by simpa using z : e = a).symm
    have hel : e < s.heap.objs.size := Heap.lt_size he
    have hil : it < s.heap.objs.size := by obtain ⟨o, q, _⟩ := O.obj i _ st; exact Heap.lt_size q
    refine wpAny_pyNext_enum_itemD (O.draws (A := X.A.in1) (I.ok.hd hc) k its.toArray) he ⟨i, rfl, st, sv⟩ (by lia) hei hef fun y g tk hy ho hst hT hsz hk => ?_
    obtain ⟨i', e1, hy⟩ := hy
    have e2 : i' = i := by lia
    subst e2
    have e3 : y = u := by
      have hu' : its.toArray[i']? = some u := by simpa using hu
      rw [hu'] at hy
      exact (Option.some.inj hy).symm
    subst e3
    refine ⟨_, rfl, wpAny_letOwnedTupleGo_enum ho fun g2 he2 hs2 => ?_⟩
    have nse : s.heap.objs.size ≠ e := Nat.ne_of_gt hel
    have hT2 : g2.get? s.heap.objs.size = some { cls := .type "tuple", data := .seq #[.int ((k + i' : Nat) : Int) tk, y] } := (hs2.2 _ nse).trans hT
    have I2 : Inv X pins σ (upd H s.heap.objs.size (.tup [.int (((k + i' : Nat)) : Int), x])) { s with heap := g2, toks := tk + 1 } := by
      refine I.pair fe fi (Nat.le_refl _) (fun b o h1 h2 q => (hs2.2 b h1).trans (hk b o h1 h2 q)) ?_
      exact ⟨by show 2 ≤ sizeLine; decide, [.int ((k + i' : Nat) : Int) tk, y], .cons ⟨tk, rfl⟩ (.cons ru .nil), ⟨_, hT2, rfl, 0, rfl⟩⟩
    obtain ⟨i2, e4, st2, _⟩ := hst
    have e5 : i2 = i' + 1 := by lia
    subst e5
    refine ⟨.ref s.heap.objs.size, _, I2, rfl, ⟨_, x, rfl, I.fresh, rfl, fun ys hys => ?_⟩, ⟨⟨y, ?_⟩, O.keep _ _ _ st2 fun o q => (hs2.2 it (Ne.symm hei)).trans q⟩, fun b hb => ?_⟩
    · rw [O.one X pins σ H s ys xs hK I hys hq]
      exact hx
    · have : (((k + (i' + 1) : Nat)) : Int) = ((k + i' : Nat) : Int) + 1 := by lia
      rw [this]
      exact he2
    · rcases List.mem_cons.mp hb with z | z
      · subst z
        rw [upd_ne (Ne.symm nse)]
        exact fe.1
      · have z' : b = it := by simpa using z
        subst z'
        rw [upd_ne (Nat.ne_of_lt hil)]
        exact fi.1
  done := by
    intro X hP hw hK hc i pins s σ H E I hf st hg
    obtain ⟨⟨old, he⟩, st⟩ := st
    obtain ⟨xs, hq, hx⟩ := hg
    obtain ⟨its, rv, sv⟩ := O.abs X pins σ H s xs hK I hq
    have hl := rv.length
    obtain ⟨f0, f1, f2, f3, f4, f5⟩ := hf it (by simp)
    exact wpAny_pyNext_enum_endD (O.draws (A := X.A.in1) (I.ok.hd hc) k its.toArray) he ⟨i, by simp; lia, st, sv⟩ fun g eb => ⟨rfl, I.turned (t' := s.toks) (fun b o hb q => eb b o hb q) f0 f1 f3 f4 f5⟩
  self := fun A i s Q E st h => by
    obtain ⟨⟨old, he⟩, st⟩ := st
    exact wpAny_pyIter_enum he h
theorem for_enumW {S : Hp → Addr → List V → Prop} {a : Addr} {k : Nat} {xs : List V} {σ : St} {H : Hp} {DN : St → Hp → Prop} {B : (St → Hp → Prop) → V → St → Hp → Prop} (Pv : Nat → St → Hp → Prop) (h0 : Pv 0 σ H)
    (hl : ∀ i σ H, i ≤ xs.length → Pv i σ H → S H a xs)
    (hs : ∀ i x σ H t, xs[i]? = some x → Pv i σ H → H t = none → B (Pv (i + 1)) (.ref t) σ (upd H t (.tup [.int (((k + i : Nat)) : Int), x]))) (hd : ∀ σ H, Pv xs.length σ H → DN σ H) :
    ∃ W : Nat → Nat → St → Hp → Prop, (∃ m, W 0 m σ H) ∧ ∀ i m σ H, W i m σ H →
      ((Iten S a k).stop i H ∧ DN σ H) ∨ ((Iten S a k).go i H ∧ ∃ N : St → Hp → Prop, (∀ σ' H', N σ' H' → ∃ m', m' < m ∧ W (i + 1) m' σ' H') ∧ ∀ x H', (Iten S a k).yld i H x H' → B N x σ H') := by
  refine ⟨fun i m σ H => m = xs.length - i ∧ i ≤ xs.length ∧ Pv i σ H, ⟨xs.length, by simp, Nat.zero_le _, h0⟩, ?_⟩
  rintro i m σ H ⟨rfl, hi, p⟩
  have q := hl i σ H hi p
  by_cases hlt : i < xs.length
  · refine .inr ⟨⟨xs, xs[i], q, by simp [hlt]⟩, Pv (i + 1), fun σ' H' p' => ⟨xs.length - (i + 1), by omega, rfl, hlt, p'⟩, fun x H' y => ?_⟩
    obtain ⟨t, y, e, ht, e', hy⟩ := y
    subst e e'
    exact hs i y σ _ t (hy xs q) p ht
  · have e : i = xs.length := by lia
    subst e
    exact .inl ⟨⟨xs, q, rfl⟩, hd σ H p⟩
def iEnL (K : PySem.W.Frag) (k : Nat) (te : TE) : TI := fun σ H R => te σ H fun x H1 => ∃ a, x = .ref a ∧ (∃ xs, SqL K H1 a xs) ∧ R (Iten (SqL K) a k) H1
def iEnT (K : PySem.W.Frag) (k : Nat) (te : TE) : TI := fun σ H R => te σ H fun x H1 => ∃ a, x = .ref a ∧ (∃ xs, SqT K H1 a xs) ∧ R (Iten (SqT K) a k) H1
section
variable {X : Cx} {elts : List Expr} {x1 : Nat} {tp : Pos}
/-- an enumerate object has come, over the iterator at it -/
theorem enum_pie {S : Hp → Addr → List V → Prop} {sq : Heap → Array Value → Prop} {ti : Nat → Heap → Prop} {pins : List (Addr × Obj)} {σ : St} {H : Hp} {s : Shared} {R : It → Hp → Prop} {E : Value → Shared → Prop} {a : Addr} {k : Nat} {g : Heap} {c : Int} (I : Inv X pins σ H s)
    (O : SrcOk X.prog X.w X.K S a s.heap.objs.size sq ti) (hc : c = (k : Int)) (he : IsEnum g (s.heap.objs.size + 1) s.heap.objs.size c .none) (hi : ti 0 g) (hk : ∀ b o, s.heap.get? b = some o → g.get? b = some o) (q : R (Iten S a k) H) :
    wpAny (model X.prog X.w) X.A (pyIter (.ref (s.heap.objs.size + 1))) (PIE X pins σ (.Tuple elts x1 tp) R) E { s with heap := g } := by
  subst hc
  refine wpAny_pyIter_enum he ⟨s.heap.objs.size + 1, [s.heap.objs.size + 1, s.heap.objs.size], _, _, H, rfl, I.kept (t' := s.toks) hk, turn_enum a _ _ k (Nat.succ_ne_self _) O, ⟨⟨_, he⟩, hi⟩, fun b hb => ?_, q⟩
  rcases List.mem_cons.mp hb with z | z
  · subst z
    exact I.fpOk (Nat.le_succ _) (I.hok.fresh (Nat.le_succ _))
  · have z' : b = s.heap.objs.size := by simpa using z
    subst z'
    exact I.fpOk (Nat.le_refl _) (I.hok.fresh (Nat.le_refl _))
theorem pi_enum_list {e : Expr} {te : TE} {p pos : Pos} (hg : Gl X "enumerate") (hm : X.mg "enumerate" = none) (he : PE X e te) (hs : starEach [e] X.env = [(false, eval e X.env)] := by rfl) : PI X (.Tuple elts x1 tp) (.Call (.Name "enumerate" p) [e] [] pos) (iEnL X.K 0 te) := by
  intro pins s σ H R I h
  refine Call_ (ld_blt I hg hm boot_enumerate (PyProof.Rows.callWith_type1 ?_ hs rfl))
  rw [hs]
  refine Calls.spliced_cons (thn (he pins s σ H _ I h) fun v s1 ⟨x, H1, I1, rx, q1⟩ => Calls.spliced_nil ?_)
  obtain ⟨a, rfl, ⟨xs, hq⟩, q⟩ := q1
  cases rx
  obtain ⟨its, rv, pl, _⟩ := I1.list hq
  exact call_enumerate_list pl.isList fun g e1 e2 _ hk => enum_pie I1 (src_list a _) rfl e1 e2 hk q
end
structure CalI (P : Program) (w : World) (K : PySem.W.Frag) (mg : Str → Option Value) (base : Heap) (x : Str) (C : Addr) (ps : List Str) (k : Nat) (sp : Sp) : Prop where
  ex : ∃ (f : Addr) (fd : FuncData), FnOk P w K mg base CX0 k f fd ps sp ∧ Binds K fd ps [] ∧ Mk K C f ∧ mg x = some (.ref C)
structure CalM (P : Program) (w : World) (K : PySem.W.Frag) (mg : Str → Option Value) (base : Heap) (C : Addr) (m : Str) (ps : List Str) (k : Nat) (sp : Sp) : Prop where
  ex : ∃ (f : Addr) (fd : FuncData), FnOk P w K mg base CX0 k f fd ps sp ∧ Binds K fd ps [] ∧ Meth K C m f ∧ Cls K C
theorem pe_makeC {X : Cx} {x : Str} {C : Addr} {ps : List Str} {k : Nat} {sp : Sp} {e : Expr} {es : List Expr} {t : TA} {p pos : Pos} (c : CalI X.prog X.w X.K X.mg X.base x C ps k sp) (hr : Room (k + 1) X.A) (hg : Gl X x) (ha : PA X (e :: es) t)
    (hdb : (x == ("__debug__" : Str)) = false := by decide) (he : starEach (e :: es) X.env = (false, eval e X.env) :: starEach es X.env := by rfl) (hpl : (backTo pos (starEach es X.env)).any (·.1) = false := by rfl) :
    PE X (.Call (.Name x p) (e :: es) [] pos) (tMake C sp [] E0 t) := by
  obtain ⟨f, fd, F, b, m, hm⟩ := c.ex
  exact pe_make m F hr hg hm b .nil pass0 ha hdb he hpl
theorem pe_methC {X : Cx} {m : Str} {C : Addr} {ps : List Str} {k : Nat} {sp : Sp} {o e : Expr} {es : List Expr} {ta : TE} {t : TA} {apos pos : Pos} {pl : Sem Bool} (c : CalM X.prog X.w X.K X.mg X.base C m ps k sp) (hr : Room k X.A) (ho : PE X o ta) (ha : PA X (e :: es) t)
    (he : starEach (e :: es) X.env = (false, eval e X.env) :: starEach es X.env := by rfl) (hpl : (backTo pos (starEach es X.env)).any (·.1) = false := by rfl)
    (ht : eval (.Call (.Attribute o m apos) (e :: es) [] pos) X.env = (do
      let v ← eval o X.env
      standAt apos.atName
      let (g, first) ← holding [v] (getMethod v m pl)
      callWith pos g first (backTo pos (starEach (e :: es) X.env)) (backToKw pos (keywordEach [] X.env))) := by rfl) : PE X (.Call (.Attribute o m apos) (e :: es) [] pos) (tMeth C m sp [] E0 ta t) := by
  obtain ⟨f, fd, F, b, hm, cl⟩ := c.ex
  exact pe_meth ho cl hm F hr b .nil pass0 ha he hpl ht
def rInsert : V → List V → Hp → VK → Prop := fun x vs H Q => ∃ l xs i y, x = .ref l ∧ vs = [.int i, y] ∧ H l = some (.lst xs) ∧ 0 ≤ i ∧ i ≤ xs.length ∧ xs.length < sizeLine ∧ Q .non (upd H l (.lst (xs.take i.toNat ++ y :: xs.drop i.toNat)))
theorem fits_line {i : Int} (h0 : 0 ≤ i) (h1 : i ≤ (sizeLine : Nat)) : Builtin.List.listFitsIndex i = true := by
  have := line63
  have e : ((2 ^ 63 : Nat) : Int) = 9223372036854775808 := by decide
  refine fitsIndex_both ?_ ?_ <;> lia
theorem mt_insert {X : Cx} : MtM X "list.insert" rInsert := by
  intro pins s σ H x vs v us Q I rx rv h
  obtain ⟨l, xs, i, y, rfl, rfl, hH, i0, i1, hz, q⟩ := h
  cases rx
  obtain ⟨u, u', rfl, ru, ru'⟩ := rv.two
  obtain ⟨t, rfl⟩ := ru
  obtain ⟨z, its, n, r, hl, e⟩ := I.lstM hH
  refine call_meets F.slot_list_insert ⟨_, e, rfl⟩ F.entry_list_insert (F.args_list_insert_3 _ _ _) (AutoSeq1.list_insert_list_int_val_1 l its.toArray n i t u' (by rw [fits_line i0 (by lia)]; decide) (by rw [List.size_toArray]; lia)) ⟨e, ?_⟩
  refine ⟨.non, _, I.lset (its' := its.take i.toNat ++ u' :: its.drop i.toNat) hH e ?_ ((r.take i.toNat).append (.cons ru' (r.drop i.toNat))) ?_, rfl, q⟩
  · have e1 : ¬ i < 0 := by lia
    have e2 : min i.toNat its.toArray.size = i.toNat := by rw [List.size_toArray]; lia
    simp only [if_neg e1, e2]
    apply Array.toList_inj.mp
    simp
    exact List.take_of_length_le (by rw [List.length_drop]; lia)
  · rw [List.length_append, List.length_cons, List.length_take, List.length_drop]
    lia
end L2
namespace L2
open PySem PySem.Spec PyProof.Rows
section
variable {X : Cx} {K : PySem.W.Frag}
theorem ix_listK (hK : X.K = K) : IxR X (rIxL K) := by subst hK; exact ix_list
theorem ix_tupK (hK : X.K = K) : IxR X (rIxT K) := by subst hK; exact ix_tup
theorem pg_tupK {es : List Expr} {k : Nat} {t : TGs} {n : Nat} {pos : Pos} (hK : X.K = K) (hc : X.calm = true) (h : PGs X es t) (hn : (assignEach es X.env).length = n := by rfl) (hst : (assignEach es X.env).findIdx? (·.1) = none := by rfl) : PG X (.Tuple es k pos) (gTup K n t) := by
  subst hK; exact pg_tup hc h hn hst
theorem op_in_seqK (hK : X.K = K) : OpR X (compareOp .In) (rIn K false) := by subst hK; exact op_in_seq
def rLen (K : PySem.W.Frag) : List V → Hp → VK → Prop := fun xs H Q => ∃ p ys, xs = [.ref p] ∧ (SqL K H p ys ∨ SqT K H p ys) ∧ Q (.int ys.length) H
theorem call_lenK (hK : X.K = K) : CallR X (.builtin "len") (rLen K) := by subst hK; exact call_len_seq
def rListOf (K : PySem.W.Frag) : List V → Hp → VK → Prop := fun xs H Q => ∃ p ys, xs = [.ref p] ∧ (SqL K H p ys ∨ SqT K H p ys) ∧ ∀ l, H l = none → Q (.ref l) (upd H l (.lst ys))
theorem call_listK (hK : X.K = K) : CallR X (.type "list") (rListOf K) := by subst hK; exact call_list_of
def rTupL (K : PySem.W.Frag) : List V → Hp → VK → Prop := fun xs H Q => ∃ p ys, xs = [.ref p] ∧ SqL K H p ys ∧ ∀ l, H l = none → Q (.ref l) (upd H l (.tup ys))
end
end L2
namespace L2
/-- one statement of a block; the rest waits under a name -/
theorem seq_of {t u : TS} {D : Ends} {σ : St} {H : Hp} (h : ∀ U : TS, U = u → t { D with nx := U D } σ H) : tSeq t u D σ H := h u rfl
end L2

set_option Elab.async false
set_option linter.all false
set_option maxRecDepth 100000
set_option maxHeartbeats 1000000
namespace L2
open PySem PySem.Spec PyProof.Rows
def Itz (K : PySem.W.Frag) (a b : Addr) : It :=
  ⟨fun i H => ∃ xs ys x y, SqL K H a xs ∧ SqL K H b ys ∧ xs[i]? = some x ∧ ys[i]? = some y,
   fun i H v H' => ∃ t x y, v = .ref t ∧ H t = none ∧ H' = upd H t (.tup [x, y]) ∧ (∀ xs, SqL K H a xs → xs[i]? = some x) ∧ (∀ ys, SqL K H b ys → ys[i]? = some y),
   fun i H => ∃ xs ys, SqL K H a xs ∧ SqL K H b ys ∧ (xs[i]? = none ∨ ys[i]? = none)⟩
section
variable {X : Cx} {pins : List (Addr × Obj)} {σ : St} {H : Hp} {s : Shared}
/-- some records turn -/
theorem Inv.turns {ch : List Addr} {g : Heap} {tk : Nat} (I : Inv X pins σ H s) (fc : ∀ b ∈ ch, FpOk X pins H b)
    (k : ∀ b o, b ∉ ch → s.heap.get? b = some o → g.get? b = some o) : Inv X pins σ H { s with heap := g, toks := tk } := by
  have nit : ∀ b u, H b = some u → b ∉ ch := fun b u e z => by rw [(fc b z).1] at e; cases e
  refine I.step (g' := s.gens) (d' := s.drawn) (ch := ch) (fun b hb => ?_) (fun b o _ _ hc e _ => k b o hc e) (fun b o _ _ hc e _ => ⟨o.slots, k b o hc e⟩) (fun _ _ _ _ n => n)
    (fun b o hc e => ⟨o, k b o hc e⟩) (fun _ _ e => e) (fun _ _ _ e => e) (fun b ps e => ⟨#[], by rw [e]; simp⟩) (fun m hm => ?_) (fun b u e => ?_) I.bare
  · obtain ⟨e0, e1, e2, e3, e4, e5⟩ := fc b hb
    exact ⟨e3, e1, e4, e5⟩
  · obtain ⟨o, es, ep, ho, r⟩ := hm
    exact ⟨o, es, ep, k _ o (fun z => (fc _ z).2.1 rfl) ho, r⟩
  · refine (I.hok b u e).stay (fun c v hc q => k c v ?_ q) (fun _ q => q) fun _ _ q => q
    rcases hc with z | z
    · rw [z]; exact nit b u e
    · exact nit c _ z
/-- some records turn, an object is laid -/
theorem Inv.turnsL {ch : List Addr} {t : Addr} {g : Heap} {tk : Nat} {o : HO} (I : Inv X pins σ H s) (fc : ∀ b ∈ ch, FpOk X pins H b) (ht : s.heap.objs.size ≤ t)
    (k : ∀ b o, b ∉ ch → s.heap.get? b = some o → g.get? b = some o) (new : ObjOk X.prog X.w (upd H t o) g t o) : Inv X pins σ (upd H t o) { s with heap := g, toks := tk } := by
  have hn : H t = none := I.hok.fresh ht
  have nt : ∀ b o, s.heap.get? b = some o → b ≠ t := fun b o q z => by
    subst z
    exact absurd (Nat.lt_of_lt_of_le (Heap.lt_size q) ht) (Nat.lt_irrefl _)
  have nit : ∀ b u, H b = some u → b ∉ ch := fun b u e z => by rw [(fc b z).1] at e; cases e
  refine I.step (g' := s.gens) (d' := s.drawn) (ch := ch) (fun b hb => ?_) (fun b o _ _ hc q _ => k b o hc q) (fun b o _ _ hc q _ => ⟨o.slots, k b o hc q⟩) (fun b o _ q n => by rw [upd_ne (nt b o q)]; exact n)
    (fun b o hc q => ⟨o, k b o hc q⟩) (fun b xs q => by rw [upd_ne (ne_of_none q hn)]; exact q) (fun b o u q => by rw [upd_ne (ne_of_none q hn)]; exact q) (fun b ps q => ⟨#[], by rw [upd_ne (ne_of_none q hn), q]; simp⟩) (fun m hm => ?_) (fun b u q => ?_) I.bare
  · obtain ⟨e0, e1, e2, e3, e4, e5⟩ := fc b hb
    exact ⟨e3, e1, e4, e5⟩
  · obtain ⟨ol, es, ep, ho, r⟩ := hm
    exact ⟨ol, es, ep, k _ ol (fun z => (fc _ z).2.1 rfl) ho, r⟩
  · by_cases hb : b = t
    · subst hb; rw [upd_same] at q; cases q; exact new
    · rw [upd_ne hb] at q
      refine (I.hok b u q).stay (fun c v hc z => k c v ?_ z) (fun c z => by rw [upd_ne (ne_of_none z hn)]; exact z) fun c xs z => by rw [upd_ne (ne_of_none z hn)]; exact z
      rcases hc with z' | z'
      · rw [z']; exact nit b u q
      · exact nit c _ z'
end
theorem turn_zip {P : Program} {w : World} {K : PySem.W.Frag} {elts : List Expr} {x1 : Nat} {tp : Pos} {z TI TO i1 i2 l1 l2 : Addr} (D : ZipApart z TI TO i1 i2 l1 l2) :
    Turn P w K (.Tuple elts x1 tp) (Itz K l1 l2) [z, TI, TO, i1, i2] z (fun i h => IsZip h z TI TO .none ∧ IsPair h TI (.ref i1) (.ref i2) ∧ (∃ a b, IsPair h TO a b) ∧ h.IsListIter i1 l1 i ∧ h.IsListIter i2 l2 i) where
  mem := by simp
  obj := fun i h st b hb => by
    obtain ⟨hz, hTI, ⟨a, c, hTO⟩, ⟨o1, e1, c1, d1⟩, ⟨o2, e2, c2, d2⟩⟩ := st
    have hb' : b = z ∨ b = TI ∨ b = TO ∨ b = i1 ∨ b = i2 := by simpa using hb
    rcases hb' with rfl | rfl | rfl | rfl | rfl
    · exact ⟨_, hz, fun v z => by
        have z' : Data.fields _ = Data.cell v := z
        cases z'⟩
    · exact ⟨_, hTI, fun v z => by
        have z' : Data.seq _ _ = Data.cell v := z
        cases z'⟩
    · exact ⟨_, hTO, fun v z => by
        have z' : Data.seq _ _ = Data.cell v := z
        cases z'⟩
    · exact ⟨o1, e1, fun v z => by rw [d1] at z; cases z⟩
    · exact ⟨o2, e2, fun v z => by rw [d2] at z; cases z⟩
  keep := fun i h h' st kk => by
    obtain ⟨hz, hTI, ⟨a, c, hTO⟩, h1, h2⟩ := st
    exact ⟨kk z (by simp) _ hz, kk TI (by simp) _ hTI, ⟨a, c, kk TO (by simp) _ hTO⟩, h1.at fun o e => kk i1 (by simp) o e, h2.at fun o e => kk i2 (by simp) o e⟩
  item := by
    intro X hP hw hK hc i pins s σ H E I hf st hg
    subst hP hw hK
    obtain ⟨hz, hTI, ⟨a, c, hTO⟩, h1, h2⟩ := st
    obtain ⟨xs, ys, x, y, hq1, hq2, hx, hy⟩ := hg
    obtain ⟨its1, rv1, p1, _⟩ := I.list hq1
    obtain ⟨its2, rv2, p2, _⟩ := I.list hq2
    obtain ⟨u1, hu1, ru1⟩ := rv1.get hx
    obtain ⟨u2, hu2, ru2⟩ := rv2.get hy
    refine wpAny_pyNext_zip_item D hz hTI hTO h1 h2 p1.isList p2.isList (x := u1) (y := u2) (by simpa using hu1) (by simpa using hu2) fun g a1 a2 a3 a4 a5 a6 hk => ?_
    refine ⟨_, rfl, wpAny_letOwnedTupleGo_zip a1 fun g2 hz2 hs2 => ?_⟩
    have hzl : z < s.heap.objs.size := Heap.lt_size hz
    have nse : s.heap.objs.size ≠ z := Nat.ne_of_gt hzl
    have hT2 : g2.get? s.heap.objs.size = some { cls := .type "tuple", data := .seq #[u1, u2] } := (hs2.2 _ nse).trans a5
    have I2 : Inv X pins σ (upd H s.heap.objs.size (.tup [x, y])) { s with heap := g2, toks := s.toks } := by
      refine I.turnsL (ch := [z, TI, TO, i1, i2]) hf (Nat.le_refl _) (fun b o hb q => ?_) ?_
      · have nb : b ≠ z ∧ b ≠ TO ∧ b ≠ i1 ∧ b ≠ i2 := ⟨fun e => hb (by simp [e]), fun e => hb (by simp [e]), fun e => hb (by simp [e]), fun e => hb (by simp [e])⟩
        exact (hs2.2 b nb.1).trans (hk b o nb.1 nb.2.1 nb.2.2.1 nb.2.2.2 q)
      · exact ⟨by show 2 ≤ sizeLine; decide, [u1, u2], .cons ru1 (.cons ru2 .nil), ⟨_, hT2, rfl, 0, rfl⟩⟩
    refine ⟨.ref s.heap.objs.size, _, I2, rfl, ⟨_, x, y, rfl, I.fresh, rfl, fun zs hzs => ?_, fun zs hzs => ?_⟩, ⟨hz2, ?_, ⟨u1, u2, ?_⟩, ?_, ?_⟩, fun b hb => ?_⟩
    · rw [I.list_inj hzs hq1]
      exact hx
    · rw [I.list_inj hzs hq2]
      exact hy
    · exact (hs2.2 _ D.TIz).trans (hk _ _ D.TIz D.TITO D.TIi1 D.TIi2 hTI)
    · exact (hs2.2 _ D.TOz).trans a2
    · exact a3.at fun o e => (hs2.2 _ D.i1z).trans e
    · exact a4.at fun o e => (hs2.2 _ D.i2z).trans e
    · have hbl : b < s.heap.objs.size := by
        obtain ⟨o1, e1, _⟩ := h1
        obtain ⟨o2, e2, _⟩ := h2
        have hb' : b = z ∨ b = TI ∨ b = TO ∨ b = i1 ∨ b = i2 := by simpa using hb
        rcases hb' with rfl | rfl | rfl | rfl | rfl
        · exact hzl
        · exact Heap.lt_size hTI
        · exact Heap.lt_size hTO
        · exact Heap.lt_size e1
        · exact Heap.lt_size e2
      rw [upd_ne (Nat.ne_of_lt hbl)]
      exact (hf b hb).1
  done := by
    intro X hP hw hK hc i pins s σ H E I hf st hg
    subst hP hw hK
    obtain ⟨hz, hTI, ⟨a, c, hTO⟩, h1, h2⟩ := st
    obtain ⟨xs, ys, hq1, hq2, hx⟩ := hg
    obtain ⟨its1, rv1, p1, _⟩ := I.list hq1
    obtain ⟨its2, rv2, p2, _⟩ := I.list hq2
    refine wpAny_pyNext_zip_end (I.ok.hd hc) D hz hTI hTO h1 h2 p1.isList p2.isList ?_ fun g hk => ⟨rfl, I.turns (tk := s.toks) (ch := [z, TI, TO, i1, i2]) hf fun b o hb q => ?_⟩
    · rcases hx with e | e
      · exact .inl (by simpa using rv1.none_of e)
      · exact .inr (by simpa using rv2.none_of e)
    · exact hk b o (fun e => hb (by simp [e])) (fun e => hb (by simp [e])) (fun e => hb (by simp [e])) (fun e => hb (by simp [e])) q
  self := fun A i s Q E st h => wpAny_pyIter_zip st.1 h
theorem for_zipW {K : PySem.W.Frag} {a b : Addr} {xs ys : List V} {σ : St} {H : Hp} {DN : St → Hp → Prop} {B : (St → Hp → Prop) → V → St → Hp → Prop} (Pv : Nat → St → Hp → Prop) (hxy : xs.length = ys.length) (h0 : Pv 0 σ H)
    (hl : ∀ i σ H, i ≤ xs.length → Pv i σ H → SqL K H a xs ∧ SqL K H b ys)
    (hs : ∀ i x y σ H t, xs[i]? = some x → ys[i]? = some y → Pv i σ H → H t = none → B (Pv (i + 1)) (.ref t) σ (upd H t (.tup [x, y]))) (hd : ∀ σ H, Pv xs.length σ H → DN σ H) :
    ∃ W : Nat → Nat → St → Hp → Prop, (∃ m, W 0 m σ H) ∧ ∀ i m σ H, W i m σ H →
      ((Itz K a b).stop i H ∧ DN σ H) ∨ ((Itz K a b).go i H ∧ ∃ N : St → Hp → Prop, (∀ σ' H', N σ' H' → ∃ m', m' < m ∧ W (i + 1) m' σ' H') ∧ ∀ x H', (Itz K a b).yld i H x H' → B N x σ H') := by
  refine ⟨fun i m σ H => m = xs.length - i ∧ i ≤ xs.length ∧ Pv i σ H, ⟨xs.length, by simp, Nat.zero_le _, h0⟩, ?_⟩
  rintro i m σ H ⟨rfl, hi, p⟩
  obtain ⟨q1, q2⟩ := hl i σ H hi p
  by_cases hlt : i < xs.length
  · have hlt2 : i < ys.length := by lia
    refine .inr ⟨⟨xs, ys, xs[i], ys[i], q1, q2, by simp [hlt], by simp [hlt2]⟩, Pv (i + 1), fun σ' H' p' => ⟨xs.length - (i + 1), by lia, rfl, hlt, p'⟩, fun x H' y => ?_⟩
    obtain ⟨t, x, y, e, ht, e', hx, hy⟩ := y
    subst e e'
    exact hs i x y σ _ t (hx xs q1) (hy ys q2) p ht
  · have e : i = xs.length := by lia
    subst e
    exact .inl ⟨⟨xs, ys, q1, q2, .inl (by simp)⟩, hd σ H p⟩
def iZip (K : PySem.W.Frag) (ta : TA) : TI := fun σ H R => ta σ H fun vs H1 => ∃ a b, vs = [.ref a, .ref b] ∧ (∃ xs, SqL K H1 a xs) ∧ (∃ ys, SqL K H1 b ys) ∧ R (Itz K a b) H1
theorem pi_zip {X : Cx} {elts : List Expr} {x1 : Nat} {tp : Pos} {a b : Expr} {ta : TA} {p pos : Pos} (hg : Gl X "zip") (hm : X.mg "zip" = none) (ha : PA X [a, b] ta) (hs : starEach [a, b] X.env = [(false, eval a X.env), (false, eval b X.env)] := by rfl) (hs2 : starEach [b] X.env = [(false, eval b X.env)] := by rfl) :
    PI X (.Tuple elts x1 tp) (.Call (.Name "zip" p) [a, b] [] pos) (iZip X.K ta) := by
  intro pins s σ H R I h
  refine Call_ (ld_blt I hg hm boot_zip (PyProof.Rows.callWith_type1 (thn (ha pos pins s σ H _ I h) fun us s1 ⟨vs, H1, I1, r1, q1⟩ => ?_) (by rw [hs, hs2]) (by rw [hs2]; rfl)))
  obtain ⟨l1, l2, e, ⟨xs, hq1⟩, ⟨ys, hq2⟩, q⟩ := q1
  subst e
  cases r1 with
  | cons r rr =>
    cases rr with
    | cons r' rr =>
      cases rr
      cases r
      cases r'
      obtain ⟨its1, rv1, p1, _⟩ := I1.list hq1
      obtain ⟨its2, rv2, p2, _⟩ := I1.list hq2
      have a1 : l1 < s1.heap.objs.size := by obtain ⟨_, e, _⟩ := p1.isList; exact Heap.lt_size e
      have a2 : l2 < s1.heap.objs.size := by obtain ⟨_, e, _⟩ := p2.isList; exact Heap.lt_size e
      refine call_zip_2 p1.isList p2.isList fun h' hz hTI hTO hi1 hi2 _ hk => wpAny_pyIter_zip hz ?_
      refine ⟨_, _, _, _, H1, rfl, I1.kept (t' := s1.toks) hk, turn_zip (zipApart_new a1 a2), ⟨hz, hTI, ⟨_, _, hTO⟩, hi1, hi2⟩, fun b hb => ?_, q⟩
      have hb' : b = s1.heap.objs.size + 4 ∨ b = s1.heap.objs.size + 2 ∨ b = s1.heap.objs.size + 3 ∨ b = s1.heap.objs.size ∨ b = s1.heap.objs.size + 1 := by simpa using hb
      have hle : s1.heap.objs.size ≤ b := by
        rcases hb' with rfl | rfl | rfl | rfl | rfl
        · exact Nat.le_add_right _ _
        · exact Nat.le_add_right _ _
        · exact Nat.le_add_right _ _
        · exact Nat.le_refl _
        · exact Nat.le_add_right _ _
      exact I1.fpOk hle (I1.hok.fresh hle)
end L2

set_option Elab.async false
set_option linter.all false
set_option maxRecDepth 100000
set_option maxHeartbeats 1000000
namespace L2
open PySem PySem.Spec PyProof.Rows
section
variable {prog : Program} {w : World} {A : Around} {E : Value → Shared → Prop} {s : Shared}
end
def tLRev (K : PySem.W.Frag) (te : TE) : TE := fun σ H Q => te σ H fun x H1 => ∃ a xs, x = .ref a ∧ SqL K H1 a xs ∧ ∀ l, H1 l = none → Q (.ref l) (upd H1 l (.lst xs.reverse))
end L2

set_option Elab.async false
set_option linter.all false
set_option maxRecDepth 100000
set_option maxHeartbeats 4000000
namespace My
open PySem L2
theorem same_new {H : Hp} {p : Addr} (h : H p = none) (o : HO) : Same H (upd H p o) := fun b u q => by rw [upd_ne (ne_of_none q h)]; exact q
theorem same_upd {H H' : Hp} {p : Addr} (h : H p = none) (g : Same H H') (o : HO) : Same H (upd H' p o) := fun b u q => by rw [upd_ne (ne_of_none q h)]; exact g b u q
theorem item_of {ns : List Int} {k : Int} (h0 : 0 ≤ k) (h : k < (ns.length : Int)) : ∃ v : Int, atI (ns.map V.int) k = some (.int v) := by
  have hk : k.toNat < ns.length := by omega
  have q : atI (ns.map V.int) ((k.toNat : Nat) : Int) = some (.int ns[k.toNat]) := atI_nat (by rw [List.getElem?_map, List.getElem?_eq_getElem hk] <;> rfl)
  rw [show ((k.toNat : Nat) : Int) = k by lia] at q
  exact ⟨_, q⟩
theorem small1000' {n : Nat} (h : n ≤ 1000) : n ≤ sizeLine := Nat.le_of_lt (small1000 h)
abbrev Pst := Int × Int × Int
def okH (h : Int) : Prop := 0 ≤ h ∧ h < 1073741824
def okP (q : Pst) : Prop := (0 ≤ q.1 ∧ q.1 < 1073741824) ∧ (0 ≤ q.2.1 ∧ q.2.1 ≤ 1000000000) ∧ (0 ≤ q.2.2 ∧ q.2.2 ≤ 1)
structure Ok (d : Int) (hs : List Int) (ps : List Pst) : Prop where
  d1 : 1 ≤ d
  d2 : d ≤ 31
  h : ∀ x ∈ hs, okH x
  hl : hs.length ≤ 8
  p : ∀ q ∈ ps, okP q
  pl : ps.length ≤ 6
theorem n1 : ¬ (("days" : Str) = "hands") := by decide +kernel
theorem n2 : ¬ (("days" : Str) = "posts") := by decide +kernel
theorem n3 : ¬ (("hands" : Str) = "posts") := by decide +kernel
def cv (h n : Int) : Bool := decide (Builtin.bitAnd h n = n)
def post0 : Pst := (0, 0, 0)
def chI (h : Int) (ps : List Pst) (i : Nat) : List Int := ((List.range i).filter fun j => cv h (ps[j]?.getD post0).1).map fun j : Nat => (j : Int) + 1
def ch (h : Int) (ps : List Pst) : List Int := 0 :: chI h ps ps.length
def tb (d : Int) (hs : List Int) (ps : List Pst) : Nat → Int
  | 0 => 1
  | i + 1 => tb d hs ps i * ((ch (hs[i]?.getD 0) ps).length : Int) ^ d.toNat
theorem Paired.getR {α β : Type} {F : α → β → Prop} : ∀ {xs : List α} {ys : List β} {i : Nat} {y : β}, Paired F xs ys → ys[i]? = some y → ∃ x, xs[i]? = some x ∧ F x y
  | _, _, _, _, .nil, e => by simp at e
  | _, _, 0, _, .cons r _, e => by simp at e; subst e; exact ⟨_, rfl, r⟩
  | _, _, i + 1, y, .cons _ t, e => by
    obtain ⟨u, h1, h2⟩ := Paired.getR (i := i) (y := y) t (by simpa using e)
    exact ⟨u, by simpa using h1, h2⟩
theorem like_den {K : PySem.W.Frag} {H : Hp} : ∀ (n : Nat) (x : V) (d : DV), Den K H n x d → Like n d d := by
  intro n
  induction n with
  | zero =>
    intro x d h
    cases d with
    | lst ds => cases x <;> exact False.elim h
    | tup ds => cases x <;> exact False.elim h
    | _ => exact True.intro
  | succ n ih =>
    intro x d h
    cases d with
    | lst ds =>
      cases x with
      | ref a =>
        obtain ⟨xs, _, hp⟩ : ∃ xs, SqL K H a xs ∧ Paired (Den K H n) xs ds := h
        intro _ i d e h1 h2
        rw [h1] at h2
        cases h2
        obtain ⟨y, _, hy⟩ := Paired.getR hp h1
        exact ih y d hy
      | _ => exact False.elim h
    | tup ds =>
      cases x with
      | ref a =>
        obtain ⟨xs, _, hp⟩ : ∃ xs, SqT K H a xs ∧ Paired (Den K H n) xs ds := h
        intro i d e h1 h2
        rw [h1] at h2
        cases h2
        obtain ⟨y, _, hy⟩ := Paired.getR hp h1
        exact ih y d hy
      | _ => exact False.elim h
    | _ => exact True.intro
end My

set_option Elab.async false
set_option linter.all false
set_option maxRecDepth 100000
set_option maxHeartbeats 1000000
namespace My
open PySem L2
theorem like_nil {n : Nat} {ds : List DV} : Like (n + 1) (.lst ds) (.lst []) := fun _ i d e _ h2 => by simp at h2
def val (rows : List (List Int)) (j day : Nat) : Int := ((rows[j]?.getD [])[day]?).getD 0
def held (rows : List (List Int)) (day : Nat) (post : Int) (i : Nat) : List Int := ((List.range i).filter fun j => decide (val rows j day = post)).map fun j : Nat => (j : Int)
end My

set_option Elab.async false
set_option linter.all false
set_option maxRecDepth 100000
set_option maxHeartbeats 400000
namespace L2
open PySem PySem.Spec PyProof.Rows
section
variable {P : Program} {w : World} {l : List Env} {H H' : Hp} {s s' : Shared} {B h'' : Heap} {a : Addr} {cls a0 : Value}
end
section
variable {X : Cx} {pins : List (Addr × Obj)} {σ : St} {H H' : Hp} {s s' : Shared} {B : Heap} {a : Addr} {cls a0 : Value}
end
section
variable {P : Program} {w : World} {K : PySem.W.Frag} {mg : Str → Option Value} {base : Heap} {N : List Str} {qual : Str} {scope : Scope} {f : Addr} {cd : Value} {A : Around} {outer : List Env} {s₀ : Shared} {H₀ : Hp} {E : XK}
end
def tRaise (E : XK) (C : Addr) (ta : TA) : TS := fun _ σ H => ta σ H fun vs H1 => vs.length ≤ sizeLine ∧ E (.ref C) none H1
def tCallX (sp : Sp) (t : TA) : St → Hp → VK → XK → Prop := fun σ H Q E => t σ H fun vs H1 => sp (vs ++ []) H1 Q E
def tDropX (te : St → Hp → VK → XK → Prop) : Ends → St → Hp → XK → Prop := fun D σ H E => te σ H (fun _ H1 => D.nx σ H1) E
def tSetX (i : Nat) (te : St → Hp → VK → XK → Prop) : Ends → St → Hp → XK → Prop := fun D σ H E => te σ H (fun v H1 => D.nx (σ.set i (some v)) H1) E
def tTry0 (C : Addr) (tb : Ends → St → Hp → XK → Prop) (ts to : TS) : TS := fun D σ H => tb { D with nx := to D } σ H fun cls _ H' => cls = .ref C ∧ ts D σ H'
end L2

set_option Elab.async false
set_option linter.all false
set_option maxRecDepth 100000
set_option maxHeartbeats 1000000
namespace My
open PySem L2
theorem flat_ints (ps : List Int) : (ps.map V.int).all flatV = true := by simp [List.all_eq_true, flatV]
theorem all_map_id (f : Nat → Bool) (n : Nat) : ((List.range n).map f).all id = (List.range n).all f := by
  simp [List.all_map]
def good (w : Nat) : List (List Int) → Nat → Bool
  | [], _ => true
  | c :: r, N => decide (((N % w : Nat) : Int) ∈ c) && good w r (N / w)
def cnt (p : Nat → Bool) (n : Nat) : Nat := ((List.range n).filter p).length
theorem cnt_zero (p : Nat → Bool) : cnt p 0 = 0 := rfl
theorem cnt_succ (p : Nat → Bool) (n : Nat) : cnt p (n + 1) = cnt p n + if p n then 1 else 0 := by
  unfold cnt
  rw [List.range_succ, List.filter_append, List.length_append]
  congr 1
  by_cases h : p n <;> simp [h]
theorem cut_take (xs : List V) (k : Nat) : cutV xs none (some (k : Int)) = xs.take k := by
  unfold cutV
  rw [HT.sIx_none, HT.sIx_nat, List.drop_zero, Nat.sub_zero]
  by_cases h : k ≤ xs.length
  · rw [Nat.min_eq_left h]
  · rw [Nat.min_eq_right (by lia), List.take_length, List.take_of_length_le (by lia)]
theorem paired_take {α β : Type} {F : α → β → Prop} : ∀ {xs : List α} {ys : List β} (n : Nat), Paired F xs ys → Paired F (xs.take n) (ys.take n)
  | _, _, 0, _ => by simp only [List.take_zero]; exact .nil
  | _, _, _ + 1, .nil => .nil
  | _, _, n + 1, .cons a r => .cons a (paired_take n r)
end My

set_option Elab.async false
set_option linter.all false
set_option maxRecDepth 100000
set_option maxHeartbeats 400000
namespace L2
open PySem PySem.Spec PySem.Calls PyProof.Rows
/-- what of an own exception class is looked at -/
structure ExcG (K : PySem.W.Frag) (C : Addr) : Prop where
  ga : PySem.W.findIn K (.ref C) "__getattribute__" = some (some (.builtin "BaseException.__getattribute__"))
  cl : PySem.W.findIn K (.ref C) "__class__" = some (some (.builtin "object.__class__"))
  no : PySem.W.findIn K (.ref C) "__getattr__" = some none
  be : PySem.W.mroIn K C (.type "BaseException") = some true
  ob : PySem.W.mroIn K C (.type "object") = some true
section
variable {K : PySem.W.Frag} {prog : Program} {w : World} {A : Around} {E : Value → Shared → Prop} {h : Heap} {g : Array GenState} {d : Drawn} {t : Nat} {os : OsState} {a C : Addr} {o : Obj}
end

theorem ExcG.cls {K : PySem.W.Frag} {C : Addr} (Z : ExcG K C) : ∃ c' d' cd sl, K.lookup C = some ⟨c', d', .cls cd, sl⟩ := by
  have e := Z.be
  unfold PySem.W.mroIn PySem.W.clsIn at e
  split at e
  · rename_i c' d' cd' sl' ho
    exact ⟨_, _, _, _, ho⟩
  · cases e
abbrev IsExc (a C : Addr) (h : Heap) : Prop := ∃ o, h.get? a = some o ∧ o.cls = .ref C
abbrev excO (a C : Addr) : HO := .ext (IsExc a C)
def vO : V → Value
  | .ref a => .ref a
  | .ty n => .type n
  | _ => .none
def rIsx (K : PySem.W.Frag) : List V → Hp → VK → Prop := fun xs H Q => ∃ a D c b, xs = [.ref a, c] ∧ H a = some (excO a D) ∧ ExcG K D ∧ PySem.W.kitOne K (.ref D) (vO c) = some b ∧ Q (.bl b) H
def rExc (C : Addr) : List V → Hp → VK → Prop := fun xs H Q => xs.length ≤ sizeLine ∧ ∀ a, H a = none → Q (.ref a) (upd H a (excO a C))
end L2

set_option Elab.async false
set_option linter.all false
set_option maxRecDepth 100000
set_option maxHeartbeats 1000000
namespace My
open PySem L2 PySem.Spec PyProof.Rows
section
variable {X : Cx}
end
end My
namespace My
open PySem L2
end My

set_option Elab.async false
set_option linter.all false
set_option maxRecDepth 100000
set_option maxHeartbeats 400000
namespace L2
open PySem PySem.Spec PySem.Calls PyProof.Rows
/-- what an except looks at: the class W of the text, the class C that flies -/
structure ExcM (K : PySem.W.Frag) (mg : Str → Option Value) (x : Str) (W C : Addr) : Prop where
  at_ : mg x = some (.ref W)
  ty : PySem.W.typeIn K (.ref W) = some (.type "type")
  be : PySem.W.mroIn K W (.type "BaseException") = some true
  sub : PySem.W.mroIn K C (.ref W) = some true
section
variable {X : Cx} {pins : List (Addr × Obj)} {σ : St} {H H' : Hp} {s s' : Shared} {B : Heap} {a : Addr} {cls a0 : Value}
end
/-- the name of an except is gone behind it -/
def Ends.gone (D : Ends) (i : Nat) : Ends := { nx := fun σ H => D.nx (σ.set i none) H, rt := D.rt, bk := fun σ H => D.bk (σ.set i none) H, ct := fun σ H => D.ct (σ.set i none) H }
def tTryA (i : Nat) (K : PySem.W.Frag) (mg : Str → Option Value) (x : Str) (W : Addr) (tb : Ends → St → Hp → XK → Prop) (ts to : TS) : TS := fun D σ H =>
  tb { D with nx := to D } σ H fun cls _ H' => ∃ C, cls = .ref C ∧ ExcM K mg x W C ∧ ∀ a, H' a = none → ts (D.gone i) (σ.set i (some (.ref a))) (upd H' a (excO a C))
end L2

set_option Elab.async false
set_option linter.all false
set_option maxRecDepth 100000
set_option maxHeartbeats 1000000
namespace My
open PySem L2
section
variable {d : Int} {hs : List Int} {ps : List Pst} {i : Nat} {rows : List (List Int)} {row : List Int} {x : Int}
end
section
variable {H : Hp} {us : List V} {rows : List (List Int)} {v : V} {row : List Int}
end
def cl (n k : Nat) : List (Int × Int) := (List.range k).map fun j => (((j % n : Nat) : Int), ((j / n : Nat) : Int))
section
variable {H H' H'' : Hp} {r : Addr} {us us' : List V} {rows rows' : List (List Int)} {n L : Nat}
end
end My

set_option Elab.async false
set_option linter.all false
set_option maxRecDepth 100000
set_option maxHeartbeats 1000000
namespace My
open PySem L2
theorem paired_snoc {α β : Type} {F : α → β → Prop} {xs : List α} {ys : List β} {x : α} {y : β} (h : Paired F xs ys) (hx : F x y) : Paired F (xs ++ [x]) (ys ++ [y]) := by
  induction h with
  | nil => exact .cons hx .nil
  | cons a _ ih => exact .cons a ih
theorem paired_app {α β : Type} {F : α → β → Prop} {xs xs' : List α} {ys ys' : List β} (h : Paired F xs ys) (h' : Paired F xs' ys') : Paired F (xs ++ xs') (ys ++ ys') := by
  induction h with
  | nil => exact h'
  | cons a _ ih => exact .cons a ih
theorem take_one {α : Type} {xs : List α} {i : Nat} {x : α} (h : xs[i]? = some x) : xs.take (i + 1) = xs.take i ++ [x] := by
  rw [List.take_succ, h]
  rfl
def hit (rows : List (List Int)) (h : Int) (ps : List Int) (d : Int) : Bool := decide (val rows h.toNat d.toNat ∈ ps)
end My
namespace My
open PySem L2
def hm (h m : Int) : List (Str × V) := putF "many" (.int m) (putF "hand" (.int h) [])
end My
namespace My
open PySem L2
end My
namespace My
open PySem L2
end My

set_option Elab.async false
set_option linter.all false
set_option maxRecDepth 100000
set_option maxHeartbeats 1000000
namespace My
open PySem L2
def at_ (bs : List Bool) (j : Nat) : Bool := bs[j]?.getD false
end My
namespace My
open PySem L2
theorem ixN_lt {n e : Nat} (h : e < n) : ixN n (e : Int) = some e := by
  unfold ixN
  rw [if_pos (by lia), if_pos (by lia), Int.toNat_natCast]
end My
namespace My
open PySem L2
end My
namespace My
open PySem L2
theorem for_of {wi : TI} {g : TG} {tb : TS} {D : Ends} {σ : St} {H : Hp} (h : ∀ B : TS, B = tb → tFor wi g B D σ H) : tFor wi g tb D σ H := h tb rfl
end My

set_option Elab.async false
set_option linter.all false
set_option maxRecDepth 100000
namespace L2
open PySem PySem.Spec PyProof.Rows

section
variable {κ : Type} [DecidableEq κ]
def valV (kvs : List (κ × V)) (k : κ) : Option V := (kvs.find? fun kv => decide (kv.1 = k)).map (·.2)
/-- in its place, or at the end -/
def putK (kvs : List (κ × V)) (k : κ) (v : V) : List (κ × V) :=
  if (kvs.any fun kv => decide (kv.1 = k)) = true then kvs.map (fun kv => if kv.1 = k then (kv.1, v) else kv) else kvs ++ [(k, v)]
def dropK (kvs : List (κ × V)) (k : κ) : List (κ × V) := kvs.filter fun kv => decide (kv.1 ≠ k)

theorem valV_pos {p : κ × V} {r : List (κ × V)} {k : κ} (e : p.1 = k) : valV (p :: r) k = some p.2 := by simp [valV, List.find?_cons, e]
theorem valV_neg {p : κ × V} {r : List (κ × V)} {k : κ} (e : ¬ p.1 = k) : valV (p :: r) k = valV r k := by simp [valV, List.find?_cons, e]
theorem valV_any (k : κ) : ∀ kvs : List (κ × V), (kvs.any fun kv => decide (kv.1 = k)) = (valV kvs k).isSome
  | [] => rfl
  | p :: r => by
    rw [List.any_cons]
    by_cases e : p.1 = k
    · simp only [valV_pos e, decide_eq_true e, Bool.true_or, Option.isSome_some]
    · rw [valV_neg e, decide_eq_false e, Bool.false_or]; exact valV_any k r
theorem length_putK (kvs : List (κ × V)) (k : κ) (v : V) : (putK kvs k v).length ≤ kvs.length + 1 := by
  unfold putK
  split
  · rw [List.length_map]; omega
  · rw [List.length_append, List.length_cons, List.length_nil]; omega
theorem RelO.isSome_eq {o : Option V} {u : Option Value} (r : RelO o u) : o.isSome = u.isSome := by
  cases o with
  | none => cases u with
    | none => rfl
    | some _ => exact (show False from r).elim
  | some _ => cases u with
    | none => exact (show False from r).elim
    | some _ => rfl
theorem RelO.getD {o : Option V} {u : Option Value} {d : V} {d' : Value} (r : RelO o u) (rd : RelV d d') : RelV (o.getD d) (u.getD d') := by
  cases o with
  | none => cases u with
    | none => exact rd
    | some _ => exact (show False from r).elim
  | some _ => cases u with
    | none => exact (show False from r).elim
    | some _ => exact r

/-- raw tables of the same keys -/
theorem KV.val {kvs : List (κ × V)} {vs : List (κ × Value)} (r : KV kvs vs) (k : κ) : RelO (valV kvs k) (valueAt vs k) := by
  unfold KV at r
  induction r with
  | nil => exact True.intro
  | @cons p q ps qs h t ih =>
    obtain ⟨h1, h2⟩ := h
    by_cases e : p.1 = k
    · have e' : q.1 = k := h1.symm.trans e
      have b : valueAt (q :: qs) k = some q.2 := by simp [valueAt, List.find?_cons, e']
      rw [valV_pos e, b]; exact h2
    · have e' : ¬ q.1 = k := fun z => e (h1.trans z)
      have b : valueAt (q :: qs) k = valueAt qs k := by simp [valueAt, List.find?_cons, e']
      rw [valV_neg e, b]; exact ih
theorem KV.any {kvs : List (κ × V)} {vs : List (κ × Value)} (r : KV kvs vs) (k : κ) : (kvs.any fun kv => decide (kv.1 = k)) = vs.any fun kv => decide (kv.1 = k) := by
  unfold KV at r
  induction r with
  | nil => rfl
  | cons h t ih => rw [List.any_cons, List.any_cons, ih, h.1]
theorem KV.repl {kvs : List (κ × V)} {vs : List (κ × Value)} (r : KV kvs vs) (k : κ) {y : V} {u : Value} (ry : RelV y u) :
    KV (kvs.map fun kv => if kv.1 = k then (kv.1, y) else kv) (vs.map fun kv => if kv.1 = k then (kv.1, u) else kv) := by
  unfold KV at r ⊢
  induction r with
  | nil => exact .nil
  | @cons p q ps qs h t ih =>
    rw [List.map_cons, List.map_cons]
    refine .cons ?_ ih
    obtain ⟨h1, h2⟩ := h
    by_cases e : p.1 = k
    · rw [if_pos e, if_pos (h1.symm.trans e)]; exact ⟨h1, ry⟩
    · rw [if_neg e, if_neg (fun z => e (h1.trans z))]; exact ⟨h1, h2⟩
theorem KV.put {kvs : List (κ × V)} {vs : List (κ × Value)} (r : KV kvs vs) (k : κ) {y : V} {u : Value} (ry : RelV y u) : KV (putK kvs k y) (stored vs k u) := by
  unfold putK stored
  rw [r.any k]
  by_cases e : (vs.any fun kv => decide (kv.1 = k)) = true
  · rw [if_pos e, if_pos e]; exact r.repl k ry
  · rw [if_neg e, if_neg e]; exact Paired.snoc r ⟨rfl, ry⟩
theorem KV.drop {kvs : List (κ × V)} {vs : List (κ × Value)} (r : KV kvs vs) (k : κ) : KV (dropK kvs k) (without vs k) := by
  unfold KV at r ⊢
  unfold dropK without
  induction r with
  | nil => exact .nil
  | @cons p q ps qs h t ih =>
    obtain ⟨h1, h2⟩ := h
    rw [List.filter_cons, List.filter_cons]
    by_cases e : p.1 = k
    · have a : ¬ decide (p.1 ≠ k) = true := by simp [e]
      have b : ¬ decide (q.1 ≠ k) = true := by simp [h1.symm.trans e]
      rw [if_neg a, if_neg b]; exact ih
    · have e' : ¬ q.1 = k := fun z => e (h1.trans z)
      have a : decide (p.1 ≠ k) = true := by simp [e]
      have b : decide (q.1 ≠ k) = true := by simp [e']
      rw [if_pos a, if_pos b]; exact .cons ⟨h1, h2⟩ ih
theorem KV.length {kvs : List (κ × V)} {vs : List (κ × Value)} (r : KV kvs vs) : kvs.length = vs.length := Paired.length r
theorem dropK_le (kvs : List (κ × V)) (k : κ) : (dropK kvs k).length ≤ kvs.length := List.length_filter_le _ _
end


theorem kV_is {P : Program} {w : World} {k : Key} {u : Value} (r : RelV (kV k) u) : (mixKind P w).is k u = true := by
  cases k with
  | inl i => obtain ⟨t, e⟩ := (show ∃ t, u = Value.int i t from r); subst e; exact mixKind_int P w i t
  | inr x => obtain ⟨t, e⟩ := (show ∃ t, u = Value.str x t from r); subst e; exact mixKind_str P w x t
theorem items_are {P : Program} {w : World} : ∀ {ks : List Key} {us : List Value}, Vals (ks.map kV) us → ItemsAre (mixKind P w) ks us
  | [], _, r => by rw [List.map_nil] at r; cases r; exact .nil
  | k :: ks, _, r => by
    rw [List.map_cons] at r
    cases r with
    | cons h t => exact .cons (kV_is h) (items_are t)

/-- raw entries of a dict with tuple keys -/
abbrev KT (H : Hp) : List (List Key × V) → List (List Key × Addr × Value) → Prop := Paired fun p q => p.1 = q.1 ∧ H q.2.1 = some (.tup (p.1.map kV)) ∧ RelV p.2 q.2.2
theorem KT.val {H : Hp} {kvs : List (List Key × V)} {xs : List (List Key × Addr × Value)} (r : KT H kvs xs) (k : List Key) : RelO (valV kvs k) ((atKey xs k).map (·.2)) := by
  induction r with
  | nil => exact True.intro
  | @cons p q ps qs h t ih =>
    obtain ⟨h1, _, h2⟩ := h
    by_cases e : p.1 = k
    · have e' : q.1 = k := h1.symm.trans e
      have b : atKey (q :: qs) k = some q.2 := by simp [atKey, List.find?_cons, e']
      rw [valV_pos e, b]; exact h2
    · have e' : ¬ q.1 = k := fun z => e (h1.trans z)
      have b : atKey (q :: qs) k = atKey qs k := by simp [atKey, List.find?_cons, e']
      rw [valV_neg e, b]; exact ih
theorem KT.repl {H : Hp} {kvs : List (List Key × V)} {xs : List (List Key × Addr × Value)} (r : KT H kvs xs) (k : List Key) {y : V} {u : Value} (ry : RelV y u) :
    KT H (kvs.map fun kv => if kv.1 = k then (kv.1, y) else kv) (xs.map (putAt k u)) := by
  induction r with
  | nil => exact .nil
  | @cons p q ps qs h t ih =>
    rw [List.map_cons, List.map_cons]
    refine .cons ?_ ih
    obtain ⟨h1, h2, h3⟩ := h
    unfold putAt
    by_cases e : p.1 = k
    · rw [if_pos e, if_pos (h1.symm.trans e)]; exact ⟨h1, h2, ry⟩
    · rw [if_neg e, if_neg (fun z => e (h1.trans z))]; exact ⟨h1, h2, h3⟩
theorem KT.put {H : Hp} {kvs : List (List Key × V)} {xs : List (List Key × Addr × Value)} (r : KT H kvs xs) (k : List Key) {b : Addr} {y : V} {u : Value} (hb : H b = some (.tup (k.map kV))) (ry : RelV y u) :
    KT H (putK kvs k y) (storedH xs k b u) := by
  have e : (kvs.any fun kv => decide (kv.1 = k)) = (atKey xs k).isSome := by
    rw [valV_any, (r.val k).isSome_eq, Option.isSome_map]
  unfold putK storedH
  rw [e]
  by_cases q : (atKey xs k).isSome = true
  · rw [if_pos q, if_pos q]; exact r.repl k ry
  · rw [if_neg q, if_neg q]; exact Paired.snoc r ⟨rfl, hb, ry⟩
theorem KT.keeps {H H' : Hp} {kvs : List (List Key × V)} {xs : List (List Key × Addr × Value)} (r : KT H kvs xs) (ht : ∀ b ys, H b = some (.tup ys) → H' b = some (.tup ys)) : KT H' kvs xs :=
  Paired.mapP r fun _ _ z => ⟨z.1, ht _ _ z.2.1, z.2.2⟩

section
variable {P : Program} {w : World} {H : Hp} {h : Heap} {a : Addr}
theorem rd_of {u : HO} (ok : HOk P w H h) (e : Rd H a u) : ObjOk P w H h a u := e.ok ok
theorem dk_rd {kvs : List (Key × V)} (ok : HOk P w H h) (e : Rd H a (.dK kvs)) : kvs.length ≤ sizeLine ∧ (a == sysModules) = false ∧ ∃ vs, KV kvs vs ∧ h.DictOf (mixKind P w) a vs :=
  show ObjOk P w H h a (.dK kvs) from rd_of ok e
theorem dk_of {kvs : List (Key × V)} (ok : HOk P w H h) (e : H a = some (.dK kvs)) : kvs.length ≤ sizeLine ∧ (a == sysModules) = false ∧ ∃ vs, KV kvs vs ∧ h.DictOf (mixKind P w) a vs := dk_rd ok (.inl e)
/-- a tracked tuple of ints and texts is a key -/
theorem key_of {ks : List Key} (ok : HOk P w H h) (e : H a = some (.tup (ks.map kV))) : (tupleKind (mixKind P w)).is h ks a := by
  obtain ⟨_, its, r, o, h1, h2, n, h3⟩ := (show ObjOk P w H h a (.tup (ks.map kV)) from ok a _ e)
  exact ⟨o, its.toArray, n, h1, h2, h3, by simpa using items_are r⟩
theorem dt_rd {kvs : List (List Key × V)} (ok : HOk P w H h) (e : Rd H a (.dT kvs)) : kvs.length ≤ sizeLine ∧ (a == sysModules) = false ∧
    ∃ xs, KT H kvs xs ∧ h.DictOfH (tupleKind (mixKind P w)) a xs := by
  obtain ⟨z, y, xs, r, o, es, ep, h1, h2, h3, h4, h5⟩ := (show ObjOk P w H h a (.dT kvs) from rd_of ok e)
  refine ⟨z, y, xs, r, o, es, ep, h1, h2, h3, h4, fun x hx => ?_, h5⟩
  have all : ∀ {l : List (List Key × V)} {m : List (List Key × Addr × Value)}, KT H l m → ∀ x ∈ m, (tupleKind (mixKind P w)).is h x.1 x.2.1 := by
    intro l m q
    induction q with
    | nil => intro x hx; exact nomatch hx
    | @cons p q ps qs hq t ih =>
      intro x hx
      rcases List.mem_cons.mp hx with e | hx
      · subst e
        exact key_of ok (by rw [← hq.1]; exact hq.2.1)
      · exact ih x hx
  exact all r x hx
theorem dt_of {kvs : List (List Key × V)} (ok : HOk P w H h) (e : H a = some (.dT kvs)) : kvs.length ≤ sizeLine ∧ (a == sysModules) = false ∧
    ∃ xs, KT H kvs xs ∧ h.DictOfH (tupleKind (mixKind P w)) a xs := dt_rd ok (.inl e)
end

/-- what the dict at a holds at the key y -/
def DGet (H : Hp) (a : Addr) (y : V) (r : Option V) : Prop :=
  (∃ kvs k, Rd H a (.dK kvs) ∧ y = kV k ∧ r = valV kvs k) ∨ ∃ kvs k b, Rd H a (.dT kvs) ∧ y = .ref b ∧ H b = some (.tup (k.map kV)) ∧ r = valV kvs k
/-- the heap behind a[y] = v -/
def DPut (H : Hp) (a : Addr) (y v : V) (H' : Hp) : Prop :=
  (∃ kvs k, H a = some (.dK kvs) ∧ y = kV k ∧ kvs.length < sizeLine ∧ H' = upd H a (.dK (putK kvs k v))) ∨
  ∃ kvs k b, H a = some (.dT kvs) ∧ y = .ref b ∧ H b = some (.tup (k.map kV)) ∧ kvs.length < sizeLine ∧ H' = upd H a (.dT (putK kvs k v))
theorem DGet.k {H : Hp} {a : Addr} {kvs : List (Key × V)} {k : Key} (e : H a = some (.dK kvs)) : DGet H a (kV k) (valV kvs k) := .inl ⟨kvs, k, .inl e, rfl, rfl⟩
theorem DPut.k {H : Hp} {a : Addr} {kvs : List (Key × V)} {k : Key} {v : V} (e : H a = some (.dK kvs)) (hl : kvs.length < sizeLine) : DPut H a (kV k) v (upd H a (.dK (putK kvs k v))) := .inl ⟨kvs, k, e, rfl, hl, rfl⟩
section
variable {X : Cx} {pins : List (Addr × Obj)} {σ : St} {H : Hp} {s : Shared} {a : Addr} {y v : V} {u r : Value} {o : Option V} {A : Around} {E : Value → Shared → Prop}

theorem Inv.big (I : Inv X pins σ H s) : sysModules < s.heap.objs.size := by
  have h : mainGlobals < s.heap.objs.size := (I.mod.glob.keeps I.bk).lt
  exact Nat.lt_trans (by decide) h

/-- d[y], there -/
theorem d_getItem {Q : Value → Shared → Prop} (hu : A.units + 1 < cLine) (I : Inv X pins σ H s) (g : DGet H a y (some v)) (ry : RelV y u) (h : ∀ w' s', Inv X pins σ H s' → RelV v w' → Q w' s') :
    wpAny (model X.prog X.w) A (getItem (.ref a) u) Q E s := by
  rcases g with ⟨kvs, k, e, ey, l⟩ | ⟨kvs, k, b, e, ey, eb, l⟩
  · subst ey
    obtain ⟨z, hd, vs, rel, dd⟩ := dk_rd I.hok e
    obtain ⟨w', hw, rw'⟩ := RelO.some_of (v := v) (o := valueAt vs k) (by rw [l]; exact rel.val k)
    exact wpAny_getItem_of (kV_is ry) dd.mapOf hw (h w' _ (I.tok _) rw')
  · subst ey
    cases (show u = Value.ref b from ry)
    obtain ⟨z, hd, xs, rel, dd⟩ := dt_rd I.hok e
    obtain ⟨w', hw, rw'⟩ := RelO.some_of (v := v) (o := (atKey xs k).map (·.2)) (by rw [l]; exact rel.val k)
    obtain ⟨p, hp, hp2⟩ := Option.map_eq_some_iff.mp hw
    refine wpAny_getItem_heap (tupleKind_room_in1 hu) (key_of I.hok eb) dd hp ?_
    rw [hp2]
    exact h w' _ (I.tok _) rw'
theorem d_notIn {Q : Value → Shared → Prop} (hu : A.units + 1 < cLine) (I : Inv X pins σ H s) (g : DGet H a y o) (ry : RelV y u) (h : ∀ s', Inv X pins σ H s' → Q (.bool (!o.isSome)) s') :
    wpAny (model X.prog X.w) A (compareOp .NotIn u (.ref a)) Q E s := by
  rcases g with ⟨kvs, k, e, ey, l⟩ | ⟨kvs, k, b, e, ey, eb, l⟩
  · subst ey
    obtain ⟨z, hd, vs, rel, dd⟩ := dk_rd I.hok e
    refine wpAny_notIn_of (kV_is ry) hd dd.mapOf ?_
    rw [← (rel.val k).isSome_eq, ← l]
    exact h _ (I.tok _)
  · subst ey
    cases (show u = Value.ref b from ry)
    obtain ⟨z, hd, xs, rel, dd⟩ := dt_rd I.hok e
    refine wpAny_notIn_heap (tupleKind_room_in1 hu) (key_of I.hok eb) hd dd ?_
    have q := (rel.val k).isSome_eq
    rw [Option.isSome_map] at q
    rw [← q, ← l]
    exact h _ (I.tok _)
/-- a dict's object is replaced -/
theorem d_write {h' : Heap} {t' : Nat} {ob : HO} (I : Inv X pins σ H s) (mu : Mut (H a)) (hs : Heap.SameBut a s.heap h') (he : ∃ q, h'.get? a = some q) (new : ObjOk X.prog X.w (upd H a ob) h' a ob) :
    Inv X pins σ (upd H a ob) { s with heap := h', toks := t' } :=
  I.write (x := a) (e := a) mu (.inl rfl) (fun b q hb z => (hs.2 b hb).trans z) he new
theorem dk_new {P : Program} {w : World} {H' : Hp} {h' : Heap} {kvs : List (Key × V)} {vs : List (Key × Value)} (z : kvs.length ≤ sizeLine) (hd : (a == sysModules) = false) (rel : KV kvs vs) (dd : h'.DictOf (mixKind P w) a vs) :
    ObjOk P w H' h' a (.dK kvs) := ⟨z, hd, vs, rel, dd⟩
/-- d[y] = v -/
theorem d_setItem {H' : Hp} {Q : Unit → Shared → Prop} (hu : A.units + 1 < cLine) (I : Inv X pins σ H s) (g : DPut H a y v H') (ry : RelV y u) (rv : RelV v r) (h : ∀ s', Inv X pins σ H' s' → Q () s') :
    wpAny (model X.prog X.w) A (setItem (.ref a) u r) Q E s := by
  rcases g with ⟨kvs, k, e, ey, l, eH⟩ | ⟨kvs, k, b, e, ey, eb, l, eH⟩
  · subst ey eH
    obtain ⟨z, hd, vs, rel, dd⟩ := dk_of I.hok e
    have hz : vs.length ≤ sizeLine := by rw [← rel.length]; exact z
    have hl : (putK kvs k v).length ≤ sizeLine := by have := length_putK kvs k v; omega
    refine wpAny_setItem_pairs (hsz := hz) (kV_is ry) dd fun h' dd' hs => h _ ?_
    have he : ∃ q, h'.get? a = some q := let ⟨q, _, _, hq, _⟩ := dd'; ⟨q, hq⟩
    exact d_write I (by rw [e]; exact True.intro) hs he (dk_new hl hd (rel.put k rv) dd')
  · subst ey eH
    cases (show u = Value.ref b from ry)
    obtain ⟨z, hd, xs, rel, dd⟩ := dt_of I.hok e
    have hz : xs.length ≤ sizeLine := by rw [← Paired.length rel]; exact z
    have hl : (putK kvs k v).length ≤ sizeLine := by have := length_putK kvs k v; omega
    refine wpAny_setItem_heap (hsz := hz) (tupleKind_room_in1 hu) (key_of I.hok eb) dd fun h' dd' hs => h _ ?_
    obtain ⟨q, es, ep, hq, h2, h3, h4, _, h5⟩ := dd'
    refine d_write I (by rw [e]; exact True.intro) hs ⟨q, hq⟩ ⟨hl, hd, _, (rel.put k eb rv).keeps fun c ys ec => ?_, q, es, ep, hq, h2, h3, h4, h5⟩
    rw [upd_ne (ne_of ec e (fun z => nomatch z))]
    exact ec
end

section
variable {X : Cx} {pins : List (Addr × Obj)} {σ : St} {H : Hp} {s : Shared} {a : Addr} {kvs : List (Key × V)} {k : Key} {u : Value} {A : Around} {E : Value → Shared → Prop}
/-- del d[k] -/
theorem d_delItem {Q : Unit → Shared → Prop} (I : Inv X pins σ H s) (e : H a = some (.dK kvs)) (ry : RelV (kV k) u) (l : (valV kvs k).isSome = true) (h : ∀ s', Inv X pins σ (upd H a (.dK (dropK kvs k))) s' → Q () s') :
    wpAny (model X.prog X.w) A (delItem (.ref a) u) Q E s := by
  obtain ⟨z, hd, vs, rel, dd⟩ := dk_of I.hok e
  refine wpAny_delItem_slot dd.typeIs (by decide) PySem.F.slot_dict_delitem
    (call_meetsIn PySem.F.slot_dict_delitem dd.typeIs PySem.F.entry_dict_delitem (PySem.F.args_dict_delitem_2 _ _) (meets_dict_delitem_pairs (mixKind X.prog X.w) a (kV_is ry)) ⟨vs, dd, by rw [← rel.length]; exact z, by rw [← (rel.val k).isSome_eq]; exact l, fun h' dd' hs => h _ ?_⟩)
  have he : ∃ q, h'.get? a = some q := let ⟨q, _, _, hq, _⟩ := dd'; ⟨q, hq⟩
  exact d_write I (by rw [e]; exact True.intro) hs he (dk_new (Nat.le_trans (dropK_le kvs k) z) hd (rel.drop k) dd')
/-- d.pop(k[, x]), there -/
theorem d_pop {v : V} {more : List Value} {Q : Value → Shared → Prop} (I : Inv X pins σ H s) (e : H a = some (.dK kvs)) (ry : RelV (kV k) u) (l : valV kvs k = some v) (hm : more = [] ∨ ∃ x, more = [x])
    (h : ∀ w' s', Inv X pins σ (upd H a (.dK (dropK kvs k))) s' → RelV v w' → Q w' s') : wpAny (model X.prog X.w) A (call (.builtin "dict.pop") (.ref a :: u :: more)) Q E s := by
  obtain ⟨z, hd, vs, rel, dd⟩ := dk_of I.hok e
  obtain ⟨w', hw, rw'⟩ := RelO.some_of (v := v) (o := valueAt vs k) (by rw [← l]; exact rel.val k)
  have hp : (keyPart u).isSome = true := by
    cases k with
    | inl i => obtain ⟨t, q⟩ := (show ∃ t, u = Value.int i t from ry); subst q; rfl
    | inr x => obtain ⟨t, q⟩ := (show ∃ t, u = Value.str x t from ry); subst q; rfl
  have ha : argsOk "dict.pop" ⟨.ref a :: u :: more, []⟩ := by
    rcases hm with q | ⟨x, q⟩
    · subst q; exact PySem.F.args_dict_pop_2 _ _
    · subst q; exact PySem.F.args_dict_pop_3 _ _ _
  refine call_meetsIn PySem.F.slot_dict_pop dd.typeIs PySem.F.entry_dict_pop ha (meets_dict_pop_there (mixKind X.prog X.w) a (kV_is ry) more hm hp)
    ⟨vs, w', dd, by rw [← rel.length]; exact z, hw, fun h' dd' hs => h w' _ ?_ rw'⟩
  have he : ∃ q, h'.get? a = some q := let ⟨q, _, _, hq, _⟩ := dd'; ⟨q, hq⟩
  exact d_write I (by rw [e]; exact True.intro) hs he (dk_new (Nat.le_trans (dropK_le kvs k) z) hd (rel.drop k) dd')
end


/-- the element of a subscription, not a slice -/
def NoSl (i : Expr) : Prop := ∀ ov iv, subscripted i false ov iv = operate [ov, iv] (getItem ov iv)
theorem subD_of {prog : Program} {w : World} {A : Around} {E : Value → Shared → Prop} {s : Shared} {env : Env} {value slice : Expr} {pos : Pos} {T id : String} {Q : Value → Shared → Prop}
    (hl : typeLookup (.type T) "__getitem__" = pure (some (.builtin id))) (hs : NoSl slice)
    (h : wpAny (model prog w) A (eval value env) (fun o s₁ => wpAny (model prog w) A (eval slice env) (fun i s₂ => s₂.TypeIs o T ∧ wpAny (model prog w) A (getItem o i) Q E s₂) E s₁) E s) :
    wpAny (model prog w) A (eval (.Subscript value slice pos) env) Q E s := by
  refine Subscript_ (wpAny_mono h (fun o s₁ h₁ => wpAny_mono h₁ (fun i s₂ h₂ => ?_) fun _ _ x => x) fun _ _ x => x)
  obtain ⟨hT, h₂⟩ := h₂
  unfold subscriptTail
  refine wpAny_bind ?_
  rw [getitemInPython_of_ne hT.not_modules]
  refine wpAny_bind (wpAny_specialOf hT hl ?_)
  have fin : wpAny (model prog w) A (subscripted slice false o i) (fun r s₃ => wpAny (model prog w) A (letTemporaryGo value o r >>= fun _ => pure r) Q E s₃) E s₂ := by
    rw [hs o i]
    exact wpAny_operating (wpAny_mono h₂ (fun r s₃ h₃ => wpAny_bind (wpAny_letTemporaryGo (wpAny_pure h₃))) fun _ _ x => x)
  first
    | exact wpAny_pure (wpAny_bind fin)
    | exact wpAny_bind (wpAny_pure (wpAny_bind fin))
    | exact wpAny_bind fin

theorem dict_typeIs {X : Cx} {pins : List (Addr × Obj)} {σ : St} {H : Hp} {s : Shared} {a : Addr} {y : V} {o : Option V} (I : Inv X pins σ H s) (g : DGet H a y o) : s.TypeIs (.ref a) "dict" := by
  rcases g with ⟨kvs, k, e, _, _⟩ | ⟨kvs, k, b, e, _, _, _⟩
  · obtain ⟨_, _, vs, _, dd⟩ := dk_rd I.hok e
    exact dd.typeIs
  · obtain ⟨_, _, xs, _, dd⟩ := dt_rd I.hok e
    exact dd.typeIs
/-- d[y] -/
def tDGet (td ty : TE) : TE := fun σ H Q => td σ H fun x H1 => ty σ H1 fun y H2 => ∃ a v, x = .ref a ∧ DGet H2 a y (some v) ∧ Q v H2
/-- y in d, y not in d -/
def tDIn (ty td : TE) : TE := fun σ H Q => ty σ H fun y H1 => td σ H1 fun x H2 => ∃ a o, x = .ref a ∧ DGet H2 a y o ∧ Q (.bl o.isSome) H2
def tDNotIn (ty td : TE) : TE := fun σ H Q => ty σ H fun y H1 => td σ H1 fun x H2 => ∃ a o, x = .ref a ∧ DGet H2 a y o ∧ Q (.bl (!o.isSome)) H2
/-- d[y] = v -/
def sDPut (td ty tv : TE) : TS := fun D σ H => tv σ H fun v H1 => td σ H1 fun x H2 => ty σ H2 fun y H3 => ∃ a H4, x = .ref a ∧ DPut H3 a y v H4 ∧ D.nx σ H4
section
variable {X : Cx} {o i e value : Expr} {pos pos' tpos : Pos} {td ty tv : TE}
theorem pe_dget (hu : X.A.units + 1 < cLine) (ho : PE X o td) (hi : PE X i ty) (hs : NoSl i) : PE X (.Subscript o i pos) (tDGet td ty) := by
  intro pins s σ H Q I h
  refine subD_of PySem.F.slot_dict_getitem.lookup hs (thn (ho pins s σ H _ I h) fun u s1 ⟨x, H1, I1, rx, q1⟩ => thn (hi pins s1 σ H1 _ I1 q1) fun iv s2 ⟨y, H2, I2, ry, a, v, ex, g, q2⟩ => ?_)
  subst ex
  obtain rfl : u = Value.ref a := rx
  exact ⟨dict_typeIs I2 g, d_getItem hu I2 g ry fun w' s3 I3 rw' => ⟨v, H2, I3, rw', q2⟩⟩
theorem pc_dnotin (hu : X.A.units + 1 < cLine) (hi : PE X i ty) (ho : PE X o td) : PC X .NotIn i o (tDNotIn ty td) := by
  intro pins s σ H Q I h
  refine thn (hi pins s σ H _ I h) fun iv s1 ⟨y, H1, I1, ry, q1⟩ => thn (ho pins s1 σ H1 _ I1 q1) fun u s2 ⟨x, H2, I2, rx, a, ov, ex, g, q2⟩ => ?_
  subst ex
  obtain rfl : u = Value.ref a := rx
  exact d_notIn hu I2 g ry fun s3 I3 => ⟨.bl (!ov.isSome), H2, I3, rfl, q2⟩
theorem ps_dput (hu : X.A.units + 1 < cLine) (ho : PE X o td) (hi : PE X i ty) (hv : PE X value tv) (hs : swapsWith value (some (.Subscript o i pos')) pos.line X.env = pure false) :
    PS X (.Assign [.Subscript o i pos'] value pos) (sDPut td ty tv) := by
  intro pins s σ H D I h
  refine wpAny_Assign_Subscript (thn (hv pins s σ H _ I h) fun r s1 ⟨v, H1, I1, rv, q1⟩ => thn (ho pins s1 σ H1 _ I1 q1) fun u s2 ⟨x, H2, I2, rx, q2⟩ => thn (hi pins s2 σ H2 _ I2 q2) fun iv s3 ⟨y, H3, I3, ry, a, H4, ex, g, q3⟩ => ?_) hs
  subst ex
  obtain rfl : u = Value.ref a := rx
  exact d_setItem hu I3 g ry rv fun s4 I4 => ⟨σ, H4, I4, q3⟩
end


theorem dk_empty {P : Program} {w : World} {H : Hp} (h : Heap) (hb : sysModules < h.objs.size) : ObjOk P w H (h.push { cls := .type "dict", data := .dict #[] }) h.objs.size (.dK []) :=
  ⟨Nat.zero_le _, beq_eq_false_iff_ne.mpr (Ne.symm (Nat.ne_of_lt hb)), [], .nil, Heap.DictOf.new h⟩
/-- {}, to be a dict of the kind that is wanted -/
def tDNewK : TE := fun _ H Q => ∀ p, H p = none → Q (.ref p) (upd H p (.dK []))
section
variable {X : Cx} {pos : Pos}
theorem pe_dnewK : PE X (.Dict [] [] pos) tDNewK := fun pins s σ H Q I h =>
  wpAny_Dict_empty ⟨.ref s.heap.objs.size, _, I.laid (a := s.heap.objs.size) (o := .dK []) (t' := s.toks) (fun _ _ q => Heap.get?_push_of_some _ q) (Nat.le_refl _) (dk_empty s.heap I.big), rfl, h _ (I.hok.fresh (Nat.le_refl _))⟩
end

/-- the pairs of a display, from the left -/
def tPairs : List (TE × TE) → St → Hp → (List (V × V) → Hp → Prop) → Prop
  | [], _, H, Q => Q [] H
  | (tk, tv) :: r, σ, H, Q => tk σ H fun x H1 => tv σ H1 fun y H2 => tPairs r σ H2 fun ps H3 => Q ((x, y) :: ps) H3
abbrev VV : List (V × V) → List (Value × Value) → Prop := Paired fun p q => RelV p.1 q.1 ∧ RelV p.2 q.2
def PPs (X : Cx) (pos : Pos) (keys : List (Option Expr)) (values : List Expr) (trs : List (TE × TE)) : Prop :=
  ∀ (pins : List (Addr × Obj)) (s : Shared) (σ : St) (H : Hp) (Q : List (V × V) → Hp → Prop), Inv X pins σ H s → tPairs trs σ H Q →
    wpAny (model X.prog X.w) X.A (evalPairs (pairTrees keys values X.env pos)) (fun vs s' => ∃ ps H', Inv X pins σ H' s' ∧ VV ps vs ∧ Q ps H') X.xe s
theorem pps_nil {X : Cx} {pos : Pos} : PPs X pos [] [] [] := fun pins s σ H Q I h => pairTrees_nil_walk ⟨[], H, I, .nil, h⟩
theorem pps_cons {X : Cx} {pos : Pos} {k v : Expr} {ks : List (Option Expr)} {vs : List Expr} {tk tv : TE} {trs : List (TE × TE)} (hk : PE X k tk) (hv : PE X v tv) (hr : PPs X pos ks vs trs) :
    PPs X pos (some k :: ks) (v :: vs) ((tk, tv) :: trs) := fun pins s σ H Q I h =>
  pairTrees_cons_walk (thn (hk pins s σ H _ I h) fun u s1 ⟨x, H1, I1, rx, q1⟩ => thn (hv pins s1 σ H1 _ I1 q1) fun w2 s2 ⟨y, H2, I2, ry, q2⟩ =>
    thn (hr pins s2 σ H2 _ I2 q2) fun ws s3 ⟨ps, H3, I3, rel, q3⟩ => ⟨(x, y) :: ps, H3, I3, .cons ⟨rx, ry⟩ rel, q3⟩)

def mergeK (kvs more : List (Key × V)) : List (Key × V) := more.foldl (fun acc kv => putK acc kv.1 kv.2) kvs
theorem KV.merge : ∀ {more : List (Key × V)} {rs : List (Key × Value)} {kvs : List (Key × V)} {vs : List (Key × Value)}, KV more rs → KV kvs vs → KV (mergeK kvs more) (merged vs rs) := by
  intro more rs kvs vs r
  unfold KV at r
  induction r generalizing kvs vs with
  | nil => intro q; exact q
  | @cons p q ps qs h t ih =>
    intro r0
    have e : KV (putK kvs p.1 p.2) (stored vs q.1 q.2) := by
      have := r0.put p.1 h.2
      rw [← h.1]; exact this
    exact ih e
theorem length_mergeK : ∀ (more kvs : List (Key × V)), (mergeK kvs more).length ≤ kvs.length + more.length
  | [], kvs => by show kvs.length ≤ kvs.length + 0; omega
  | p :: r, kvs => by
    have h1 := length_mergeK r (putK kvs p.1 p.2)
    have h2 := length_putK kvs p.1 p.2
    show (mergeK (putK kvs p.1 p.2) r).length ≤ _
    rw [List.length_cons]; omega
theorem carries_of {P : Program} {w : World} : ∀ {kvs : List (Key × V)} {ws : List (Value × Value)}, VV (kvs.map fun kv => (kV kv.1, kv.2)) ws → ∃ rs, Carries (mixKind P w) ws rs ∧ KV kvs rs
  | [], _, r => by rw [List.map_nil] at r; cases r; exact ⟨[], True.intro, .nil⟩
  | p :: kvs, _, r => by
    rw [List.map_cons] at r
    cases r with
    | @cons a b as bs h t =>
      obtain ⟨rs, c, q⟩ := carries_of (P := P) (w := w) t
      obtain ⟨b1, b2⟩ := b
      exact ⟨(p.1, b2) :: rs, ⟨kV_is h.1, rfl, c⟩, .cons ⟨rfl, h.2⟩ q⟩
/-- {k: v, ..} with keys ints and texts; the new dict stands empty while the pairs are made -/
def tDisp (trs : List (TE × TE)) : TE := fun σ H Q => ∀ p, H p = none → tPairs trs σ (upd H p (.dK [])) fun ps H2 => H2 p = some (.dK []) ∧ ∃ kvs : List (Key × V), ps = kvs.map (fun kv => (kV kv.1, kv.2)) ∧ kvs.length ≤ 15 ∧ Q (.ref p) (upd H2 p (.dK (mergeK [] kvs)))
theorem pe_disp {X : Cx} {pos : Pos} {keys : List (Option Expr)} {values : List Expr} {trs : List (TE × TE)} (h : PPs X pos keys values trs) (hall : keys.all (·.isSome) = true) (hl : keys.length = values.length) (h0 : keys ≠ [])
    (h15 : keys.length ≤ 15) : PE X (.Dict keys values pos) (tDisp trs) := by
  intro pins s σ H Q I q
  have hn := I.hok.fresh (Nat.le_refl s.heap.objs.size)
  have I1 := I.laid (a := s.heap.objs.size) (o := .dK []) (h' := s.heap.push { cls := .type "dict", data := .dict #[] }) (t' := s.toks) (fun _ _ q => Heap.get?_push_of_some _ q) (Nat.le_refl _) (dk_empty s.heap I.big)
  refine wpAny_Dict_walk (knd := mixKind X.prog X.w) hall hl h0 h15 (thn (h pins _ σ _ _ I1 (q _ hn)) fun ws s2 ⟨ps, H2, I2, rel, e, kvs, ep, lk, q2⟩ => ?_)
  subst ep
  obtain ⟨rs, c, rk⟩ := carries_of (P := X.prog) (w := X.w) rel
  obtain ⟨z, hd, vs0, r0, dd⟩ := dk_of I2.hok e
  cases r0
  refine ⟨rs, c, dd, fun h' dd' hs => ⟨.ref s.heap.objs.size, _, ?_, rfl, q2⟩⟩
  have hz : (mergeK [] kvs).length ≤ sizeLine := by
    have h1 := length_mergeK kvs []
    rw [List.length_nil] at h1
    rw [sizeLine_eq]; omega
  have he : ∃ q, h'.get? s.heap.objs.size = some q := let ⟨q, _, _, hq, _⟩ := dd'; ⟨q, hq⟩
  exact d_write I2 (by rw [e]; exact True.intro) hs he (dk_new hz hd (rk.merge .nil) dd')


/-- a method call o.m(e) of a built-in, with one argument: what must be seen of the text -/
structure M1 (X : Cx) (o : Expr) (m : Str) (apos : Pos) (e : Expr) (cpos : Pos) : Prop where
  base : attributeBase o m X.env (eval o X.env) = eval o X.env
  few : ((backTo cpos (starEach [e] X.env)).all (fun x => !x.1) && (backToKw cpos (keywordEach [] X.env)).all (fun x => x.1.isSome)
    && decide (([e] : List Expr).length + ([] : List Keyword).length + (if ([] : List Keyword).isEmpty then 0 else 1) < 30)) = true
  line : (apos.endLine == cpos.line) = true
  trees : backTo cpos (starEach [e] X.env) = [(false, eval e X.env)]
/-- a is a dict, whatever its keys -/
def IsD (H : Hp) (a : Addr) : Prop := (∃ kvs, Rd H a (.dK kvs)) ∨ ∃ kvs, Rd H a (.dT kvs)
theorem isD_at {X : Cx} {pins : List (Addr × Obj)} {σ : St} {H : Hp} {s : Shared} {a : Addr} (I : Inv X pins σ H s) (d : IsD H a) :
    s.TypeIs (.ref a) "dict" ∧ (∀ b, Value.ref a = .ref b → ∃ ob, s.heap.get? b = some ob ∧ ob.dict = none) ∧ (a == sysModules) = false := by
  rcases d with ⟨kvs, e⟩ | ⟨kvs, e⟩
  · obtain ⟨_, hd, vs, _, dd⟩ := dk_rd I.hok e
    refine ⟨dd.typeIs, fun b q => ?_, hd⟩
    cases q
    obtain ⟨ob, _, _, h1, h2, _⟩ := dd
    exact ⟨ob, h1, h2.2.1⟩
  · obtain ⟨_, hd, xs, _, dd⟩ := dt_rd I.hok e
    refine ⟨dd.typeIs, fun b q => ?_, hd⟩
    cases q
    obtain ⟨ob, _, _, h1, h2, _⟩ := dd
    exact ⟨ob, h1, h2.2.1⟩

section
variable {X : Cx} {pins : List (Addr × Obj)} {σ : St} {H : Hp} {s : Shared} {a : Addr} {y d : V} {u r : Value} {o : Option V} {A : Around} {E : Value → Shared → Prop}
end

/-- d.pop(k): there; d.pop(k, x): there or not -/
def tDPop1 (td ty : TE) : TE := fun σ H Q => td σ H fun x H1 => ∃ a, x = .ref a ∧ IsD H1 a ∧ ty σ H1 fun y H2 => ∃ kvs k v, H2 a = some (.dK kvs) ∧ y = kV k ∧ valV kvs k = some v ∧ Q v (upd H2 a (.dK (dropK kvs k)))
section
variable {X : Cx} {o e f : Expr} {apos cpos : Pos} {td ty tx : TE}
theorem pe_dpop1 (ho : PE X o td) (he : PE X e ty) (m : M1 X o "pop" apos e cpos) : PE X (.Call (.Attribute o "pop" apos) [e] [] cpos) (tDPop1 td ty) := by
  intro pins s σ H Q I h
  refine wpAny_Call_method m.base m.few m.line PySem.F.plainAttrs_dict PySem.F.slot_dict_pop PySem.F.type_dict_pop (thn (ho pins s σ H _ I h) fun u s1 ⟨x, H1, I1, rx, a, ex, d, q1⟩ => ?_)
  subst ex
  obtain rfl : u = Value.ref a := rx
  obtain ⟨t1, t2, _⟩ := isD_at I1 d
  refine ⟨t1, t2, ?_⟩
  rw [m.trees]
  refine Calls.callWith_builtin rfl (Calls.evalArgs_plain (Calls.spliced_cons (thn (he pins s1 σ H1 _ I1 q1) fun iv s2 ⟨y, H2, I2, ry, kvs, k, v, ea, ey, l, q2⟩ => Calls.spliced_nil ?_)))
  subst ey
  exact d_pop I2 ea ry l (.inl rfl) fun w' s3 I3 rw' => ⟨v, _, I3, rw', q2⟩
end

section
variable {X : Cx} {pins : List (Addr × Obj)} {σ : St} {H : Hp} {s : Shared} {a : Addr} {kvs : List (Key × V)} {A : Around} {E : Value → Shared → Prop}
end


section
variable {X : Cx} {pins : List (Addr × Obj)} {σ : St} {H : Hp} {s : Shared} {a : Addr} {y : V} {u : Value} {A : Around} {E : Value → Shared → Prop}
end
end L2

set_option Elab.async false
set_option linter.all false
set_option maxRecDepth 100000
set_option maxHeartbeats 1000000
namespace L2
open PySem PySem.Spec PyProof.Rows
section
variable {prog : Program} {w : World} {A : Around} {E : Value → Shared → Prop} {s : Shared} {it d : Addr} {i ep : Nat} {es : Array DictEntry} {o : Obj}
end
section
variable {X : Cx} {pins : List (Addr × Obj)} {σ : St} {H : Hp} {s : Shared} {d : Addr} {kvs : List (List Key × V)}
end
end L2
namespace My
open PySem L2
end My

set_option Elab.async false
set_option linter.all false
set_option maxRecDepth 100000
set_option maxHeartbeats 1000000
namespace L2
open PySem PySem.Spec PyProof.Rows
variable {X : Cx}
theorem call_sumG (hc : X.calm = true) : CallR X (.builtin "sum") (fun xs H Q => ∃ (p : Addr) (ns : List Int), xs = [.ref p] ∧ SqL X.K H p (ns.map V.int) ∧ Q (.int ns.sum) H) := by
  intro pins s σ H xs us Q I r h
  obtain ⟨p, ns, rfl, hp, q⟩ := h
  obtain ⟨u, rfl, ru⟩ := vals1 r
  cases ru
  obtain ⟨its, ri, pl, hz⟩ := I.list hp
  have hl := ri.length
  rw [List.length_map] at hl
  refine call_sum_walkG (wpAny_pyIter_list pl.isList ?_)
  have hlt : p < s.heap.objs.size := by obtain ⟨o, e, _⟩ := pl.isList; exact Heap.lt_size e
  refine ⟨s.heap.objs.size, _, _, _, _, _, fun i => ns[i]?.getD 0, rfl, Walks.list (A := X.A.in1) (I.ok.hd hc) s.heap.objs.size p (Nat.ne_of_lt hlt) its.toArray, ⟨⟨_, Heap.get?_push_size _ rfl, rfl, rfl⟩, pl.isList.at fun o e => Heap.get?_push_of_some _ e⟩, ?_, ?_, ?_⟩
  · intro b hb
    have : b = s.heap.objs.size ∨ b = p := by simpa using hb
    rcases this with rfl | rfl
    · show _ < (Heap.push _ _).objs.size
      rw [Heap.size_push]; exact Nat.lt_succ_self _
    · show _ < (Heap.push _ _).objs.size
      rw [Heap.size_push]; exact Nat.lt_succ_of_lt hlt
  · intro i v hv
    have hv' : its[i]? = some v := by simpa using hv
    have hi : i < its.length := (List.getElem?_eq_some_iff.mp hv').1
    have hb : (ns.map V.int)[i]? = some (.int (ns[i]'(by lia))) := by rw [List.getElem?_map, List.getElem?_eq_getElem (by lia)]; rfl
    obtain ⟨w', e, rw'⟩ := ri.get hb
    rw [hv'] at e
    cases e
    obtain ⟨t, rfl⟩ := rw'
    exact ⟨t, by dsimp only; rw [List.getElem?_eq_getElem (by omega)]; rfl⟩
  · intro h' tk t' hk
    have e : preSum (fun i => ns[i]?.getD 0) its.toArray.size = ns.sum := by
      rw [List.size_toArray, ← hl, preSum_take ns _ (Nat.le_refl _), List.take_length]
    rw [e]
    refine ⟨.int _, H, I.kept fun b o e => hk b o ?_ (Heap.get?_push_of_some _ e), ⟨_, rfl⟩, q⟩
    intro z
    have z' : b = s.heap.objs.size := by simpa using z
    exact absurd (Heap.lt_size e) (by rw [z']; exact Nat.lt_irrefl _)
end L2

set_option Elab.async false
set_option linter.all false
set_option maxRecDepth 100000
set_option maxHeartbeats 1000000
namespace L2
open PySem
/-- the ints g 0 .. g (n - 1) -/
def il (n : Nat) (g : Nat → Int) : List Int := (List.range n).map g
theorem il_len (n : Nat) (g : Nat → Int) : (il n g).length = n := by unfold il; simp
theorem il_get {n : Nat} {g : Nat → Int} {k : Nat} (h : k < n) : (il n g)[k]? = some (g k) := by unfold il; simp [h]
theorem il_congr {n : Nat} {g f : Nat → Int} (h : ∀ k, k < n → g k = f k) : il n g = il n f := by
  unfold il
  exact List.map_congr_left fun k hk => h k (List.mem_range.mp hk)
theorem il_set (n : Nat) (g : Nat → Int) (k : Nat) (v : Int) : (il n g).set k v = il n fun x => if x = k then v else g x := by
  refine List.ext_getElem? fun i => ?_
  rw [List.getElem?_set]
  unfold il
  simp only [List.getElem?_map, List.length_map, List.length_range]
  by_cases hi : i < n
  · simp only [List.getElem?_range hi, Option.map_some]
    by_cases e : k = i
    · subst e; simp [hi]
    · have e' : ¬ i = k := fun z => e z.symm
      simp [e, e']
  · rw [List.getElem?_eq_none (by simpa using hi)]
    by_cases e : k = i
    · subst e; simp [hi]
    · simp [e]
theorem il_rep (n : Nat) : List.replicate n (0 : Int) = il n fun _ => 0 := by
  unfold il
  refine List.ext_getElem? fun i => ?_
  by_cases hi : i < n
  · simp [hi, List.getElem?_replicate]
  · simp [hi, List.getElem?_replicate]
theorem il_snoc (n : Nat) (g : Nat → Int) : il (n + 1) g = il n g ++ [g n] := by
  unfold il
  rw [List.range_succ, List.map_append]
  rfl
theorem cut_from (xs : List V) (k : Nat) : cutV xs (some (k : Int)) none = xs.drop k := by
  unfold cutV
  rw [HT.sIx_none, HT.sIx_nat]
  by_cases h : k ≤ xs.length
  · rw [Nat.min_eq_left h, List.take_of_length_le (by rw [List.length_drop]; lia)]
  · rw [Nat.min_eq_right (by lia), Nat.sub_self, List.take_zero, List.drop_of_length_le (by lia)]
theorem cut_map (ns : List Int) (lo hi : Option Int) : ∃ ms : List Int, cutV (ns.map V.int) lo hi = ms.map V.int ∧ ms.length ≤ ns.length := by
  refine ⟨(ns.drop (HT.sIx (ns.map V.int).length 0 lo)).take (HT.sIx (ns.map V.int).length (ns.map V.int).length hi - HT.sIx (ns.map V.int).length 0 lo), by unfold cutV; rw [List.map_take, List.map_drop], ?_⟩
  rw [List.length_take, List.length_drop]
  lia
end L2
namespace L2
open PySem
theorem rep_il (n : Nat) : (List.replicate ((n : Int)).toNat [V.int 0]).flatten = (il n fun _ => 0).map V.int := by
  rw [Int.toNat_natCast, ← il_rep, List.map_replicate]
  induction n with
  | zero => rfl
  | succ k ih => rw [List.replicate_succ, List.flatten_cons, ih, List.replicate_succ]; rfl
theorem set_ints (ns : List Int) (k : Nat) (v : Int) : (ns.map V.int).set k (V.int v) = (ns.set k v).map V.int := by rw [List.map_set]
theorem getD_of {α : Type} {l : List α} {n : Nat} {a d : α} (h : l[n]? = some a) : l.getD n d = a := by
  rw [List.getD_eq_getElem?_getD, h]
  rfl
theorem filter_snoc {α : Type} (p : α → Bool) (xs : List α) (a : α) : (xs ++ [a]).filter p = xs.filter p ++ if p a = true then [a] else [] := by
  rw [List.filter_append]
  congr 1
  by_cases h : p a = true
  · simp [h]
  · simp [h]
end L2
namespace My
open PySem L2
theorem map_item {ns : List Int} {i : Nat} {v : V} (h : (ns.map V.int)[i]? = some v) : ∃ x, ns[i]? = some x ∧ v = .int x := by
  rw [List.getElem?_map] at h
  cases hz : ns[i]? with
  | none => rw [hz] at h; cases h
  | some x => rw [hz] at h; exact ⟨x, rfl, (Option.some.inj h).symm⟩
/-- a row of a stage -/
def RowOk (m : Nat) (row : List Int) : Prop := row.Nodup ∧ row.length ≤ 20 ∧ ∀ x ∈ row, 0 ≤ x ∧ x < (m : Int)
theorem RowOk.take {m : Nat} {row : List Int} (h : RowOk m row) (k : Nat) : RowOk m (row.take k) :=
  ⟨h.1.sublist (List.take_sublist _ _), Nat.le_trans (by rw [List.length_take]; lia) h.2.1, fun x hx => h.2.2 x (List.mem_of_mem_take hx)⟩
end My
namespace My
open PySem L2
end My

set_option Elab.async false
set_option linter.all false
set_option maxRecDepth 100000
set_option maxHeartbeats 1000000
namespace My
open PySem L2
end My

set_option Elab.async false
set_option linter.all false
set_option maxRecDepth 100000
set_option maxHeartbeats 1000000
namespace L2
open PySem PySem.Spec PyProof.Rows
section
variable {X : Cx}
theorem count_eqU {x : V} : ∀ {xs : List V} {us : List Value}, Vals xs us → xs.all flatV = true → us.countP (eqU x) = xs.countP fun y => eqV y x
  | _, _, .nil, _ => rfl
  | y :: xs, u :: us, .cons r t, f => by
    rw [List.all_cons, Bool.and_eq_true] at f
    rw [List.countP_cons, List.countP_cons, eqU_of r f.1, count_eqU t f.2]
def rCount : V → List V → Hp → VK → Prop := fun x vs H Q => ∃ l xs y, x = .ref l ∧ vs = [y] ∧ H l = some (.lst xs) ∧ flatV y = true ∧ xs.all flatV = true ∧ Q (.int ((xs.countP fun z => eqV z y : Nat) : Int)) H
theorem mt_count : MtM X "list.count" rCount := by
  intro pins s σ H x vs v us Q I rx rv h
  obtain ⟨l, xs, y, rfl, rfl, hH, fy, fs, q⟩ := h
  cases rx
  obtain ⟨u, rfl, ru⟩ := vals1 rv
  obtain ⟨z, its, n, r, hl, e⟩ := I.lstM hH
  refine call_meets F.slot_list_count ⟨_, e, rfl⟩ F.entry_list_count (F.args_list_count_2 _ _) (SeqAt.list_countAt l its.toArray n none #[] u (eqU y)) ⟨e, fun w hw => mem_eqAt ru fy r fs w (by simpa using hw), ?_⟩
  refine ⟨.int _, H, I.tok _, ⟨_, rfl⟩, ?_⟩
  rw [show its.toArray.toList = its by simp, count_eqU r fs]
  exact q
theorem intsAre : ∀ {ns : List Int} {its : List Value}, Vals (ns.map V.int) its → IntsAre its ns
  | [], _, h => by cases h; exact .nil
  | n :: ns, _, h => by
    cases h with
    | cons a t =>
      obtain ⟨tk, rfl⟩ := a
      exact .cons n tk (intsAre t)
theorem call_minL (hc : X.calm = true) : CallR X (.builtin "min") (fun xs H Q => ∃ (p : Addr) (ns : List Int), xs = [.ref p] ∧ SqL X.K H p (ns.map V.int) ∧ 0 < ns.length ∧ ∀ M, M ∈ ns → (∀ a ∈ ns, M ≤ a) → Q (.int M) H) := by
  intro pins s σ H xs us Q I r h
  obtain ⟨p, ns, rfl, hp, hne, q⟩ := h
  obtain ⟨u, rfl, ru⟩ := vals1 r
  cases ru
  obtain ⟨its, ri, pl, hz⟩ := I.list hp
  have hi := intsAre ri
  obtain ⟨ys, e⟩ := hi.allInts.items
  have hns : ns = ys.toList.map (·.1) := by
    rw [← hi.numsOf, ← nums_intItems, ← e]
  have hsz : 0 < ys.size := by
    have h3 := hne; rw [hns, List.length_map, Array.length_toList] at h3; exact h3
  have hl := pl.isList
  rw [e] at hl
  refine min_intList (I.ok.hd hc) hl hsz fun v h' tk hv hk => ?_
  obtain ⟨t, rfl⟩ := intItems_at hv
  obtain ⟨h1, h2⟩ := argBest_lt (numAt ys) (ys.size - 1)
  refine ⟨.int _, H, I.kept hk, ⟨_, rfl⟩, q _ ?_ fun a ha => ?_⟩
  · rw [hns, numAt_eq]; exact getD_mem (by rw [List.length_map, Array.length_toList]; omega)
  · rw [hns] at ha
    obtain ⟨j, hj, rfl⟩ := mem_getD ha
    rw [List.length_map, Array.length_toList] at hj
    rw [← numAt_eq]; exact h2 j (by lia)
end
end L2
namespace My
abbrev Off := Option Int × Int
structure Spt where
  o : Int
  fs : List Off
structure SpOk (M O : Nat) (s : Spt) : Prop where
  ne : s.fs ≠ []
  len : s.fs.length ≤ 30
  nd : (s.fs.map (·.1)).Nodup
  col : ∀ f ∈ s.fs, ∀ c : Int, f.1 = some c → 0 ≤ c ∧ c < (M : Int)
  own : 0 ≤ s.o ∧ s.o < (O : Int)
def costAt (s : Spt) (c : Option Int) : Int := ((s.fs.filter fun f => decide (f.1 = c)).map (·.2)).sum
def costOf : List Spt → List (Option Int) → Int
  | s :: ss, c :: cs => costAt s c + costOf ss cs
  | _, _ => 0
theorem costOf_snoc : ∀ (ss : List Spt) (cs : List (Option Int)) (s : Spt) (c : Option Int), ss.length = cs.length → costOf (ss ++ [s]) (cs ++ [c]) = costOf ss cs + costAt s c
  | [], [], s, c, _ => by simp [costOf]
  | [], _ :: _, _, _, h => by simp at h
  | _ :: _, [], _, _, h => by simp at h
  | a :: ss, b :: cs, s, c, h => by
    simp only [List.cons_append, costOf]
    rw [costOf_snoc ss cs s c (by simpa using h)]
    lia
/-- the one offer of a column -/
theorem filter_one {s : Spt} (nd : (s.fs.map (·.1)).Nodup) {f : Off} (hf : f ∈ s.fs) : (s.fs.filter fun g => decide (g.1 = f.1)) = [f] := by
  obtain ⟨o, fs⟩ := s
  dsimp only at *
  induction fs with
  | nil => cases hf
  | cons g fs ih =>
    rw [List.map_cons, List.nodup_cons] at nd
    rcases List.mem_cons.mp hf with rfl | h
    · rw [List.filter_cons_of_pos (by simp)]
      congr 1
      rw [List.filter_eq_nil_iff]
      intro a ha z
      exact nd.1 (by rw [← of_decide_eq_true z]; exact List.mem_map_of_mem ha)
    · rw [List.filter_cons_of_neg (by
        intro z
        have e := of_decide_eq_true z
        exact nd.1 (by rw [e]; exact List.mem_map_of_mem h))]
      exact ih nd.2 h
theorem costAt_one {s : Spt} (nd : (s.fs.map (·.1)).Nodup) {f : Off} (hf : f ∈ s.fs) : costAt s f.1 = f.2 := by
  unfold costAt
  rw [filter_one nd hf]
  simp
/-- the least -/
def mn : List Int → Int
  | [] => 0
  | x :: xs => xs.foldl min x
theorem foldl_min_le : ∀ (xs : List Int) (x : Int), xs.foldl min x ≤ x ∧ ∀ y ∈ xs, xs.foldl min x ≤ y
  | [], x => ⟨Int.le_refl _, fun y h => by cases h⟩
  | a :: xs, x => by
    obtain ⟨h1, h2⟩ := foldl_min_le xs (min x a)
    refine ⟨Int.le_trans h1 (Int.min_le_left ..), fun y hy => ?_⟩
    rcases List.mem_cons.mp hy with rfl | h
    · exact Int.le_trans h1 (Int.min_le_right ..)
    · exact h2 y h
theorem foldl_min_mem : ∀ (xs : List Int) (x : Int), xs.foldl min x = x ∨ xs.foldl min x ∈ xs
  | [], x => .inl rfl
  | a :: xs, x => by
    have e : (a :: xs).foldl min x = xs.foldl min (min x a) := rfl
    rw [e]
    rcases foldl_min_mem xs (min x a) with h | h
    · rw [h]
      by_cases z : x ≤ a
      · exact .inl (Int.min_eq_left z)
      · rw [Int.min_eq_right (by lia)]; exact .inr (List.mem_cons_self ..)
    · exact .inr (List.mem_cons_of_mem _ h)
theorem mn_mem {ns : List Int} (h : ns ≠ []) : mn ns ∈ ns := by
  cases ns with
  | nil => exact absurd rfl h
  | cons x xs =>
    rcases foldl_min_mem xs x with e | e
    · show xs.foldl min x ∈ _
      rw [e]; exact List.mem_cons_self ..
    · exact List.mem_cons_of_mem _ e
theorem mn_le {ns : List Int} {a : Int} (h : a ∈ ns) : mn ns ≤ a := by
  cases ns with
  | nil => cases h
  | cons x xs =>
    obtain ⟨h1, h2⟩ := foldl_min_le xs x
    rcases List.mem_cons.mp h with rfl | h
    · exact h1
    · exact h2 a h
theorem mn_is {ns : List Int} {M : Int} (h1 : M ∈ ns) (h2 : ∀ a ∈ ns, M ≤ a) : M = mn ns :=
  Int.le_antisymm (h2 _ (mn_mem fun z => by rw [z] at h1; cases h1)) (mn_le h1)
/-- what an offer costs at the prices -/
def offC (ys zs : List Int) (o : Int) (f : Off) : Int := match f.1 with
  | none => f.2
  | some c => f.2 - ys.getD c.toNat 0 + zs.getD o.toNat 0
def lstC (ys zs : List Int) (s : Spt) : Int := mn (s.fs.map (offC ys zs s.o))
def dot (as bs : List Int) : Int := (List.zipWith (· * ·) as bs).sum
def worthT (ss : List Spt) (cols lim ys zs : List Int) : Int := dot cols ys - dot lim zs + (ss.map (lstC ys zs)).sum
def gotN (cs : List (Option Int)) (k : Nat) : Int := ((cs.countP fun c => decide (c = some (k : Int)) : Nat) : Int)
def busyN : List Spt → List (Option Int) → Nat → Int
  | s :: ss, c :: cs, o => (if c.isSome ∧ s.o = (o : Int) then 1 else 0) + busyN ss cs o
  | _, _, _ => 0
theorem busyN_snoc : ∀ (ss : List Spt) (cs : List (Option Int)) (s : Spt) (c : Option Int) (o : Nat), ss.length = cs.length → busyN (ss ++ [s]) (cs ++ [c]) o = busyN ss cs o + if c.isSome ∧ s.o = (o : Int) then 1 else 0
  | [], [], s, c, o, _ => by simp [busyN]
  | [], _ :: _, _, _, _, h => by simp at h
  | _ :: _, [], _, _, _, h => by simp at h
  | a :: ss, b :: cs, s, c, o, h => by
    simp only [List.cons_append, busyN]
    rw [busyN_snoc ss cs s c o (by simpa using h)]
    lia
theorem busyN_le : ∀ (ss : List Spt) (cs : List (Option Int)) (o : Nat), busyN ss cs o ≤ ss.length ∧ 0 ≤ busyN ss cs o
  | [], _, _ => by simp [busyN]
  | _ :: _, [], _ => by simp [busyN]; lia
  | s :: ss, c :: cs, o => by
    have := busyN_le ss cs o
    simp only [busyN, List.length_cons]
    split <;> lia
def sumN (n : Nat) (f : Nat → Int) : Int := ((List.range n).map f).sum
theorem dot_sumN : ∀ (as bs : List Int), as.length = bs.length → dot as bs = sumN as.length (fun k => as.getD k 0 * bs.getD k 0)
  | [], _, _ => by simp [dot, sumN]
  | _ :: _, [], h => by simp at h
  | a :: as, b :: bs, h => by
    have ih := dot_sumN as bs (by simpa using h)
    have e : dot (a :: as) (b :: bs) = a * b + dot as bs := by simp [dot]
    rw [e, ih]
    unfold sumN
    rw [List.length_cons, List.range_succ_eq_map, List.map_cons, List.sum_cons, List.map_map]
    rfl
end My
namespace My
open PySem L2
def oV : Option Int → V
  | none => .non
  | some i => .int i
theorem oV_flat (o : Option Int) : flatV (oV o) = true := by cases o <;> rfl
theorem oV_eq (a b : Option Int) : eqV (oV a) (oV b) = decide (a = b) := by
  cases a <;> cases b
  · rfl
  · rfl
  · rfl
  · rename_i i j
    show (i == j) = _
    rw [Bool.eq_iff_iff]
    simp
theorem oV_scal (a b : Option Int) : scal (oV a) (oV b) = true := by cases a <;> cases b <;> rfl
theorem oV_dec (a b : Option Int) : decide (oV a = oV b) = decide (a = b) := by
  cases a <;> cases b <;> simp [oV]
def OffV (H : Hp) (v : V) (f : Off) : Prop := ∃ t, v = .ref t ∧ H t = some (.tup [oV f.1, .int f.2])
abbrev Offs (H : Hp) : List V → List Off → Prop := Paired (OffV H)
theorem Offs.mono {H H' : Hp} (g : Same H H') {ts : List V} {fs : List Off} (h : Offs H ts fs) : Offs H' ts fs := Paired.mapP h fun _ _ ⟨t, e, q⟩ => ⟨t, e, g _ _ q⟩
theorem Offs.off {H : Hp} {ts : List V} {fs : List Off} {l : Addr} {o : HO} (h : Offs H ts fs) (hl : ∀ xs, H l ≠ some (.tup xs)) : Offs (upd H l o) ts fs := Paired.mapP h fun _ _ ⟨t, e, q⟩ => ⟨t, e, by rw [upd_ne fun z => hl _ (by rw [← z]; exact q)]; exact q⟩
def SpV (H : Hp) (v : V) (s : Spt) : Prop := ∃ t l ts, v = .ref t ∧ H t = some (.tup [.int s.o, .ref l]) ∧ H l = some (.lst ts) ∧ Offs H ts s.fs
abbrev Spts (H : Hp) : List V → List Spt → Prop := Paired (SpV H)
theorem SpV.mono {H H' : Hp} (g : Same H H') {v : V} {s : Spt} (h : SpV H v s) : SpV H' v s := by
  obtain ⟨t, l, ts, e, h1, h2, h3⟩ := h
  exact ⟨t, l, ts, e, g _ _ h1, g _ _ h2, h3.mono g⟩
theorem Spts.mono {H H' : Hp} (g : Same H H') {ts : List V} {ss : List Spt} (h : Spts H ts ss) : Spts H' ts ss := Paired.mapP h fun _ _ => SpV.mono g
def fD (f : Off) : DV := .tup [(match f.1 with | none => .non | some i => .int i), .int f.2]
def sD (s : Spt) : DV := .tup [.int s.o, .lst (s.fs.map fD)]
theorem den_non {K : PySem.W.Frag} {H : Hp} {n : Nat} : Den K H n .non .non := by cases n <;> trivial
theorem den_oV {K : PySem.W.Frag} {H : Hp} {n : Nat} (o : Option Int) : Den K H n (oV o) (match o with | none => .non | some i => .int i) := by
  cases o
  · exact den_non
  · exact den_int
theorem den_offs {K : PySem.W.Frag} {H : Hp} {n : Nat} {a : Addr} {ts : List V} {fs : List Off} (h : SqL K H a ts) (hT : Offs H ts fs) : Den K H (n + 2) (.ref a) (.lst (fs.map fD)) := by
  refine ⟨_, h, ?_⟩
  clear h
  induction hT with
  | nil => exact .nil
  | cons a _ ih =>
    obtain ⟨t, rfl, q⟩ := a
    exact .cons ⟨_, SqT.of q, .cons (den_oV _) (.cons den_int .nil)⟩ ih
theorem den_spts {K : PySem.W.Frag} {H : Hp} {n : Nat} {a : Addr} {ts : List V} {ss : List Spt} (h : SqL K H a ts) (hT : Spts H ts ss) : Den K H (n + 4) (.ref a) (.lst (ss.map sD)) := by
  refine ⟨_, h, ?_⟩
  clear h
  induction hT with
  | nil => exact .nil
  | cons a _ ih =>
    obtain ⟨t, l, us, rfl, q1, q2, q3⟩ := a
    exact .cons ⟨_, SqT.of q1, .cons den_int (.cons (den_offs (SqL.of q2) q3) .nil)⟩ ih
theorem os_flat (cs : List (Option Int)) : (cs.map oV).all flatV = true := by simp [List.all_eq_true, oV_flat]
theorem os_count (cs : List (Option Int)) (k : Nat) : (((cs.map oV).countP fun z => eqV z (.int (k : Int)) : Nat) : Int) = gotN cs k := by
  unfold gotN
  rw [List.countP_map]
  congr 2
  funext c
  exact oV_eq c (some (k : Int))
theorem os_item {cs : List (Option Int)} {i : Nat} {v : V} (h : (cs.map oV)[i]? = some v) : ∃ c, cs[i]? = some c ∧ v = oV c := by
  rw [List.getElem?_map] at h
  cases hz : cs[i]? with
  | none => rw [hz] at h; cases h
  | some x => rw [hz] at h; exact ⟨x, rfl, (Option.some.inj h).symm⟩
end My

set_option Elab.async false
set_option linter.all false
set_option maxRecDepth 100000
set_option maxHeartbeats 1000000
namespace My
open PySem L2
/-- xs[t:] + xs[:t], whatever the items -/
theorem turned_ofV {K : PySem.W.Frag} {H : Hp} {L : Addr} {ts : List V} {t : Nat} {Q : Addr → Hp → Prop} (e : H L = some (.lst ts)) (hl : ts.length ≤ 400)
    (q : ∀ p H', Same H H' → H p = none → H' p = some (.lst (ts.drop t ++ ts.take t)) → Q p H') :
    ∃ x1, SqL K H L x1 ∧ ∀ p, H p = none → ∃ x2, SqL K (upd H p (.lst (cutV x1 (some (t : Int)) none))) L x2 ∧ ∀ p1, upd H p (.lst (cutV x1 (some (t : Int)) none)) p1 = none →
      ∃ x3, upd (upd H p (.lst (cutV x1 (some (t : Int)) none))) p1 (.lst (cutV x2 none (some (t : Int)))) p = some (.lst x3) ∧ ∃ x4, upd (upd H p (.lst (cutV x1 (some (t : Int)) none))) p1 (.lst (cutV x2 none (some (t : Int)))) p1 = some (.lst x4) ∧
        x3.length + x4.length ≤ sizeLine ∧ ∀ p2, upd (upd H p (.lst (cutV x1 (some (t : Int)) none))) p1 (.lst (cutV x2 none (some (t : Int)))) p2 = none →
          Q p2 (upd (upd (upd H p (.lst (cutV x1 (some (t : Int)) none))) p1 (.lst (cutV x2 none (some (t : Int))))) p2 (.lst (x3 ++ x4))) := by
  refine ⟨_, SqL.of e, fun p hp => ⟨_, SqL.of (same_new hp _ _ _ e), fun p1 hp1 => ?_⟩⟩
  have g1 := same_new hp (.lst (cutV ts (some (t : Int)) none))
  have g2 := g1.trans (same_new hp1 (.lst (cutV ts none (some (t : Int)))))
  refine ⟨_, by rw [upd_ne (ne_of_none upd_same hp1)]; exact upd_same, _, upd_same, ?_, fun p2 hp2 => q p2 _ (g2.trans (same_new hp2 _)) (g2.free hp2) ?_⟩
  · have h1 := cutV_length ts (some (t : Int)) none
    have h2 := cutV_length ts none (some (t : Int))
    exact small1000' (by lia)
  · rw [upd_same, cut_from, cut_take]
theorem zip_step {as bs : List Int} {i : Nat} {a b : Int} (ha : as[i]? = some a) (hb : bs[i]? = some b) : List.zipWith (· * ·) (as.take (i + 1)) (bs.take (i + 1)) = List.zipWith (· * ·) (as.take i) (bs.take i) ++ [a * b] := by
  have h1 := (List.getElem?_eq_some_iff.mp ha).1
  have h2 := (List.getElem?_eq_some_iff.mp hb).1
  rw [List.take_add_one, ha, List.take_add_one, hb]
  show List.zipWith _ (as.take i ++ [a]) (bs.take i ++ [b]) = _
  rw [List.zipWith_append (by rw [List.length_take, List.length_take]; lia)]
  rfl
theorem zip_len (as bs : List Int) (i : Nat) : (List.zipWith (· * ·) (as.take i) (bs.take i)).length ≤ i := by
  rw [List.length_zipWith, List.length_take, List.length_take]
  lia
theorem zip_all {as bs : List Int} (h : as.length = bs.length) : List.zipWith (· * ·) (as.take as.length) (bs.take as.length) = List.zipWith (· * ·) as bs := by
  rw [List.take_length, h, List.take_length]
/-- the numbers of a pricing -/
structure Pcs (ss : List Spt) (cols lim ys zs : List Int) : Prop where
  ok : ∀ s ∈ ss, SpOk cols.length lim.length s
  sl : ss.length ≤ 20
  yl : cols.length = ys.length
  zl : lim.length = zs.length
  cl : cols.length ≤ 30
  ll : lim.length ≤ 30
  cb : ∀ c ∈ cols, -(2 ^ 60) < c ∧ c < 2 ^ 60
  lb : ∀ c ∈ lim, -(2 ^ 60) < c ∧ c < 2 ^ 60
theorem oV_none {c : Option Int} (h : c = none) : oV c = .non := by rw [h]; rfl
theorem oV_some {c : Option Int} {i : Int} (h : c = some i) : oV c = .int i := by rw [h]; rfl
end My
namespace My
open PySem L2
theorem oV_inj {a b : Option Int} (h : oV a = oV b) : a = b := by
  have := oV_dec a b
  rw [decide_eq_true h] at this
  exact of_decide_eq_true this.symm
theorem offC_none {ys zs : List Int} {o : Int} {f : Off} (h : f.1 = none) : offC ys zs o f = f.2 := by unfold offC; rw [h]
theorem offC_some {ys zs : List Int} {o x : Int} {f : Off} {a b : Int} (h : f.1 = some x) (ha : ys[x.toNat]? = some a) (hb : zs[o.toNat]? = some b) : offC ys zs o f = f.2 - a + b := by
  unfold offC
  rw [h]
  show f.2 - ys.getD x.toNat 0 + zs.getD o.toNat 0 = _
  rw [getD_of ha, getD_of hb]
theorem dot_il {as bs : List Int} (h : as.length = bs.length) : dot as bs = (il as.length fun k => as.getD k 0 * bs.getD k 0).sum := dot_sumN as bs h
theorem Offs.get {H : Hp} {ts : List V} {fs : List Off} (h : Offs H ts fs) {i : Nat} {f : Off} (e : fs[i]? = some f) : ∃ t, ts[i]? = some (.ref t) ∧ H t = some (.tup [oV f.1, .int f.2]) := by
  obtain ⟨v, hv, t, rfl, q⟩ := Paired.getR h e
  exact ⟨t, hv, q⟩
theorem Spts.get {H : Hp} {us : List V} {ss : List Spt} (h : Spts H us ss) {i : Nat} {s : Spt} (e : ss[i]? = some s) : ∃ t l ts, us[i]? = some (.ref t) ∧ H t = some (.tup [.int s.o, .ref l]) ∧ H l = some (.lst ts) ∧ Offs H ts s.fs := by
  obtain ⟨v, hv, t, l, ts, rfl, q⟩ := Paired.getR h e
  exact ⟨t, l, ts, hv, q⟩
/-- spots stay where a list that none of them has is written -/
theorem Spts.off {H : Hp} {us : List V} {ss : List Spt} {L : Addr} {o : HO} (h : Spts H us ss) (hl : ∀ xs, H L ≠ some (.tup xs)) (hn : ∀ t a l, V.ref t ∈ us → H t = some (.tup [.int a, .ref l]) → l ≠ L) : Spts (upd H L o) us ss := by
  induction h with
  | nil => exact .nil
  | cons a _ ih =>
    obtain ⟨t, l, ts, rfl, h1, h2, h3⟩ := a
    refine .cons ⟨t, l, ts, rfl, ?_, ?_, h3.off hl⟩ (ih fun t a l ht => hn t a l (List.mem_cons_of_mem _ ht))
    · rw [upd_ne fun z => hl _ (by rw [← z]; exact h1)]; exact h1
    · rw [upd_ne (hn t _ l (List.mem_cons_self ..) h1)]; exact h2
end My
namespace My
open PySem L2
theorem Spts.tup {H : Hp} {us : List V} {ss : List Spt} (h : Spts H us ss) {t : Addr} (ht : V.ref t ∈ us) : ∃ a l, H t = some (.tup [.int a, .ref l]) := by
  induction h with
  | nil => cases ht
  | cons a _ ih =>
    obtain ⟨t', l, ts, rfl, h1, h2, h3⟩ := a
    rcases List.mem_cons.mp ht with z | z
    · cases z
      exact ⟨_, _, h1⟩
    · exact ih z
end My
namespace L2
open PySem PySem.Spec PyProof.Rows
theorem pe_bmK {X : Cx} {K : PySem.W.Frag} {o e : Expr} {es : List Expr} {to : TE} {t : TA} {name : Str} {apos cpos : Pos} {T id : String} {r : V → List V → Hp → VK → Prop} (hK : X.K = K) (pa : PlainAttrs T) (slot : Slot T name id) (hty : typeOf (.builtin id) = pure (.type "method_descriptor")) (hm : MtR X id r) (ho : PE X o to) (ha : PA X (e :: es) t)
    (hbase : attributeBase o name X.env (eval o X.env) = eval o X.env := by rfl)
    (hfew : ((backTo cpos (starEach (e :: es) X.env)).all (fun x => !x.1) && (backToKw cpos (keywordEach [] X.env)).all (fun x => x.1.isSome)
      && decide ((e :: es).length + ([] : List Keyword).length + (if ([] : List Keyword).isEmpty then 0 else 1) < 30)) = true := by rfl)
    (hline : (apos.endLine == cpos.line) = true := by rfl) (hs : starEach (e :: es) X.env = (false, eval e X.env) :: starEach es X.env := by rfl) (hplain : (backTo cpos (starEach es X.env)).any (·.1) = false := by rfl) :
    PE X (.Call (.Attribute o name apos) (e :: es) [] cpos) (tBM K T r to t) := by
  subst hK
  exact pe_bm pa slot hty hm ho ha hbase hfew hline hs hplain
end L2
namespace My
open PySem L2
theorem busy_set {O o : Nat} {ss : List Spt} {cs : List (Option Int)} {s : Spt} {x : Int} (hl : ss.length = cs.length) (ho : s.o = (o : Int)) :
    (il O (busyN ss cs)).set o (busyN ss cs o + 1) = il O (busyN (ss ++ [s]) (cs ++ [some x])) := by
  rw [il_set]
  refine il_congr fun k _ => ?_
  rw [busyN_snoc _ _ _ _ _ hl, ho]
  by_cases z : k = o
  · subst z; simp
  · rw [if_neg z, if_neg (by simp; lia)]; lia
theorem busy_none {O : Nat} {ss : List Spt} {cs : List (Option Int)} {s : Spt} (hl : ss.length = cs.length) : il O (busyN (ss ++ [s]) (cs ++ [none])) = il O (busyN ss cs) := by
  refine il_congr fun k _ => ?_
  rw [busyN_snoc _ _ _ _ _ hl]
  simp
end My
namespace My
open PySem L2
theorem paired_drop {α β : Type} {F : α → β → Prop} : ∀ {xs : List α} {ys : List β} (k : Nat), Paired F xs ys → Paired F (xs.drop k) (ys.drop k)
  | _, _, 0, h => h
  | _, _, _ + 1, .nil => .nil
  | _, _, k + 1, .cons _ t => paired_drop k t
theorem SpOk.perm {M O : Nat} {s : Spt} (h : SpOk M O s) {fs : List Off} (p : fs.Perm s.fs) : SpOk M O ⟨s.o, fs⟩ :=
  ⟨fun z => h.ne (by rw [show fs = [] from z] at p; exact p.symm.eq_nil), by rw [show (Spt.mk s.o fs).fs = fs from rfl, p.length_eq]; exact h.len, (p.map _).nodup_iff.mpr h.nd, fun f hf c hc => h.col f (p.mem_iff.mp hf) c hc, h.own⟩
theorem turn_permA {α : Type} (xs : List α) (k : Nat) : (xs.drop k ++ xs.take k).Perm xs := by
  refine List.perm_append_comm.trans ?_
  rw [List.take_append_drop]
theorem ins_perm {α : Type} (xs : List α) (a : α) (k : Nat) : (xs.take k ++ a :: xs.drop k).Perm (a :: xs) := by
  refine List.perm_middle.trans ?_
  rw [List.take_append_drop]
/-- one more spot -/
theorem Spts.grow {H' H2 : Hp} {L t l : Addr} {us ts : List V} {ss : List Spt} {s : Spt} (e : H' L = some (.lst us)) (hS : Spts H' us ss) (fr : ∀ t a l, V.ref t ∈ us → H' t = some (.tup [.int a, .ref l]) → l ≠ L) (g : Same H' H2) (hl : H' l = none)
    (e1 : H2 t = some (.tup [.int s.o, .ref l])) (e2 : H2 l = some (.lst ts)) (hO : Offs H2 ts s.fs) :
    Spts (upd H2 L (.lst (us ++ [.ref t]))) (us ++ [.ref t]) (ss ++ [s]) ∧ ∀ t' a' l', V.ref t' ∈ us ++ [.ref t] → upd H2 L (.lst (us ++ [.ref t])) t' = some (.tup [.int a', .ref l']) → l' ≠ L := by
  have nLl : l ≠ L := (ne_of_none e hl).symm
  have key : ∀ t' a' l', V.ref t' ∈ us ++ [.ref t] → H2 t' = some (.tup [.int a', .ref l']) → l' ≠ L := by
    intro t' a' l' ht' e'
    rcases List.mem_append.mp ht' with z | z
    · obtain ⟨a3, l3, e3⟩ := hS.tup z
      rw [g _ _ e3] at e'
      cases e'
      exact fr t' _ _ z e3
    · cases List.mem_singleton.mp z
      rw [e1] at e'
      cases e'
      exact nLl
  refine ⟨Spts.off (paired_snoc (hS.mono g) ⟨t, l, ts, rfl, e1, e2, hO⟩) (fun xs z => by rw [g _ _ e] at z; cases z) key, fun t' a' l' ht' e' => key t' a' l' ht' ?_⟩
  by_cases z : t' = L
  · subst z
    rw [upd_same] at e'
    cases e'
  · rw [upd_ne z] at e'
    exact e'
end My
namespace My
open PySem L2
theorem ins_ok {M : Nat} {H : Hp} {ts : List V} {fs : List Off} {t : Addr} {v : Int} (k : Nat) (hF : Offs H ts fs) (et : H t = some (.tup [.non, .int v])) (hl : fs.length ≤ 24) (nd : (fs.map (·.1)).Nodup) (hb : ∀ f ∈ fs, ∃ c : Int, f.1 = some c ∧ 0 ≤ c ∧ c < (M : Int)) :
    Offs H (ts.take k ++ .ref t :: ts.drop k) (fs.take k ++ (none, v) :: fs.drop k) ∧ fs.take k ++ (none, v) :: fs.drop k ≠ [] ∧ (fs.take k ++ (none, v) :: fs.drop k).length ≤ 25 ∧ ((fs.take k ++ (none, v) :: fs.drop k).map (·.1)).Nodup ∧ ∀ f ∈ fs.take k ++ (none, v) :: fs.drop k, ∀ c : Int, f.1 = some c → 0 ≤ c ∧ c < (M : Int) := by
  have p : (fs.take k ++ (none, v) :: fs.drop k).Perm ((none, v) :: fs) := ins_perm fs (none, v) k
  refine ⟨paired_app (paired_take k hF) (.cons ⟨t, rfl, et⟩ (paired_drop k hF)), by simp, by rw [p.length_eq, List.length_cons]; lia, (p.map _).nodup_iff.mpr ?_, fun f hf c hc => ?_⟩
  · rw [List.map_cons, List.nodup_cons]
    refine ⟨fun z => ?_, nd⟩
    obtain ⟨f, hf, e⟩ := List.mem_map.mp z
    obtain ⟨c, h1, _⟩ := hb f hf
    rw [h1] at e
    cases e
  · rcases List.mem_cons.mp (p.mem_iff.mp hf) with rfl | h
    · cases hc
    · obtain ⟨c', h1, h2⟩ := hb f h
      rw [h1] at hc
      cases hc
      exact h2
theorem off_step {i : Nat} {fs : List Off} {v : Int} (nd : (fs.map (·.1)).Nodup) (hb : ∀ f ∈ fs, ∃ c : Int, f.1 = some c ∧ 0 ≤ c ∧ c < (i : Int)) :
    ((fs ++ [(some (i : Int), v)]).map (·.1)).Nodup ∧ ∀ f ∈ fs ++ [(some (i : Int), v)], ∃ c : Int, f.1 = some c ∧ 0 ≤ c ∧ c < ((i + 1 : Nat) : Int) := by
  refine ⟨?_, fun f hf => ?_⟩
  · rw [List.map_append, List.nodup_append]
    refine ⟨nd, by simp, fun a ha b hb2 => ?_⟩
    obtain ⟨f, hf, e⟩ := List.mem_map.mp ha
    obtain ⟨c, h1, h2, h3⟩ := hb f hf
    have e2 : b = some (i : Int) := by simpa using hb2
    intro z
    rw [← e, h1, e2] at z
    have := Option.some.inj z
    lia
  · rcases List.mem_append.mp hf with z | z
    · obtain ⟨c, h1, h2, h3⟩ := hb f z
      exact ⟨c, h1, h2, by omega⟩
    · rw [List.mem_singleton.mp z]
      exact ⟨i, rfl, by lia, by lia⟩
end My
namespace My
open PySem L2
def oD : Option Int → DV
  | none => .non
  | some i => .int i
theorem den_oD {K : PySem.W.Frag} {H : Hp} {n : Nat} {a : Addr} {cs : List (Option Int)} (h : SqL K H a (cs.map oV)) : Den K H (n + 1) (.ref a) (.lst (cs.map oD)) := by
  refine ⟨_, h, ?_⟩
  clear h
  induction cs with
  | nil => exact .nil
  | cons a _ ih => exact .cons (by cases a; exact den_non; exact den_int) ih
theorem snoc_lt {l : List Int} {a : Int} {k : Nat} (h : k < l.length) : (l ++ [a]).getD k 0 = l.getD k 0 := by
  rw [List.getD_eq_getElem?_getD, List.getD_eq_getElem?_getD, List.getElem?_append_left h]
theorem snoc_eq {l : List Int} {a : Int} {k : Nat} (h : k = l.length) : (l ++ [a]).getD k 0 = a := by
  subst h
  rw [List.getD_eq_getElem?_getD, List.getElem?_append_right (Nat.le_refl _), Nat.sub_self]
  rfl
theorem gotN_le (cs : List (Option Int)) (k : Nat) : 0 ≤ gotN cs k ∧ gotN cs k ≤ cs.length := by
  unfold gotN
  have := List.countP_le_length (p := fun c => decide (c = some (k : Int))) (l := cs)
  lia
end My

set_option Elab.async false
set_option linter.all false
set_option maxRecDepth 100000
set_option maxHeartbeats 1000000
namespace My
open PySem L2
def offAt (ss : List Spt) (cs : List (Option Int)) (i : Nat) : Bool := decide (cs.getD i none ∈ (ss.getD i ⟨0, []⟩).fs.map (·.1))
def enAt (cols : List Int) (cs : List (Option Int)) (k : Nat) : Bool := decide (cols.getD k 0 ≤ gotN cs k)
def boAt (ss : List Spt) (lim : List Int) (cs : List (Option Int)) (o : Nat) : Bool := decide (busyN ss cs o ≤ lim.getD o 0)
def offB (ss : List Spt) (cs : List (Option Int)) : Bool := decide (cs.length = ss.length) && (List.range ss.length).all (offAt ss cs)
def enB (cols : List Int) (cs : List (Option Int)) : Bool := (List.range cols.length).all (enAt cols cs)
def boB (ss : List Spt) (lim : List Int) (cs : List (Option Int)) : Bool := (List.range lim.length).all (boAt ss lim cs)
def dealB (ss : List Spt) (cols lim : List Int) (cs : List (Option Int)) : Bool := offB ss cs && (enB cols cs && boB ss lim cs)
def workL : List Spt → List (Option Int) → List Int
  | s :: ss, c :: cs => (if c.isSome then [s.o] else []) ++ workL ss cs
  | _, _ => []
theorem workL_snoc : ∀ (ss : List Spt) (cs : List (Option Int)) (s : Spt) (c : Option Int), ss.length = cs.length → workL (ss ++ [s]) (cs ++ [c]) = workL ss cs ++ if c.isSome then [s.o] else []
  | [], [], s, c, _ => by simp [workL]
  | [], _ :: _, _, _, h => by simp at h
  | _ :: _, [], _, _, h => by simp at h
  | a :: ss, b :: cs, s, c, h => by
    simp only [List.cons_append, workL]
    rw [workL_snoc ss cs s c (by simpa using h), List.append_assoc]
theorem workL_len : ∀ (ss : List Spt) (cs : List (Option Int)), (workL ss cs).length ≤ ss.length
  | [], _ => by simp [workL]
  | _ :: _, [] => by simp [workL]
  | s :: ss, c :: cs => by
    have := workL_len ss cs
    simp only [workL, List.length_append, List.length_cons]
    split
    · simp; omega
    · simp; omega
theorem eqV_int (i j : Int) : eqV (.int i) (.int j) = decide (i = j) := by
  show (i == j) = _
  rw [Bool.eq_iff_iff]
  simp
theorem workL_count : ∀ (ss : List Spt) (cs : List (Option Int)) (o : Nat), ((((workL ss cs).map V.int).countP fun z => eqV z (.int (o : Int)) : Nat) : Int) = busyN ss cs o
  | [], _, _ => by simp [workL, busyN]
  | _ :: _, [], _ => by simp [workL, busyN]
  | s :: ss, c :: cs, o => by
    have ih := workL_count ss cs o
    simp only [workL, busyN]
    rw [List.map_append, List.countP_append]
    cases c with
    | none => simpa using ih
    | some x =>
      simp only [Option.isSome_some, if_true, true_and, List.map_cons, List.map_nil, List.countP_cons, List.countP_nil, eqV_int]
      by_cases z : s.o = (o : Int)
      · simp only [z, decide_true, if_true]
        omega
      · simp only [z, decide_false, if_false, Bool.false_eq_true]
        omega
theorem all_false {f : Nat → Bool} {n i : Nat} (hi : i < n) (h : f i = false) : (List.range n).all f = false := by
  cases e : (List.range n).all f with
  | false => rfl
  | true =>
    have := List.all_eq_true.mp e i (List.mem_range.mpr hi)
    rw [h] at this
    cases this
theorem all_true {f : Nat → Bool} {n : Nat} (h : ∀ i, i < n → f i = true) : (List.range n).all f = true := List.all_eq_true.mpr fun i hi => h i (List.mem_range.mp hi)
theorem all_get {f : Nat → Bool} {n i : Nat} (h : (List.range n).all f = true) (hi : i < n) : f i = true := List.all_eq_true.mp h i (List.mem_range.mpr hi)
theorem offAt_of {ss : List Spt} {cs : List (Option Int)} {i : Nat} {s : Spt} {c : Option Int} (hs : ss[i]? = some s) (hc : cs[i]? = some c) : offAt ss cs i = decide (c ∈ s.fs.map (·.1)) := by
  unfold offAt
  rw [getD_of hs, getD_of hc]
theorem offB_in {ss : List Spt} {cs : List (Option Int)} (h : offB ss cs = true) : ss.length = cs.length ∧ ∀ (i : Nat) s c, ss[i]? = some s → cs[i]? = some c → c ∈ s.fs.map (·.1) := by
  unfold offB at h
  rw [Bool.and_eq_true] at h
  refine ⟨(of_decide_eq_true h.1).symm, fun i s c hs hc => ?_⟩
  have := all_get h.2 (List.getElem?_eq_some_iff.mp hs).1
  rw [offAt_of hs hc] at this
  exact of_decide_eq_true this
theorem inOs (c : Option Int) (xs : List (Option Int)) : inV (oV c) (xs.map oV) = decide (c ∈ xs) := by
  unfold inV
  rw [List.any_map, Bool.eq_iff_iff, List.any_eq_true, decide_eq_true_eq]
  constructor
  · rintro ⟨x, hx, e⟩
    have e' : eqV (oV x) (oV c) = true := e
    rw [oV_eq] at e'
    rw [← of_decide_eq_true e']
    exact hx
  · intro h
    exact ⟨c, h, by show eqV (oV c) (oV c) = true; rw [oV_eq]; simp⟩
theorem range_snoc (f : Nat → Bool) (i : Nat) : (List.range (i + 1)).map f = (List.range i).map f ++ [f i] := by
  rw [List.range_succ, List.map_append]
  rfl
theorem map_set_oV (cs : List (Option Int)) (k : Nat) (c : Option Int) : (cs.map oV).set k (oV c) = (cs.set k c).map oV := by rw [List.map_set]
end My
namespace L2
open PySem PySem.Spec PyProof.Rows
theorem pi_listK {X : Cx} {K : PySem.W.Frag} {tg l : Expr} {tl : TE} (hK : X.K = K) (hl : PE X l tl) : PI X tg l (iList K tl) := by subst hK; exact pi_list hl
end L2
namespace My
open PySem L2
theorem emod_nat (n : Int) {m : Nat} (h : 0 < m) : ∃ k : Nat, n % (m : Int) = k ∧ k < m := by
  have h1 := Int.emod_nonneg n (b := (m : Int)) (by omega)
  have h2 := Int.emod_lt_of_pos n (b := (m : Int)) (by omega)
  exact ⟨(n % (m : Int)).toNat, by omega, by omega⟩
end My
namespace My
open PySem L2
theorem era_oV : ∀ (cs : List (Option Int)) (k : Nat), (cs.map oV).eraseIdx k = (cs.eraseIdx k).map oV
  | [], _ => rfl
  | _ :: _, 0 => rfl
  | a :: cs, k + 1 => by
    show oV a :: (cs.map oV).eraseIdx k = oV a :: (cs.eraseIdx k).map oV
    rw [era_oV cs k]
theorem deal_off {ss : List Spt} {cols lim : List Int} {cs : List (Option Int)} (h : offB ss cs = false) : dealB ss cols lim cs = false := by unfold dealB; rw [h, Bool.false_and]
theorem deal_en {ss : List Spt} {cols lim : List Int} {cs : List (Option Int)} (h : enB cols cs = false) : dealB ss cols lim cs = false := by unfold dealB; rw [h, Bool.false_and, Bool.and_false]
theorem deal_bo {ss : List Spt} {cols lim : List Int} {cs : List (Option Int)} (h : boB ss lim cs = false) : dealB ss cols lim cs = false := by unfold dealB; rw [h, Bool.and_false, Bool.and_false]
theorem off_len {ss : List Spt} {cs : List (Option Int)} (h : ¬ cs.length = ss.length) : offB ss cs = false := by unfold offB; rw [decide_eq_false h, Bool.false_and]
theorem off_at {ss : List Spt} {cs : List (Option Int)} {i : Nat} (hi : i < ss.length) (h : offAt ss cs i = false) : offB ss cs = false := by unfold offB; rw [all_false hi h, Bool.and_false]
end My

set_option Elab.async false
set_option linter.all false
set_option maxRecDepth 100000
set_option maxHeartbeats 1000000
namespace PySem
section
variable {prog : Program} {w : World} {K : Type} [DecidableEq K] {A : Around} {E : Value → Shared → Prop} {s : Shared}
theorem filter_one {es : Array DictEntry} {hs : List Int} (he : es.toList.map (·.hash) = hs) (hn : hs.Nodup) : ∀ e ∈ es.toList, (es.filter (·.hash == e.hash)).size ≤ 1 := fun e hem => by
  rw [← Array.length_toList, Array.toList_filter]
  subst he
  generalize es.toList = l at hem hn
  clear hem
  induction l with
  | nil => exact Nat.zero_le _
  | cons x xs ih =>
    rw [List.map_cons, List.nodup_cons] at hn
    rw [List.filter_cons]
    by_cases z : (x.hash == e.hash) = true
    · rw [if_pos z, List.length_cons]
      have e0 : xs.filter (·.hash == e.hash) = [] := by
        rw [List.filter_eq_nil_iff]
        intro y hy w
        have h1 : x.hash = e.hash := by simpa using z
        have h2 : y.hash = e.hash := by simpa using w
        exact hn.1 (List.mem_map.mpr ⟨y, hy, by rw [h2, h1]⟩)
      rw [e0]
      exact Nat.le_refl _
    · rw [if_neg z]
      exact ih hn.2
variable {kx : KeyKind prog w K}
end
end PySem
namespace L2
open PySem PySem.Spec PyProof.Rows
section
variable {X : Cx}
end
end L2

set_option Elab.async false
set_option linter.all false
set_option maxRecDepth 100000
set_option maxHeartbeats 1000000
namespace PySem
open Sem (wp)
namespace F
theorem lk_list_keys : typeLookup (.type "list") "keys" = pure none := by rw [typeLookup_type, builtinLookup_eq_fast]; kernel_rfl
theorem lk_list_hook : typeLookup (.type "list") "__getattr__" = pure none := by rw [typeLookup_type, builtinLookup_eq_fast]; kernel_rfl
end F
section
variable {prog : Program} {w : World} {A : Around} {E : Value → Shared → Prop} {h : Heap} {g : Array GenState} {d : Drawn} {t : Nat} {os : OsState} {a : Addr} {o : Obj}
theorem keys_entry_list {tk : Tok} {Q : Fin → Shared → Prop} {E : Value → Shared → Prop} (hx : h.get? a = some o) (hc : o.cls = .type "list") {its : Array Value} {n : Nat} (hdt : o.data = .seq its n) (hdc : o.dict = none) (hh : A.handled = none) (hq : ∀ (e : Addr) (h' : Heap) (t' : Nat), (∀ b ob, h.get? b = some ob → h'.get? b = some ob) → (∃ oe, h'.get? e = some oe ∧ oe.cls = .type "AttributeError") → E (.ref e) ⟨h', g, d, t', os⟩) :
    wpAny (model prog w) A (Builtin.«object.__getattribute__» ⟨[.ref a, .str "keys" tk], []⟩) Q E ⟨h, g, d, t, os⟩ := by
  have hT : (⟨h, g, d, t, os⟩ : Shared).TypeIs (.ref a) "list" := ⟨_, hx, hc⟩
  have f4 := F.lk_list_keys
  repeat (any_goals (first | assumption | wp_step))
  rw [hdt]
  dsimp only
  unfold instanceDict
  repeat (any_goals (first | assumption | wp_step))
  rw [hc, hdc]
  dsimp only
  rw [if_pos (by rfl)]
  refine wpAny_pure ?_
  unfold Builtin.ObjectAttr.inDict
  dsimp only
  repeat (any_goals (first | assumption | wp_step))
  unfold raiseAttrError
  have hm : ¬ ((Str.ofString (toString "'" ++ toString ((Manifest.find? "list").elim "list" fun x => x.tpName) ++ toString "' object has no attribute '") ++ Str.ofString "keys" ++ Str.ofString "'").length > sizeLine) := by decide +kernel
  generalize (Str.ofString (toString "'" ++ toString ((Manifest.find? "list").elim "list" fun x => x.tpName) ++ toString "' object has no attribute '") ++ Str.ofString "keys" ++ Str.ofString "'") = msg at hm
  refine wpAny_bind ?_
  unfold mkStr
  rw [if_neg hm]
  have fsub : isSubtype (.type "AttributeError") (.type "AttributeError") = pure true := by rw [isSubtype_type]; kernel_rfl
  have fman : ((Manifest.find? "AttributeError").elim false fun t => t.mro.contains "StopIteration" || t.mro.contains "SystemExit") = false := by kernel_rfl
  have fown : ownMembersOf (.type "AttributeError") [Value.str msg t] = #[unsetMember, unsetMember] := by rfl
  repeat (any_goals (first | assumption | wp_step))
  rw [fman, fown]
  have kp : ∀ (f : Obj → Obj) b ob, h.get? b = some ob → (((h.push { cls := Value.type "tuple", data := Data.seq #[Value.str msg t] }).push { cls := Value.type "AttributeError", data := Data.fields (#[Value.ref h.objs.size, Value.none, Value.none, Value.none, Value.bool false, if false = true then [Value.str msg t].headD Value.none else Value.none] ++ #[unsetMember, unsetMember]) }).update (h.push { cls := Value.type "tuple", data := Data.seq #[Value.str msg t] }).objs.size f).get? b = some ob := fun f b ob hb => by
    have hlt := Heap.lt_size hb
    refine (Heap.get?_update_ne _ b _ f ?_).trans (Heap.get?_push_of_some _ (Heap.get?_push_of_some _ hb))
    have e1 : (h.push { cls := Value.type "tuple", data := Data.seq #[Value.str msg t] }).objs.size = h.objs.size + 1 := by simp [Heap.push]
    exact Nat.ne_of_lt (by rw [e1]; exact Nat.lt_succ_of_lt hlt)
  unfold raiseNew
  refine wpAny_bind (wpAny_handled ?_)
  rw [hh]
  dsimp only
  refine wpAny_bind (wpAny_pure (wpAny_throw (hq _ _ _ (kp _) ?_)))
  exact ⟨_, Heap.get?_update_self _ (Heap.get?_push_size _ rfl) (by rfl), rfl⟩
theorem keys_call_list {tk : Tok} {R : Result → Shared → Prop} (hx : h.get? a = some o) (hc : o.cls = .type "list") {its : Array Value} {n : Nat} (hdt : o.data = .seq its n) (hdc : o.dict = none) (hh : A.handled = none)
    (hq : ∀ (e : Addr) (h' : Heap) (t' : Nat), (∀ b ob, h.get? b = some ob → h'.get? b = some ob) → (∃ oe, h'.get? e = some oe ∧ oe.cls = .type "AttributeError") → R (.error (.ref e)) ⟨h', g, d, t', os⟩) :
    codeAny (model prog w) A (.call (.builtin "list.__getattribute__") ⟨[.ref a, .str "keys" tk], []⟩) R ⟨h, g, d, t, os⟩ :=
  codeAny_call_builtin F.slot_list_getattribute.plain F.entry_list_ga (F.slot_list_getattribute.check _ _ _ _ _ _ _ _ (show (⟨h, g, d, t, os⟩ : Shared).TypeIs (.ref a) "list" from ⟨_, hx, hc⟩) (F.args_list_getattribute_2 _ _) (keys_entry_list hx hc hdt hdc hh hq))
theorem keys_by_list {tk : Tok} {Q : Value → Shared → Prop} {E : Value → Shared → Prop} (hx : h.get? a = some o) (hc : o.cls = .type "list") {its : Array Value} {n : Nat} (hdt : o.data = .seq its n) (hdc : o.dict = none) (hh : A.handled = none)
    (hq : ∀ (e : Addr) (h' : Heap) (t' : Nat), (∀ b ob, h.get? b = some ob → h'.get? b = some ob) → (∃ oe, h'.get? e = some oe ∧ oe.cls = .type "AttributeError") → E (.ref e) ⟨h', g, d, t', os⟩) : wpAny (model prog w) A (getAttrBy (.ref a) (.str "keys" tk) false) Q E ⟨h, g, d, t, os⟩ := by
  have hT : (⟨h, g, d, t, os⟩ : Shared).TypeIs (.ref a) "list" := ⟨_, hx, hc⟩
  have f2 := F.slot_list_getattribute.lookup
  have f3 := F.slot_list_getattribute.bind (.ref a)
  repeat (any_goals (first | assumption | wp_step))
  refine keys_call_list hx hc hdt hdc hh fun e h' t' k1 k2 => ?_
  dsimp only
  obtain ⟨oe, he, hec⟩ := id k2
  have hTe : (⟨h', g, d, t', os⟩ : Shared).TypeIs (.ref e) "AttributeError" := ⟨_, he, hec⟩
  have fsub : isSubtype (.type "AttributeError") (.type "AttributeError") = pure true := by rw [isSubtype_type]; kernel_rfl
  have fhk := F.lk_list_hook
  unfold getattributeRaised
  repeat (any_goals (first | assumption | wp_step))
  exact hq e h' t' k1 k2
theorem keys_attr_list {Q : Option Value → Shared → Prop} (hx : h.get? a = some o) (hc : o.cls = .type "list") {its : Array Value} {n : Nat} (hdt : o.data = .seq its n) (hdc : o.dict = none) (hh : A.handled = none)
    (hq : ∀ (h' : Heap) (t' : Nat), (∀ b ob, h.get? b = some ob → h'.get? b = some ob) → Q none ⟨h', g, d, t', os⟩) : wpAny (model prog w) A (getAttr? (.ref a) "keys") Q E ⟨h, g, d, t, os⟩ := by
  have fsub : isSubtype (.type "AttributeError") (.type "AttributeError") = pure true := by rw [isSubtype_type]; kernel_rfl
  unfold getAttr? getAttrBy?
  refine wpAny_bind ?_
  unfold mkText
  repeat (any_goals (first | assumption | (with_reducible apply keys_by_list hx hc hdt hdc hh) | wp_step))
  intro e h' t' k1 k2
  obtain ⟨oe, he, hec⟩ := id k2
  have hTe : (⟨h', g, d, t', os⟩ : Shared).TypeIs (.ref e) "AttributeError" := ⟨_, he, hec⟩
  dsimp only
  repeat (any_goals (first | assumption | wp_step))
  exact hq h' t' k1
end
end PySem

set_option Elab.async false
set_option linter.all false
set_option maxRecDepth 100000
set_option maxHeartbeats 1000000
namespace PySem
open Sem (wp)
namespace F
theorem entry_dict_loop : entryFor table "dict.update.loop" = some Builtin.«dict.update.loop» := entryFor_of_tree (by kernel_rfl)
end F
section
variable {prog : Program} {w : World} {K : Type} [DecidableEq K] {kx : KeyKind prog w K} {A : Around}
/-- what lies in h0 stays, but for the two -/
def Keeps2 (a b : Addr) (h0 h : Heap) : Prop := ∀ c o, h0.get? c = some o → c ≠ a → c ≠ b → h.get? c = some o
end
end PySem
namespace L2
open PySem PySem.Spec PyProof.Rows
section
variable {X : Cx}
end
end L2

set_option Elab.async false
set_option linter.all false
set_option maxRecDepth 100000
set_option maxHeartbeats 1000000
namespace Tim
open PySem PyProof.Rows
section
variable {prog : Program} {w : World} {A : Around} {E : Value → Shared → Prop} {s : Shared}
/-- the things that are sorted, and how two of them are compared: by keys that are wholly ordered -/
structure Cmp (prog : Program) (w : World) (A : Around) (E : Value → Shared → Prop) (s : Shared) where
  O : KeyOrd
  key : Keyed → O.α
  S : Keyed → Prop
  F : SortSt → Prop
  ok : ∀ (st : SortSt) (p q : Keyed) (Q : Option Bool → SortSt → Prop), F st → S p → S q → Q (some (O.blt (key p) (key q))) st → wpS (model prog w) A E s (lt' p q) Q st
end
end Tim

set_option Elab.async false
set_option linter.all false
set_option maxRecDepth 100000
set_option maxHeartbeats 1000000
namespace Tim
open PySem PyProof.Rows
section
variable {prog : Program} {w : World} {A : Around} {E : Value → Shared → Prop} {s : Shared}
def le (C : Cmp prog w A E s) (p q : Keyed) : Prop := C.O.kle (C.key p) (C.key q)
theorem le_trans {C : Cmp prog w A E s} {p q r : Keyed} (h : le C p q) (h' : le C q r) : le C p r := KeyOrd.kle_trans h h'
/-- two sorted rows a, b are being put together: o is what came out -/
structure MI (C : Cmp prog w A E s) (a b o : List Keyed) (ia ib : Nat) : Prop where
  la : ia ≤ a.length
  lb : ib ≤ b.length
  pm : o.Perm (a.take ia ++ b.take ib)
  so : o.Pairwise (le C)
  xa : ∀ x ∈ o, ∀ y ∈ a.drop ia, le C x y
  xb : ∀ x ∈ o, ∀ y ∈ b.drop ib, le C x y
section
variable {C : Cmp prog w A E s} {a b o : List Keyed} {ia ib : Nat}
theorem MI.size (h : MI C a b o ia ib) : o.length = ia + ib := by
  have := h.pm.length_eq
  rw [List.length_append, List.length_take, List.length_take] at this
  have := h.la
  have := h.lb
  lia
end
section
variable {C : Cmp prog w A E s} {a b : Array Keyed} {a0 b0 aL bL : Keyed}
end
end
end Tim

set_option Elab.async false
set_option linter.all false
set_option maxRecDepth 100000
set_option maxHeartbeats 1000000
namespace Tim
open PySem PyProof.Rows
section
variable {prog : Program} {w : World} {A : Around} {E : Value → Shared → Prop} {s : Shared}
section
variable {C : Cmp prog w A E s} {a b r : List Keyed} {na nb : Nat}
end
end
end Tim

set_option Elab.async false
set_option linter.all false
set_option maxRecDepth 100000
set_option maxHeartbeats 1000000
namespace Tim
open PySem PyProof.Rows
section
variable {prog : Program} {w : World} {A : Around} {E : Value → Shared → Prop} {s : Shared}
end
end Tim

set_option Elab.async false
set_option linter.all false
set_option maxRecDepth 100000
set_option maxHeartbeats 1000000
namespace Tim
open PySem PyProof.Rows
section
variable {prog : Program} {w : World} {A : Around} {E : Value → Shared → Prop} {s : Shared}
end
end Tim

set_option Elab.async false
set_option linter.all false
set_option maxRecDepth 100000
set_option maxHeartbeats 1000000
namespace Tim
open PySem PyProof.Rows
section
variable {prog : Program} {w : World} {A : Around} {E : Value → Shared → Prop} {s : Shared}
section
variable {C : Cmp prog w A E s} {Z : List Keyed}
end
end
end Tim

set_option Elab.async false
set_option linter.all false
set_option maxRecDepth 100000
set_option maxHeartbeats 1000000
namespace Tim
open PySem PyProof.Rows
section
variable {prog : Program} {w : World} {A : Around} {E : Value → Shared → Prop} {s : Shared}
end
end Tim

set_option Elab.async false
set_option linter.all false
set_option maxRecDepth 100000
set_option maxHeartbeats 1000000
namespace Tim
open PySem PyProof.Rows
section
variable {prog : Program} {w : World} {A : Around} {E : Value → Shared → Prop} {s : Shared}
variable {C : Cmp prog w A E s}
end
end Tim

set_option Elab.async false
set_option linter.all false
set_option maxRecDepth 100000
set_option maxHeartbeats 1000000
namespace Tim
open PySem PyProof.Rows
section
variable {prog : Program} {w : World} {A : Around} {E : Value → Shared → Prop} {s : Shared} {C : Cmp prog w A E s}
end
end Tim

set_option Elab.async false
set_option linter.all false
set_option maxRecDepth 100000
set_option maxHeartbeats 1000000
namespace Tim
open PySem PyProof.Rows
section
variable {prog : Program} {w : World} {A : Around} {E : Value → Shared → Prop} {s : Shared}
theorem lt_int {st : SortSt} {x y : Keyed} {a b : Int} {t u : Tok} {Q : Option Bool → SortSt → Prop} (hk : kindOf st = oneType') (ex : x.1 = .int a t) (ey : y.1 = .int b u) (h : Q (some (decide (a < b))) st) : wpS (model prog w) A E s (lt' x y) Q st := by
  rw [lt'_eq]
  refine wpS_bind (wpS_get ?_)
  rw [hk, keyLt'_oneType, ex, ey]
  exact wpS_bind (wpS_lift (wpAny_attempt (oneLt_int ⟨rfl, wpS_pure h⟩)))
end
end Tim

set_option Elab.async false
set_option linter.all false
set_option maxRecDepth 100000
set_option maxHeartbeats 1000000
namespace Tim
open PySem PyProof.Rows
section
variable {prog : Program} {w : World} {A : Around} {E : Value → Shared → Prop} {s : Shared}
end
end Tim

set_option Elab.async false
set_option linter.all false
set_option maxRecDepth 100000
set_option maxHeartbeats 1000000
namespace L2
open PySem PySem.Spec PyProof.Rows
theorem Paired.snoc {α β : Type} {F : α → β → Prop} {a : α} {b : β} (r : F a b) : ∀ {l₁ : List α} {l₂ : List β}, Paired F l₁ l₂ → Paired F (l₁ ++ [a]) (l₂ ++ [b])
  | _, _, .nil => .cons r .nil
  | _, _, .cons q t => .cons q (Paired.snoc r t)
section
variable {P : Program} {w : World} {H H' : Hp} {h h1 h2 : Heap} {a : Addr} {o : HO} {fs : List Addr}
end
section
variable {X : Cx} {pins : List (Addr × Obj)} {σ : St} {H : Hp} {sB s : Shared} {D kS : Addr} {e1 e : Nat} {J : Hp → Prop} {kf : V → Int × Int} {xs : List V} {its : List Value} {A : Around} {E : Value → Shared → Prop} {f : Value} {Hi : Hp} {kA : Array Value} {P : PySem.Fin → Shared → Prop}
end
section
variable {X : Cx} {pins : List (Addr × Obj)} {σ : St} {H : Hp} {s : Shared} {l : Addr} {J : Hp → Prop} {kf : V → Int × Int} {xs : List V} {f : Addr} {Q : VK}
end
end L2

set_option Elab.async false
set_option linter.all false
set_option maxRecDepth 100000
set_option maxHeartbeats 1000000
namespace L2
open PySem PySem.Spec PyProof.Rows
end L2

set_option Elab.async false
set_option linter.all false
set_option maxRecDepth 100000
set_option maxHeartbeats 1000000
namespace L2
open PySem PySem.Spec PyProof.Rows
theorem key_rel {P : Program} {w : World} {k : Key} {v : Value} (h : (mixKind P w).is k v = true) : RelV (kV k) v := by
  rcases keyIs_shape h with ⟨i, t, rfl, rfl⟩ | ⟨x, t, rfl, rfl⟩
  · exact ⟨t, rfl⟩
  · exact ⟨t, rfl⟩
section
variable {X : Cx}
def rListD : List V → Hp → VK → Prop := fun xs H Q => ∃ a kvs, xs = [.ref a] ∧ Rd H a (.dK kvs) ∧ ∀ l, H l = none → Q (.ref l) (upd H l (.lst (kvs.map fun kv => kV kv.1)))
def rUpdD : V → List V → Hp → VK → Prop := fun x vs H Q => ∃ a b kvs more, x = .ref a ∧ vs = [.ref b] ∧ a ≠ b ∧ H a = some (.dK kvs) ∧ H b = some (.dK more) ∧ kvs.length + more.length ≤ 1000 ∧ Q .non (upd H a (.dK (mergeK kvs more)))
/-- dict(d) -/
def rCopyD : List V → Hp → VK → Prop := fun xs H Q => ∃ a kvs, xs = [.ref a] ∧ Rd H a (.dK kvs) ∧ ∀ p, H p = none → Q (.ref p) (upd H p (.dK kvs))
/-- len(d) -/
def rLenD : List V → Hp → VK → Prop := fun xs H Q => ∃ a kvs, xs = [.ref a] ∧ Rd H a (.dK kvs) ∧ Q (.int kvs.length) H
end
section
variable {prog : Program} {w : World} {A : Around} {E : Value → Shared → Prop} {s : Shared}
end
section
variable {X : Cx} {pins : List (Addr × Obj)} {σ : St} {H : Hp} {s : Shared} {v : Value} {ns : List Int} {Q : VK}
end
section
variable {X : Cx}
end
end L2

set_option Elab.async false
set_option linter.all false
namespace Flw
def b2i (b : Bool) : Int := if b then 1 else 0
def cnt : Nat → (Nat → Bool) → Int
  | 0, _ => 0
  | n + 1, p => cnt n p + b2i (p n)
/-- a sum over numbers below k -/
def sm : Nat → (Nat → Int) → Int
  | 0, _ => 0
  | n + 1, f => sm n f + f n
structure Net where
  n : Nat
  m : Nat
  k : Nat
  seats : Nat → List Nat
  own : Nat → Nat
  cap : Nat → Int
  lim : Nat → Int
abbrev Wh := Nat → Option Nat
section
variable (N : Net) (W : Wh)
def atS (s x : Nat) : Bool := decide (W x = some s)
def atO (w x : Nat) : Bool := match W x with
  | some s => decide (N.own s = w)
  | none => false
def cS (s : Nat) : Int := cnt N.n (atS W s)
def cO (w : Nat) : Int := cnt N.n (atO N W w)
def full (s : Nat) : Prop := N.cap s ≤ cS N W s
def ofull (w : Nat) : Prop := N.lim w ≤ cO N W w
def room (s : Nat) : Prop := ¬ full N W s ∧ ¬ ofull N W (N.own s)
/-- who could make room at s -/
def Push (s x : Nat) : Prop := (full N W s ∧ W x = some s) ∨ (¬ full N W s ∧ ∃ t, W x = some t ∧ N.own t = N.own s)
end
def move (W : Wh) (x s : Nat) : Wh := fun y => if y = x then some s else W y
section
variable {N : Net} {W : Wh} {x s : Nat}
theorem b2i_le {b : Bool} : b2i b ≤ 1 := by cases b <;> decide
end
def moves (W : Wh) : List (Nat × Nat) → Wh
  | [] => W
  | (x, s) :: r => moves (move W x s) r
def Good (N : Net) (W : Wh) (start : Nat) : List (Nat × Nat) → Prop
  | [] => False
  | (x, s) :: r => s ∈ N.seats x ∧ x < N.n ∧ (match r with
    | [] => x = start
    | (y, u) :: r' => ¬ room N W u ∧ Push N W u x ∧ (∀ p ∈ r', ¬ Push N W p.2 x) ∧ (∀ p ∈ (y, u) :: r', x ≠ p.1)) ∧ (r = [] ∨ Good N W start r)
section
variable {N : Net} {start : Nat}
end
abbrev Par := Nat → Option (Option (Nat × Nat))
section
variable {N : Net} {W : Wh} {shut seen seen' : Nat → Prop} {start now : Nat} {par par' : Par} {tm : Nat → Nat}
end
section
variable {N : Net} {W : Wh} {Sh shut seen Sh' shut' : Nat → Prop} {i now : Nat} {par : Par} {tm : Nat → Nat}
def asked (N : Net) (S : Nat → Bool) (s : Nat) : Int := cnt N.n fun x => S x && decide (s ∈ N.seats x)
def bear (N : Net) (S : Nat → Bool) (w : Nat) : Int := sm N.m fun s => if N.own s = w then min (N.cap s) (asked N S s) else 0
def borne (N : Net) (S : Nat → Bool) : Int := sm N.k fun w => min (bear N S w) (N.lim w)
end
end Flw

set_option Elab.async false
set_option linter.all false
set_option maxRecDepth 100000
set_option maxHeartbeats 4000000
namespace My
open PySem L2
def plN (n : Nat) (k : Nat) : List Nat := (List.range k).filter fun i => n.testBit i
/-- the places of a set below 2 ^ 40 -/
def pl (n : Int) : List Int := (plN n.toNat 40).map fun i : Nat => (i : Int)
end My

set_option Elab.async false
set_option linter.all false
set_option maxRecDepth 100000
set_option maxHeartbeats 1000000
namespace My
open PySem L2
def ri (D : Nat) (f : Nat → Int) : List Int := (List.range D).map f
def tg (n D : Nat) (g : Nat → Nat → Int) : List (List Int) := (List.range n).map fun j => ri D (g j)
def put (g : Nat → Nat → Int) (j d : Nat) (v : Int) : Nat → Nat → Int := fun x y => if x = j ∧ y = d then v else g x y
section
variable {H H' : Hp} {r t : Addr} {us : List V} {n D : Nat} {g f : Nat → Nat → Int} {j d : Nat}
end
section
variable {g f : Nat → Nat → Int}
end
def cellOf (H : Hp) (v : V) : Int × Int := match v with
  | .ref t => (match H t with
    | some (.tup [.int a, .int b]) => (a, b)
    | _ => (0, 0))
  | _ => (0, 0)
section
variable {K : PySem.W.Frag} {H H' : Hp} {a : Addr} {ns : List Int} {p p2 pa pb ph : Addr} {us us2 usa usb : List V} {n D : Nat} {g f : Nat → Nat → Int}
end
end My

set_option Elab.async false
set_option linter.all false
set_option maxRecDepth 100000
set_option maxHeartbeats 1000000
namespace My
open PySem L2
def hf (a1 a2 a3 a4 a5 a6 a7 : Addr) : List (Str × V) := putF "owned" (.ref a7) (putF "borne" (.ref a6) (putF "sitting" (.ref a5) (putF "where" (.ref a4) (putF "caps" (.ref a3) (putF "slots" (.ref a2) (putF "seats" (.ref a1) []))))))
section
variable (a1 a2 a3 a4 a5 a6 a7 : Addr)
end
structure Geo where
  seats : List (List Int)
  qs : List (Int × Int)
  lim : List Int
  us : List V
  ts : List V
  os : List V
  ds : List Addr
  a1 : Addr
  a2 : Addr
  a3 : Addr
  a4 : Addr
  a5 : Addr
  a6 : Addr
  a7 : Addr
section
variable {C x : Addr} {H H' : Hp} {G : Geo} {W : Flw.Wh} {sit : Nat → List Nat}
end
/-- as many sit there as are counted -/
theorem cnt_list {p : Nat → Bool} : ∀ (n : Nat) (L : List Nat), L.Nodup → (∀ y, y ∈ L ↔ (y < n ∧ p y = true)) → (L.length : Int) = Flw.cnt n p
  | 0, L, _, h => by
    cases L with
    | nil => rfl
    | cons y r => exact absurd ((h y).mp List.mem_cons_self).1 (Nat.not_lt_zero _)
  | n + 1, L, nd, h => by
    show _ = Flw.cnt n p + Flw.b2i (p n)
    cases e : p n with
    | false =>
      have ih := cnt_list (p := p) n L nd fun y => by
        rw [h y]
        constructor
        · rintro ⟨h1, h2⟩
          refine ⟨?_, h2⟩
          by_cases z : y = n
          · rw [z, e] at h2; cases h2
          · lia
        · rintro ⟨h1, h2⟩
          exact ⟨by lia, h2⟩
      show _ = Flw.cnt n p + 0
      lia
    | true =>
      have hn : n ∈ L := (h n).mpr ⟨Nat.lt_succ_self n, e⟩
      have hl := List.length_erase_of_mem hn
      have hpos : 0 < L.length := List.length_pos_of_mem hn
      have ih := cnt_list (p := p) n (L.erase n) (nd.erase n) fun y => by
        rw [nd.mem_erase_iff, h y]
        constructor
        · rintro ⟨h1, h2, h3⟩
          exact ⟨by lia, h3⟩
        · rintro ⟨h1, h2⟩
          exact ⟨by lia, by lia, h2⟩
      show _ = Flw.cnt n p + 1
      lia
theorem cnt_le (n : Nat) (p : Nat → Bool) : Flw.cnt n p ≤ (n : Int) := by
  induction n with
  | zero => exact Int.le_refl 0
  | succ n ih =>
    have := Flw.b2i_le (b := p n)
    show Flw.cnt n p + Flw.b2i (p n) ≤ ((n + 1 : Nat) : Int)
    lia
theorem nodup_le {L : List Nat} {n : Nat} (nd : L.Nodup) (h : ∀ y ∈ L, y < n) : L.length ≤ n := by
  have h1 := cnt_list (p := fun y => decide (y ∈ L)) n L nd fun y => ⟨fun z => ⟨h y z, decide_eq_true z⟩, fun z => of_decide_eq_true z.2⟩
  have h2 := cnt_le n fun y => decide (y ∈ L)
  lia
section
variable {C x : Addr} {H H1 H2 : Hp} {G : Geo} {W : Flw.Wh} {sit : Nat → List Nat}
end
section
variable {C x d : Addr} {H H' : Hp} {G : Geo} {W : Flw.Wh} {sit : Nat → List Nat} {kvs : List (Key × V)}
end
section
variable {C x : Addr} {H : Hp} {G : Geo} {W : Flw.Wh} {sit : Nat → List Nat} {y : Nat}
end
end My

set_option Elab.async false
set_option linter.all false
set_option maxRecDepth 100000
set_option maxHeartbeats 1000000
namespace My
open PySem L2
theorem while_of {c : TT} {tb : TS} {D : Ends} {σ : St} {H : Hp} (h : ∀ B : TS, B = tb → tWhile c B D σ H) : tWhile c tb D σ H := h tb rfl
end My

set_option Elab.async false
set_option linter.all false
set_option maxRecDepth 100000
set_option maxHeartbeats 1000000
namespace L2
open PySem PySem.Spec PyProof.Rows
section
variable {X : Cx} {pins : List (Addr × Obj)} {σ : St} {H : Hp} {s : Shared} {d : Addr} {kvs : List (Key × V)}
theorem Inv.freezeK {ob : Obj} (I : Inv X pins σ H s) (e : H d = some (.dK kvs)) (g : s.heap.get? d = some ob) : Inv X pins σ (upd H d (.frz ob (.dK kvs))) s :=
  I.write (t' := s.toks) (x := d) (e := d) (by rw [e]; exact True.intro) (.inl rfl) (fun _ _ _ q => q) ⟨_, g⟩ ⟨g, I.hok d _ e⟩
theorem Inv.thawK {ob : Obj} (I : Inv X pins σ H s) (e : H d = some (.frz ob (.dK kvs))) (hb : ∀ o u, X.H₀ d ≠ some (.frz o u)) : Inv X pins σ (upd H d (.dK kvs)) s := by
  have up : ∀ b u, H b = some u → b ≠ d → upd H d (.dK kvs) b = some u := fun b u q z => by rw [upd_ne z]; exact q
  have no : ∀ b, H b = none → upd H d (.dK kvs) b = none := fun b q => by rw [upd_ne fun z => by rw [z, e] at q; cases q]; exact q
  refine ⟨I.ok, I.os, I.bare, ⟨I.base.keep, I.base.slot, fun b o e1 n hx => no b (I.base.free b o e1 n hx), I.base.there, fun b xs q => ?_, fun b o u q => ?_, fun b ps q => ?_⟩, I.loc, I.cell, no _ I.free, fun x c q => no _ (I.freeC x c q), fun p hp => ?_, fun b u q => ?_, I.len⟩
  · have z := I.base.tups b xs q
    exact up b _ z fun y => by rw [y, e] at z; cases z
  · exact up b _ (I.base.frzs b o u q) fun y => hb o u (by rw [← y]; exact q)
  · obtain ⟨m, z⟩ := I.base.tbls b ps q
    exact ⟨m, up b _ z fun y => by rw [y, e] at z; cases z⟩
  · obtain ⟨p1, p2, p3⟩ := I.pin p hp
    exact ⟨p1, no _ p2, p3⟩
  · by_cases z : b = d
    · subst z
      rw [upd_same] at q
      cases q
      exact (show ObjOk X.prog X.w H s.heap b (.frz ob (.dK kvs)) from I.hok b _ e).2
    · rw [upd_ne z] at q
      exact (I.hok b u q).stay (fun c v _ y => y) (fun c y => up _ _ y fun w => by rw [w, e] at y; cases y) fun c xs y => up _ _ y fun w => by rw [w, e] at y; cases y
end
def tThawK (H0 : Hp) (t : TS) : TS := fun D σ H => ∃ d ob kvs, H d = some (.frz ob (.dK kvs)) ∧ (∀ o u, H0 d ≠ some (.frz o u)) ∧ t D σ (upd H d (.dK kvs))
theorem pss_thawK {X : Cx} {sts : List Stmt} {t : TS} (h : PSs X sts t) : PSs X sts (tThawK X.H₀ t) := by
  intro pins s σ H D I hq
  obtain ⟨d, ob, kvs, e, hb, q⟩ := hq
  exact h pins s σ _ D (I.thawK e hb) q
end L2
namespace My
open PySem L2
theorem mem_add {x y : Nat} {xs : List Nat} : (y ∈ if x ∈ xs then xs else xs ++ [x]) ↔ (y ∈ xs ∨ y = x) := by
  by_cases h : x ∈ xs
  · rw [if_pos h]
    exact ⟨.inl, fun z => z.elim id fun e => e ▸ h⟩
  · rw [if_neg h, List.mem_append, List.mem_singleton]
theorem nodup_add {x : Nat} {xs : List Nat} (nd : xs.Nodup) : (if x ∈ xs then xs else xs ++ [x]).Nodup := by
  by_cases h : x ∈ xs
  · rw [if_pos h]; exact nd
  · rw [if_neg h, List.nodup_append]
    refine ⟨nd, by simp, fun a ha b hb e => ?_⟩
    rw [List.mem_singleton.mp hb] at e
    exact h (e ▸ ha)
end My

set_option Elab.async false
set_option linter.all false
set_option maxRecDepth 100000
set_option maxHeartbeats 1000000
namespace PySem
open Sem (wp)
/-- an item of a list of pairs: a tuple of a key (a number, a text) and a value -/
def PairK {prog : Program} {w : World} {K : Type} [DecidableEq K] (kx : KeyKind prog w K) (h : Heap) (x : Value) (p : K × Value) : Prop := ∃ t o n key, x = .ref t ∧ h.get? t = some o ∧ o.cls = .type "tuple" ∧ o.data = .seq #[key, p.2] n ∧ kx.is p.1 key = true
section
variable {prog : Program} {w : World} {K : Type} [DecidableEq K] {kx : KeyKind prog w K} {A : Around}
theorem dictK_ext {h h' : Heap} {d it : Addr} {xs : List (K × Value)} (hD : h.DictOf kx d xs) (hx : Heap.ExtBut it h h') (hne : it ≠ d) : h'.DictOf kx d xs := by
  obtain ⟨o, es, ep, h1, h2⟩ := hD
  exact ⟨o, es, ep, hx _ _ (Ne.symm hne) h1, h2⟩
theorem pairsK_loop {h0 : Heap} {d it l : Addr} {items : Array Value} {ps : List (K × Value)} {R : Result → Shared → Prop} (hu2 : ∀ args, (A.under (.builtin "dict.update.loop" args)).units < cLine) (hh : A.handled = none)
    (hit : ∀ b o, h0.get? b = some o → b ≠ it ∧ b ≠ d) (hl : h0.IsList l items) (hlen : ps.length = items.size) (hp : ∀ (j : Nat) x p, items[j]? = some x → ps[j]? = some p → PairK kx h0 x p)
    (hne : it ≠ d) :
    ∀ (m i : Nat) (xs : List (K × Value)) (s : Shared), m + i = items.size → s.heap.IsListIter it l i → Keeps2 it d h0 s.heap → s.heap.DictOf kx d xs → xs.length + m ≤ sizeLine →
      (∀ h' t', h'.DictOf kx d ((ps.drop i).foldl (fun acc p => stored acc p.1 p.2) xs) → Keeps2 it d h0 h' → R (.ok (.ret .none)) { s with heap := h', toks := t' }) →
      codeAny (model prog w) A (.builtin "dict.update.loop" ⟨[.ref d, .ref it, .int i 0, .none], []⟩) R s
  | 0, i, xs, s, hm, hI, hK, hD, hz, hR => by
    obtain ⟨ol, g1, g2, n, g3⟩ := id hl
    obtain ⟨n1, n2⟩ := hit l ol g1
    have hL : s.heap.IsList l items := ⟨ol, hK l ol g1 n1 n2, g2, n, g3⟩
    refine codeAny_builtin F.entry_dict_loop ?_
    unfold Builtin.«dict.update.loop»
    dsimp only
    refine wpAny_bind (wpAny_pyNext_list_end (by exact hh) hI hL (Array.getElem?_eq_none (by omega)) fun h' hx => ?_)
    dsimp only
    show wpAny _ _ (Builtin.Dict.addKeywords d [] >>= _) _ _ _
    have e0 : ps.drop i = [] := List.drop_eq_nil_of_le (by omega)
    rw [e0] at hR
    exact wpAny_bind (wpAny_pure (wpAny_pure (hR h' s.toks (dictK_ext hD hx hne) fun c o e c1 c2 => hx _ _ c1 (hK c o e c1 c2))))
  | m + 1, i, xs, s, hm, hI, hK, hD, hz, hR => by
    obtain ⟨ol, g1, g2, n, g3⟩ := id hl
    obtain ⟨n1, n2⟩ := hit l ol g1
    have hL : s.heap.IsList l items := ⟨ol, hK l ol g1 n1 n2, g2, n, g3⟩
    have hi : i < items.size := by omega
    have hi2 : i < ps.length := by omega
    have P := hp i _ _ (Array.getElem?_eq_getElem hi) (List.getElem?_eq_getElem hi2)
    obtain ⟨t, o, n', key, ex, k1, k2, k3, hkey⟩ := P
    obtain ⟨n3, n4⟩ := hit t o k1
    refine codeAny_builtin F.entry_dict_loop ?_
    unfold Builtin.«dict.update.loop»
    dsimp only
    refine wpAny_bind (wpAny_pyNext_list_item hI hL (Array.getElem?_eq_getElem hi) fun h' hI' hs => ?_)
    have hext : Heap.ExtBut it s.heap h' := fun b o nb e => by rw [hs.2 b nb]; exact e
    have hD' := dictK_ext hD hext hne
    have hK' : Keeps2 it d h0 h' := fun c o e c1 c2 => hext _ _ c1 (hK c o e c1 c2)
    dsimp only
    refine wpAny_bind (wpAny_holding ?_)
    refine wpAny_bind (wpAny_tryCatch ?_)
    rw [ex]
    have hT : ({ s with heap := h' } : Shared).TypeIs (.ref t) "tuple" := ⟨o, hK' t o k1 n3 n4, k2⟩
    unfold Builtin.Dict.pairItems
    refine wpAny_bind (wpAny_typeOf hT ?_)
    rw [if_pos (by rfl)]
    refine wpAny_bind (wpAny_seqItems (hK' t o k1 n3 n4) k3 (wpAny_pure ?_))
    show wpAny _ _ (holding [key, ps[i].2] (dictSet d key ps[i].2)) _ _ _
    refine wpAny_holding (wpAny_dictSet_pairs (knd := kx) hkey hD' (fun h'' hD'' hs'' => ?_) (by omega))
    refine wpAny_pure ⟨Code.quiet_builtin _ (by decide +kernel), ?_⟩
    have hstep : (ps.drop i).foldl (fun acc p => stored acc p.1 p.2) xs = (ps.drop (i + 1)).foldl (fun acc p => stored acc p.1 p.2) (stored xs ps[i].1 ps[i].2) := by
      rw [List.drop_eq_getElem_cons hi2, List.foldl_cons]
    rw [hstep] at hR
    have hsl : (stored xs ps[i].1 ps[i].2).length ≤ xs.length + 1 := by
      unfold stored
      split
      · rw [List.length_map]; omega
      · rw [List.length_append]; exact Nat.le_refl _
    refine pairsK_loop hu2 hh hit hl hlen hp hne m (i + 1) _ _ (by omega) ?_ ?_ hD'' (by omega) ?_
    · obtain ⟨oi, i1, i2, i3⟩ := hI'
      exact ⟨oi, (hs''.2 it hne).trans i1, i2, i3⟩
    · exact fun c o e c1 c2 => (hs''.2 c c2).trans (hK' c o e c1 c2)
    · exact fun h3 t3 => hR h3 t3
theorem kd_call_pairs {l : Addr} {items : Array Value} {ps : List (K × Value)} {E : Value → Shared → Prop} {s : Shared} {Q : Value → Shared → Prop} (hu1 : ∀ args, ((A.in1).under (.builtin "dict.update.loop" args)).units < cLine) (hh : A.handled = none)
    (hl : s.heap.IsList l items) (hdc : ∀ o, s.heap.get? l = some o → o.dict = none) (hlen : ps.length = items.size) (hp : ∀ (j : Nat) x p, items[j]? = some x → ps[j]? = some p → PairK kx s.heap x p) (hz : ps.length ≤ sizeLine)
    (h : ∀ h' t', h'.DictOf kx s.heap.objs.size (ps.foldl (fun acc p => stored acc p.1 p.2) []) → (∀ c o, s.heap.get? c = some o → h'.get? c = some o) → Q (.ref s.heap.objs.size) { s with heap := h', toks := t' }) :
    wpAny (model prog w) A (call (.type "dict") [.ref l]) Q E s := by
  refine callType_codes (Q₁ := fun obj s₁ => obj = .ref s.heap.objs.size ∧ s₁ = { s with heap := s.heap.push { cls := .type "dict", data := .dict #[] } }) F.kt_called_dict (F.kt_typeCall_dict_1 _) F.entry_dict_init (kt_code_dict_new _ ⟨rfl, rfl⟩) ?_
  rintro obj s₁ ⟨rfl, rfl⟩
  have hnew : (s.heap.push { cls := .type "dict", data := .dict #[] }).DictOf kx s.heap.objs.size [] := Heap.DictOf.new s.heap
  obtain ⟨ol, g1, g2, n, g3⟩ := id hl
  have hd0 := hdc ol g1
  have g1' : (s.heap.push { cls := .type "dict", data := .dict #[] }).get? l = some ol := Heap.get?_push_of_some _ g1
  have hT : ({ s with heap := s.heap.push { cls := .type "dict", data := .dict #[] } } : Shared).TypeIs (.ref l) "list" := ⟨ol, g1', g2⟩
  refine ⟨hnew.typeIs, F.args_dict_init_2 _ _, ?_⟩
  unfold Builtin.«dict.__init__»
  refine wpAny_bind ?_
  unfold Builtin.Dict.selfAndRest
  refine wpAny_bind (wpAny_notOrdered_dict hnew.typeIs ?_)
  show wpAny _ _ (pure (s.heap.objs.size, [Value.ref l])) _ _ _
  refine wpAny_pure ?_
  show wpAny _ _ (Builtin.Dict.updateFrom "dict.__init__" s.heap.objs.size (.ref l) [] .none) _ _ _
  unfold Builtin.Dict.updateFrom
  refine wpAny_bind (wpAny_typeOf hT ?_)
  rw [if_pos (by rfl)]
  refine wpAny_bind (keys_attr_list g1' g2 g3 hd0 (by exact hh) fun h2 t2 hk2 => ?_)
  rw [if_pos (by rfl)]
  refine wpAny_bind (wpAny_rule ?_)
  have hl2 : h2.IsList l items := ⟨ol, hk2 _ _ g1', g2, n, g3⟩
  refine wpAny_bind (wpAny_pyIter_list hl2 ?_)
  refine wpAny_pure ⟨Code.quiet_builtin _ (by decide +kernel), ?_⟩
  have up : ∀ b o, s.heap.get? b = some o → h2.get? b = some o := fun b o e => hk2 _ _ (Heap.get?_push_of_some _ e)
  have hd2 : h2.get? s.heap.objs.size = some { cls := .type "dict", data := .dict #[] } := hk2 _ _ (Heap.get?_push_size _ rfl)
  have hdl := Heap.lt_size hd2
  refine pairsK_loop (kx := kx) (h0 := s.heap) (l := l) (items := items) (ps := ps) hu1 (by exact hh) (fun b o e => ?_) hl hlen hp (Nat.ne_of_gt hdl) items.size 0 [] _ (by omega) ⟨_, Heap.get?_push_size _ rfl, rfl, rfl⟩ (fun c o e _ _ => Heap.get?_push_of_some _ (up c o e)) ?_ (by rw [← hlen]; simpa using hz) fun h3 t3 hD3 hK3 => ?_
  · exact ⟨Nat.ne_of_lt (Heap.lt_size (up b o e)), Nat.ne_of_lt (Heap.lt_size e)⟩
  · obtain ⟨on, en, epn, n1, n2⟩ := hnew
    rw [Heap.get?_push_size _ rfl] at n1
    cases n1
    exact ⟨_, en, epn, Heap.get?_push_of_some _ hd2, n2⟩
  · refine ⟨rfl, h h3 t3 hD3 fun c o e => hK3 c o e ?_ ?_⟩
    · exact Nat.ne_of_lt (Heap.lt_size (up c o e))
    · exact Nat.ne_of_lt (Heap.lt_size e)
end
end PySem
namespace L2
open PySem PySem.Spec PyProof.Rows
/-- an item of a list of pairs, by numbers and texts -/
def PrK (H : Hp) (v : V) (kv : Key × V) : Prop := ∃ t, v = .ref t ∧ H t = some (.tup [kV kv.1, kv.2])
abbrev PrsK (H : Hp) : List V → List (Key × V) → Prop := Paired (PrK H)
theorem pairsK_of {P : Program} {w : World} {H : Hp} {h : Heap} (ok : HOk P w H h) : ∀ {vs : List V} {kvs : List (Key × V)} {its : List Value}, PrsK H vs kvs → Vals vs its → ∃ ps, KV kvs ps ∧ Paired (PairK (mixKind P w) h) its ps
  | _, _, _, .nil, .nil => ⟨[], .nil, .nil⟩
  | _, _, _, .cons (b := kv) h1 r1, .cons (b := u) h2 r2 => by
    obtain ⟨ps, a1, a2⟩ := pairsK_of ok r1 r2
    obtain ⟨t, rfl, et⟩ := h1
    cases (show u = Value.ref t from h2)
    obtain ⟨_, its2, rl, o, i1, i2, n, i3⟩ := (show ObjOk P w H h t (.tup [kV kv.1, kv.2]) from ok t _ et)
    obtain ⟨x1, x2, rfl⟩ : ∃ x1 x2, its2 = [x1, x2] := by
      have := rl.length
      match its2, this with
      | [x1, x2], _ => exact ⟨x1, x2, rfl⟩
    cases rl with
    | cons r3 r4 =>
      cases r4 with
      | cons r5 _ =>
        refine ⟨(kv.1, x2) :: ps, .cons ⟨rfl, r5⟩ a1, .cons ⟨t, o, n, x1, rfl, i1, i2, i3, kV_is r3⟩ a2⟩
theorem fold_KV : ∀ {kvs : List (Key × V)} {ps : List (Key × Value)} {acc : List (Key × V)} {xs : List (Key × Value)}, KV kvs ps → KV acc xs → KV (kvs.foldl (fun acc kv => putK acc kv.1 kv.2) acc) (ps.foldl (fun acc p => stored acc p.1 p.2) xs)
  | _, _, _, _, .nil, h => h
  | _, _, acc, xs, .cons (a := kv) (b := p) h1 r1, h => by
    rw [List.foldl_cons, List.foldl_cons, ← h1.1]
    exact fold_KV r1 (KV.put h kv.1 h1.2)
section
variable {X : Cx}
/-- dict(list of pairs), by numbers and texts -/
def rDictK : List V → Hp → VK → Prop := fun xs H Q => ∃ a us kvs, xs = [.ref a] ∧ H a = some (.lst us) ∧ PrsK H us kvs ∧ kvs.length ≤ 1000 ∧ ∀ p, H p = none → Q (.ref p) (upd H p (.dK (kvs.foldl (fun acc kv => putK acc kv.1 kv.2) [])))
theorem call_dictK {k : Nat} (hc : X.calm = true) (hr : Room k X.A) : CallR X (.type "dict") rDictK := by
  intro pins s σ H xs us Q I r h
  obtain ⟨a, vs, kvs, rfl, e, hP, hl, q⟩ := h
  obtain ⟨u, rfl, rx⟩ := Vals.one r
  cases rx
  obtain ⟨z, its, n, rel, g1⟩ := (show ObjOk X.prog X.w H s.heap a (.lst vs) from I.hok a _ e)
  obtain ⟨ps, kt, pa⟩ := pairsK_of I.hok hP rel
  have l1 : its.length = ps.length := Paired.length pa
  have l2 : kvs.length = ps.length := Paired.length kt
  refine kd_call_pairs (kx := mixKind X.prog X.w) (l := a) (items := its.toArray) (ps := ps) (fun args => ?_) (I.ok.hd hc) ⟨_, g1, rfl, n, rfl⟩ (fun o ho => ?_) (by simp [l1]) (fun j x p hx hp' => ?_) (Nat.le_trans (by omega) (show 1000 ≤ sizeLine by decide)) fun h' t' hD hK => ?_
  · have := hr.un
    show X.A.units + 2 < cLine
    omega
  · rw [g1] at ho
    cases ho
    rfl
  · have hx' : its[j]? = some x := by simpa using hx
    obtain ⟨p2, e2, q2⟩ := Paired.get' pa hx'
    rw [hp'] at e2
    cases e2
    exact q2
  · have kt2 := fold_KV kt (acc := []) (xs := []) .nil
    refine ⟨.ref s.heap.objs.size, _, I.laid (a := s.heap.objs.size) (o := .dK (kvs.foldl (fun acc kv => putK acc kv.1 kv.2) [])) (t' := t') (fun b q hq => hK b q hq) (Nat.le_refl _) (dk_new ?_ (beq_eq_false_iff_ne.mpr (Ne.symm (Nat.ne_of_lt I.big))) kt2 hD), rfl, q _ (I.hok.fresh (Nat.le_refl _))⟩
    have fl : ∀ (l acc : List (Key × V)), (l.foldl (fun acc kv => putK acc kv.1 kv.2) acc).length ≤ acc.length + l.length := fun l => by
      induction l with
      | nil => intro acc; exact Nat.le_refl _
      | cons x xs ih =>
        intro acc
        have := ih (putK acc x.1 x.2)
        have := length_putK acc x.1 x.2
        rw [List.foldl_cons, List.length_cons]
        omega
    have := fl kvs []
    exact Nat.le_trans this (Nat.le_trans (by simpa using hl) (show 1000 ≤ sizeLine by decide))
end
end L2

set_option Elab.async false
set_option linter.all false
set_option maxRecDepth 100000
namespace L2
open PySem PySem.MeetsSeq PySem.SeqAt
def LtAt (A : Around) (s : Shared) (x y : Value) (b : Bool) : Prop := ∀ (prog : Program) (w : World) (E Q : Value → Shared → Prop), Q (.bool b) s → wpAny (model prog w) A (richCompare .Lt x y) Q E s
def lexB (e lt : Nat → Bool) : Nat → Nat → Bool
  | _, 0 => false
  | i, k + 1 => if e i then lexB e lt (i + 1) k else lt i
theorem tuple_ltAt (l b : Addr) (items items2 : Array Value) (n n2 : Nat) (dd dd2 : Option Addr) (sl sl2 : Array (Option Value)) (hsz : items2.size = items.size) (e lt : Nat → Bool) :
    Meets (Builtin.«tuple.__lt__» ⟨[.ref l, .ref b], []⟩)
      (fun A R s => s.heap.get? l = some { cls := .type "tuple", dict := dd, data := .seq items n, slots := sl } ∧ s.heap.get? b = some { cls := .type "tuple", dict := dd2, data := .seq items2 n2, slots := sl2 } ∧
        (∀ j (h1 : j < items.size) (h2 : j < items2.size), EqAt A.in1 s items[j] items2[j] (e j) ∧ (e j = false → LtAt A.in1 s items[j] items2[j] (lt j))) ∧
        R (.ok (.ret (.bool (lexB e lt 0 items.size)))) s) :=
  .of_wp fun prog w A R s h => by
    obtain ⟨hp, g, d, tk, os⟩ := s
    obtain ⟨hl, hb, he, h⟩ := h
    have f2 := AutoSeq1.sub_tuple_tuple
    have hZ : (items.toList.zip items2.toList).length = items.size := by simp [hsz]
    wp_walk using wpAny_loadPart' hl, wpAny_loadPart' hb, wpAny_forIn_list _ (fun rest b s' => b.1 = none ∧ s' = ⟨hp, g, d, tk, os⟩ ∧ ∃ i k, i + k = items.size ∧ rest = (items.toList.zip items2.toList).drop i ∧
      R (.ok (.ret (.bool (lexB e lt i k)))) ⟨hp, g, d, tk, os⟩) _
    case turn =>
      rintro ⟨y, x⟩ rest b s' ⟨hb', rfl, i, k, hik, hz, hR⟩
      have hlt : i < (items.toList.zip items2.toList).length := by
        rcases Nat.lt_or_ge i (items.toList.zip items2.toList).length with h' | h'
        · exact h'
        · rw [List.drop_of_length_le h'] at hz; cases hz
      have h1 : i < items.size := hZ ▸ hlt
      have h2 : i < items2.size := by omega
      rw [List.drop_eq_getElem_cons hlt] at hz
      injection hz with hyx hrest
      have hy : y = items[i] := by have := congrArg Prod.fst hyx; simpa using this
      have hx : x = items2[i] := by have := congrArg Prod.snd hyx; simpa using this
      subst hy hx
      obtain ⟨k, rfl⟩ : ∃ k', k = k' + 1 := ⟨k - 1, by omega⟩
      obtain ⟨he1, he2⟩ := he i h1 h2
      unfold lexB at hR
      refine wpAny_bind (he1 prog w _ _ ?_)
      cases hy : e i with
      | true =>
        rw [hy] at hR
        wp_walk
        exact ⟨rfl, rfl, i + 1, k, by omega, hrest, by simpa using hR⟩
      | false =>
        rw [hy] at hR
        simp only [Bool.not_false, if_true]
        refine wpAny_bind (wpAny_rule (wpAny_bind (he2 hy prog w _ _ ?_)))
        wp_walk
        exact ⟨_, rfl, by simpa using hR⟩
    case fin =>
      rintro ⟨b1, b2⟩ s' ⟨hb', rfl, i, k, hik, hz, hR⟩
      simp only at hb'
      subst hb'
      have hge : items.size ≤ i := by
        rcases Nat.lt_or_ge i (items.toList.zip items2.toList).length with h' | h'
        · rw [List.drop_eq_getElem_cons h'] at hz; cases hz
        · exact hZ ▸ h'
      obtain rfl : k = 0 := by omega
      wp_walk
      exact ⟨_, rfl, by simpa [Builtin.Tuple.tupleCompareSizes, lexB, hsz] using hR⟩
    case h =>
      exact ⟨rfl, rfl, 0, items.size, by omega, rfl, by simpa using h⟩
section
variable {A : Around} {s : Shared}
theorem LtAt.int (a b : Int) (t u : Tok) : LtAt A s (.int a t) (.int b u) (decide (a < b)) := fun prog w E Q h =>
  richCompare_gives (op := .Lt) (typeIs_int s _ t) (typeIs_int s _ u) F.slot_int_lt F.entry_int_lt (F.args_int_lt_2 _ _) (gives_int_lt _ _ t u) (fun x => nomatch x) h
theorem LtAt.bool (a b : Bool) : ∃ k, LtAt A s (.bool a) (.bool b) k := ⟨decide ((if a then 1 else 0 : Int) < if b then 1 else 0), fun prog w E Q h =>
  richCompare_gives (op := .Lt) (typeIs_bool s _) (typeIs_bool s _) F.slot_bool_lt F.entry_int_lt (F.args_int_lt_2 _ _) (.of_eq (m := .val (.bool (decide ((if a then 1 else 0 : Int) < if b then 1 else 0)))) (by cases a <;> cases b <;> rfl)) (fun x => nomatch x) h⟩
theorem LtAt.tuples {l b : Addr} {items items2 : Array Value} {e lt : Nat → Bool} (hl : s.heap.IsTuple l items) (hb : s.heap.IsTuple b items2) (hsz : items2.size = items.size) (hu : A.units < cLine)
    (he : ∀ j (h1 : j < items.size) (h2 : j < items2.size), EqAt A.in1 s items[j] items2[j] (e j) ∧ (e j = false → LtAt A.in1 s items[j] items2[j] (lt j))) : LtAt A s (.ref l) (.ref b) (lexB e lt 0 items.size) := fun prog w E Q h => by
  obtain ⟨⟨cls, dd, data, sl⟩, ho, hc, n, hd⟩ := id hl
  obtain ⟨⟨cls2, dd2, data2, sl2⟩, ho2, hc2, n2, hd2⟩ := id hb
  simp only at hc hd hc2 hd2
  subst hc hd hc2 hd2
  exact richCompare_meets_room (op := .Lt) ⟨_, ho, rfl⟩ ⟨_, ho2, rfl⟩ F.slot_tuple_lt F.entry_tuple_lt (F.args_tuple_lt_2 _ _) (tuple_ltAt l b items items2 n n2 dd dd2 sl sl2 hsz e lt)
    ⟨ho, ho2, he, show Value.bool (lexB e lt 0 items.size) ≠ Value.notImplemented ∧ Q (.bool (lexB e lt 0 items.size)) s from ⟨(fun x => nomatch x), h⟩⟩ hu
end
section
variable {prog : Program} {w : World} {A : Around} {R : Result → Shared → Prop} {I S : Addr} {fp wr : List Addr} {n : Nat} {P : Nat → Value → Prop} {St : Nat → Heap → Prop} {G : Heap → Prop} {key : Nat → Int}
/-- the loop's items are compared where the heap is good -/
def CmpG (prog : Program) (w : World) (A : Around) (G : Heap → Prop) (P : Nat → Value → Prop) (key : Nat → Int) : Prop :=
  ∀ (i j : Nat) (x y : Value) (s : Shared) (Q E : Value → Shared → Prop), G s.heap → P i x → P j y → (∀ b, (b = true → key i ≤ key j) → (b = false → key j ≤ key i) → Q (.bool b) s) → wpAny (model prog w) A (richCompare .Lt x y) Q E s
def Stays (wr : List Addr) (S : Addr) (h h' : Heap) : Prop := ∀ b o, b ∉ wr → b ≠ S → h.get? b = some o → h'.get? b = some o
theorem minLoopG (W : Walks prog w A.in1 I fp wr n P St) (hc : CmpG prog w A.in1 G P key) (hSf : S ∉ fp) (hG : ∀ h h', G h → Stays wr S h h' → G h') :
    ∀ (k j : Nat) (s : Shared) (x : Value) (c m : Nat), j + 1 + k = n → St (j + 1) s.heap → G s.heap → P m x → m < n → (∀ i, i ≤ j → key m ≤ key i) →
    s.heap.get? S = some ⟨.type "list", none, .seq #[x, x] c, #[]⟩ →
    (∀ v m h' tk, P m v → m < n → (∀ i, i < n → key m ≤ key i) → Stays wr S s.heap h' → R (.ok (.ret v)) { s with heap := h', toks := tk }) →
    codeAny (model prog w) A (.builtin "min.loop" ⟨[.ref I, .none, .ref S], []⟩) R s := by
  have nw : S ∉ wr := fun h => hSf (W.sub _ h)
  have nm : (toString "min" ++ toString ".loop" : String) = "min.loop" := by decide
  intro k
  induction k with
  | zero =>
    intro j s x c m hk hst g hP hm hmin hS hR
    refine codeAny_builtin F.entry_min_loop ?_
    rw [Around.under_plainId F.plain_min_loop _]
    show wpAny _ A.in1 (seqItems? (.ref S) >>= _) _ _ s
    refine wpAny_bind (wpAny_seqItems hS rfl ?_)
    show wpAny _ A.in1 (tryCatch (pyNext (.ref I)) _ >>= _) _ _ s
    have e : j + 1 = n := hk
    refine wpAny_bind (wpAny_tryCatch (W.done s _ _ (e ▸ hst) fun h' tk st => ?_))
    show wpAny _ A.in1 (updateSeq S (fun _ => #[]) >>= _) _ _ _
    refine wpAny_bind (wpAny_updateSeq (st S _ nw hS) rfl (wpAny_bind (wpAny_letGo (wpAny_pure ?_))))
    exact hR x m _ tk hP hm (fun i hi => hmin i (by omega)) fun b o h1 h2 h3 => (Heap.get?_update_other _ _ (Ne.symm h2)).trans (st b o h1 h3)
  | succ k ih =>
    intro j s x c m hk hst g hP hm hmin hS hR
    refine codeAny_builtin F.entry_min_loop ?_
    rw [Around.under_plainId F.plain_min_loop _]
    show wpAny _ A.in1 (seqItems? (.ref S) >>= _) _ _ s
    refine wpAny_bind (wpAny_seqItems hS rfl ?_)
    show wpAny _ A.in1 (tryCatch (pyNext (.ref I)) _ >>= _) _ _ s
    refine wpAny_bind (wpAny_tryCatch (W.item (j + 1) s _ _ (by omega) hst fun y h' tk hPy st' st => ?_))
    have hS' := st S _ nw hS
    have g' : G h' := hG _ _ g fun b o h1 _ h3 => st b o h1 h3
    show wpAny _ A.in1 (tryCatch (holding [y, y] (richCompare .Lt y x >>= _)) _ >>= _) _ _ _
    refine wpAny_bind (wpAny_tryCatch (wpAny_holding (wpAny_bind (hc (j + 1) m y x _ _ _ g' hPy hP fun b b1 b0 => ?_))))
    refine wpAny_bind (wpAny_holding (wpAny_truthy_bool (wpAny_bind (wpAny_letGo (wpAny_pure ?_)))))
    cases b with
    | true =>
      have le := b1 rfl
      simp only [if_true]
      refine wpAny_bind (wpAny_updateSeq hS' rfl (wpAny_bind (wpAny_letGo ?_)))
      have st2 : ∀ f, Stays wr S h' (h'.update S f) := fun f b o _ h2 h3 => (Heap.get?_update_other _ _ (Ne.symm h2)).trans h3
      rw [nm]
      refine wpAny_pure ⟨plainId_quiet F.plain_min_loop _, ih (j + 1) _ y _ (j + 1) (by omega) (W.frame _ _ _ st' fun b hb o h3 => ?_) (hG _ _ g' (st2 _)) hPy (by omega) (fun i hi => ?_) (Heap.get?_update_self _ hS' rfl) fun v m' h2 tk2 q1 q2 q3 q4 => ?_⟩
      · exact (Heap.get?_update_other _ _ (fun h : S = b => hSf (h ▸ hb))).trans h3
      · rcases Nat.lt_or_ge i (j + 1) with z | z
        · exact Int.le_trans le (hmin i (by omega))
        · rw [show i = j + 1 by omega]
          exact Int.le_refl _
      · exact hR v m' h2 tk2 q1 q2 q3 fun b o h1 h2 h3 => q4 b o h1 h2 (st2 _ b o h1 h2 (st b o h1 h3))
    | false =>
      have le := b0 rfl
      simp only [Bool.false_eq_true, if_false]
      refine wpAny_bind (wpAny_letGo ?_)
      rw [nm]
      refine wpAny_pure ⟨plainId_quiet F.plain_min_loop _, ih (j + 1) _ x c m (by omega) st' g' hP hm (fun i hi => ?_) hS' fun v m' h2 tk2 q1 q2 q3 q4 => ?_⟩
      · rcases Nat.lt_or_ge i (j + 1) with z | z
        · exact hmin i (by omega)
        · rw [show i = j + 1 by omega]
          exact le
      · exact hR v m' h2 tk2 q1 q2 q3 fun b o h1 h2 h3 => q4 b o h1 h2 (st b o h1 h3)
theorem minG {x : Value} {s : Shared} {E Q : Value → Shared → Prop}
    (h : wpAny (model prog w) A.in1 (pyIter x) (fun it s2 => ∃ (I : Addr) (fp wr : List Addr) (n : Nat) (P : Nat → Value → Prop) (St : Nat → Heap → Prop) (G : Heap → Prop) (key : Nat → Int), it = .ref I ∧ Walks prog w A.in1 I fp wr n P St ∧ St 0 s2.heap ∧ (∀ b ∈ fp, b < s2.heap.objs.size) ∧ 0 < n ∧ CmpG prog w A.in1 G P key ∧
      (∀ h' : Heap, (∀ b o, b ∉ wr → s2.heap.get? b = some o → h'.get? b = some o) → G h') ∧
      ∀ v m h' tk, P m v → m < n → (∀ i, i < n → key m ≤ key i) → (∀ b o, b ∉ wr → s2.heap.get? b = some o → h'.get? b = some o) → Q v { s2 with heap := h', toks := tk }) E s) :
    wpAny (model prog w) A (call (.builtin "min") [x]) Q E s := by
  have nm : (toString "min" ++ toString ".loop" : String) = "min.loop" := by decide
  refine call_function_tree F.kind_min F.plain_min F.entry_min (F.args_min1 _) ?_
  show wpAny _ A.in1 (Builtin.Builtins.bindParams "min" ["key", "default"] 0 ⟨[], []⟩ >>= _) _ _ s
  refine wpAny_bind (wpAny_of_eq (show Builtin.Builtins.bindParams "min" ["key", "default"] 0 ⟨[], []⟩ = pure [none, none] from rfl) (wpAny_bind (wpAny_pure (wpAny_bind (wpAny_mono h (fun it s2 q => ?_) fun _ _ e => e)))))
  obtain ⟨I, fp, wr, n, P, St, G, key, rfl, W, hst, hfp, hn, hc, hG, hQ⟩ := q
  refine wpAny_bind (wpAny_newObj_type ?_)
  rw [nm]
  obtain ⟨S, eS⟩ : ∃ S, S = s2.heap.objs.size := ⟨_, rfl⟩
  have hSf : S ∉ fp := fun hm => Nat.lt_irrefl _ (eS ▸ hfp _ hm)
  have nw : S ∉ wr := fun z => hSf (W.sub _ z)
  rw [← eS]
  refine wpAny_pure ⟨plainId_quiet F.plain_min_loop _, ?_⟩
  refine codeAny_builtin F.entry_min_loop ?_
  rw [Around.under_plainId F.plain_min_loop _]
  show wpAny _ A.in1 (seqItems? (.ref S) >>= _) _ _ _
  refine wpAny_bind (wpAny_seqItems (by rw [eS]; exact Heap.get?_push_size _ rfl) rfl ?_)
  show wpAny _ A.in1 (tryCatch (pyNext (.ref I)) _ >>= _) _ _ _
  have far : ∀ {b o}, s2.heap.get? b = some o → b ≠ S := fun e => by rw [eS]; exact Nat.ne_of_lt (Heap.lt_size e)
  refine wpAny_bind (wpAny_tryCatch (W.item 0 _ _ _ hn (W.frame _ _ _ hst fun b _ o e => Heap.get?_push_of_some _ e) fun y h' tk hP st' st => ?_))
  have hS' := st S _ nw (by rw [eS]; exact Heap.get?_push_size _ rfl)
  show wpAny _ A.in1 (updateSeq S (fun _ => #[y, y]) >>= _) _ _ _
  refine wpAny_bind (wpAny_updateSeq hS' rfl ?_)
  have st2 : ∀ f, Stays wr S s2.heap (h'.update S f) := fun f b o h1 h2 h3 => (Heap.get?_update_other _ _ (Ne.symm h2)).trans (st b o h1 (Heap.get?_push_of_some _ h3))
  rw [nm]
  refine wpAny_pure ⟨plainId_quiet F.plain_min_loop _, minLoopG (G := fun h => Stays wr S s2.heap h) W (fun i j x y s Q E g => hc i j x y s Q E (hG _ fun b o h1 h3 => g b o h1 (far h3) h3)) hSf (fun h1 h2 g1 g2 b o n1 n2 e => g2 b o n1 n2 (g1 b o n1 n2 e)) (n - 1) 0 _ y _ 0 (by omega) (W.frame _ _ _ st' fun b hb o h3 => ?_) (st2 _) hP hn (fun i hi => ?_) (Heap.get?_update_self _ hS' rfl) fun v m h2 tk2 q1 q2 q3 q4 => ?_⟩
  · exact (Heap.get?_update_other _ _ (fun h : S = b => hSf (h ▸ hb))).trans h3
  · rw [show i = 0 by omega]
    exact Int.le_refl _
  · exact hQ v m h2 tk2 q1 q2 q3 fun b o h1 h3 => q4 b o h1 (far h3) (st2 _ b o h1 (far h3) h3)
end
end L2

set_option Elab.async false
set_option linter.all false
set_option maxRecDepth 100000
set_option maxHeartbeats 1000000
namespace L2
open PySem PySem.Spec PyProof.Rows PySem.SeqAt
/-- a tuple of ints and bools, an int first -/
def FlatT (h : Heap) (v : Value) (m : Nat) (k : Int) (ty : Nat → Bool) : Prop := ∃ (a : Addr) (items : Array Value), v = .ref a ∧ h.IsTuple a items ∧ items.size = m ∧ (∃ t, items[0]? = some (.int k t)) ∧ ∀ j (hj : j < items.size), (ty j = true → ∃ b, items[j] = .bool b) ∧ (ty j = false → ∃ i t, items[j] = .int i t)
theorem flat_lt {A : Around} {s : Shared} {x y : Value} {m : Nat} {k k' : Int} {ty : Nat → Bool} (hu : A.units < cLine) (hx : FlatT s.heap x m k ty) (hy : FlatT s.heap y m k' ty) : ∃ b, (b = true → k ≤ k') ∧ (b = false → k' ≤ k) ∧ LtAt A s x y b := by
  obtain ⟨a, xs, rfl, hxs, hm, ⟨t0, h0⟩, hxt⟩ := hx
  obtain ⟨a', ys, rfl, hys, hm', ⟨t0', h0'⟩, hyt⟩ := hy
  have key : ∀ j, ∃ p : Bool × Bool, (∀ (h1 : j < xs.size) (h2 : j < ys.size), EqAt A.in1 s xs[j] ys[j] p.1 ∧ (p.1 = false → LtAt A.in1 s xs[j] ys[j] p.2)) ∧ (j = 0 → p.1 = decide (k = k') ∧ p.2 = decide (k < k')) := by
    intro j
    by_cases h1 : j < xs.size
    · by_cases h2 : j < ys.size
      · by_cases hj : j = 0
        · subst hj
          rw [Array.getElem?_eq_getElem h1] at h0
          rw [Array.getElem?_eq_getElem h2] at h0'
          injection h0 with h0
          injection h0' with h0'
          refine ⟨(decide (k = k'), decide (k < k')), fun _ _ => ?_, fun _ => ⟨rfl, rfl⟩⟩
          rw [h0, h0']
          refine ⟨?_, fun _ => LtAt.int _ _ _ _⟩
          have z := SeqAt.EqAt.int_int (A := A.in1) (s := s) k t0 k' t0'
          rw [show (k == k') = decide (k = k') from rfl] at z
          exact z
        · cases hty : ty j with
          | true =>
            obtain ⟨b, e⟩ := (hxt j h1).1 hty
            obtain ⟨b', e'⟩ := (hyt j h2).1 hty
            obtain ⟨l, hl⟩ := LtAt.bool (A := A.in1) (s := s) b b'
            refine ⟨(b == b', l), fun _ _ => ?_, fun z => absurd z hj⟩
            rw [e, e']
            exact ⟨SeqAt.EqAt.bool_bool (A := A.in1) (s := s) b b', fun _ => hl⟩
          | false =>
            obtain ⟨i, t, e⟩ := (hxt j h1).2 hty
            obtain ⟨i', t', e'⟩ := (hyt j h2).2 hty
            refine ⟨(i == i', decide (i < i')), fun _ _ => ?_, fun z => absurd z hj⟩
            rw [e, e']
            exact ⟨SeqAt.EqAt.int_int (A := A.in1) (s := s) i t i' t', fun _ => LtAt.int _ _ _ _⟩
      · exact ⟨(decide (k = k'), decide (k < k')), fun _ z => absurd z h2, fun _ => ⟨rfl, rfl⟩⟩
    · exact ⟨(decide (k = k'), decide (k < k')), fun z => absurd z h1, fun _ => ⟨rfl, rfl⟩⟩
  obtain ⟨f, hf⟩ := Classical.axiomOfChoice key
  have hpos : 0 < xs.size := (Array.getElem?_eq_some_iff.mp h0).1
  obtain ⟨n, hn⟩ : ∃ n, xs.size = n + 1 := ⟨xs.size - 1, by omega⟩
  obtain ⟨e0, l0⟩ := (hf 0).2 rfl
  have hL := LtAt.tuples (A := A) (e := fun j => (f j).1) (lt := fun j => (f j).2) hxs hys (hm'.trans hm.symm) hu fun j h1 h2 => (hf j).1 h1 h2
  refine ⟨_, ?_, ?_, hL⟩
  · intro hb
    rw [hn] at hb
    unfold lexB at hb
    rw [e0, l0] at hb
    by_cases z : k = k'
    · exact Int.le_of_eq z
    · rw [decide_eq_false z] at hb
      have := of_decide_eq_true hb
      omega
  · intro hb
    rw [hn] at hb
    unfold lexB at hb
    rw [e0, l0] at hb
    by_cases z : k = k'
    · exact Int.le_of_eq z.symm
    · rw [decide_eq_false z] at hb
      have := of_decide_eq_false hb
      omega
section
variable {X : Cx} {pins : List (Addr × Obj)} {σ : St} {H : Hp} {s : Shared}
def PrA (H : Hp) (v : V) (k : Int × Int) : Prop := ∃ t, v = .ref t ∧ H t = some (.tup [.int k.1, .int k.2])
def TrA (H : Hp) (v : V) (k : Int) : Prop := ∃ t b c, v = .ref t ∧ H t = some (.tup [.int k, .bl b, .int c])
theorem vals3' {a b c : V} {us : List Value} (h : Vals [a, b, c] us) : ∃ x y z, us = [x, y, z] ∧ RelV a x ∧ RelV b y ∧ RelV c z := by
  cases h with
  | cons h1 t =>
    cases t with
    | cons h2 t =>
      cases t with
      | cons h3 t => cases t; exact ⟨_, _, _, rfl, h1, h2, h3⟩
theorem flat_pr (I : Inv X pins σ H s) {v : V} {u : Value} {k : Int × Int} (h : PrA H v k) (r : RelV v u) {h' : Heap} (hk : ∀ b o, s.heap.get? b = some o → h'.get? b = some o) : FlatT h' u 2 k.1 (fun _ => false) := by
  obtain ⟨t, rfl, ht⟩ := h
  cases r
  obtain ⟨its, ri, ⟨o, e1, e2, n, e3⟩, _⟩ := I.tuple (SqT.of ht)
  obtain ⟨x, y, rfl, ⟨tx, rfl⟩, ⟨ty, rfl⟩⟩ := vals2 ri
  refine ⟨t, _, rfl, ⟨o, hk _ _ e1, e2, n, e3⟩, rfl, ⟨tx, rfl⟩, fun j hj => ⟨fun z => (by cases z), fun _ => ?_⟩⟩
  rcases j with _ | _ | j
  · exact ⟨_, _, rfl⟩
  · exact ⟨_, _, rfl⟩
  · exact absurd hj (by simp)
theorem flat_tr (I : Inv X pins σ H s) {v : V} {u : Value} {k : Int} (h : TrA H v k) (r : RelV v u) {h' : Heap} (hk : ∀ b o, s.heap.get? b = some o → h'.get? b = some o) : FlatT h' u 3 k (fun j => j == 1) := by
  obtain ⟨t, b, c, rfl, ht⟩ := h
  cases r
  obtain ⟨its, ri, ⟨o, e1, e2, n, e3⟩, _⟩ := I.tuple (SqT.of ht)
  obtain ⟨x, y, z, rfl, ⟨tx, rfl⟩, hb, ⟨tz, rfl⟩⟩ := vals3' ri
  cases hb
  refine ⟨t, _, rfl, ⟨o, hk _ _ e1, e2, n, e3⟩, rfl, ⟨tx, rfl⟩, fun j hj => ?_⟩
  rcases j with _ | _ | _ | j
  · exact ⟨fun z => (by cases z), fun _ => ⟨_, _, rfl⟩⟩
  · exact ⟨fun _ => ⟨_, rfl⟩, fun z => (by cases z)⟩
  · exact ⟨fun z => (by cases z), fun _ => ⟨_, _, rfl⟩⟩
  · exact absurd hj (by simp)
/-- min of a list of pairs: one whose first number is least -/
theorem call_minP {k : Nat} (hr : Room k X.A) (hc : X.calm = true) : CallR X (.builtin "min") (fun xs H Q => ∃ (p : Addr) (vs : List V) (ks : List (Int × Int)), xs = [.ref p] ∧ SqL X.K H p vs ∧ Paired (PrA H) vs ks ∧ 0 < vs.length ∧ ∀ (i : Nat) v k, vs[i]? = some v → ks[i]? = some k → (∀ k' ∈ ks, k.1 ≤ k'.1) → Q v H) := by
  intro pins s σ H xs us Q I r h
  obtain ⟨p, vs, ks, rfl, hp, hP, hne, q⟩ := h
  obtain ⟨u, rfl, ru⟩ := vals1 r
  cases ru
  obtain ⟨its, ri, pl, hz⟩ := I.list hp
  have hlen := ri.length
  have hlk := Paired.length hP
  have hu := hr.units
  have hl := pl.isList
  have hlt : p < s.heap.objs.size := by obtain ⟨_, e, _⟩ := hl; exact Heap.lt_size e
  have at_ : ∀ {i : Nat} {v : Value}, its.toArray[i]? = some v → ∃ w k, vs[i]? = some w ∧ ks[i]? = some k ∧ RelV w v ∧ PrA H w k := by
    intro i v hv
    rw [List.getElem?_toArray] at hv
    have hi := (List.getElem?_eq_some_iff.mp hv).1
    have h1 : vs[i]? = some (vs[i]'(by omega)) := List.getElem?_eq_getElem _
    obtain ⟨y, hy, r1⟩ := Paired.get' ri h1
    obtain ⟨k, hk, r2⟩ := Paired.get' hP h1
    rw [hv] at hy
    cases hy
    exact ⟨_, k, h1, hk, r1, r2⟩
  refine minG (wpAny_pyIter_list hl ?_)
  have kp : ∀ b o, s.heap.get? b = some o → b ≠ s.heap.objs.size := fun b o e => Nat.ne_of_lt (Heap.lt_size e)
  refine ⟨s.heap.objs.size, [_, p], [_], its.toArray.size, _, _, fun h => ∀ b o, s.heap.get? b = some o → h.get? b = some o, fun i => (ks.getD i (0, 0)).1, rfl, Walks.list (A := X.A.in1) (I.ok.hd hc) _ p (Nat.ne_of_lt hlt) its.toArray, ⟨⟨_, Heap.get?_push_size _ rfl, rfl, rfl⟩, hl.push _⟩, fun b hb => ?_, by simp; omega, ?_, fun h' hk b o e => hk b o (by simpa using kp b o e) (Heap.get?_push_of_some _ e), fun v m h' tk hPm hm hmin hk => ?_⟩
  · show b < (s.heap.push _).objs.size
    rw [Heap.size_push]
    rcases List.mem_cons.mp hb with rfl | hb
    · exact Nat.lt_succ_self _
    · cases List.mem_singleton.mp hb
      exact Nat.lt_succ_of_lt hlt
  · intro i j x y s' Q' E' g hi hj hq
    obtain ⟨w1, k1, a1, a2, a3, a4⟩ := at_ hi
    obtain ⟨w2, k2, b1, b2, b3, b4⟩ := at_ hj
    obtain ⟨b, c1, c2, c3⟩ := flat_lt (A := X.A.in1) (s := s') (show X.A.units + 1 < cLine by omega) (flat_pr I a4 a3 g) (flat_pr I b4 b3 g)
    have e1 : ks.getD i (0, 0) = k1 := by rw [List.getD_eq_getElem?_getD, a2]; rfl
    have e2 : ks.getD j (0, 0) = k2 := by rw [List.getD_eq_getElem?_getD, b2]; rfl
    refine c3 X.prog X.w E' Q' (hq b ?_ ?_)
    · show b = true → (ks.getD i (0, 0)).1 ≤ (ks.getD j (0, 0)).1
      rw [e1, e2]; exact c1
    · show b = false → (ks.getD j (0, 0)).1 ≤ (ks.getD i (0, 0)).1
      rw [e1, e2]; exact c2
  · obtain ⟨w1, k1, a1, a2, a3, a4⟩ := at_ hPm
    refine ⟨w1, H, I.kept (fun b o e => hk b o (by simpa using kp b o e) (Heap.get?_push_of_some _ e)), a3, q m w1 k1 a1 a2 fun k' hk' => ?_⟩
    obtain ⟨j, hj⟩ := List.getElem?_of_mem hk'
    have hj' := (List.getElem?_eq_some_iff.mp hj).1
    have := hmin j (by simp; omega)
    dsimp only at this
    rw [List.getD_eq_getElem?_getD, List.getD_eq_getElem?_getD, a2, hj] at this
    exact this
/-- min(d.values()), the values triples of a number, a truth, a number: one whose first number is least -/
def tMinV (te : TE) : TE := fun σ H Q => te σ H fun x H1 => ∃ (d : Addr) (kvs : List (Key × V)) (ks : List Int), x = .ref d ∧ H1 d = some (.dK kvs) ∧ Paired (fun (kv : Key × V) k => TrA H1 kv.2 k) kvs ks ∧ 0 < kvs.length ∧ ∀ (i : Nat) k v a, kvs[i]? = some (k, v) → ks[i]? = some a → (∀ a' ∈ ks, a ≤ a') → Q v H1
theorem pe_minV {o : Expr} {te : TE} {p apos cpos pos : Pos} {k : Nat} (hr : Room k X.A) (hc : X.calm = true) (hg : Gl X "min") (hm : X.mg "min" = none) (ho : PE X o te) (hbase : attributeBase o "values" X.env (eval o X.env) = eval o X.env := by rfl) (hline : (apos.endLine == cpos.line) = true := by rfl)
    (hs : starEach [.Call (.Attribute o "values" apos) [] [] cpos] X.env = [(false, eval (.Call (.Attribute o "values" apos) [] [] cpos) X.env)] := by rfl) :
    PE X (.Call (.Name "min" p) [.Call (.Attribute o "values" apos) [] [] cpos] [] pos) (tMinV te) := by
  intro pins s σ H Q I h
  refine Call_ (ld_blt I hg hm boot_min (PyProof.Rows.callWith_builtin1 ?_ hs rfl))
  rw [hs]
  refine Calls.spliced_cons ?_
  refine wpAny_Call_method0_late hbase hline (thn (ho pins s σ H _ I h) fun v s1 ⟨x, H1, I1, r1, q1⟩ => ?_)
  obtain ⟨d, kvs, ks, rfl, hd, hP, hne, q⟩ := q1
  cases r1
  obtain ⟨hz, hsm, vs, rel, ob, es, ep, g1, g2, g3, g4, g5, g6⟩ := id (show ObjOk X.prog X.w H1 s1.heap d (.dK kvs) from I1.hok d _ hd)
  have hl : kvs.length = vs.length := rel.length
  have hlk := Paired.length hP
  have hu := hr.units
  have hD : s1.heap.DictOf (mixKind X.prog X.w) d vs := ⟨ob, es, ep, g1, g2, g3, g4, g5, g6⟩
  refine ⟨"dict", "dict.values", PySem.F.plainAttrs_dict, PySem.F.slot_dict_values, PySem.F.type_dict_values, hD.typeIs, (fun a e => by cases e; exact ⟨ob, g1, g2.2.1⟩), ?_⟩
  refine Calls.callWith_builtin rfl (PySem.evalArgs_none ?_)
  refine call_meetsIn PySem.F.slot_dict_values hD.typeIs PySem.F.entry_dict_values (PySem.F.args_dict_values_1 _) (meets_dict_values (mixKind X.prog X.w) d hsm) ⟨⟨vs, hD⟩, ?_⟩
  refine Calls.spliced_nil ?_
  have k1 : ∀ b o', s1.heap.get? b = some o' → (s1.heap.push { cls := .type "dict_values", data := .fields #[.ref d] }).get? b = some o' := fun b o' e => Heap.get?_push_of_some _ e
  have hm2 : (s1.heap.push { cls := .type "dict_values", data := .fields #[.ref d] }).DictAt (mixKind X.prog X.w) d vs ep := ⟨ob, es, k1 _ _ g1, g2, g3, g4, g5, g6⟩
  have at_ : ∀ {i : Nat} {v : Value}, (∃ k, vs[i]? = some (k, v)) → ∃ kv a, kvs[i]? = some kv ∧ ks[i]? = some a ∧ RelV kv.2 v ∧ TrA H1 kv.2 a := by
    rintro i v ⟨k, hv⟩
    have hi := (List.getElem?_eq_some_iff.mp hv).1
    have h1 : kvs[i]? = some (kvs[i]'(by omega)) := List.getElem?_eq_getElem _
    obtain ⟨y, hy, r1, r1'⟩ := Paired.get' rel h1
    obtain ⟨a, hk, r2⟩ := Paired.get' hP h1
    rw [hv] at hy
    cases hy
    exact ⟨_, a, h1, hk, r1', r2⟩
  refine minG (wpAny_pyIter_values (s := { s1 with heap := s1.heap.push { cls := .type "dict_values", data := .fields #[.ref d] } }) (knd := mixKind X.prog X.w) ⟨_, Heap.get?_push_size _ rfl, rfl, rfl⟩ hm2 ?_)
  have hlt : d < s1.heap.objs.size := Heap.lt_size g1
  have hsz : (s1.heap.push { cls := .type "dict_values", data := .fields #[.ref d] }).objs.size = s1.heap.objs.size + 1 := Heap.size_push ..
  have kp : ∀ b o, s1.heap.get? b = some o → b ≠ (s1.heap.push { cls := .type "dict_values", data := .fields #[.ref d] }).objs.size := fun b o e => by rw [hsz]; exact Nat.ne_of_lt (Nat.lt_succ_of_lt (Heap.lt_size e))
  have kq : ∀ {h' : Heap}, (∀ b o, b ∉ [(s1.heap.push { cls := .type "dict_values", data := .fields #[.ref d] }).objs.size] → ((s1.heap.push { cls := .type "dict_values", data := .fields #[.ref d] }).push { cls := .type "dict_valueiterator", data := .fields #[.ref d, .int 0 0, .int vs.length 0, .int ep 0] }).get? b = some o → h'.get? b = some o) → ∀ b o, s1.heap.get? b = some o → h'.get? b = some o := fun hk b o e => hk b o (by simpa using kp b o e) (Heap.get?_push_of_some _ (k1 b o e))
  refine ⟨_, [_, d], [_], vs.length, _, _, fun h => ∀ b o, s1.heap.get? b = some o → h.get? b = some o, fun i => ks.getD i 0, rfl, Walks.dictValues (knd := mixKind X.prog X.w) (A := X.A.in1) (I.ok.hd hc) _ d (by rw [hsz]; exact Nat.ne_of_lt (Nat.lt_succ_of_lt hlt)) vs ep, ⟨⟨_, Heap.get?_push_size _ rfl, rfl, rfl⟩, hm2.at' fun o e => Heap.get?_push_of_some _ e⟩, fun b hb => ?_, by omega, ?_, fun h' hk => kq hk, fun v m h' tk hPm hm hmin hk => ?_⟩
  · show b < (Heap.push _ _).objs.size
    rw [Heap.size_push]
    rcases List.mem_cons.mp hb with rfl | hb
    · exact Nat.lt_succ_self _
    · cases List.mem_singleton.mp hb
      rw [hsz]
      exact Nat.lt_succ_of_lt (Nat.lt_succ_of_lt hlt)
  · intro i j x y s' Q' E' g hi hj hq
    obtain ⟨w1, k1, a1, a2, a3, a4⟩ := at_ hi
    obtain ⟨w2, k2, b1, b2, b3, b4⟩ := at_ hj
    obtain ⟨b, c1, c2, c3⟩ := flat_lt (A := X.A.in1) (s := s') (show X.A.units + 1 < cLine by omega) (flat_tr I1 a4 a3 g) (flat_tr I1 b4 b3 g)
    have e1 : ks.getD i 0 = k1 := by rw [List.getD_eq_getElem?_getD, a2]; rfl
    have e2 : ks.getD j 0 = k2 := by rw [List.getD_eq_getElem?_getD, b2]; rfl
    refine c3 X.prog X.w E' Q' (hq b ?_ ?_)
    · show b = true → ks.getD i 0 ≤ ks.getD j 0
      rw [e1, e2]; exact c1
    · show b = false → ks.getD j 0 ≤ ks.getD i 0
      rw [e1, e2]; exact c2
  · obtain ⟨w1, k1, a1, a2, a3, a4⟩ := at_ hPm
    refine ⟨w1.2, H1, I1.kept (kq hk), a3, q m w1.1 w1.2 k1 a1 a2 fun k' hk' => ?_⟩
    obtain ⟨j, hj⟩ := List.getElem?_of_mem hk'
    have hj' := (List.getElem?_eq_some_iff.mp hj).1
    have := hmin j (by omega)
    dsimp only at this
    rw [List.getD_eq_getElem?_getD, List.getD_eq_getElem?_getD, a2, hj] at this
    exact this
end
end L2

set_option Elab.async false
set_option linter.all false
set_option maxRecDepth 100000
set_option maxHeartbeats 1000000
namespace L2
open PySem PySem.Spec PyProof.Rows
def Iti (d : Addr) (ob : Obj) (kvs : List (Key × V)) : It :=
  ⟨fun i H => H d = some (.frz ob (.dK kvs)) ∧ i < kvs.length, fun i H x H' => ∃ t k v, kvs[i]? = some (k, v) ∧ x = .ref t ∧ H t = none ∧ H' = upd H t (.tup [kV k, v]), fun i H => H d = some (.frz ob (.dK kvs)) ∧ kvs.length ≤ i⟩
theorem entry_itm_iter : entryFor table "dict_itemiterator.__iter__" = some Builtin.«dict_keyiterator.__iter__» := entryFor_alias (id' := "dict_keyiterator.__iter__") (by kernel_rfl) rfl (by decide +kernel) (by kernel_rfl)
theorem iter_itm {P : Program} {w : World} {A : Around} {E : Value → Shared → Prop} {s : Shared} {it d : Addr} {i n ep : Nat} {ok ov : Value} {Q : Value → Shared → Prop} (hit : IsItemIter s.heap it d i n ep ok ov) (h : Q (.ref it) s) : wpAny (model P w) A (pyIter (.ref it)) Q E s := by
  have hT : s.TypeIs (.ref it) "dict_itemiterator" := ⟨_, hit, rfl⟩
  refine wpAny_pyIter_slot hT F.slot_dict_itemiterator_iter ?_
  refine wpAny_call_entry F.slot_dict_itemiterator_iter hT entry_itm_iter ?_ (F.args_dict_itemiterator_iter_1 _)
  show wpAny (model P w) _ (ret (.ref it)) _ _ s
  exact wpAny_pure ⟨_, rfl, _, _, hT, F.slot_dict_itemiterator_next.lookup, h⟩
theorem turn_items {P : Program} {w : World} {K : PySem.W.Frag} {elts : List Expr} {x1 : Nat} {tp : Pos} (d it : Addr) (ob : Obj) (es : Array DictEntry) (ep : Nat) (kvs : List (Key × V)) (hdat : ob.data = .dict es ep) :
    Turn P w K (.Tuple elts x1 tp) (Iti d ob kvs) [it] it (fun i h => ∃ ok ov, IsItemIter h it d i kvs.length ep ok ov) where
  mem := by simp
  obj := fun i h st b hb => by
    have e : b = it := by simpa using hb
    subst e
    obtain ⟨ok, ov, st⟩ := st
    exact ⟨_, st, fun v z => by
      have z' : Data.fields _ = Data.cell v := z
      cases z'⟩
  keep := fun i h h' ⟨ok, ov, st⟩ k => ⟨ok, ov, k it (by simp) _ st⟩
  item := by
    intro X hP hw hK hc i pins s σ H E I hf st hg
    subst hP hw hK
    obtain ⟨ok, ov, st⟩ := st
    obtain ⟨hH, hlt⟩ := hg
    obtain ⟨hob, hz, hsm, vs, rel, o', es', ep', g1, g2, g3, g4, g5, g6⟩ := (show ObjOk X.prog X.w H s.heap d (.frz ob (.dK kvs)) from I.hok d _ hH)
    rw [hob] at g1
    cases g1
    rw [hdat] at g3
    cases g3
    have hl : kvs.length = vs.length := rel.length
    have hki : kvs[i]? = some kvs[i] := List.getElem?_eq_getElem hlt
    obtain ⟨v, hv, e1, rv⟩ := Paired.get' rel hki
    have hm : s.heap.DictAt (mixKind X.prog X.w) d vs ep := ⟨ob, es, hob, g2, hdat, g4, g5, g6⟩
    rw [hl] at st
    refine wpAny_pyNext_items_item st hm (show vs[i]? = some (v.1, v.2) from hv) fun key g hkey hout htup hsz hkp => ?_
    refine ⟨_, rfl, wpAny_letOwnedTupleGo_items hout fun g2 hit2 hs2 => ?_⟩
    have hil : it < s.heap.objs.size := Heap.lt_size st
    have nse : s.heap.objs.size ≠ it := Nat.ne_of_gt hil
    have hT2 : g2.get? s.heap.objs.size = some { cls := .type "tuple", data := .seq #[key, v.2] } := (hs2.2 _ nse).trans htup
    have hr : RelV (kV kvs[i].1) key := by
      rw [e1]
      exact key_rel hkey
    have I2 : Inv X pins σ (upd H s.heap.objs.size (.tup [kV kvs[i].1, kvs[i].2])) { s with heap := g2, toks := s.toks } := by
      refine I.turnsL (ch := [it]) hf (Nat.le_refl _) (fun b o hb q => ?_) ?_
      · have nb : b ≠ it := fun e => hb (by simp [e])
        exact (hs2.2 b nb).trans (hkp b o nb q)
      · exact ⟨by show 2 ≤ sizeLine; decide, [key, v.2], .cons hr (.cons rv .nil), ⟨_, hT2, rfl, 0, rfl⟩⟩
    refine ⟨.ref s.heap.objs.size, _, I2, rfl, ⟨_, kvs[i].1, kvs[i].2, hki, rfl, I.fresh, rfl⟩, ⟨key, v.2, by rw [hl]; exact hit2⟩, fun b hb => ?_⟩
    have e : b = it := by simpa using hb
    subst e
    rw [upd_ne (Nat.ne_of_lt hil)]
    exact (hf b hb).1
  done := by
    intro X hP hw hK hc i pins s σ H E I hf st hg
    subst hP hw hK
    obtain ⟨ok, ov, st⟩ := st
    obtain ⟨hH, hge⟩ := hg
    obtain ⟨hob, hz, hsm, vs, rel, o', es', ep', g1, g2, g3, g4, g5, g6⟩ := (show ObjOk X.prog X.w H s.heap d (.frz ob (.dK kvs)) from I.hok d _ hH)
    rw [hob] at g1
    cases g1
    rw [hdat] at g3
    cases g3
    have hl : kvs.length = vs.length := rel.length
    have hm : s.heap.DictAt (mixKind X.prog X.w) d vs ep := ⟨ob, es, hob, g2, hdat, g4, g5, g6⟩
    rw [hl] at st
    refine wpAny_pyNext_items_end (I.ok.hd hc) st hm (List.getElem?_eq_none (by rw [← hl]; exact hge)) fun h' eb => ⟨rfl, I.turns (tk := s.toks) (ch := [it]) hf fun b o hb q => ?_⟩
    exact eb b o (fun e => hb (by simp [e])) q
  self := fun A i s Q E st h => by
    obtain ⟨ok, ov, st⟩ := st
    exact iter_itm st h
def iItm (te : TE) : TI := fun σ H R => te σ H fun x H1 => ∃ d kvs, x = .ref d ∧ H1 d = some (.dK kvs) ∧ ∀ ob, R (Iti d ob kvs) (upd H1 d (.frz ob (.dK kvs)))
theorem pi_items {X : Cx} {elts : List Expr} {x1 : Nat} {tp : Pos} {o : Expr} {te : TE} {apos cpos : Pos} (ho : PE X o te) (hbase : attributeBase o "items" X.env (eval o X.env) = eval o X.env := by rfl) (hline : (apos.endLine == cpos.line) = true := by rfl) :
    PI X (.Tuple elts x1 tp) (.Call (.Attribute o "items" apos) [] [] cpos) (iItm te) := by
  intro pins s σ H R I h
  refine wpAny_Call_method0_late hbase hline (thn (ho pins s σ H _ I h) fun v s1 ⟨x, H1, I1, r1, q1⟩ => ?_)
  obtain ⟨d, kvs, rfl, hd, q⟩ := q1
  cases r1
  obtain ⟨hz, hsm, vs, rel, o, es, ep, g1, g2, g3, g4, g5, g6⟩ := id (show ObjOk X.prog X.w H1 s1.heap d (.dK kvs) from I1.hok d _ hd)
  have hl : kvs.length = vs.length := rel.length
  have hm : s1.heap.DictAt (mixKind X.prog X.w) d vs ep := ⟨o, es, g1, g2, g3, g4, g5, g6⟩
  have hD : s1.heap.DictOf (mixKind X.prog X.w) d vs := ⟨o, es, ep, g1, g2, g3, g4, g5, g6⟩
  refine ⟨"dict", "dict.items", PySem.F.plainAttrs_dict, PySem.F.slot_dict_items, PySem.F.type_dict_items, hD.typeIs, (fun a e => by cases e; exact ⟨o, g1, g2.2.1⟩), ?_⟩
  refine Calls.callWith_builtin rfl (PySem.evalArgs_none ?_)
  refine call_meetsIn PySem.F.slot_dict_items hD.typeIs PySem.F.entry_dict_items (PySem.F.args_dict_items_1 _) (meets_dict_items (mixKind X.prog X.w) d hsm) ⟨⟨vs, hD⟩, ?_⟩
  have k1 : ∀ b o', s1.heap.get? b = some o' → (s1.heap.push { cls := .type "dict_items", data := .fields #[.ref d] }).get? b = some o' := fun b o' e => Heap.get?_push_of_some _ e
  have I2 := (I1.kept (t' := s1.toks) k1).freezeK hd (k1 _ _ g1)
  have hm2 : (s1.heap.push { cls := .type "dict_items", data := .fields #[.ref d] }).DictAt (mixKind X.prog X.w) d vs ep := ⟨o, es, k1 _ _ g1, g2, g3, g4, g5, g6⟩
  refine wpAny_pyIter_items (s := { s1 with heap := s1.heap.push { cls := .type "dict_items", data := .fields #[.ref d] } }) (knd := mixKind X.prog X.w) ⟨_, Heap.get?_push_size _ rfl, rfl, rfl⟩ hm2 ?_
  refine ⟨_, [_], _, _, _, rfl, I2.kept (t' := s1.toks) (fun b o' e => Heap.get?_push_of_some _ e), turn_items d _ o es ep kvs g3, ⟨_, _, by rw [hl]; exact Heap.get?_push_size _ rfl⟩, fun b hb => ?_, q o⟩
  have e : b = (s1.heap.push { cls := .type "dict_items", data := .fields #[.ref d] }).objs.size := by simpa using hb
  subst e
  exact I2.fpOk (Nat.le_refl _) (I2.hok.fresh (Nat.le_refl _))
end L2
namespace My
open PySem L2
theorem for_itemsW {d : Addr} {ob : Obj} {kvs : List (Key × V)} {σ : St} {H : Hp} {DN : St → Hp → Prop} {B : (St → Hp → Prop) → V → St → Hp → Prop} (Pv : Nat → St → Hp → Prop) (h0 : Pv 0 σ H)
    (hl : ∀ i σ H, i ≤ kvs.length → Pv i σ H → H d = some (.frz ob (.dK kvs)))
    (hs : ∀ i k v σ H t, kvs[i]? = some (k, v) → Pv i σ H → H t = none → B (Pv (i + 1)) (.ref t) σ (upd H t (.tup [kV k, v]))) (hd : ∀ σ H, Pv kvs.length σ H → DN σ H) :
    ∃ W : Nat → Nat → St → Hp → Prop, (∃ m, W 0 m σ H) ∧ ∀ i m σ H, W i m σ H →
      ((Iti d ob kvs).stop i H ∧ DN σ H) ∨ ((Iti d ob kvs).go i H ∧ ∃ N : St → Hp → Prop, (∀ σ' H', N σ' H' → ∃ m', m' < m ∧ W (i + 1) m' σ' H') ∧ ∀ x H', (Iti d ob kvs).yld i H x H' → B N x σ H') := by
  refine ⟨fun i m σ H => m = kvs.length - i ∧ i ≤ kvs.length ∧ Pv i σ H, ⟨kvs.length, by simp, Nat.zero_le _, h0⟩, ?_⟩
  rintro i m σ H ⟨rfl, hi, p⟩
  have q := hl i σ H hi p
  by_cases hlt : i < kvs.length
  · refine .inr ⟨⟨q, hlt⟩, Pv (i + 1), fun σ' H' p' => ⟨kvs.length - (i + 1), by omega, rfl, hlt, p'⟩, fun x H' y => ?_⟩
    obtain ⟨t, k, v, h1, e, ht, e'⟩ := y
    subst e e'
    exact hs i k v σ _ t h1 p ht
  · have e : i = kvs.length := by omega
    subst e
    exact .inl ⟨⟨q, Nat.le_refl _⟩, hd σ H p⟩
end My

set_option Elab.async false
set_option linter.all false
namespace My
namespace Chp
def fset {α : Type} (f : Nat → α) (i : Nat) (x : α) : Nat → α := fun j => if j = i then x else f j
theorem fset_eq {α : Type} {f : Nat → α} {i : Nat} {x : α} : fset f i x i = x := if_pos rfl
theorem fset_ne {α : Type} {f : Nat → α} {i j : Nat} {x : α} (h : j ≠ i) : fset f i x j = f j := if_neg h
def cnt (S : Nat) (d : Nat → Nat) (c : Nat) : Int := ((List.range S).map fun s => if d s = c then (1 : Int) else 0).sum
theorem cnt_succ (S : Nat) (d : Nat → Nat) (c : Nat) : cnt (S + 1) d c = cnt S d c + if d S = c then 1 else 0 := by
  unfold cnt
  rw [List.range_succ, List.map_append, List.sum_append]
  show _ + ((if d S = c then (1 : Int) else 0) + 0) = _
  omega
theorem cnt_zero (d : Nat → Nat) (c : Nat) : cnt 0 d c = 0 := rfl
theorem cnt_out {S s t : Nat} {d : Nat → Nat} (h : S ≤ s) (c : Nat) : cnt S (fset d s t) c = cnt S d c := by
  induction S with
  | zero => rfl
  | succ S ih => rw [cnt_succ, cnt_succ, ih (by omega), fset_ne (by omega)]
theorem cnt_move {S s t : Nat} {d : Nat → Nat} (h : s < S) (c : Nat) : cnt S (fset d s t) c = cnt S d c - (if d s = c then 1 else 0) + if t = c then 1 else 0 := by
  induction S with
  | zero => omega
  | succ S ih =>
    rw [cnt_succ, cnt_succ]
    by_cases z : s = S
    · subst z
      rw [cnt_out (Nat.le_refl _), fset_eq]
      omega
    · rw [ih (by omega), fset_ne (by omega)]
      omega
structure Net where
  S : Nat
  M : Nat
  off : Nat → Nat → Option Int
  need : Nat → Int
def Net.pay (N : Net) (d : Nat → Nat) (s : Nat) : Int := (N.off s (d s)).getD 0
/-- each spot where its cost less the price is least -/
structure Fit (N : Net) (d : Nat → Nat) (p : Nat → Int) : Prop where
  lt : ∀ s, s < N.S → d s < N.M
  inn : ∀ s, s < N.S → (N.off s (d s)).isSome = true
  best : ∀ s, s < N.S → ∀ c v, N.off s c = some v → N.pay d s - p (d s) ≤ v - p c
structure Good (N : Net) (d : Nat → Nat) (p : Nat → Int) : Prop extends Fit N d p where
  pos : ∀ c, 0 ≤ p c
  slk : ∀ c, c < N.M → N.need c < cnt N.S d c → p c = 0
/-- how much dearer a move is -/
def Net.red (N : Net) (d : Nat → Nat) (p : Nat → Int) (s t : Nat) (v : Int) : Int := (v - p t) - (N.pay d s - p (d s))
theorem Fit.red_pos {N : Net} {d : Nat → Nat} {p : Nat → Int} (F : Fit N d p) {s t : Nat} {v : Int} (hs : s < N.S) (hv : N.off s t = some v) : 0 ≤ N.red d p s t v := by
  have := F.best s hs t v hv
  unfold Net.red
  omega
/-- the search: near and far, how the way goes on, the order in which columns came near -/
structure Sr (N : Net) (d : Nat → Nat) (p : Nat → Int) (col : Nat) (nr fr : Nat → Option Int) (mv : Nat → Nat × Nat) (rk : Nat → Nat) (K : Nat) (ok : Nat → Nat → Prop) : Prop where
  dis : ∀ c x y, nr c = some x → fr c = some y → False
  src : nr col = some 0 ∨ (fr col = some 0 ∧ ∀ c, nr c = none)
  nlt : ∀ c x, nr c = some x → c < N.M ∧ cnt N.S d c ≤ N.need c ∧ 0 ≤ x ∧ rk c < K
  flt : ∀ c y, fr c = some y → c < N.M ∧ 0 ≤ y
  mono : ∀ c x c' y, nr c = some x → fr c' = some y → x ≤ y
  rel : ∀ t x, nr t = some x → ∀ s, s < N.S → ∀ v, N.off s t = some v → ok t s → (∃ y, nr (d s) = some y ∧ y ≤ x + N.red d p s t v) ∨ ∃ y, fr (d s) = some y ∧ y ≤ x + N.red d p s t v
  mvn : ∀ g y, g ≠ col → nr g = some y → (mv g).1 < N.S ∧ d (mv g).1 = g ∧ rk (mv g).2 < rk g ∧ ∃ x v, nr (mv g).2 = some x ∧ N.off (mv g).1 (mv g).2 = some v ∧ y = x + N.red d p (mv g).1 (mv g).2 v
  mvf : ∀ g y, g ≠ col → fr g = some y → (mv g).1 < N.S ∧ d (mv g).1 = g ∧ ∃ x v, nr (mv g).2 = some x ∧ N.off (mv g).1 (mv g).2 = some v ∧ y = x + N.red d p (mv g).1 (mv g).2 v
theorem Sr.start {N : Net} {d : Nat → Nat} {p : Nat → Int} {col : Nat} (hc : col < N.M) {mv : Nat → Nat × Nat} : Sr N d p col (fun _ => none) (fset (fun _ => none) col (some 0)) mv (fun _ => 0) 0 (fun _ _ => True) := by
  refine ⟨fun c x y h => (by cases h), .inr ⟨fset_eq, fun _ => rfl⟩, fun c x h => (by cases h), fun c y h => ?_, fun c x c' y h => (by cases h), fun t x h => (by cases h), fun g y _ h => (by cases h), fun g y hg h => ?_⟩
  · by_cases z : c = col
    · subst z
      rw [fset_eq] at h
      cases h
      exact ⟨hc, Int.le_refl _⟩
    · rw [fset_ne z] at h
      cases h
  · rw [fset_ne hg] at h
    cases h
/-- raised prices -/
def up (p : Nat → Int) (nr : Nat → Option Int) (top : Int) : Nat → Int := fun c => match nr c with
  | some x => p c + top - x
  | none => p c
theorem up_near {p : Nat → Int} {nr : Nat → Option Int} {top x : Int} {c : Nat} (h : nr c = some x) : up p nr top c = p c + top - x := by
  unfold up
  rw [h]
theorem up_not {p : Nat → Int} {nr : Nat → Option Int} {top : Int} {c : Nat} (h : nr c = none) : up p nr top c = p c := by
  unfold up
  rw [h]
section
variable {N : Net} {d : Nat → Nat} {p : Nat → Int} {col : Nat} {nr fr : Nat → Option Int} {mv : Nat → Nat × Nat} {rk : Nat → Nat} {K : Nat}
/-- the prices rise as far as the nearest that is left -/
theorem Sr.fit (R : Sr N d p col nr fr mv rk K fun _ _ => True) (F : Fit N d p) {top : Int} (ht : ∀ c y, fr c = some y → top ≤ y) (h0 : ∀ c x, nr c = some x → x ≤ top) : Fit N d (up p nr top) := by
  refine ⟨F.lt, F.inn, fun s hs c v hv => ?_⟩
  have hr := F.red_pos hs hv
  have hb := F.best s hs c v hv
  unfold Net.red at hr
  cases e : nr c with
  | none =>
    rw [up_not e]
    cases e2 : nr (d s) with
    | none => rw [up_not e2]; exact hb
    | some y =>
      rw [up_near e2]
      have := h0 _ _ e2
      omega
  | some x =>
    rw [up_near e]
    rcases R.rel c x e s hs v hv True.intro with ⟨y, e2, h2⟩ | ⟨y, e2, h2⟩
    · rw [up_near e2]
      unfold Net.red at h2
      omega
    · have e3 : nr (d s) = none := by
        cases z : nr (d s) with
        | none => rfl
        | some w => exact (R.dis _ _ _ z e2).elim
      rw [up_not e3]
      have := ht _ _ e2
      unfold Net.red at h2
      omega
theorem Sr.first (R : Sr N d p col nr fr mv rk K fun _ _ => True) {g : Nat} {y : Int} (hg : fr g = some y) (hm : ∀ c y', fr c = some y' → y ≤ y') (hc : cnt N.S d g ≤ N.need g) : Sr N d p col (fset nr g (some y)) (fset fr g none) mv (fset rk g K) (K + 1) (fun t _ => t ≠ g) ∧ ∀ c x, fset nr g (some y) c = some x → x ≤ y := by
  have hng : nr g = none := by
    cases z : nr g with
    | none => rfl
    | some w => exact (R.dis _ _ _ z hg).elim
  have ne : ∀ {c x}, nr c = some x → c ≠ g := fun {c x} h z => by rw [z, hng] at h; cases h
  refine ⟨⟨fun c x y' h1 h2 => ?_, ?_, fun c x h => ?_, fun c y' h => ?_, fun c x c' y' h1 h2 => ?_, fun t x h s hs v hv ht => ?_, fun g' y' hgc h => ?_, fun g' y' hgc h => ?_⟩, fun c x h => ?_⟩
  · by_cases z : c = g
    · rw [z, fset_eq] at h2; cases h2
    · rw [fset_ne z] at h1 h2; exact R.dis _ _ _ h1 h2
  · by_cases z : col = g
    · left
      rw [z, fset_eq]
      rcases R.src with h | ⟨h, _⟩
      · exact absurd z (ne h)
      · rw [z, hg] at h; exact h
    · left
      rw [fset_ne z]
      rcases R.src with h | ⟨h, h2⟩
      · exact h
      · obtain ⟨_, _, x, v, h3, _⟩ := R.mvf g y (fun w => z w.symm) hg
        rw [h2] at h3
        cases h3
  · by_cases z : c = g
    · subst z
      rw [fset_eq] at h
      cases h
      exact ⟨(R.flt _ _ hg).1, hc, (R.flt _ _ hg).2, by rw [fset_eq]; omega⟩
    · rw [fset_ne z] at h ⊢
      obtain ⟨a, b, e, f⟩ := R.nlt c x h
      exact ⟨a, b, e, by omega⟩
  · by_cases z : c = g
    · rw [z, fset_eq] at h; cases h
    · rw [fset_ne z] at h; exact R.flt _ _ h
  · by_cases z' : c' = g
    · rw [z', fset_eq] at h2; cases h2
    · rw [fset_ne z'] at h2
      by_cases z : c = g
      · rw [z, fset_eq] at h1
        cases h1
        exact hm _ _ h2
      · rw [fset_ne z] at h1
        exact R.mono _ _ _ _ h1 h2
  · rw [fset_ne ht] at h
    rcases R.rel t x h s hs v hv True.intro with ⟨w, h1, h2⟩ | ⟨w, h1, h2⟩
    · exact .inl ⟨w, by rw [fset_ne (ne h1)]; exact h1, h2⟩
    · by_cases z : d s = g
      · rw [z] at h1 ⊢
        rw [hg] at h1
        cases h1
        exact .inl ⟨y, fset_eq, h2⟩
      · exact .inr ⟨w, by rw [fset_ne z]; exact h1, h2⟩
  · by_cases z : g' = g
    · subst z
      rw [fset_eq] at h
      cases h
      obtain ⟨a, b, x, v, e1, e2, e3⟩ := R.mvf _ _ hgc hg
      refine ⟨a, b, ?_, x, v, by rw [fset_ne (ne e1)]; exact e1, e2, e3⟩
      rw [fset_eq, fset_ne (ne e1)]
      exact (R.nlt _ _ e1).2.2.2
    · rw [fset_ne z] at h
      obtain ⟨a, b, r, x, v, e1, e2, e3⟩ := R.mvn _ _ hgc h
      exact ⟨a, b, by rw [fset_ne z, fset_ne (ne e1)]; exact r, x, v, by rw [fset_ne (ne e1)]; exact e1, e2, e3⟩
  · by_cases z : g' = g
    · rw [z, fset_eq] at h; cases h
    · rw [fset_ne z] at h
      obtain ⟨a, b, x, v, e1, e2, e3⟩ := R.mvf _ _ hgc h
      exact ⟨a, b, x, v, by rw [fset_ne (ne e1)]; exact e1, e2, e3⟩
  · by_cases z : c = g
    · rw [z, fset_eq] at h
      cases h
      exact Int.le_refl _
    · rw [fset_ne z] at h
      exact R.mono _ _ _ _ h hg
/-- one bid is looked at: what stays, what comes nearer -/
theorem Sr.stay {ok : Nat → Nat → Prop} (R : Sr N d p col nr fr mv rk K ok) (F : Fit N d p) {t s : Nat} {x v : Int} (ht : nr t = some x) (hx : ∀ c x', nr c = some x' → x' ≤ x) (hs : s < N.S) (hv : N.off s t = some v)
    (h : (nr (d s)).isSome = true ∨ ∃ y, fr (d s) = some y ∧ y ≤ x + N.red d p s t v) : Sr N d p col nr fr mv rk K (fun t' s' => ok t' s' ∨ (t' = t ∧ s' = s)) := by
  refine ⟨R.dis, R.src, R.nlt, R.flt, R.mono, fun t' x' h' s' hs' v' hv' hok => ?_, R.mvn, R.mvf⟩
  rcases hok with hok | ⟨rfl, rfl⟩
  · exact R.rel t' x' h' s' hs' v' hv' hok
  · rw [ht] at h'
    cases h'
    rw [hv] at hv'
    cases hv'
    have hr := F.red_pos hs hv
    rcases h with h | h
    · obtain ⟨y, hy⟩ := Option.isSome_iff_exists.mp h
      exact .inl ⟨y, hy, by have := hx _ _ hy; omega⟩
    · exact .inr h
theorem Sr.come {ok : Nat → Nat → Prop} (R : Sr N d p col nr fr mv rk K ok) (F : Fit N d p) {t s : Nat} {x v : Int} (ht : nr t = some x) (hx : ∀ c x', nr c = some x' → x' ≤ x) (hs : s < N.S) (hv : N.off s t = some v)
    (hn : nr (d s) = none) (hf : ∀ y, fr (d s) = some y → x + N.red d p s t v < y) : Sr N d p col nr (fset fr (d s) (some (x + N.red d p s t v))) (fset mv (d s) (s, t)) rk K (fun t' s' => ok t' s' ∨ (t' = t ∧ s' = s)) := by
  have hr := F.red_pos hs hv
  have hx0 := (R.nlt _ _ ht).2.2.1
  have hsrc : nr col = some 0 := by
    rcases R.src with h | ⟨_, h⟩
    · exact h
    · rw [h] at ht; cases ht
  have ne : ∀ {c x}, nr c = some x → c ≠ d s := fun {c x} h z => by rw [z, hn] at h; cases h
  refine ⟨fun c x' y h1 h2 => ?_, .inl hsrc, R.nlt, fun c y h => ?_, fun c x' c' y h1 h2 => ?_, fun t' x' h' s' hs' v' hv' hok => ?_, fun g y hg h => ?_, fun g y hg h => ?_⟩
  · rw [fset_ne (ne h1)] at h2
    exact R.dis _ _ _ h1 h2
  · by_cases z : c = d s
    · rw [z, fset_eq] at h
      cases h
      exact ⟨by rw [z]; exact F.lt s hs, by omega⟩
    · rw [fset_ne z] at h
      exact R.flt _ _ h
  · by_cases z : c' = d s
    · rw [z, fset_eq] at h2
      cases h2
      have := hx _ _ h1
      omega
    · rw [fset_ne z] at h2
      exact R.mono _ _ _ _ h1 h2
  · rcases hok with hok | ⟨rfl, rfl⟩
    · rcases R.rel t' x' h' s' hs' v' hv' hok with h | ⟨y, h1, h2⟩
      · exact .inl h
      · by_cases z : d s' = d s
        · rw [z] at h1 ⊢
          have := hf y h1
          exact .inr ⟨_, fset_eq, by omega⟩
        · exact .inr ⟨y, by rw [fset_ne z]; exact h1, h2⟩
    · rw [ht] at h'
      cases h'
      rw [hv] at hv'
      cases hv'
      exact .inr ⟨_, fset_eq, Int.le_refl _⟩
  · have z := ne h
    rw [fset_ne z]
    exact R.mvn g y hg h
  · by_cases z : g = d s
    · subst z
      rw [fset_eq] at h ⊢
      cases h
      exact ⟨hs, rfl, x, v, ht, hv, rfl⟩
    · rw [fset_ne z] at h ⊢
      exact R.mvf g y hg h
/-- the way back to the column: under way -/
structure Fw (N : Net) (d : Nat → Nat) (p' : Nat → Int) (g0 : Nat) (R : Nat → Nat) (place : Nat) (dk : Nat → Nat) : Prop where
  fit : Fit N dk p'
  cn : ∀ c, cnt N.S dk c = cnt N.S d c + (if c = place then 1 else 0) - (if c = g0 then 1 else 0)
  same : ∀ s, dk s ≠ d s → R place < R (d s)
theorem Fw.start {p' : Nat → Int} {g0 : Nat} {R : Nat → Nat} (F : Fit N d p') : Fw N d p' g0 R g0 d := ⟨F, fun c => by omega, fun s h => absurd rfl h⟩
theorem Fw.step {p' : Nat → Int} {g0 place s t : Nat} {R : Nat → Nat} {dk : Nat → Nat} {v : Int} (W : Fw N d p' g0 R place dk) (hs : s < N.S) (hd : d s = place) (ht : t < N.M) (hv : N.off s t = some v) (hr : R t < R place) (tight : N.pay d s - p' place = v - p' t) : dk s = place ∧ Fw N d p' g0 R t (fset dk s t) := by
  have e : dk s = d s := by
    by_cases z : dk s = d s
    · exact z
    · have := W.same s z
      rw [hd] at this
      omega
  refine ⟨e.trans hd, ⟨fun s' hs' => ?_, fun s' hs' => ?_, fun s' hs' c w hw => ?_⟩, fun c => ?_, fun s' h => ?_⟩
  · by_cases z : s' = s
    · rw [z, fset_eq]; exact ht
    · rw [fset_ne z]; exact W.fit.lt s' hs'
  · by_cases z : s' = s
    · rw [z, fset_eq, hv]; rfl
    · rw [fset_ne z]; exact W.fit.inn s' hs'
  · by_cases z : s' = s
    · subst z
      unfold Net.pay
      rw [fset_eq, hv]
      have h1 := W.fit.best s' hs' c w hw
      have h2 : N.pay dk s' = N.pay d s' := by
        unfold Net.pay
        rw [e]
      rw [h2, e, hd] at h1
      show v - p' t ≤ w - p' c
      omega
    · have h1 := W.fit.best s' hs' c w hw
      unfold Net.pay at h1 ⊢
      rw [fset_ne z]
      exact h1
  · rw [cnt_move hs, W.cn c, e, hd]
    have e1 : (if place = c then (1 : Int) else 0) = if c = place then 1 else 0 := by
      by_cases z : c = place
      · rw [if_pos z, if_pos z.symm]
      · rw [if_neg z, if_neg (fun y => z y.symm)]
    have e2 : (if t = c then (1 : Int) else 0) = if c = t then 1 else 0 := by
      by_cases z : c = t
      · rw [if_pos z, if_pos z.symm]
      · rw [if_neg z, if_neg (fun y => z y.symm)]
    rw [e1, e2]
    omega
  · by_cases z : s' = s
    · rw [z, hd]; exact hr
    · rw [fset_ne z] at h
      have := W.same s' h
      omega
/-- each step of the way is tight -/
theorem Sr.way {g0 : Nat} {top : Int} (R : Sr N d p col nr fr mv rk K fun _ _ => True) (hg : fr g0 = some top) {place : Nat} (hp : place ≠ col) (h : place = g0 ∨ (nr place).isSome = true) :
    (mv place).1 < N.S ∧ d (mv place).1 = place ∧ (mv place).2 < N.M ∧ (nr (mv place).2).isSome = true ∧ fset rk g0 K (mv place).2 < fset rk g0 K place ∧ ∃ v, N.off (mv place).1 (mv place).2 = some v ∧ N.pay d (mv place).1 - up p nr top place = v - up p nr top (mv place).2 := by
  have hng : nr g0 = none := by
    cases z : nr g0 with
    | none => rfl
    | some w => exact (R.dis _ _ _ z hg).elim
  have ne : ∀ {c x}, nr c = some x → c ≠ g0 := fun {c x} h z => by rw [z, hng] at h; cases h
  rcases h with rfl | h
  · obtain ⟨a, b, x, v, e1, e2, e3⟩ := R.mvf _ _ hp hg
    refine ⟨a, b, (R.nlt _ _ e1).1, by rw [e1]; rfl, ?_, v, e2, ?_⟩
    · rw [fset_eq, fset_ne (ne e1)]
      exact (R.nlt _ _ e1).2.2.2
    · rw [up_not hng, up_near e1]
      unfold Net.red at e3
      rw [b] at e3
      omega
  · obtain ⟨y, hy⟩ := Option.isSome_iff_exists.mp h
    obtain ⟨a, b, r, x, v, e1, e2, e3⟩ := R.mvn _ _ hp hy
    refine ⟨a, b, (R.nlt _ _ e1).1, by rw [e1]; rfl, ?_, v, e2, ?_⟩
    · rw [fset_ne (ne hy), fset_ne (ne e1)]
      exact r
    · rw [up_near hy, up_near e1]
      unfold Net.red at e3
      rw [b] at e3
      omega
/-- a spot more for the column -/
theorem Sr.done {g0 : Nat} {top : Int} {dk : Nat → Nat} (R : Sr N d p col nr fr mv rk K fun _ _ => True) (G : Good N d p) (hl : cnt N.S d col < N.need col) (hg : fr g0 = some top) (hsp : N.need g0 < cnt N.S d g0) (W : Fw N d (up p nr top) g0 (fset rk g0 K) col dk) : Good N dk (up p nr top) ∧ cnt N.S dk col = cnt N.S d col + 1 ∧ ∀ c, N.need c ≤ cnt N.S d c → N.need c ≤ cnt N.S dk c := by
  have hng : nr g0 = none := by
    cases z : nr g0 with
    | none => rfl
    | some w => exact (R.dis _ _ _ z hg).elim
  have hne : col ≠ g0 := fun z => by rw [z] at hl; omega
  refine ⟨⟨W.fit, fun c => ?_, fun c hc h => ?_⟩, ?_, fun c h => ?_⟩
  · have := G.pos c
    cases e : nr c with
    | none => rw [up_not e]; exact this
    | some x =>
      rw [up_near e]
      have := R.mono _ _ _ _ e hg
      omega
  · rw [W.cn c] at h
    by_cases z : c = col
    · rw [if_pos z, if_neg (by rw [z]; exact hne)] at h
      rw [z] at h
      omega
    · rw [if_neg z] at h
      by_cases y : c = g0
      · rw [if_pos y] at h
        subst y
        rw [up_not hng]
        exact G.slk c hc (by omega)
      · rw [if_neg y] at h
        have e : nr c = none := by
          cases e : nr c with
          | none => rfl
          | some x =>
            have := (R.nlt _ _ e).2.1
            omega
        rw [up_not e]
        exact G.slk c hc (by omega)
  · rw [W.cn col, if_pos rfl, if_neg hne]
    omega
  · rw [W.cn c]
    by_cases y : c = g0
    · subst y
      rw [if_pos rfl]
      split <;> omega
    · rw [if_neg y]
      split <;> omega
def nsum (f : Nat → Int) : Nat → Int
  | 0 => 0
  | n + 1 => nsum f n + f n
theorem nsum_le {f g : Nat → Int} : ∀ {n : Nat}, (∀ c, c < n → f c ≤ g c) → nsum f n ≤ nsum g n
  | 0, _ => Int.le_refl _
  | n + 1, h => by
    have := nsum_le (n := n) fun c hc => h c (by omega)
    have := h n (by omega)
    show nsum f n + f n ≤ nsum g n + g n
    omega
theorem nsum_lt {f g : Nat → Int} {k : Nat} : ∀ {n : Nat}, k < n → f k < g k → (∀ c, c < n → f c ≤ g c) → nsum f n < nsum g n
  | n + 1, hk, hlt, h => by
    show nsum f n + f n < nsum g n + g n
    by_cases z : k = n
    · subst z
      have := nsum_le (n := k) fun c hc => h c (by omega)
      omega
    · have := nsum_lt (n := n) (by omega) hlt fun c hc => h c (by omega)
      have := h n (by omega)
      omega
theorem nsum_add (f g : Nat → Int) : ∀ n, nsum (fun c => f c + g c) n = nsum f n + nsum g n
  | 0 => rfl
  | n + 1 => by
    show nsum _ n + (f n + g n) = nsum f n + f n + (nsum g n + g n)
    rw [nsum_add f g n]
    omega
theorem nsum_one {a : Nat} {b : Int} : ∀ {n : Nat}, a < n → nsum (fun c => if a = c then b else 0) n = b
  | n + 1, h => by
    show nsum _ n + (if a = n then b else 0) = b
    by_cases z : a = n
    · rw [if_pos z]
      have : ∀ m, m ≤ a → nsum (fun c => if a = c then b else 0) m = 0 := by
        intro m
        induction m with
        | zero => intro _; rfl
        | succ m ih =>
          intro hm
          show nsum _ m + (if a = m then b else 0) = 0
          rw [ih (by omega), if_neg (by omega)]
          rfl
      rw [this n (by omega)]
      omega
    · rw [nsum_one (by omega), if_neg z]
      omega
/-- spots dealt to a set of columns, counted twice -/
theorem cnt_set (T : Nat → Bool) {M : Nat} (d : Nat → Nat) : ∀ {S : Nat}, (∀ s, s < S → d s < M) → nsum (fun c => if T c = true then cnt S d c else 0) M = ((List.range S).map fun s => if T (d s) = true then (1 : Int) else 0).sum
  | 0, _ => by
    have : ∀ m, nsum (fun c => if T c = true then cnt 0 d c else 0) m = 0 := by
      intro m
      induction m with
      | zero => rfl
      | succ m ih =>
        show nsum _ m + (if T m = true then (0 : Int) else 0) = 0
        rw [ih]
        split <;> rfl
    rw [this]
    rfl
  | S + 1, h => by
    have ih := cnt_set T (M := M) d (S := S) fun s hs => h s (by omega)
    have e : nsum (fun c => if T c = true then cnt (S + 1) d c else 0) M = nsum (fun c => (if T c = true then cnt S d c else 0) + (if d S = c then (if T (d S) = true then 1 else 0) else 0)) M := by
      congr 1
      funext c
      rw [cnt_succ]
      by_cases z : d S = c
      · rw [if_pos z, if_pos z, z]
        split <;> omega
      · rw [if_neg z, if_neg z]
        split <;> omega
    rw [e, nsum_add, ih, nsum_one (h S (by omega)), List.range_succ, List.map_append, List.sum_append]
    show _ = _ + ((if T (d S) = true then (1 : Int) else 0) + 0)
    omega
theorem map_le {f g : Nat → Int} : ∀ {xs : List Nat}, (∀ s ∈ xs, f s ≤ g s) → (xs.map f).sum ≤ (xs.map g).sum
  | [], _ => Int.le_refl _
  | x :: xs, h => by
    have := map_le (xs := xs) fun s hs => h s (List.mem_cons_of_mem _ hs)
    have := h x (List.mem_cons_self ..)
    rw [List.map_cons, List.map_cons, List.sum_cons, List.sum_cons]
    omega
/-- a search that ends with none far: no dealing gives each column what it needs -/
theorem Sr.none (R : Sr N d p col nr fr mv rk K fun _ _ => True) (F : Fit N d p) (hcol : col < N.M) (hl : cnt N.S d col < N.need col) (hf : ∀ c, fr c = none) {e : Nat → Nat} (he : ∀ s, s < N.S → e s < N.M ∧ (N.off s (e s)).isSome = true) (hn : ∀ c, c < N.M → N.need c ≤ cnt N.S e c) : False := by
  have hsrc : nr col = some 0 := by
    rcases R.src with h | ⟨h, _⟩
    · exact h
    · rw [hf] at h; cases h
  have h1 := cnt_set (fun c => (nr c).isSome) d (M := N.M) F.lt
  have h2 := cnt_set (fun c => (nr c).isSome) e (M := N.M) (S := N.S) fun s hs => (he s hs).1
  have h3 : ((List.range N.S).map fun s => if (nr (e s)).isSome = true then (1 : Int) else 0).sum ≤ ((List.range N.S).map fun s => if (nr (d s)).isSome = true then (1 : Int) else 0).sum := by
    refine map_le fun s hs => ?_
    have hs := List.mem_range.mp hs
    by_cases z : (nr (e s)).isSome = true
    · obtain ⟨x, hx⟩ := Option.isSome_iff_exists.mp z
      obtain ⟨v, hv⟩ := Option.isSome_iff_exists.mp (he s hs).2
      rcases R.rel _ x hx s hs v hv True.intro with ⟨y, h, _⟩ | ⟨y, h, _⟩
      · rw [if_pos z, if_pos (by rw [h]; rfl)]
        exact Int.le_refl _
      · rw [hf] at h; cases h
    · rw [if_neg z]
      split <;> decide
  have h4 : nsum (fun c => if (nr c).isSome = true then cnt N.S d c else 0) N.M < nsum (fun c => if (nr c).isSome = true then cnt N.S e c else 0) N.M := by
    refine nsum_lt hcol ?_ fun c hc => ?_
    · rw [if_pos (by rw [hsrc]; rfl), if_pos (by rw [hsrc]; rfl)]
      have := hn col hcol
      omega
    · by_cases z : (nr c).isSome = true
      · rw [if_pos z, if_pos z]
        obtain ⟨x, hx⟩ := Option.isSome_iff_exists.mp z
        have := (R.nlt _ _ hx).2.1
        have := hn c hc
        omega
      · rw [if_neg z, if_neg z]
        exact Int.le_refl _
  omega
end
end Chp
end My

set_option Elab.async false
set_option linter.all false
set_option maxRecDepth 100000
set_option maxHeartbeats 1000000
namespace My
open PySem L2
def mf (a1 a2 a3 a4 a5 a6 a7 : Addr) : List (Str × V) := putF "paid" (.ref a7) (putF "dealt" (.ref a6) (putF "costs" (.ref a5) (putF "bids" (.ref a4) (putF "counts" (.ref a3) (putF "prices" (.ref a2) (putF "needs" (.ref a1) []))))))
section
variable (a1 a2 a3 a4 a5 a6 a7 : Addr)
theorem mf_needs : (mf a1 a2 a3 a4 a5 a6 a7).lookup ("needs" : Str) = some (.ref a1) := by
  unfold mf
  rw [lookup_putF, if_neg (by decide +kernel), lookup_putF, if_neg (by decide +kernel), lookup_putF, if_neg (by decide +kernel), lookup_putF, if_neg (by decide +kernel), lookup_putF, if_neg (by decide +kernel), lookup_putF, if_neg (by decide +kernel), lookup_putF, if_pos rfl]
theorem mf_prices : (mf a1 a2 a3 a4 a5 a6 a7).lookup ("prices" : Str) = some (.ref a2) := by
  unfold mf
  rw [lookup_putF, if_neg (by decide +kernel), lookup_putF, if_neg (by decide +kernel), lookup_putF, if_neg (by decide +kernel), lookup_putF, if_neg (by decide +kernel), lookup_putF, if_neg (by decide +kernel), lookup_putF, if_pos rfl]
theorem mf_counts : (mf a1 a2 a3 a4 a5 a6 a7).lookup ("counts" : Str) = some (.ref a3) := by
  unfold mf
  rw [lookup_putF, if_neg (by decide +kernel), lookup_putF, if_neg (by decide +kernel), lookup_putF, if_neg (by decide +kernel), lookup_putF, if_neg (by decide +kernel), lookup_putF, if_pos rfl]
theorem mf_bids : (mf a1 a2 a3 a4 a5 a6 a7).lookup ("bids" : Str) = some (.ref a4) := by
  unfold mf
  rw [lookup_putF, if_neg (by decide +kernel), lookup_putF, if_neg (by decide +kernel), lookup_putF, if_neg (by decide +kernel), lookup_putF, if_pos rfl]
theorem mf_costs : (mf a1 a2 a3 a4 a5 a6 a7).lookup ("costs" : Str) = some (.ref a5) := by
  unfold mf
  rw [lookup_putF, if_neg (by decide +kernel), lookup_putF, if_neg (by decide +kernel), lookup_putF, if_pos rfl]
theorem mf_dealt : (mf a1 a2 a3 a4 a5 a6 a7).lookup ("dealt" : Str) = some (.ref a6) := by
  unfold mf
  rw [lookup_putF, if_neg (by decide +kernel), lookup_putF, if_pos rfl]
theorem mf_paid : (mf a1 a2 a3 a4 a5 a6 a7).lookup ("paid" : Str) = some (.ref a7) := by
  unfold mf
  rw [lookup_putF, if_pos rfl]
theorem mf_no {m : Str} (h : m = "move" ∨ m = "lacks" ∨ m = "can_spare") : (mf a1 a2 a3 a4 a5 a6 a7).lookup m = none := by
  unfold mf
  rcases h with rfl | rfl | rfl <;> (rw [lookup_putF, if_neg (by decide +kernel), lookup_putF, if_neg (by decide +kernel), lookup_putF, if_neg (by decide +kernel), lookup_putF, if_neg (by decide +kernel), lookup_putF, if_neg (by decide +kernel), lookup_putF, if_neg (by decide +kernel), lookup_putF, if_neg (by decide +kernel)]; rfl)
end
/-- bids: pairs of a spot and a cost -/
def BidV (H : Hp) (v : V) (p : Nat × Int) : Prop := ∃ t, v = .ref t ∧ H t = some (.tup [.int p.1, .int p.2])
def BidR (H : Hp) (v : V) (row : List (Nat × Int)) : Prop := ∃ l ts, v = .ref l ∧ H l = some (.lst ts) ∧ Paired (BidV H) ts row
structure MGeo where
  N : Chp.Net
  us : List V
  bd : List (List (Nat × Int))
  ds : List Addr
  kv : Nat → List (Key × V)
  a1 : Addr
  a2 : Addr
  a3 : Addr
  a4 : Addr
  a5 : Addr
  a6 : Addr
  a7 : Addr
def MGeo.mut (G : MGeo) : List Addr := [G.a2, G.a3, G.a6, G.a7]
structure MkS (C : Addr) (H : Hp) (x : Addr) (G : MGeo) : Prop where
  ins : ∃ dx, H x = some (.ins C dx (mf G.a1 G.a2 G.a3 G.a4 G.a5 G.a6 G.a7))
  s1 : H G.a1 = some (.lst ((il G.N.M G.N.need).map V.int))
  s4 : H G.a4 = some (.lst G.us)
  r4 : Paired (BidR H) G.us G.bd
  b4 : G.bd.length = G.N.M
  m4 : ∀ t row, G.bd[t]? = some row → ∀ s v, (s, v) ∈ row ↔ s < G.N.S ∧ G.N.off s t = some v
  s5 : H G.a5 = some (.lst (G.ds.map V.ref))
  l5 : G.ds.length = G.N.S
  d5 : ∀ s d, G.ds[s]? = some d → H d = some (.dK (G.kv s))
  v5 : ∀ s, s < G.N.S → ∀ c : Nat, valV (G.kv s) (Sum.inl (c : Int)) = (G.N.off s c).map V.int
  nd : G.mut.Nodup
  nm : ∀ c ∈ G.mut, c ≠ G.a1 ∧ c ≠ G.a4 ∧ c ≠ G.a5 ∧ V.ref c ∉ G.us
  sm : G.N.S ≤ 20 ∧ G.N.M ≤ 40
structure MkD (H : Hp) (G : MGeo) (d : Nat → Nat) (p : Nat → Int) : Prop where
  s2 : H G.a2 = some (.lst ((il G.N.M p).map V.int))
  s3 : H G.a3 = some (.lst ((il G.N.M (Chp.cnt G.N.S d)).map V.int))
  s6 : H G.a6 = some (.lst ((il G.N.S fun s => ((d s : Nat) : Int)).map V.int))
  s7 : H G.a7 = some (.lst ((il G.N.S (G.N.pay d)).map V.int))
/-- all but some addresses stay -/
def KpL (L : List Addr) (H H' : Hp) : Prop := ∀ b o, H b = some o → b ∉ L → H' b = some o
theorem KpL.trans {L : List Addr} {H H1 H2 : Hp} (h : KpL L H H1) (g : KpL L H1 H2) : KpL L H H2 := fun b o e n => g b o (h b o e n) n
theorem KpL.refl {L : List Addr} {H : Hp} : KpL L H H := fun _ _ e _ => e
theorem KpL.same {L : List Addr} {H H' : Hp} (g : Same H H') : KpL L H H' := fun b o e _ => g b o e
theorem KpL.mono {L L' : List Addr} {H H' : Hp} (h : KpL L H H') (g : ∀ c ∈ L, c ∈ L') : KpL L' H H' := fun b o e n => h b o e fun z => n (g b z)
theorem KpL.put {L : List Addr} {H : Hp} {c : Addr} {o : HO} (hc : c ∈ L) : KpL L H (upd H c o) := fun b o' e n => by
  have nb : b ≠ c := fun z => n (by rw [z]; exact hc)
  rw [upd_ne nb]
  exact e
/-- off what stays of a market -/
structure OffM (H : Hp) (x : Addr) (G : MGeo) (c : Addr) : Prop where
  nx : c ≠ x
  n1 : c ≠ G.a1
  n4 : c ≠ G.a4
  n5 : c ≠ G.a5
  nd : c ∉ G.ds
  nu : V.ref c ∉ G.us
  nt : ∀ ts, H c ≠ some (.tup ts)
theorem BidR.kp {L : List Addr} {H H' : Hp} {v : V} {row : List (Nat × Int)} (h : BidR H v row) (g : KpL L H H') (hv : ∀ c ∈ L, v ≠ .ref c) (ht : ∀ c ∈ L, ∀ ts, H c ≠ some (.tup ts)) : BidR H' v row := by
  obtain ⟨l, ts, rfl, e, r⟩ := h
  refine ⟨l, ts, rfl, g _ _ e (fun z => hv l z rfl), Paired.mapP r fun v p ⟨t, e1, e2⟩ => ⟨t, e1, g _ _ e2 fun z => ht t z _ e2⟩⟩
theorem paired_imp {α β : Type} {F F' : α → β → Prop} : ∀ {xs : List α} {ys : List β}, Paired F xs ys → (∀ a b, a ∈ xs → F a b → F' a b) → Paired F' xs ys
  | _, _, .nil, _ => .nil
  | _, _, .cons a t, h => .cons (h _ _ List.mem_cons_self a) (paired_imp t fun a b ha => h a b (List.mem_cons_of_mem _ ha))
theorem MkS.kp {C x : Addr} {H H' : Hp} {G : MGeo} {L : List Addr} (h : MkS C H x G) (g : KpL L H H') (ho : ∀ c ∈ L, OffM H x G c) : MkS C H' x G := by
  obtain ⟨dx, hi⟩ := h.ins
  refine ⟨⟨dx, g _ _ hi fun z => (ho _ z).nx rfl⟩, g _ _ h.s1 fun z => (ho _ z).n1 rfl, g _ _ h.s4 fun z => (ho _ z).n4 rfl, ?_, h.b4, h.m4, g _ _ h.s5 fun z => (ho _ z).n5 rfl, h.l5, fun s d e => g _ _ (h.d5 s d e) fun z => (ho _ z).nd (List.mem_of_getElem? e), h.v5, h.nd, h.nm, h.sm⟩
  exact paired_imp h.r4 fun v row hv r => r.kp g (fun c hc e => (ho c hc).nu (e ▸ hv)) fun c hc => (ho c hc).nt
theorem MkS.off {C x : Addr} {H : Hp} {G : MGeo} (h : MkS C H x G) {c : Addr} (hc : c ∈ G.mut) {vs : List V} (e : H c = some (.lst vs)) : OffM H x G c := by
  obtain ⟨dx, hi⟩ := h.ins
  obtain ⟨n1, n4, n5, nu⟩ := h.nm c hc
  refine ⟨fun z => ?_, n1, n4, n5, fun z => ?_, nu, fun ts z => ?_⟩
  · rw [z, hi] at e; cases e
  · obtain ⟨s, hs⟩ := List.getElem?_of_mem z
    rw [h.d5 s c hs] at e; cases e
  · rw [e] at z; cases z
theorem MkD.lst {H : Hp} {G : MGeo} {d : Nat → Nat} {p : Nat → Int} (D : MkD H G d p) {c : Addr} (hc : c ∈ G.mut) : ∃ vs, H c = some (.lst vs) := by
  unfold MGeo.mut at hc
  simp only [List.mem_cons, List.not_mem_nil, or_false] at hc
  rcases hc with rfl | rfl | rfl | rfl
  · exact ⟨_, D.s2⟩
  · exact ⟨_, D.s3⟩
  · exact ⟨_, D.s6⟩
  · exact ⟨_, D.s7⟩
theorem MkD.offs {C x : Addr} {H : Hp} {G : MGeo} {d : Nat → Nat} {p : Nat → Int} (D : MkD H G d p) (h : MkS C H x G) : ∀ c ∈ G.mut, OffM H x G c := fun c hc => by
  obtain ⟨vs, e⟩ := D.lst hc
  exact h.off hc e
theorem MkD.kp {H H' : Hp} {G : MGeo} {d : Nat → Nat} {p : Nat → Int} {L : List Addr} (D : MkD H G d p) (g : KpL L H H') (hL : ∀ c ∈ L, c ∉ G.mut) : MkD H' G d p :=
  ⟨g _ _ D.s2 fun z => hL _ z (by simp [MGeo.mut]), g _ _ D.s3 fun z => hL _ z (by simp [MGeo.mut]), g _ _ D.s6 fun z => hL _ z (by simp [MGeo.mut]), g _ _ D.s7 fun z => hL _ z (by simp [MGeo.mut])⟩
theorem il_put (n : Nat) (g : Nat → Int) (k : Nat) (v : Int) : ((il n g).map V.int).set k (.int v) = (il n (Chp.fset g k v)).map V.int := by
  rw [← List.map_set, il_set]
  rfl
theorem il_at {n : Nat} {g : Nat → Int} {k : Nat} (h : k < n) : ((il n g).map V.int)[k]? = some (.int (g k)) := by rw [List.getElem?_map, il_get h]; rfl
theorem il_mlen (n : Nat) (g : Nat → Int) : ((il n g).map V.int).length = n := by rw [List.length_map, il_len]
theorem cnt_fset {S s c : Nat} {d : Nat → Nat} (hs : s < S) (k : Nat) : Chp.fset (Chp.fset (Chp.cnt S d) (d s) (Chp.cnt S d (d s) - 1)) c (Chp.fset (Chp.cnt S d) (d s) (Chp.cnt S d (d s) - 1) c + 1) k = Chp.cnt S (Chp.fset d s c) k := by
  rw [Chp.cnt_move hs]
  have e1 : (if d s = k then (1 : Int) else 0) = if k = d s then 1 else 0 := by simp [eq_comm]
  have e2 : (if c = k then (1 : Int) else 0) = if k = c then 1 else 0 := by simp [eq_comm]
  rw [e1, e2]
  unfold Chp.fset
  by_cases h1 : k = c
  · subst h1
    by_cases h2 : k = d s
    · simp only [← h2, if_true]
    · simp only [h2, if_true, if_false]
      omega
  · by_cases h2 : k = d s
    · simp only [h1, ← h2, if_true, if_false]
      omega
    · simp only [h1, h2, if_false]
      omega
theorem MGeo.apart {G : MGeo} (h : G.mut.Nodup) : G.a2 ≠ G.a3 ∧ G.a2 ≠ G.a6 ∧ G.a2 ≠ G.a7 ∧ G.a3 ≠ G.a6 ∧ G.a3 ≠ G.a7 ∧ G.a6 ≠ G.a7 := by
  unfold MGeo.mut at h
  simp only [List.nodup_cons, List.mem_cons, List.not_mem_nil, or_false, not_or] at h
  exact ⟨h.1.1, h.1.2.1, h.1.2.2, h.2.1.1, h.2.1.2, h.2.2.1⟩
theorem il_deal (S s c : Nat) (d : Nat → Nat) : il S (Chp.fset (fun s => ((d s : Nat) : Int)) s (c : Int)) = il S fun s' => ((Chp.fset d s c s' : Nat) : Int) := il_congr fun k _ => by
  unfold Chp.fset
  by_cases h : k = s
  · rw [if_pos h, if_pos h]
  · rw [if_neg h, if_neg h]
theorem il_pay {N : Chp.Net} {s c : Nat} {d : Nat → Nat} {v : Int} (h : N.off s c = some v) : il N.S (Chp.fset (N.pay d) s v) = il N.S (N.pay (Chp.fset d s c)) := il_congr fun k _ => by
  unfold Chp.Net.pay Chp.fset
  by_cases z : k = s
  · subst z
    rw [if_pos rfl, if_pos rfl, h]
    rfl
  · rw [if_neg z, if_neg z]
/-- near: columns and how far they are -/
def nrOf (ks : List (Nat × Int)) (c : Nat) : Option Int := (ks.find? fun q => decide (q.1 = c)).map (·.2)
def nrK (ks : List (Nat × Int)) : List (Key × V) := ks.map fun q => (Sum.inl (q.1 : Int), .int q.2)
theorem nrOf_snoc {ks : List (Nat × Int)} {c : Nat} {x : Int} (h : c ∉ ks.map (·.1)) (k : Nat) : nrOf (ks ++ [(c, x)]) k = if k = c then some x else nrOf ks k := by
  unfold nrOf
  rw [List.find?_append]
  by_cases z : k = c
  · subst z
    rw [if_pos rfl]
    have : ks.find? (fun q => decide (q.1 = k)) = none := List.find?_eq_none.mpr fun q hq => by
      simp only [decide_eq_true_eq]
      exact fun e => h (e ▸ List.mem_map_of_mem hq)
    rw [this]
    simp
  · rw [if_neg z]
    have e : decide (c = k) = false := decide_eq_false fun e => z e.symm
    simp only [List.find?_cons, e, List.find?_nil, Option.or_none]
theorem up_snoc {ks : List (Nat × Int)} {c : Nat} {x top : Int} {p : Nat → Int} (h : c ∉ ks.map (·.1)) : Chp.fset (Chp.up p (nrOf ks) top) c (Chp.up p (nrOf ks) top c + top - x) = Chp.up p (nrOf (ks ++ [(c, x)])) top := by
  have e0 : nrOf ks c = none := by
    unfold nrOf
    rw [List.find?_eq_none.mpr fun q hq => ?_]
    · rfl
    · simp only [decide_eq_true_eq]
      exact fun e => h (e ▸ List.mem_map_of_mem hq)
  funext k
  unfold Chp.fset
  by_cases z : k = c
  · rw [if_pos z, Chp.up_not e0, Chp.up_near (show nrOf (ks ++ [(c, x)]) k = some x by rw [nrOf_snoc h, if_pos z]), z]
  · rw [if_neg z]
    unfold Chp.up
    rw [nrOf_snoc h, if_neg z]
end My

set_option Elab.async false
set_option linter.all false
set_option maxRecDepth 100000
set_option maxHeartbeats 1000000
namespace L2
open PySem PySem.MeetsSeq PySem.SeqAt
theorem args_minD (a v : Value) : argsOk "min" ⟨[a], [(Str.ofString "default", v)]⟩ := by unfold argsOk; kernel_rfl
section
variable {prog : Program} {w : World} {A : Around} {R : Result → Shared → Prop} {I S : Addr} {fp wr : List Addr} {n : Nat} {P : Nat → Value → Prop} {St : Nat → Heap → Prop} {G : Heap → Prop} {key : Nat → Int} {kw : List (Str × Value)}
theorem minLoopK (W : Walks prog w A.in1 I fp wr n P St) (hc : CmpG prog w A.in1 G P key) (hSf : S ∉ fp) (hG : ∀ h h', G h → Stays wr S h h' → G h') :
    ∀ (k j : Nat) (s : Shared) (x : Value) (c m : Nat), j + 1 + k = n → St (j + 1) s.heap → G s.heap → P m x → m < n → (∀ i, i ≤ j → key m ≤ key i) →
    s.heap.get? S = some ⟨.type "list", none, .seq #[x, x] c, #[]⟩ →
    (∀ v m h' tk, P m v → m < n → (∀ i, i < n → key m ≤ key i) → Stays wr S s.heap h' → R (.ok (.ret v)) { s with heap := h', toks := tk }) →
    codeAny (model prog w) A (.builtin "min.loop" ⟨[.ref I, .none, .ref S], kw⟩) R s := by
  have nw : S ∉ wr := fun h => hSf (W.sub _ h)
  have nm : (toString "min" ++ toString ".loop" : String) = "min.loop" := by decide
  intro k
  induction k with
  | zero =>
    intro j s x c m hk hst g hP hm hmin hS hR
    refine codeAny_builtin F.entry_min_loop ?_
    rw [Around.under_plainId F.plain_min_loop _]
    show wpAny _ A.in1 (seqItems? (.ref S) >>= _) _ _ s
    refine wpAny_bind (wpAny_seqItems hS rfl ?_)
    show wpAny _ A.in1 (tryCatch (pyNext (.ref I)) _ >>= _) _ _ s
    have e : j + 1 = n := hk
    refine wpAny_bind (wpAny_tryCatch (W.done s _ _ (e ▸ hst) fun h' tk st => ?_))
    show wpAny _ A.in1 (updateSeq S (fun _ => #[]) >>= _) _ _ _
    refine wpAny_bind (wpAny_updateSeq (st S _ nw hS) rfl (wpAny_bind (wpAny_letGo (wpAny_pure ?_))))
    exact hR x m _ tk hP hm (fun i hi => hmin i (by omega)) fun b o h1 h2 h3 => (Heap.get?_update_other _ _ (Ne.symm h2)).trans (st b o h1 h3)
  | succ k ih =>
    intro j s x c m hk hst g hP hm hmin hS hR
    refine codeAny_builtin F.entry_min_loop ?_
    rw [Around.under_plainId F.plain_min_loop _]
    show wpAny _ A.in1 (seqItems? (.ref S) >>= _) _ _ s
    refine wpAny_bind (wpAny_seqItems hS rfl ?_)
    show wpAny _ A.in1 (tryCatch (pyNext (.ref I)) _ >>= _) _ _ s
    refine wpAny_bind (wpAny_tryCatch (W.item (j + 1) s _ _ (by omega) hst fun y h' tk hPy st' st => ?_))
    have hS' := st S _ nw hS
    have g' : G h' := hG _ _ g fun b o h1 _ h3 => st b o h1 h3
    show wpAny _ A.in1 (tryCatch (holding [y, y] (richCompare .Lt y x >>= _)) _ >>= _) _ _ _
    refine wpAny_bind (wpAny_tryCatch (wpAny_holding (wpAny_bind (hc (j + 1) m y x _ _ _ g' hPy hP fun b b1 b0 => ?_))))
    refine wpAny_bind (wpAny_holding (wpAny_truthy_bool (wpAny_bind (wpAny_letGo (wpAny_pure ?_)))))
    cases b with
    | true =>
      have le := b1 rfl
      simp only [if_true]
      refine wpAny_bind (wpAny_updateSeq hS' rfl (wpAny_bind (wpAny_letGo ?_)))
      have st2 : ∀ f, Stays wr S h' (h'.update S f) := fun f b o _ h2 h3 => (Heap.get?_update_other _ _ (Ne.symm h2)).trans h3
      rw [nm]
      refine wpAny_pure ⟨plainId_quiet F.plain_min_loop _, ih (j + 1) _ y _ (j + 1) (by omega) (W.frame _ _ _ st' fun b hb o h3 => ?_) (hG _ _ g' (st2 _)) hPy (by omega) (fun i hi => ?_) (Heap.get?_update_self _ hS' rfl) fun v m' h2 tk2 q1 q2 q3 q4 => ?_⟩
      · exact (Heap.get?_update_other _ _ (fun h : S = b => hSf (h ▸ hb))).trans h3
      · rcases Nat.lt_or_ge i (j + 1) with z | z
        · exact Int.le_trans le (hmin i (by omega))
        · rw [show i = j + 1 by omega]
          exact Int.le_refl _
      · exact hR v m' h2 tk2 q1 q2 q3 fun b o h1 h2 h3 => q4 b o h1 h2 (st2 _ b o h1 h2 (st b o h1 h3))
    | false =>
      have le := b0 rfl
      simp only [Bool.false_eq_true, if_false]
      refine wpAny_bind (wpAny_letGo ?_)
      rw [nm]
      refine wpAny_pure ⟨plainId_quiet F.plain_min_loop _, ih (j + 1) _ x c m (by omega) st' g' hP hm (fun i hi => ?_) hS' fun v m' h2 tk2 q1 q2 q3 q4 => ?_⟩
      · rcases Nat.lt_or_ge i (j + 1) with z | z
        · exact hmin i (by omega)
        · rw [show i = j + 1 by omega]
          exact le
      · exact hR v m' h2 tk2 q1 q2 q3 fun b o h1 h2 h3 => q4 b o h1 h2 (st b o h1 h3)
theorem minGD {x dv : Value} {s : Shared} {E Q : Value → Shared → Prop}
    (h : wpAny (model prog w) A.in1 (pyIter x) (fun it s2 => ∃ (I : Addr) (fp wr : List Addr) (n : Nat) (P : Nat → Value → Prop) (St : Nat → Heap → Prop) (G : Heap → Prop) (key : Nat → Int), it = .ref I ∧ Walks prog w A.in1 I fp wr n P St ∧ St 0 s2.heap ∧ (∀ b ∈ fp, b < s2.heap.objs.size) ∧  CmpG prog w A.in1 G P key ∧
      (∀ h' : Heap, (∀ b o, b ∉ wr → s2.heap.get? b = some o → h'.get? b = some o) → G h') ∧
      (n = 0 → ∀ h' tk, (∀ b o, b ∉ wr → s2.heap.get? b = some o → h'.get? b = some o) → Q dv { s2 with heap := h', toks := tk }) ∧
      ∀ v m h' tk, P m v → m < n → (∀ i, i < n → key m ≤ key i) → (∀ b o, b ∉ wr → s2.heap.get? b = some o → h'.get? b = some o) → Q v { s2 with heap := h', toks := tk }) E s) :
    wpAny (model prog w) A (call (.builtin "min") [x] [(Str.ofString "default", dv)]) Q E s := by
  have nm : (toString "min" ++ toString ".loop" : String) = "min.loop" := by decide
  refine PyProof.Rows.kmk_tree F.kind_min F.plain_min F.entry_min (args_minD _ _) ?_
  show wpAny _ A.in1 (Builtin.Builtins.bindParams "min" ["key", "default"] 0 ⟨[], [(Str.ofString "default", dv)]⟩ >>= _) _ _ s
  refine wpAny_bind (wpAny_of_eq (show Builtin.Builtins.bindParams "min" ["key", "default"] 0 ⟨[], [(Str.ofString "default", dv)]⟩ = pure [none, some dv] from rfl) (wpAny_bind (wpAny_pure (wpAny_bind (wpAny_mono h (fun it s2 q => ?_) fun _ _ e => e)))))
  obtain ⟨I, fp, wr, n, P, St, G, key, rfl, W, hst, hfp, hc, hG, hZ, hQ⟩ := q
  refine wpAny_bind (wpAny_newObj_type ?_)
  rw [nm]
  obtain ⟨S, eS⟩ : ∃ S, S = s2.heap.objs.size := ⟨_, rfl⟩
  have hSf : S ∉ fp := fun hm => Nat.lt_irrefl _ (eS ▸ hfp _ hm)
  have nw : S ∉ wr := fun z => hSf (W.sub _ z)
  rw [← eS]
  refine wpAny_pure ⟨plainId_quiet F.plain_min_loop _, ?_⟩
  refine codeAny_builtin F.entry_min_loop ?_
  rw [Around.under_plainId F.plain_min_loop _]
  show wpAny _ A.in1 (seqItems? (.ref S) >>= _) _ _ _
  refine wpAny_bind (wpAny_seqItems (by rw [eS]; exact Heap.get?_push_size _ rfl) rfl ?_)
  show wpAny _ A.in1 (tryCatch (pyNext (.ref I)) _ >>= _) _ _ _
  have far : ∀ {b o}, s2.heap.get? b = some o → b ≠ S := fun e => by rw [eS]; exact Nat.ne_of_lt (Heap.lt_size e)
  by_cases hn : 0 < n
  case neg =>
    have h0 : n = 0 := by omega
    refine wpAny_bind (wpAny_tryCatch (W.done _ _ _ (W.frame _ _ _ (h0 ▸ hst) fun b _ o e => Heap.get?_push_of_some _ e) fun h' tk st => ?_))
    refine wpAny_bind (wpAny_rule (wpAny_pure ?_))
    exact hZ h0 h' tk fun b o h1 h3 => st b o h1 (Heap.get?_push_of_some _ h3)
  refine wpAny_bind (wpAny_tryCatch (W.item 0 _ _ _ hn (W.frame _ _ _ hst fun b _ o e => Heap.get?_push_of_some _ e) fun y h' tk hP st' st => ?_))
  have hS' := st S _ nw (by rw [eS]; exact Heap.get?_push_size _ rfl)
  show wpAny _ A.in1 (updateSeq S (fun _ => #[y, y]) >>= _) _ _ _
  refine wpAny_bind (wpAny_updateSeq hS' rfl ?_)
  have st2 : ∀ f, Stays wr S s2.heap (h'.update S f) := fun f b o h1 h2 h3 => (Heap.get?_update_other _ _ (Ne.symm h2)).trans (st b o h1 (Heap.get?_push_of_some _ h3))
  rw [nm]
  refine wpAny_pure ⟨plainId_quiet F.plain_min_loop _, minLoopK (G := fun h => Stays wr S s2.heap h) W (fun i j x y s Q E g => hc i j x y s Q E (hG _ fun b o h1 h3 => g b o h1 (far h3) h3)) hSf (fun h1 h2 g1 g2 b o n1 n2 e => g2 b o n1 n2 (g1 b o n1 n2 e)) (n - 1) 0 _ y _ 0 (by omega) (W.frame _ _ _ st' fun b hb o h3 => ?_) (st2 _) hP hn (fun i hi => ?_) (Heap.get?_update_self _ hS' rfl) fun v m h2 tk2 q1 q2 q3 q4 => ?_⟩
  · exact (Heap.get?_update_other _ _ (fun h : S = b => hSf (h ▸ hb))).trans h3
  · rw [show i = 0 by omega]
    exact Int.le_refl _
  · exact hQ v m h2 tk2 q1 q2 q3 fun b o h1 h3 => q4 b o h1 (far h3) (st2 _ b o h1 (far h3) h3)
end
section
open PySem.Spec PyProof.Rows
variable {X : Cx}
theorem int_at : ∀ {ns : List Int} {its : List Value} {i : Nat} {v : Value}, Vals (ns.map V.int) its → its[i]? = some v → ∃ a t, ns[i]? = some a ∧ v = .int a t
  | [], _, _, _, h, e => by cases h; simp at e
  | n :: ns, _, i, v, h, e => by
    cases h with
    | cons a t =>
      obtain ⟨tk, rfl⟩ := a
      cases i with
      | zero => cases e; exact ⟨n, tk, rfl, rfl⟩
      | succ i => exact int_at (ns := ns) t e
def tMinD (K : PySem.W.Frag) (te : TE) : TE := fun σ H Q => te σ H fun x H1 => ∃ (p : Addr) (ns : List Int), x = .ref p ∧ SqL K H1 p (ns.map V.int) ∧ (ns = [] → Q (.int 0) H1) ∧ ∀ M, M ∈ ns → (∀ a ∈ ns, M ≤ a) → Q (.int M) H1
theorem pe_minD {e : Expr} {te : TE} {p pos kp ip : Pos} {j : Nat} (hc : X.calm = true) (hg : Gl X "min") (hm : X.mg "min" = none) (he : PE X e te) (hs : starEach [e] X.env = [(false, eval e X.env)] := by rfl) : PE X (.Call (.Name "min" p) [e] [⟨some "default", .Constant (.int 0) j ip, kp⟩] pos) (tMinD X.K te) := by
  intro pins s σ H Q I h
  refine wpAny_Call_Name_kw (ld_blt I hg hm PyProof.Rows.boot_min ?_)
  refine callWith_kw ?_ (by rw [hs]; rfl) (by rw [hs]; rfl)
  rw [hs]
  refine Calls.spliced_cons (thn (he pins s σ H _ I h) fun v s1 ⟨x, H1, I1, rx, q⟩ => Calls.spliced_nil ?_)
  refine kws_cons (wpAny_Constant_int (kws_nil ?_))
  obtain ⟨l, ns, rfl, hp, q0, q1⟩ := q
  cases rx
  have I2 := I1.tok (s1.toks + 1)
  show wpAny (model X.prog X.w) X.A (call (Value.builtin "min") [Value.ref l] [(Str.ofString "default", Value.int 0 s1.toks)]) _ _ _
  obtain ⟨its, ri, pl, hz⟩ := I2.list hp
  have hlen := ri.length
  rw [List.length_map] at hlen
  have hl := pl.isList
  generalize { heap := s1.heap, gens := s1.gens, drawn := s1.drawn, toks := s1.toks + 1, os := s1.os : Shared } = s2 at I2 hl ⊢
  have hlt : l < s2.heap.objs.size := by obtain ⟨_, e, _⟩ := hl; exact Heap.lt_size e
  refine minGD (wpAny_pyIter_list hl ?_)
  have kp : ∀ b o, s2.heap.get? b = some o → b ≠ s2.heap.objs.size := fun b o e => Nat.ne_of_lt (Heap.lt_size e)
  refine ⟨s2.heap.objs.size, [_, l], [_], its.toArray.size, _, _, fun h => ∀ b o, s2.heap.get? b = some o → h.get? b = some o, fun i => ns.getD i 0, rfl, Walks.list (A := X.A.in1) (I2.ok.hd hc) _ l (Nat.ne_of_lt hlt) its.toArray, ⟨⟨_, Heap.get?_push_size _ rfl, rfl, rfl⟩, hl.push _⟩, fun b hb => ?_, ?_, fun h' hk b o e => hk b o (by simpa using kp b o e) (Heap.get?_push_of_some _ e), fun hn h' tk hk => ?_, fun v m h' tk hPm hm hmin hk => ?_⟩
  · show b < (s2.heap.push _).objs.size
    rw [Heap.size_push]
    rcases List.mem_cons.mp hb with rfl | hb
    · exact Nat.lt_succ_self _
    · cases List.mem_singleton.mp hb
      exact Nat.lt_succ_of_lt hlt
  · intro i j x y s' Q' E' g hi hj hq
    rw [List.getElem?_toArray] at hi hj
    obtain ⟨a, t, ha, rfl⟩ := int_at ri hi
    obtain ⟨b, u, hb, rfl⟩ := int_at ri hj
    have e1 : ns.getD i 0 = a := by rw [List.getD_eq_getElem?_getD, ha]; rfl
    have e2 : ns.getD j 0 = b := by rw [List.getD_eq_getElem?_getD, hb]; rfl
    refine LtAt.int a b t u X.prog X.w E' Q' (hq _ ?_ ?_)
    · dsimp only
      rw [e1, e2]
      exact fun z => Int.le_of_lt (of_decide_eq_true z)
    · dsimp only
      rw [e1, e2]
      exact fun z => Int.not_lt.mp (of_decide_eq_false z)
  · refine ⟨.int 0, H1, I2.kept (fun b o e => hk b o (by simpa using kp b o e) (Heap.get?_push_of_some _ e)), ⟨_, rfl⟩, q0 ?_⟩
    have : its.length = 0 := by simpa using hn
    exact List.eq_nil_of_length_eq_zero (by omega)
  · rw [List.getElem?_toArray] at hPm
    obtain ⟨a, t, ha, rfl⟩ := int_at ri hPm
    refine ⟨.int a, H1, I2.kept (fun b o e => hk b o (by simpa using kp b o e) (Heap.get?_push_of_some _ e)), ⟨_, rfl⟩, q1 a (List.mem_of_getElem? ha) fun b hb => ?_⟩
    obtain ⟨j, hj⟩ := List.getElem?_of_mem hb
    have hj' := (List.getElem?_eq_some_iff.mp hj).1
    have := hmin j (by simp; omega)
    dsimp only at this
    rw [List.getD_eq_getElem?_getD, List.getD_eq_getElem?_getD, ha, hj] at this
    exact this
end
end L2

set_option Elab.async false
set_option linter.all false
set_option maxRecDepth 100000
set_option maxHeartbeats 1000000
namespace L2
open PySem PySem.Spec PyProof.Rows
section
variable {prog : Program} {w : World} {A : Around} {E : Value → Shared → Prop}
theorem draw_list {I l : Addr} {items : Array Value} (hh : A.handled = none) (hne : l ≠ I) : ∀ (n i : Nat) (s : Shared) (Q : List Value → Shared → Prop), s.heap.IsListIter I l i → s.heap.IsList l items → i + n ≤ items.size →
    (∀ h' tk, h'.IsListIter I l (i + n) → h'.IsList l items → (∀ b o, b ∉ [I] → s.heap.get? b = some o → h'.get? b = some o) → Q ((items.toList.drop i).take n) { s with heap := h', toks := tk }) → wpAny (model prog w) A (draw (.ref I) n) Q E s
  | 0, i, s, Q, hit, hl, _, hQ => by
    show wpAny _ _ (pure []) Q E s
    exact wpAny_pure (by simpa using hQ s.heap s.toks hit hl fun _ _ _ e => e)
  | n + 1, i, s, Q, hit, hl, hle, hQ => by
    have hlt : i < items.size := by omega
    have W := Walks.list (prog := prog) (w := w) (A := A) hh I l hne items
    show wpAny _ _ (pyNext (.ref I) >>= _) Q E s
    refine wpAny_bind (W.item i s _ _ hlt ⟨hit, hl⟩ fun v h1 tk1 hv st1 k1 => ?_)
    refine wpAny_bind (wpAny_holding (draw_list hh hne n (i + 1) _ _ st1.1 st1.2 (by omega) fun h2 tk2 it2 l2 k2 => wpAny_pure ?_))
    have hv' : items[i] = v := by simpa [hlt] using hv
    have hd : items.toList.drop i = v :: items.toList.drop (i + 1) := by simp [List.drop_eq_getElem_cons, hlt, hv']
    have := hQ h2 tk2 (by rw [show i + (n + 1) = i + 1 + n by omega]; exact it2) l2 fun b o n1 e => k2 b o n1 (k1 b o n1 e)
    rw [hd, List.take_succ_cons] at this
    exact this
theorem unpackItems_list {s : Shared} {l : Addr} {items : Array Value} {Q : List Value → Shared → Prop} (hh : A.handled = none) (hl : s.heap.IsList l items)
    (hQ : ∀ h' tk, (∀ b o, s.heap.get? b = some o → h'.get? b = some o) → Q items.toList { s with heap := h', toks := tk }) : wpAny (model prog w) A (unpackItems (.ref l) items.size none) Q E s := by
  have hlt : l < s.heap.objs.size := by obtain ⟨o, ho, _⟩ := hl; exact Heap.lt_size ho
  have kp : ∀ b o, s.heap.get? b = some o → b ≠ s.heap.objs.size := fun b o e => Nat.ne_of_lt (Heap.lt_size e)
  unfold unpackItems
  refine wpAny_bind ?_
  unfold notIterableAtAll
  refine wpAny_bind (wpAny_specialOf hl.typeIs slot_list_iter.lookup ?_)
  refine wpAny_pure ?_
  simp only [Bool.false_eq_true, if_false]
  refine wpAny_bind (wpAny_holding (wpAny_pyIter_list hl ?_))
  refine wpAny_bind (wpAny_holding (draw_list hh (Nat.ne_of_lt hlt) items.size 0 _ _ ⟨_, Heap.get?_push_size _ rfl, rfl, rfl⟩ (hl.push _) (by omega) fun h1 tk1 it1 l1 k1 => ?_))
  have hall : List.take items.size (List.drop 0 items.toList) = items.toList := by
    rw [List.drop_zero]; exact List.take_of_length_le (by simp)
  rw [hall]
  rw [if_neg (by simp)]
  have W := Walks.list (prog := prog) (w := w) (A := A) hh s.heap.objs.size l (Nat.ne_of_lt hlt) items
  refine wpAny_bind (wpAny_holding (W.done _ _ _ ⟨by rw [Nat.zero_add] at it1; exact it1, l1⟩ fun h2 tk2 k2 => ?_))
  simp only [Option.isSome_none, Bool.false_eq_true, if_false]
  exact wpAny_pure (hQ h2 tk2 fun b o e => k2 b o (by simpa using kp b o e) (k1 b o (by simpa using kp b o e) (Heap.get?_push_of_some _ e)))
theorem assign_Tuple_list {s : Shared} {env : Env} {elts : List Expr} {x1} {pos : Pos} {t : Addr} {items : Array Value} {Q : Unit → Shared → Prop} (hh : A.handled = none) (ht : s.heap.IsList t items)
    (hn : (assignEach elts env).length = items.size) (hstar : (assignEach elts env).findIdx? (·.1) = none)
    (h : ∀ h' tk, (∀ b o, s.heap.get? b = some o → h'.get? b = some o) → wpAny (model prog w) A (assignInOrder ((assignEach elts env).map (·.2)) items.toList) Q E { s with heap := h', toks := tk }) :
    wpAny (model prog w) A (assign (.Tuple elts x1 pos) env (.ref t)) Q E s := by
  rw [assign_Tuple]
  refine wpAny_bind (wpAny_standAt ?_)
  unfold unpack
  rw [hn, hstar]
  exact wpAny_bind (wpAny_holding (unpackItems_list hh ht h))
end
section
variable {X : Cx}
def gLst (K : PySem.W.Frag) (n : Nat) (t : TGs) : TG := fun v σ H Q => ∃ a xs, v = .ref a ∧ SqL K H a xs ∧ xs.length = n ∧ t xs σ H Q
theorem pg_lst {es : List Expr} {k : Nat} {t : TGs} {n : Nat} {pos : Pos} (hc : X.calm = true) (h : PGs X es t)
    (hn : (assignEach es X.env).length = n := by rfl) (hst : (assignEach es X.env).findIdx? (·.1) = none := by rfl) : PG X (.Tuple es k pos) (gLst X.K n t) := by
  intro pins s σ H v u Q I r hw
  obtain ⟨a, xs, e1, hq, hl, hw⟩ := hw
  subst e1
  cases r
  obtain ⟨its, rv, pl, hz⟩ := I.list hq
  refine assign_Tuple_list (I.ok.hd hc) pl.isList (by simp [hn, ← hl, rv.length]) hst fun h' tk hx => ?_
  exact h pins _ σ H xs _ Q (I.kept hx) (by simpa using rv) hw
end
end L2

set_option Elab.async false
set_option linter.all false
set_option maxRecDepth 100000
set_option maxHeartbeats 1000000
namespace My
open PySem L2
structure IniI (H : Hp) (C x dx : Addr) (fs : List (Str × V)) (H' : Hp) : Prop where
  k : ∀ c o, H c = some o → c ≠ x → H' c = some o
  x_ : H' x = some (.ins C dx fs)
  z : ∀ c, H' c = none → H c = none
section
variable {H H' : Hp} {C x dx p : Addr} {fs : List (Str × V)}
theorem IniI.fld (I : IniI H C x dx fs H') (f : Str) (v : V) : IniI H C x dx (putF f v fs) (upd H' x (.ins C dx (putF f v fs))) := by
  refine ⟨fun c u e n => by rw [upd_ne n]; exact I.k c u e n, upd_same, fun c e => ?_⟩
  by_cases n : c = x
  · rw [n, upd_same] at e; cases e
  · rw [upd_ne n] at e; exact I.z c e
/-- a tracked list that is not of the entry changes -/
theorem IniI.put (I : IniI H C x dx fs H') {o u : HO} (hn : H p = none) (hp : H' p = some u) (hx : p ≠ x) : IniI H C x dx fs (upd H' p o) := by
  refine ⟨fun c v e n => by rw [upd_ne (ne_of_none e hn)]; exact I.k c v e n, by rw [upd_ne hx.symm]; exact I.x_, fun c e => ?_⟩
  by_cases n : c = p
  · rw [n, upd_same] at e; cases e
  · rw [upd_ne n] at e; exact I.z c e
end
/-- new things, one by one, in the list at L -/
structure MkI (H : Hp) (L : Addr) (P : Hp → Addr → Prop) (i : Nat) (H' : Hp) (ds : List Addr) : Prop where
  same : Same H H'
  at_ : H' L = some (.lst (ds.map V.ref))
  len : ds.length = i
  nd : ds.Nodup
  fr : ∀ d ∈ ds, H d = none ∧ d ≠ L
  pr : ∀ d ∈ ds, P H' d
theorem MkI.ini {H : Hp} {L : Addr} {P : Hp → Addr → Prop} (hL : H L = none) : MkI H L P 0 (upd H L (.lst [])) [] :=
  ⟨same_new hL _, upd_same, rfl, List.nodup_nil, (fun d z => by cases z), (fun d z => by cases z)⟩
theorem MkI.step {H H' : Hp} {L p : Addr} {i : Nat} {ds : List Addr} {o : HO} (M : MkI H L (fun H d => H d = some o) i H' ds) (hL : H L = none) (hp : H' p = none) :
    MkI H L (fun H d => H d = some o) (i + 1) (upd (upd H' p o) L (.lst (ds.map V.ref ++ [.ref p]))) (ds ++ [p]) := by
  have g := same_new hp o
  have nL : p ≠ L := fun z => by rw [z, M.at_] at hp; cases hp
  have ndp : p ∉ ds := fun z => by have := M.pr p z; rw [hp] at this; cases this
  refine ⟨same_upd hL (M.same.trans g) _, by rw [upd_same, List.map_append]; rfl, by rw [List.length_append, M.len]; rfl, ?_, fun d hd => ?_, fun d hd => ?_⟩
  · rw [List.nodup_append]
    refine ⟨M.nd, by simp, fun a ha b hb e => ?_⟩
    rw [List.mem_singleton.mp hb] at e
    exact ndp (e ▸ ha)
  · rcases List.mem_append.mp hd with z | z
    · exact M.fr d z
    · rw [List.mem_singleton.mp z]
      exact ⟨M.same.free hp, nL⟩
  · rcases List.mem_append.mp hd with z | z
    · show upd _ L _ d = _
      rw [upd_ne (M.fr d z).2]
      exact g _ _ (M.pr d z)
    · rw [List.mem_singleton.mp z]
      show upd _ L _ p = _
      rw [upd_ne nL, upd_same]
theorem IniI.mono {H H' H2 : Hp} {C x dx : Addr} {fs : List (Str × V)} (I : IniI H C x dx fs H') (g : Same H' H2) : IniI H C x dx fs H2 := ⟨fun c o e n => g _ _ (I.k c o e n), g _ _ I.x_, fun c e => I.z c (g.free e)⟩
section
variable {H H' H2 : Hp} {C x dx a1 a2 a3 a4 a5 a6 a7 : Addr} {n k : Nat} {ds es : List Addr}
end
end My

set_option Elab.async false
set_option linter.all false
set_option maxRecDepth 100000
set_option maxHeartbeats 1000000
namespace My
open PySem L2
/-- the keys of a dict -/
def KN (kvs : List (Key × V)) (L : List Nat) : Prop := kvs.map (·.1) = L.map fun y : Nat => (Sum.inl (y : Int) : Key)
theorem KN.mem {kvs : List (Key × V)} {L : List Nat} (h : KN kvs L) (y : Nat) : (kvs.any fun kv => decide (kv.1 = (Sum.inl (y : Int) : Key))) = decide (y ∈ L) := by
  have e : (kvs.any fun kv => decide (kv.1 = (Sum.inl (y : Int) : Key))) = ((kvs.map (·.1)).any fun k => decide (k = (Sum.inl (y : Int) : Key))) := by rw [List.any_map]; rfl
  rw [e, h, List.any_map]
  clear e h
  induction L with
  | nil => rfl
  | cons z r ih =>
    rw [List.any_cons, ih]
    have : (decide ((Sum.inl (z : Int) : Key) = Sum.inl (y : Int))) = decide (y = z) := decide_eq_decide.mpr ⟨fun q => by have := Sum.inl.inj q; lia, fun q => by rw [q]⟩
    show (decide ((Sum.inl (z : Int) : Key) = Sum.inl (y : Int)) || _) = _
    rw [this]
    by_cases e1 : y = z <;> by_cases e2 : y ∈ r <;> simp [e1, e2]
end My

set_option Elab.async false
set_option linter.all false
set_option maxRecDepth 100000
set_option maxHeartbeats 1000000
namespace My
open PySem L2
section
variable {β : Type}
def lkp (ks : List (Nat × β)) (c : Nat) : Option β := (ks.find? fun q => decide (q.1 = c)).map (·.2)
def putN (ks : List (Nat × β)) (c : Nat) (y : β) : List (Nat × β) := if c ∈ ks.map (·.1) then ks.map (fun q => if q.1 = c then (q.1, y) else q) else ks ++ [(c, y)]
def dropN (ks : List (Nat × β)) (c : Nat) : List (Nat × β) := ks.filter fun q => decide (q.1 ≠ c)
theorem lkp_pos {q : Nat × β} {r : List (Nat × β)} {c : Nat} (e : q.1 = c) : lkp (q :: r) c = some q.2 := by simp [lkp, List.find?_cons, e]
theorem lkp_neg {q : Nat × β} {r : List (Nat × β)} {c : Nat} (e : ¬ q.1 = c) : lkp (q :: r) c = lkp r c := by simp [lkp, List.find?_cons, e]
theorem lkp_none {c : Nat} : ∀ {ks : List (Nat × β)}, lkp ks c = none ↔ c ∉ ks.map (·.1)
  | [] => by simp [lkp]
  | q :: r => by
    by_cases e : q.1 = c
    · rw [lkp_pos e]; simp [e]
    · rw [lkp_neg e, lkp_none (ks := r)]
      have : ¬ c = q.1 := fun z => e z.symm
      simp [this]
theorem lkp_mem {c : Nat} {y : β} : ∀ {ks : List (Nat × β)}, lkp ks c = some y → (c, y) ∈ ks
  | [], h => by cases h
  | q :: r, h => by
    by_cases e : q.1 = c
    · rw [lkp_pos e] at h
      cases h
      exact List.mem_cons.mpr (.inl (by rw [← e]))
    · rw [lkp_neg e] at h
      exact List.mem_cons_of_mem _ (lkp_mem h)
theorem lkp_of {c : Nat} {y : β} : ∀ {ks : List (Nat × β)}, (ks.map (·.1)).Nodup → (c, y) ∈ ks → lkp ks c = some y
  | q :: r, nd, h => by
    rw [List.map_cons, List.nodup_cons] at nd
    rcases List.mem_cons.mp h with e | h
    · subst e; exact lkp_pos rfl
    · rw [lkp_neg fun e => nd.1 (by rw [e]; exact List.mem_map_of_mem (f := (·.1)) h)]
      exact lkp_of nd.2 h
theorem lkp_map (c j : Nat) (y : β) : ∀ ks : List (Nat × β), lkp (ks.map fun q => if q.1 = c then (q.1, y) else q) j = (lkp ks j).map fun x => if j = c then y else x
  | [] => rfl
  | q :: r => by
    rw [List.map_cons]
    by_cases e : q.1 = j
    · rw [lkp_pos e]
      by_cases z : q.1 = c
      · rw [if_pos z, lkp_pos (q := (q.1, y)) e, Option.map_some, if_pos (by rw [← e, z])]
      · rw [if_neg z, lkp_pos e, Option.map_some, if_neg (by rw [← e]; exact z)]
    · rw [lkp_neg e, ← lkp_map c j y r]
      by_cases z : q.1 = c
      · rw [if_pos z, lkp_neg (q := (q.1, y)) e]
      · rw [if_neg z, lkp_neg e]
theorem lkp_snoc (c j : Nat) (y : β) : ∀ {ks : List (Nat × β)}, c ∉ ks.map (·.1) → lkp (ks ++ [(c, y)]) j = if j = c then some y else lkp ks j
  | [], _ => by
    by_cases e : j = c
    · rw [if_pos e]; exact lkp_pos e.symm
    · rw [if_neg e]; exact lkp_neg fun z => e z.symm
  | q :: r, h => by
    rw [List.map_cons, List.mem_cons, not_or] at h
    rw [List.cons_append]
    by_cases e : q.1 = j
    · rw [lkp_pos e, lkp_pos e, if_neg fun z => h.1 (by rw [← z, e])]
    · rw [lkp_neg e, lkp_neg e, lkp_snoc c j y h.2]
theorem lkp_put (ks : List (Nat × β)) (c j : Nat) (y : β) : lkp (putN ks c y) j = if j = c then some y else lkp ks j := by
  unfold putN
  by_cases h : c ∈ ks.map (·.1)
  · rw [if_pos h, lkp_map]
    by_cases e : j = c
    · subst e
      rw [if_pos rfl]
      cases z : lkp ks j with
      | none => exact absurd h (lkp_none.mp z)
      | some x => rw [Option.map_some, if_pos rfl]
    · rw [if_neg e]
      cases z : lkp ks j with
      | none => rfl
      | some x => rw [Option.map_some, if_neg e]
  · rw [if_neg h, lkp_snoc c j y h]
theorem lkp_putF (ks : List (Nat × β)) (c : Nat) (y : β) : lkp (putN ks c y) = Chp.fset (lkp ks) c (some y) := funext fun j => by rw [lkp_put]; rfl
theorem lkp_drop (ks : List (Nat × β)) (c j : Nat) : lkp (dropN ks c) j = if j = c then none else lkp ks j := by
  induction ks with
  | nil => simp [lkp, dropN]
  | cons q r ih =>
    unfold dropN at ih ⊢
    rw [List.filter_cons]
    by_cases z : q.1 = c
    · rw [if_neg (by simp [z]), ih]
      by_cases e : j = c
      · rw [if_pos e, if_pos e]
      · rw [if_neg e, if_neg e, lkp_neg fun w => e (by rw [← w, z])]
    · rw [if_pos (by simp [z])]
      by_cases e : q.1 = j
      · rw [lkp_pos e, lkp_pos e, if_neg (by rw [← e]; exact z)]
      · rw [lkp_neg e, lkp_neg e, ih]
theorem lkp_dropF (ks : List (Nat × β)) (c : Nat) : lkp (dropN ks c) = Chp.fset (lkp ks) c none := funext fun j => by rw [lkp_drop]; rfl
theorem keys_putN (ks : List (Nat × β)) (c : Nat) (y : β) : (putN ks c y).map (·.1) = if c ∈ ks.map (·.1) then ks.map (·.1) else ks.map (·.1) ++ [c] := by
  unfold putN
  by_cases h : c ∈ ks.map (·.1)
  · rw [if_pos h, if_pos h, List.map_map]
    refine List.map_congr_left fun q _ => ?_
    show (if q.1 = c then (q.1, y) else q).1 = q.1
    split <;> rfl
  · rw [if_neg h, if_neg h, List.map_append]
    rfl
/-- its keys are columns, each once -/
structure Kok (M : Nat) (ks : List (Nat × β)) : Prop where
  nd : (ks.map (·.1)).Nodup
  lt : ∀ c ∈ ks.map (·.1), c < M
theorem Kok.len {M : Nat} {ks : List (Nat × β)} (h : Kok M ks) : ks.length ≤ M := by
  have := nodup_le h.nd h.lt
  rw [List.length_map] at this
  exact this
theorem Kok.put {M : Nat} {ks : List (Nat × β)} (h : Kok M ks) {c : Nat} (hc : c < M) (y : β) : Kok M (putN ks c y) := by
  refine ⟨?_, fun k hk => ?_⟩
  · rw [keys_putN]; exact nodup_add h.nd
  · rw [keys_putN] at hk
    rcases mem_add.mp hk with hk | hk
    · exact h.lt k hk
    · rw [hk]; exact hc
theorem Kok.drop {M : Nat} {ks : List (Nat × β)} (h : Kok M ks) (c : Nat) : Kok M (dropN ks c) := by
  have e : (dropN ks c).map (·.1) = (ks.map (·.1)).filter fun k => decide (k ≠ c) := by
    unfold dropN
    rw [List.filter_map]
    rfl
  exact ⟨by rw [e]; exact h.nd.filter _, fun k hk => by rw [e] at hk; exact h.lt k (List.mem_filter.mp hk).1⟩
def DcR (R : Nat → β → V → Prop) (kv : Key × V) (q : Nat × β) : Prop := kv.1 = Sum.inl (q.1 : Int) ∧ R q.1 q.2 kv.2
theorem inl_eq {a b : Nat} : ((Sum.inl (a : Int) : Key) = Sum.inl (b : Int)) ↔ a = b := ⟨fun z => by have := Sum.inl.inj z; omega, fun z => by rw [z]⟩
variable {R : Nat → β → V → Prop}
theorem dc_val {c : Nat} : ∀ {kvs : List (Key × V)} {ks : List (Nat × β)}, Paired (DcR R) kvs ks → (lkp ks c = none → valV kvs (Sum.inl (c : Int)) = none) ∧ ∀ y, lkp ks c = some y → ∃ v, valV kvs (Sum.inl (c : Int)) = some v ∧ R c y v
  | _, _, .nil => ⟨fun _ => rfl, fun y h => by cases h⟩
  | kv :: kvs, q :: ks, .cons a t => by
    obtain ⟨a1, a2⟩ := a
    have ih := dc_val (c := c) t
    by_cases e : q.1 = c
    · rw [lkp_pos e]
      refine ⟨fun z => (nomatch z), fun y h => ?_⟩
      cases h
      exact ⟨kv.2, valV_pos (by rw [a1, e]), e ▸ a2⟩
    · rw [lkp_neg e]
      have : ¬ kv.1 = Sum.inl (c : Int) := fun z => e (by rw [a1] at z; exact inl_eq.mp z)
      rw [valV_neg this]
      exact ih
theorem dc_keys : ∀ {kvs : List (Key × V)} {ks : List (Nat × β)}, Paired (DcR R) kvs ks → KN kvs (ks.map (·.1))
  | _, _, .nil => rfl
  | kv :: kvs, q :: ks, .cons a t => by
    unfold KN
    rw [List.map_cons, List.map_cons, List.map_cons, dc_keys t, a.1]
theorem dc_map {c : Nat} {y : β} {v : V} (r : R c y v) : ∀ {kvs : List (Key × V)} {ks : List (Nat × β)}, Paired (DcR R) kvs ks → Paired (DcR R) (kvs.map fun kv => if kv.1 = Sum.inl (c : Int) then (kv.1, v) else kv) (ks.map fun q => if q.1 = c then (q.1, y) else q)
  | _, _, .nil => .nil
  | kv :: kvs, q :: ks, .cons a t => by
    rw [List.map_cons, List.map_cons]
    refine .cons ?_ (dc_map r t)
    by_cases e : q.1 = c
    · rw [if_pos e, if_pos (by rw [a.1, e])]
      exact ⟨a.1, e ▸ r⟩
    · rw [if_neg e, if_neg fun z => e (by rw [a.1] at z; exact inl_eq.mp z)]
      exact a
theorem dc_put {c : Nat} {y : β} {v : V} {kvs : List (Key × V)} {ks : List (Nat × β)} (h : Paired (DcR R) kvs ks) (r : R c y v) : Paired (DcR R) (putK kvs (Sum.inl (c : Int)) v) (putN ks c y) := by
  unfold putK putN
  rw [(dc_keys h).mem]
  by_cases e : c ∈ ks.map (·.1)
  · rw [if_pos e, if_pos (decide_eq_true e)]
    exact dc_map r h
  · rw [if_neg e, if_neg (by rw [decide_eq_false e]; decide)]
    exact paired_snoc h ⟨rfl, r⟩
theorem dc_drop (c : Nat) : ∀ {kvs : List (Key × V)} {ks : List (Nat × β)}, Paired (DcR R) kvs ks → Paired (DcR R) (dropK kvs (Sum.inl (c : Int))) (dropN ks c)
  | _, _, .nil => .nil
  | kv :: kvs, q :: ks, .cons a t => by
    have ih := dc_drop c t
    unfold dropK dropN at ih ⊢
    rw [List.filter_cons, List.filter_cons]
    by_cases e : q.1 = c
    · rw [if_neg (by simp [a.1, e]), if_neg (by simp [e])]
      exact ih
    · rw [if_pos (by simp only [a.1, ne_eq, inl_eq, e]; decide), if_pos (by simp [e])]
      exact .cons a ih
end
theorem nrK_pair : ∀ ks : List (Nat × Int), Paired (DcR fun _ y v => v = .int y) (nrK ks) ks
  | [] => .nil
  | _ :: ks => .cons ⟨rfl, rfl⟩ (nrK_pair ks)
theorem pair_nrK : ∀ {kvs : List (Key × V)} {ks : List (Nat × Int)}, Paired (DcR fun _ y v => v = .int y) kvs ks → kvs = nrK ks
  | _, _, .nil => rfl
  | kv :: kvs, q :: ks, .cons a t => by
    rw [pair_nrK t]
    unfold nrK
    rw [List.map_cons, ← a.1, ← a.2]
theorem nrK_put (ks : List (Nat × Int)) (c : Nat) (y : Int) : putK (nrK ks) (Sum.inl (c : Int)) (.int y) = nrK (putN ks c y) := pair_nrK (dc_put (R := fun _ y v => v = V.int y) (nrK_pair ks) rfl)
theorem nrK_val (ks : List (Nat × Int)) (c : Nat) : valV (nrK ks) (Sum.inl (c : Int)) = (lkp ks c).map V.int := by
  obtain ⟨h1, h2⟩ := dc_val (c := c) (nrK_pair ks)
  cases e : lkp ks c with
  | none => exact h1 e
  | some y =>
    obtain ⟨v, z, rfl⟩ := h2 y e
    exact z
def FarR (H : Hp) (c : Nat) (y : Int) (v : V) : Prop := ∃ t b, v = .ref t ∧ H t = some (.tup [.int y, .bl b, .int (c : Int)])
def MovR (H : Hp) (_ : Nat) (q : Nat × Nat) (v : V) : Prop := ∃ t, v = .ref t ∧ H t = some (.tup [.int (q.1 : Int), .int (q.2 : Int)])
def mvOf (ms : List (Nat × (Nat × Nat))) (c : Nat) : Nat × Nat := (lkp ms c).getD (0, 0)
theorem mvOf_put (ms : List (Nat × (Nat × Nat))) (c : Nat) (q : Nat × Nat) : mvOf (putN ms c q) = Chp.fset (mvOf ms) c q := funext fun j => by
  unfold mvOf Chp.fset
  rw [lkp_put]
  by_cases e : j = c
  · rw [if_pos e, if_pos e]; rfl
  · rw [if_neg e, if_neg e]
/-- the three dicts of a search -/
structure Srh (H : Hp) (an af am : Addr) (ns fs : List (Nat × Int)) (ms : List (Nat × (Nat × Nat))) (M : Nat) : Prop where
  n : H an = some (.dK (nrK ns))
  f : ∃ kvs, H af = some (.dK kvs) ∧ Paired (DcR (FarR H)) kvs fs
  m : ∃ kvs, H am = some (.dK kvs) ∧ Paired (DcR (MovR H)) kvs ms
  kn : Kok M ns
  kf : Kok M fs
  km : Kok M ms
  nf : an ≠ af
  nm : an ≠ am
  fm : af ≠ am
theorem FarR.mono {H H' : Hp} (k : ∀ t xs, H t = some (.tup xs) → H' t = some (.tup xs)) {c : Nat} {y : Int} {v : V} (h : FarR H c y v) : FarR H' c y v := by
  obtain ⟨t, b, e, h⟩ := h
  exact ⟨t, b, e, k _ _ h⟩
theorem MovR.mono {H H' : Hp} (k : ∀ t xs, H t = some (.tup xs) → H' t = some (.tup xs)) {c : Nat} {q : Nat × Nat} {v : V} (h : MovR H c q v) : MovR H' c q v := by
  obtain ⟨t, e, h⟩ := h
  exact ⟨t, e, k _ _ h⟩
section
variable {H H' : Hp} {an af am : Addr} {ns fs : List (Nat × Int)} {ms : List (Nat × (Nat × Nat))} {M : Nat}
theorem Srh.kp {L : List Addr} (S : Srh H an af am ns fs ms M) (g : KpL L H H') (h1 : an ∉ L) (h2 : af ∉ L) (h3 : am ∉ L) (ht : ∀ c ∈ L, ∀ ts, H c ≠ some (.tup ts)) : Srh H' an af am ns fs ms M := by
  obtain ⟨fk, ef, pf⟩ := S.f
  obtain ⟨mk, em, pm⟩ := S.m
  have k : ∀ t xs, H t = some (.tup xs) → H' t = some (.tup xs) := fun t xs e => g _ _ e fun z => ht t z _ e
  exact ⟨g _ _ S.n h1, ⟨fk, g _ _ ef h2, Paired.mapP pf fun a b h => ⟨h.1, h.2.mono k⟩⟩, ⟨mk, g _ _ em h3, Paired.mapP pm fun a b h => ⟨h.1, h.2.mono k⟩⟩, S.kn, S.kf, S.km, S.nf, S.nm, S.fm⟩
theorem Srh.same (S : Srh H an af am ns fs ms M) (g : Same H H') : Srh H' an af am ns fs ms M := S.kp (L := []) (KpL.same g) (fun z => by cases z) (fun z => by cases z) (fun z => by cases z) fun c z => by cases z
/-- far gets an entry -/
theorem Srh.putF (S : Srh H an af am ns fs ms M) {c : Nat} (hc : c < M) {y : Int} {b : Bool} {t : Addr} (ht : H t = some (.tup [.int y, .bl b, .int (c : Int)])) (hM : M ≤ 40) : ∃ kvs, H af = some (.dK kvs) ∧ kvs.length < sizeLine ∧ Srh (upd H af (.dK (putK kvs (Sum.inl (c : Int)) (.ref t)))) an af am ns (putN fs c y) ms M := by
  obtain ⟨fk, ef, pf⟩ := S.f
  obtain ⟨mk, em, pm⟩ := S.m
  have hl := Paired.length pf
  have := S.kf.len
  have k : ∀ t xs, H t = some (.tup xs) → upd H af (.dK (putK fk (Sum.inl (c : Int)) (.ref t))) t = some (.tup xs) := fun t xs e => by
    rw [upd_ne fun z => by rw [z, ef] at e; cases e]; exact e
  have k' : ∀ o t xs, H t = some (.tup xs) → upd H af (.dK o) t = some (.tup xs) := fun o t xs e => by
    rw [upd_ne fun z => by rw [z, ef] at e; cases e]; exact e
  refine ⟨fk, ef, small1000 (by omega), by rw [upd_ne S.nf]; exact S.n, ⟨_, upd_same, dc_put (Paired.mapP pf fun a b h => ⟨h.1, h.2.mono (k' _)⟩) ⟨t, b, rfl, k' _ _ _ ht⟩⟩, ⟨mk, by rw [upd_ne S.fm.symm]; exact em, Paired.mapP pm fun a b h => ⟨h.1, h.2.mono (k' _)⟩⟩, S.kn, S.kf.put hc _, S.km, S.nf, S.nm, S.fm⟩
theorem Srh.putM (S : Srh H an af am ns fs ms M) {c : Nat} (hc : c < M) {q : Nat × Nat} {t : Addr} (ht : H t = some (.tup [.int (q.1 : Int), .int (q.2 : Int)])) (hM : M ≤ 40) : ∃ kvs, H am = some (.dK kvs) ∧ kvs.length < sizeLine ∧ Srh (upd H am (.dK (putK kvs (Sum.inl (c : Int)) (.ref t)))) an af am ns fs (putN ms c q) M := by
  obtain ⟨fk, ef, pf⟩ := S.f
  obtain ⟨mk, em, pm⟩ := S.m
  have hl := Paired.length pm
  have := S.km.len
  have k' : ∀ o t xs, H t = some (.tup xs) → upd H am (.dK o) t = some (.tup xs) := fun o t xs e => by
    rw [upd_ne fun z => by rw [z, em] at e; cases e]; exact e
  refine ⟨mk, em, small1000 (by omega), by rw [upd_ne S.nm]; exact S.n, ⟨fk, by rw [upd_ne S.fm]; exact ef, Paired.mapP pf fun a b h => ⟨h.1, h.2.mono (k' _)⟩⟩, ⟨_, upd_same, dc_put (Paired.mapP pm fun a b h => ⟨h.1, h.2.mono (k' _)⟩) ⟨t, rfl, k' _ _ _ ht⟩⟩, S.kn, S.kf, S.km.put hc _, S.nf, S.nm, S.fm⟩
theorem Srh.putA (S : Srh H an af am ns fs ms M) {c : Nat} (hc : c < M) (y : Int) (hM : M ≤ 40) : (nrK ns).length < sizeLine ∧ Srh (upd H an (.dK (putK (nrK ns) (Sum.inl (c : Int)) (.int y)))) an af am (putN ns c y) fs ms M := by
  obtain ⟨fk, ef, pf⟩ := S.f
  obtain ⟨mk, em, pm⟩ := S.m
  have := S.kn.len
  have k' : ∀ o t xs, H t = some (.tup xs) → upd H an (.dK o) t = some (.tup xs) := fun o t xs e => by
    rw [upd_ne fun z => by rw [z, S.n] at e; cases e]; exact e
  refine ⟨small1000 (by unfold nrK; rw [List.length_map]; omega), by rw [upd_same, nrK_put], ⟨fk, by rw [upd_ne S.nf.symm]; exact ef, Paired.mapP pf fun a b h => ⟨h.1, h.2.mono (k' _)⟩⟩, ⟨mk, by rw [upd_ne S.nm.symm]; exact em, Paired.mapP pm fun a b h => ⟨h.1, h.2.mono (k' _)⟩⟩, S.kn.put hc _, S.kf, S.km, S.nf, S.nm, S.fm⟩
theorem Srh.dropF (S : Srh H an af am ns fs ms M) {c : Nat} {y : Int} (hy : lkp fs c = some y) : ∃ kvs v, H af = some (.dK kvs) ∧ valV kvs (Sum.inl (c : Int)) = some v ∧ Srh (upd H af (.dK (dropK kvs (Sum.inl (c : Int))))) an af am ns (dropN fs c) ms M := by
  obtain ⟨fk, ef, pf⟩ := S.f
  obtain ⟨mk, em, pm⟩ := S.m
  obtain ⟨v, hv, _⟩ := (dc_val pf).2 y hy
  have k' : ∀ o t xs, H t = some (.tup xs) → upd H af (.dK o) t = some (.tup xs) := fun o t xs e => by
    rw [upd_ne fun z => by rw [z, ef] at e; cases e]; exact e
  exact ⟨fk, v, ef, hv, by rw [upd_ne S.nf]; exact S.n, ⟨_, upd_same, dc_drop c (Paired.mapP pf fun a b h => ⟨h.1, h.2.mono (k' _)⟩)⟩, ⟨mk, by rw [upd_ne S.fm.symm]; exact em, Paired.mapP pm fun a b h => ⟨h.1, h.2.mono (k' _)⟩⟩, S.kn, S.kf.drop c, S.km, S.nf, S.nm, S.fm⟩
end
theorem far_tri {H : Hp} : ∀ {kvs : List (Key × V)} {fs : List (Nat × Int)}, Paired (DcR (FarR H)) kvs fs → Paired (fun (kv : Key × V) k => TrA H kv.2 k) kvs (fs.map (·.2))
  | _, _, .nil => .nil
  | _, _, .cons ⟨_, t, b, e1, e2⟩ r => .cons ⟨t, b, _, e1, e2⟩ (far_tri r)
/-- off a market, whatever is there -/
structure OfD (x : Addr) (G : MGeo) (c : Addr) : Prop where
  nx : c ≠ x
  n1 : c ≠ G.a1
  n4 : c ≠ G.a4
  n5 : c ≠ G.a5
  nd : c ∉ G.ds
  nu : V.ref c ∉ G.us
  nm : c ∉ G.mut
theorem OfD.off {x : Addr} {G : MGeo} {c : Addr} (h : OfD x G c) {H : Hp} (nt : ∀ ts, H c ≠ some (.tup ts)) : OffM H x G c := ⟨h.nx, h.n1, h.n4, h.n5, h.nd, h.nu, nt⟩
theorem paired_inl {α β : Type} {F : α → β → Prop} {x : α} : ∀ {xs : List α} {ys : List β}, Paired F xs ys → x ∈ xs → ∃ y, F x y
  | _, _, .nil, h => by cases h
  | _, _, .cons a t, h => by
    rcases List.mem_cons.mp h with rfl | h
    · exact ⟨_, a⟩
    · exact paired_inl t h
theorem OfD.fresh {C x : Addr} {H : Hp} {G : MGeo} {d : Nat → Nat} {p : Nat → Int} (S : MkS C H x G) (D : MkD H G d p) {c : Addr} (hc : H c = none) : OfD x G c := by
  obtain ⟨dx, hi⟩ := S.ins
  refine ⟨fun z => ?_, fun z => ?_, fun z => ?_, fun z => ?_, fun z => ?_, fun z => ?_, fun z => ?_⟩
  · rw [z, hi] at hc; cases hc
  · rw [z, S.s1] at hc; cases hc
  · rw [z, S.s4] at hc; cases hc
  · rw [z, S.s5] at hc; cases hc
  · obtain ⟨s, hs⟩ := List.getElem?_of_mem z
    rw [S.d5 s c hs] at hc; cases hc
  · obtain ⟨y, l, ts, e, h, _⟩ := paired_inl S.r4 z
    cases e
    rw [h] at hc; cases hc
  · obtain ⟨vs, e⟩ := D.lst z
    rw [e] at hc; cases hc
namespace Chp
theorem Sr.imp {N : Net} {d : Nat → Nat} {p : Nat → Int} {col : Nat} {nr fr : Nat → Option Int} {mv : Nat → Nat × Nat} {rk : Nat → Nat} {K : Nat} {ok ok' : Nat → Nat → Prop} (R : Sr N d p col nr fr mv rk K ok) (h : ∀ t s v, s < N.S → N.off s t = some v → ok' t s → ok t s) : Sr N d p col nr fr mv rk K ok' := ⟨R.dis, R.src, R.nlt, R.flt, R.mono, fun t x e s hs v hv z => R.rel t x e s hs v hv (h t s v hs hv z), R.mvn, R.mvf⟩
end Chp
/-- each that came near or far has a move -/
def HasM (col : Nat) (ns fs : List (Nat × Int)) (ms : List (Nat × (Nat × Nat))) : Prop := ∀ g, g ≠ col → (lkp ns g).isSome = true ∨ (lkp fs g).isSome = true → ∃ q, lkp ms g = some q
theorem HasM.put {col : Nat} {ns fs : List (Nat × Int)} {ms : List (Nat × (Nat × Nat))} (h : HasM col ns fs ms) (c : Nat) (y : Int) (q : Nat × Nat) : HasM col ns (putN fs c y) (putN ms c q) := fun g hg z => by
  rw [lkp_put] at z ⊢
  by_cases e : g = c
  · rw [if_pos e]; exact ⟨q, rfl⟩
  · rw [if_neg e] at z ⊢
    exact h g hg z
theorem HasM.near {col : Nat} {ns fs : List (Nat × Int)} {ms : List (Nat × (Nat × Nat))} (h : HasM col ns fs ms) {c : Nat} {y : Int} (hc : lkp fs c = some y) : HasM col (putN ns c y) (dropN fs c) ms := fun g hg z => by
  rw [lkp_put, lkp_drop] at z
  by_cases e : g = c
  · rw [e] at hg ⊢
    exact h c hg (.inr (by rw [hc]; rfl))
  · rw [if_neg e, if_neg e] at z
    exact h g hg z
end My

set_option Elab.async false
set_option linter.all false
set_option maxRecDepth 100000
set_option maxHeartbeats 1000000
namespace My
open PySem L2
def beyN (ss : List Spt) (lim : List Int) (o : Nat) : Int := ((ss.countP fun s => decide (s.o = (o : Int)) : Nat) : Int) - lim.getD o 0
theorem bey_at {ss : List Spt} {lim : List Int} {i : Nat} {y : Int} (hy : lim[i]? = some y) : ((((ss.map (·.o)).map V.int).countP fun z => eqV z (.int (i : Int)) : Nat) : Int) - y = beyN ss lim i := by
  unfold beyN
  rw [getD_of hy, List.map_map, List.countP_map]
  have : ((fun z => eqV z (V.int (i : Int))) ∘ (V.int ∘ fun s : Spt => s.o)) = fun s : Spt => decide (s.o = (i : Int)) := funext fun s => eqV_int _ _
  rw [this]
/-- the column of an offer -/
def colN (M : Nat) (o : Int) : Option Int → Nat
  | none => M + o.toNat
  | some c => c.toNat
def offL (M : Nat) (s : Spt) : List (Nat × Int) := s.fs.map fun f => (colN M s.o f.1, f.2)
theorem offL_len (M : Nat) (s : Spt) : (offL M s).length = s.fs.length := by unfold offL; rw [List.length_map]
theorem offL_kok {M O : Nat} {s : Spt} (ok : SpOk M O s) : Kok (M + O) (offL M s) := by
  have o := ok.own
  have e : (offL M s).map (·.1) = (s.fs.map (·.1)).map (colN M s.o) := by unfold offL; rw [List.map_map, List.map_map]; rfl
  refine ⟨?_, fun c hc => ?_⟩
  · rw [e, List.Nodup, List.pairwise_map]
    refine List.Pairwise.imp_of_mem (fun {a b} ha hb ne z => ?_) ok.nd
    obtain ⟨f, hf, rfl⟩ := List.mem_map.mp ha
    obtain ⟨f', hf', rfl⟩ := List.mem_map.mp hb
    cases e1 : f.1 with
    | none =>
      cases e2 : f'.1 with
      | none => exact ne (by rw [e1, e2])
      | some c =>
        have := ok.col f' hf' c e2
        rw [e1, e2] at z
        simp only [colN] at z
        omega
    | some c =>
      have h1 := ok.col f hf c e1
      cases e2 : f'.1 with
      | none =>
        rw [e1, e2] at z
        simp only [colN] at z
        omega
      | some c' =>
        have h2 := ok.col f' hf' c' e2
        rw [e1, e2] at z
        simp only [colN] at z
        exact ne (by rw [e1, e2, show c = c' by omega])
  · rw [e] at hc
    obtain ⟨a, ha, rfl⟩ := List.mem_map.mp hc
    obtain ⟨f, hf, rfl⟩ := List.mem_map.mp ha
    cases e1 : f.1 with
    | none => simp only [colN]; omega
    | some c =>
      have h1 := ok.col f hf c e1
      simp only [colN]
      omega
theorem fold_nrK : ∀ {ks acc : List (Nat × Int)}, ((acc ++ ks).map (·.1)).Nodup → (nrK ks).foldl (fun acc kv => putK acc kv.1 kv.2) (nrK acc) = nrK (acc ++ ks)
  | [], acc, _ => by rw [List.append_nil]; rfl
  | k :: ks, acc, nd => by
    have e : nrK (k :: ks) = (Sum.inl (k.1 : Int), V.int k.2) :: nrK ks := rfl
    have nin : k.1 ∉ acc.map (·.1) := by
      rw [List.map_append, List.nodup_append] at nd
      exact fun z => nd.2.2 _ z _ List.mem_cons_self rfl
    rw [e, List.foldl_cons, nrK_put, show putN acc k.1 k.2 = acc ++ [k] by unfold putN; rw [if_neg nin], fold_nrK (by rw [List.append_assoc]; exact nd), List.append_assoc]
    rfl
theorem dict_nrK {ks : List (Nat × Int)} (nd : (ks.map (·.1)).Nodup) : (nrK ks).foldl (fun acc kv => putK acc kv.1 kv.2) [] = nrK ks := fold_nrK (acc := []) nd
theorem PrsK.off {H : Hp} {ws : List V} {ks : List (Key × V)} {l : Addr} {o : HO} (h : PrsK H ws ks) (hl : ∀ xs, H l ≠ some (.tup xs)) : PrsK (upd H l o) ws ks := Paired.mapP h fun _ _ ⟨t, e, q⟩ => ⟨t, e, by rw [upd_ne fun z => hl _ (by rw [← z]; exact q)]; exact q⟩
theorem PrsK.mono {H H' : Hp} (g : Same H H') {ws : List V} {ks : List (Key × V)} (h : PrsK H ws ks) : PrsK H' ws ks := Paired.mapP h fun _ _ ⟨t, e, q⟩ => ⟨t, e, g _ _ q⟩
def netS (ss : List Spt) (cols lim : List Int) : Chp.Net := ⟨ss.length, cols.length + lim.length, fun s c => lkp (offL cols.length (ss.getD s ⟨0, []⟩)) c, fun c => if c < cols.length then cols.getD c 0 else beyN ss lim (c - cols.length)⟩
theorem need_il (ss : List Spt) (cols lim : List Int) : cols ++ il lim.length (beyN ss lim) = il (cols.length + lim.length) (netS ss cols lim).need := by
  refine List.ext_getElem? fun i => ?_
  by_cases h : i < cols.length
  · rw [List.getElem?_append_left h, il_get (by omega)]
    show _ = some (if i < cols.length then cols.getD i 0 else _)
    rw [if_pos h, List.getElem?_eq_getElem h, getD_of (List.getElem?_eq_getElem h)]
  · rw [List.getElem?_append_right (by omega)]
    by_cases h2 : i < cols.length + lim.length
    · rw [il_get (by omega), il_get h2]
      show _ = some (if i < cols.length then _ else _)
      rw [if_neg h]
    · rw [List.getElem?_eq_none (by rw [il_len]; omega), List.getElem?_eq_none (by rw [il_len]; omega)]
end My

set_option Elab.async false
set_option linter.all false
set_option maxRecDepth 100000
set_option maxHeartbeats 1000000
namespace My
open PySem L2
theorem nd_at {α : Type} {l : List α} (nd : l.Nodup) {i j : Nat} {a : α} (hi : l[i]? = some a) (hj : l[j]? = some a) : i = j := by
  obtain ⟨pi, qi⟩ := List.getElem?_eq_some_iff.mp hi
  obtain ⟨pj, qj⟩ := List.getElem?_eq_some_iff.mp hj
  rw [List.Nodup, List.pairwise_iff_getElem] at nd
  rcases Nat.lt_trichotomy i j with h | h | h
  · exact absurd (qi.trans qj.symm) (nd i j pi pj h)
  · exact h
  · exact absurd (qj.trans qi.symm) (nd j i pj pi h)
structure IG where
  N : Chp.Net
  x : Addr
  dx : Addr
  a1 : Addr
  a2 : Addr
  a3 : Addr
  a4 : Addr
  a5 : Addr
  a6 : Addr
  a7 : Addr
  bs : List Addr
  ds : List Addr
  kv : Nat → List (Key × V)
structure InI (H : Hp) (C : Addr) (g : IG) (i : Nat) (d : Nat → Nat) (P : Nat → Nat → Int → Prop) (n : Nat) (H' : Hp) : Prop where
  ini : IniI H C g.x g.dx (mf g.a1 g.a2 g.a3 g.a4 g.a5 g.a6 g.a7) H'
  s1 : H' g.a1 = some (.lst ((il g.N.M g.N.need).map V.int))
  s2 : H' g.a2 = some (.lst ((il g.N.M fun _ => 0).map V.int))
  s3 : H' g.a3 = some (.lst ((il g.N.M (Chp.cnt i d)).map V.int))
  s4 : H' g.a4 = some (.lst (g.bs.map V.ref))
  r4 : ∀ t l, g.bs[t]? = some l → ∃ ts row, H' l = some (.lst ts) ∧ Paired (BidV H') ts row ∧ row.length ≤ n ∧ ∀ s v, (s, v) ∈ row ↔ P t s v
  s5 : H' g.a5 = some (.lst (g.ds.map V.ref))
  d5 : ∀ s d, g.ds[s]? = some d → H' d = some (.dK (g.kv s))
  s6 : H' g.a6 = some (.lst ((il i fun s => ((d s : Nat) : Int)).map V.int))
  s7 : H' g.a7 = some (.lst ((il i (g.N.pay d)).map V.int))
  ap : (g.a1 :: g.a2 :: g.a3 :: g.a4 :: g.a5 :: g.a6 :: g.a7 :: g.bs).Nodup
  nx : g.x ∉ (g.a1 :: g.a2 :: g.a3 :: g.a4 :: g.a5 :: g.a6 :: g.a7 :: g.bs)
  fr : ∀ c ∈ (g.a1 :: g.a2 :: g.a3 :: g.a4 :: g.a5 :: g.a6 :: g.a7 :: g.bs), H c = none
  best : ∀ s, s < i → d s < g.N.M ∧ ∃ v, g.N.off s (d s) = some v ∧ ∀ c v', g.N.off s c = some v' → v ≤ v'
section
variable {H H' H2 : Hp} {C : Addr} {g : IG} {i n : Nat} {d : Nat → Nat} {P P' : Nat → Nat → Int → Prop}
theorem InI.same (I : InI H C g i d P n H') (e : Same H' H2) : InI H C g i d P n H2 := by
  refine ⟨I.ini.mono e, e _ _ I.s1, e _ _ I.s2, e _ _ I.s3, e _ _ I.s4, fun t l h => ?_, e _ _ I.s5, fun s d h => e _ _ (I.d5 s d h), e _ _ I.s6, e _ _ I.s7, I.ap, I.nx, I.fr, I.best⟩
  obtain ⟨ts, row, h1, h2, h3⟩ := I.r4 t l h
  exact ⟨ts, row, e _ _ h1, Paired.mapP h2 fun v p ⟨t, e1, e2⟩ => ⟨t, e1, e _ _ e2⟩, h3⟩
theorem InI.iff (I : InI H C g i d P n H') (h : ∀ t s v, P t s v ↔ P' t s v) : InI H C g i d P' n H' := by
  refine ⟨I.ini, I.s1, I.s2, I.s3, I.s4, fun t l hl => ?_, I.s5, I.d5, I.s6, I.s7, I.ap, I.nx, I.fr, I.best⟩
  obtain ⟨ts, row, h1, h2, h3, h4⟩ := I.r4 t l hl
  exact ⟨ts, row, h1, h2, h3, fun s v => (h4 s v).trans (h t s v)⟩
/-- a bid more -/
theorem InI.bid (I : InI H C g i d P n H') {c s : Nat} {v : Int} {l t : Addr} (hb : g.bs[c]? = some l) (ht : H' t = some (.tup [.int (s : Int), .int v])) : ∃ ts, H' l = some (.lst ts) ∧ ts.length ≤ n ∧ InI H C g i d (fun c' s' v' => P c' s' v' ∨ (c' = c ∧ s' = s ∧ v' = v)) (n + 1) (upd H' l (.lst (ts ++ [.ref t]))) := by
  obtain ⟨ts, row, h1, h2, h3, h4⟩ := I.r4 c l hb
  have hl : l ∈ g.bs := List.mem_of_getElem? hb
  have ap := I.ap
  simp only [List.nodup_cons, List.mem_cons, not_or] at ap
  obtain ⟨⟨_, _, _, _, _, _, b1⟩, ⟨_, _, _, _, _, b2⟩, ⟨_, _, _, _, b3⟩, ⟨_, _, _, b4⟩, ⟨_, _, b5⟩, ⟨_, b6⟩, b7, ndb⟩ := ap
  have ne : ∀ {a : Addr}, a ∉ g.bs → a ≠ l := fun h z => h (z ▸ hl)
  have nxl : l ≠ g.x := fun z => I.nx (by rw [← z]; simp [hl])
  have hlf : H l = none := I.fr l (by simp [hl])
  have kt : ∀ t ts', H' t = some (.tup ts') → upd H' l (.lst (ts ++ [.ref t])) t = some (.tup ts') := fun t ts' e => by rw [upd_ne fun z => by rw [z, h1] at e; cases e]; exact e
  have kt' : ∀ o t ts', H' t = some (.tup ts') → upd H' l o t = some (.tup ts') := fun o t ts' e => by rw [upd_ne fun z => by rw [z, h1] at e; cases e]; exact e
  refine ⟨ts, h1, by rw [Paired.length h2]; exact h3, ⟨I.ini.put hlf h1 nxl, by rw [upd_ne (ne b1)]; exact I.s1, by rw [upd_ne (ne b2)]; exact I.s2, by rw [upd_ne (ne b3)]; exact I.s3, by rw [upd_ne (ne b4)]; exact I.s4, fun t' l' h => ?_, by rw [upd_ne (ne b5)]; exact I.s5, fun s' d' h => ?_, by rw [upd_ne (ne b6)]; exact I.s6, by rw [upd_ne (ne b7)]; exact I.s7, I.ap, I.nx, I.fr, I.best⟩⟩
  · by_cases e : l' = l
    · subst e
      have et : t' = c := nd_at ndb h hb
      subst et
      refine ⟨_, row ++ [(s, v)], upd_same, Paired.snoc ⟨t, rfl, kt' _ _ _ ht⟩ (Paired.mapP h2 fun v p ⟨t, e1, e2⟩ => ⟨t, e1, kt' _ _ _ e2⟩), by rw [List.length_append]; exact Nat.succ_le_succ h3, fun s' v' => ?_⟩
      rw [List.mem_append, h4, List.mem_singleton, Prod.mk.injEq]
      exact ⟨fun z => z.imp id fun z => ⟨rfl, z⟩, fun z => z.imp id fun z => z.2⟩
    · obtain ⟨ts', row', h1', h2', h3', h4'⟩ := I.r4 t' l' h
      have et : t' ≠ c := fun z => e (by rw [z, hb] at h; exact (Option.some.inj h).symm)
      refine ⟨ts', row', by rw [upd_ne e]; exact h1', Paired.mapP h2' fun v p ⟨t, e1, e2⟩ => ⟨t, e1, kt' _ _ _ e2⟩, Nat.le_succ_of_le h3', fun s' v' => ?_⟩
      rw [h4']
      exact ⟨.inl, fun z => z.elim id fun z => absurd z.1 et⟩
  · have := I.d5 s' d' h
    rw [upd_ne fun z => by rw [z, h1] at this; cases this]
    exact this
/-- a spot is dealt -/
theorem InI.deal (I : InI H C g i d P n H') {c : Nat} {v : Int} (hc : c < g.N.M) (hv : g.N.off i c = some v) (hm : ∀ c' v', g.N.off i c' = some v' → v ≤ v') : InI H C g (i + 1) (Chp.fset d i c) P n (upd (upd (upd H' g.a6 (.lst ((il i fun s => ((d s : Nat) : Int)).map V.int ++ [.int (c : Int)]))) g.a7 (.lst ((il i (g.N.pay d)).map V.int ++ [.int v]))) g.a3 (.lst ((il g.N.M (Chp.fset (Chp.cnt i d) c (Chp.cnt i d c + 1))).map V.int))) := by
  have ap := I.ap
  have nx := I.nx
  simp only [List.nodup_cons, List.mem_cons, not_or] at ap nx
  obtain ⟨⟨n12, n13, n14, n15, n16, n17, b1⟩, ⟨n23, n24, n25, n26, n27, b2⟩, ⟨n34, n35, n36, n37, b3⟩, ⟨n45, n46, n47, b4⟩, ⟨n56, n57, b5⟩, ⟨n67, b6⟩, b7, ndb⟩ := ap
  obtain ⟨x1, x2, x3, x4, x5, x6, x7, xb⟩ := nx
  have f6 : H g.a6 = none := I.fr _ (by simp)
  have f7 : H g.a7 = none := I.fr _ (by simp)
  have f3 : H g.a3 = none := I.fr _ (by simp)
  have k : ∀ {a : Addr} {o : HO} {o6 o7 o3 : HO}, H' a = some o → a ≠ g.a6 → a ≠ g.a7 → a ≠ g.a3 → upd (upd (upd H' g.a6 o6) g.a7 o7) g.a3 o3 a = some o := fun e n6 n7 n3 => by rw [upd_ne n3, upd_ne n7, upd_ne n6]; exact e
  have kt : ∀ {o6 o7 o3 : HO} t ts', H' t = some (.tup ts') → upd (upd (upd H' g.a6 o6) g.a7 o7) g.a3 o3 t = some (.tup ts') := fun t ts' e => k e (fun z => by rw [z, I.s6] at e; cases e) (fun z => by rw [z, I.s7] at e; cases e) fun z => by rw [z, I.s3] at e; cases e
  have ecnt : ∀ k, Chp.fset (Chp.cnt i d) c (Chp.cnt i d c + 1) k = Chp.cnt (i + 1) (Chp.fset d i c) k := fun k => by
    rw [Chp.cnt_succ, Chp.cnt_out (Nat.le_refl _), Chp.fset_eq]
    unfold Chp.fset
    by_cases z : k = c
    · rw [if_pos z, if_pos z.symm, z]
    · rw [if_neg z, if_neg fun w => z w.symm, Int.add_zero]
  refine ⟨((I.ini.put f6 I.s6 (Ne.symm x6)).put f7 (by rw [upd_ne (Ne.symm n67)]; exact I.s7) (Ne.symm x7)).put f3 (by rw [upd_ne n37, upd_ne n36]; exact I.s3) (Ne.symm x3), k I.s1 n16 n17 n13, k I.s2 n26 n27 n23, by rw [upd_same, il_congr fun k _ => ecnt k], k I.s4 n46 n47 (Ne.symm n34), fun t l h => ?_, k I.s5 n56 n57 (Ne.symm n35), fun s d' h => ?_, ?_, ?_, I.ap, I.nx, I.fr, fun s hs => ?_⟩
  · obtain ⟨ts, row, h1, h2, h3⟩ := I.r4 t l h
    have hl : l ∈ g.bs := List.mem_of_getElem? h
    exact ⟨ts, row, k h1 (fun z => b6 (z ▸ hl)) (fun z => b7 (z ▸ hl)) (fun z => b3 (z ▸ hl)), Paired.mapP h2 fun v p ⟨t, e1, e2⟩ => ⟨t, e1, kt _ _ e2⟩, h3⟩
  · have e := I.d5 s d' h
    exact k e (fun z => by rw [z, I.s6] at e; cases e) (fun z => by rw [z, I.s7] at e; cases e) fun z => by rw [z, I.s3] at e; cases e
  · rw [upd_ne (Ne.symm n36), upd_ne n67, upd_same, il_snoc, List.map_append]
    rw [il_congr (g := fun s => ((d s : Nat) : Int)) (f := fun s => ((Chp.fset d i c s : Nat) : Int)) fun k hk => by rw [Chp.fset_ne (by omega)]]
    show _ = some (HO.lst (_ ++ [V.int ((Chp.fset d i c i : Nat) : Int)]))
    rw [Chp.fset_eq]
  · rw [upd_ne (Ne.symm n37), upd_same, il_snoc, List.map_append]
    rw [il_congr (g := g.N.pay d) (f := g.N.pay (Chp.fset d i c)) fun k hk => by unfold Chp.Net.pay; rw [Chp.fset_ne (by omega)]]
    show _ = some (HO.lst (_ ++ [V.int (g.N.pay (Chp.fset d i c) i)]))
    unfold Chp.Net.pay
    rw [Chp.fset_eq, hv]
    rfl
  · by_cases z : s = i
    · subst z
      rw [Chp.fset_eq]
      exact ⟨hc, v, hv, hm⟩
    · rw [Chp.fset_ne z]
      exact I.best s (by omega)
theorem rows_bd {H : Hp} : ∀ {bs : List Addr} {R : Nat → List (Nat × Int) → Prop}, (∀ t l, bs[t]? = some l → ∃ row, BidR H (.ref l) row ∧ R t row) → ∃ bd, Paired (BidR H) (bs.map V.ref) bd ∧ ∀ t row, bd[t]? = some row → R t row
  | [], _, _ => ⟨[], .nil, fun t row h => by simp at h⟩
  | l :: bs, R, h => by
    obtain ⟨row, h1, h2⟩ := h 0 l rfl
    obtain ⟨bd, p, q⟩ := rows_bd (bs := bs) (R := fun t row => R (t + 1) row) fun t l e => h (t + 1) l e
    refine ⟨row :: bd, .cons h1 p, fun t row' e => ?_⟩
    cases t with
    | zero => cases e; exact h2
    | succ t => exact q t row' e
/-- the market at last -/
theorem InI.done {ss : List Spt} {cols lim : List Int} (I : InI H C g ss.length d P n H') (hN : g.N = netS ss cols lim) (hP : ∀ t s v, P t s v ↔ s < g.N.S ∧ g.N.off s t = some v) (hb : g.bs.length = g.N.M) (hd : g.ds.length = g.N.S) (hk : ∀ s, s < g.N.S → ∀ c : Nat, valV (g.kv s) (Sum.inl (c : Int)) = (g.N.off s c).map V.int) (hs : g.N.S ≤ 20) (hM : g.N.M ≤ 40) :
    ∃ G : MGeo, G.N = g.N ∧ MkS C H' g.x G ∧ MkD H' G d (fun _ => 0) ∧ Chp.Good G.N d (fun _ => 0) ∧ ∀ c ∈ G.mut, H c = none := by
  have hS : g.N.S = ss.length := by rw [hN]; rfl
  obtain ⟨bd, pb, mb⟩ := rows_bd (H := H') (bs := g.bs) (R := fun t row => ∀ s v, (s, v) ∈ row ↔ s < g.N.S ∧ g.N.off s t = some v) fun t l h => by
    obtain ⟨ts, row, h1, h2, h3, h4⟩ := I.r4 t l h
    exact ⟨row, ⟨l, ts, rfl, h1, h2⟩, fun s v => (h4 s v).trans (hP t s v)⟩
  have ap := I.ap
  simp only [List.nodup_cons, List.mem_cons, not_or] at ap
  obtain ⟨⟨n12, n13, n14, n15, n16, n17, b1⟩, ⟨n23, n24, n25, n26, n27, b2⟩, ⟨n34, n35, n36, n37, b3⟩, ⟨n45, n46, n47, b4⟩, ⟨n56, n57, b5⟩, ⟨n67, b6⟩, b7, ndb⟩ := ap
  have nu : ∀ {a : Addr}, a ∉ g.bs → V.ref a ∉ g.bs.map V.ref := fun h z => by
    obtain ⟨b, hb, e⟩ := List.mem_map.mp z
    cases e
    exact h hb
  refine ⟨⟨g.N, g.bs.map V.ref, bd, g.ds, g.kv, g.a1, g.a2, g.a3, g.a4, g.a5, g.a6, g.a7⟩, rfl, ⟨⟨g.dx, I.ini.x_⟩, I.s1, I.s4, pb, ?_, mb, I.s5, hd, I.d5, hk, ?_, ?_, hs, hM⟩, ⟨I.s2, ?_, ?_, ?_⟩, ⟨⟨?_, ?_, ?_⟩, fun _ => Int.le_refl _, fun _ _ _ => rfl⟩, fun c hc => I.fr c ?_⟩
  · show bd.length = g.N.M
    rw [← Paired.length pb, List.length_map, hb]
  · show [g.a2, g.a3, g.a6, g.a7].Nodup
    simp only [List.nodup_cons, List.mem_cons, List.not_mem_nil, or_false, not_or]
    exact ⟨⟨n23, n26, n27⟩, ⟨n36, n37⟩, n67, not_false, List.nodup_nil⟩
  · intro c hc
    have hc : c ∈ [g.a2, g.a3, g.a6, g.a7] := hc
    simp only [List.mem_cons, List.not_mem_nil, or_false] at hc
    rcases hc with rfl | rfl | rfl | rfl
    · exact ⟨Ne.symm n12, n24, n25, nu b2⟩
    · exact ⟨Ne.symm n13, n34, n35, nu b3⟩
    · exact ⟨Ne.symm n16, Ne.symm n46, Ne.symm n56, nu b6⟩
    · exact ⟨Ne.symm n17, Ne.symm n47, Ne.symm n57, nu b7⟩
  · show H' g.a3 = some (.lst ((il g.N.M (Chp.cnt g.N.S d)).map V.int))
    rw [hS]; exact I.s3
  · show H' g.a6 = some (.lst ((il g.N.S _).map V.int))
    rw [hS]; exact I.s6
  · show H' g.a7 = some (.lst ((il g.N.S (g.N.pay d)).map V.int))
    rw [hS]; exact I.s7
  · exact fun s h => (I.best s (by rw [← hS]; exact h)).1
  · intro s h
    obtain ⟨_, v, e, _⟩ := I.best s (by rw [← hS]; exact h)
    show (g.N.off s (d s)).isSome = true
    rw [e]; rfl
  · intro s h c v e
    obtain ⟨_, v', e', m⟩ := I.best s (by rw [← hS]; exact h)
    show g.N.pay d s - 0 ≤ v - 0
    unfold Chp.Net.pay
    rw [e']
    have := m c v e
    show v' - 0 ≤ v - 0
    omega
  · have hc : c ∈ [g.a2, g.a3, g.a6, g.a7] := hc
    simp only [List.mem_cons, List.not_mem_nil, or_false] at hc
    rcases hc with rfl | rfl | rfl | rfl <;> simp
end
/-- dicts of offers, one by one -/
structure DsI (H : Hp) (L : Addr) (kv : Nat → List (Key × V)) (i : Nat) (H' : Hp) (ds : List Addr) : Prop where
  same : Same H H'
  at_ : H' L = some (.lst (ds.map V.ref))
  len : ds.length = i
  pr : ∀ (s : Nat) d, ds[s]? = some d → H' d = some (.dK (kv s))
theorem DsI.ini {H : Hp} {L : Addr} {kv : Nat → List (Key × V)} (hL : H L = none) : DsI H L kv 0 (upd H L (.lst [])) [] := ⟨same_new hL _, upd_same, rfl, fun s d z => by simp at z⟩
theorem DsI.step {H H' H2 : Hp} {L p : Addr} {kv : Nat → List (Key × V)} {i : Nat} {ds : List Addr} (D : DsI H L kv i H' ds) (hL : H L = none) (g : Same H' H2) (hp : H2 p = some (.dK (kv i))) : DsI H L kv (i + 1) (upd H2 L (.lst (ds.map V.ref ++ [.ref p]))) (ds ++ [p]) := by
  have eL := g _ _ D.at_
  refine ⟨same_upd hL (D.same.trans g) _, by rw [upd_same, List.map_append]; rfl, by rw [List.length_append, D.len]; rfl, fun s d h => ?_⟩
  have k : ∀ {d kvs}, H2 d = some (.dK kvs) → upd H2 L (.lst (ds.map V.ref ++ [.ref p])) d = some (.dK kvs) := fun e => by rw [upd_ne fun z => by rw [z, eL] at e; cases e]; exact e
  by_cases z : s < ds.length
  · rw [List.getElem?_append_left z] at h
    exact k (g _ _ (D.pr s d h))
  · have hs := (List.getElem?_eq_some_iff.mp h).1
    rw [List.length_append] at hs
    have hs : s < ds.length + 1 := hs
    have : s = ds.length := by omega
    subst this
    rw [List.getElem?_append_right (Nat.le_refl _), Nat.sub_self] at h
    cases h
    rw [D.len]
    exact k hp
theorem Spts.kept {H H' : Hp} {x C dx : Addr} {fs : List (Str × V)} (hx : H x = some (.ins C dx fs)) (k : ∀ c o, H c = some o → c ≠ x → H' c = some o) {us : List V} {ss : List Spt} (h : Spts H us ss) : Spts H' us ss := by
  have kt : ∀ t xs, H t = some (.tup xs) → H' t = some (.tup xs) := fun t xs e => k _ _ e fun z => by rw [z, hx] at e; cases e
  have kl : ∀ t xs, H t = some (.lst xs) → H' t = some (.lst xs) := fun t xs e => k _ _ e fun z => by rw [z, hx] at e; cases e
  exact Paired.mapP h fun v s ⟨t, l, ts, e, h1, h2, h3⟩ => ⟨t, l, ts, e, kt _ _ h1, kl _ _ h2, Paired.mapP h3 fun _ _ ⟨t, e, q⟩ => ⟨t, e, kt _ _ q⟩⟩
def kvS (ss : List Spt) (M : Nat) (s : Nat) : List (Key × V) := nrK (offL M (ss.getD s ⟨0, []⟩))
theorem lk_same (f : Str) (v : V) (fs : List (Str × V)) : (putF f v fs).lookup f = some v := by rw [lookup_putF, if_pos rfl]
structure Bld (H : Hp) (C x dx : Addr) (fs : List (Str × V)) (L : List (Addr × HO)) (H' : Hp) : Prop where
  ini : IniI H C x dx fs H'
  hold : ∀ q ∈ L, H' q.1 = some q.2
  fr : ∀ q ∈ L, H q.1 = none ∧ q.1 ≠ x
  nd : (L.map (·.1)).Nodup
section
variable {H H' H2 : Hp} {C x dx a : Addr} {fs : List (Str × V)} {L : List (Addr × HO)} {o : HO} {vs : List V}
theorem Bld.add (B : Bld H C x dx fs L H') (f : Str) (g : Same H' H2) (e : H2 a = some o) (z : H' a = none) : Bld H C x dx (putF f (.ref a) fs) ((a, o) :: L) (upd H2 x (.ins C dx (putF f (.ref a) fs))) := by
  have nx : a ≠ x := fun w => by rw [w, B.ini.x_] at z; cases z
  refine ⟨(B.ini.mono g).fld f _, fun q hq => ?_, fun q hq => ?_, ?_⟩
  · rcases List.mem_cons.mp hq with rfl | hq
    · rw [upd_ne nx]; exact e
    · rw [upd_ne (B.fr q hq).2]; exact g _ _ (B.hold q hq)
  · rcases List.mem_cons.mp hq with rfl | hq
    · exact ⟨B.ini.z _ z, nx⟩
    · exact B.fr q hq
  · rw [List.map_cons, List.nodup_cons]
    refine ⟨fun w => ?_, B.nd⟩
    obtain ⟨q, hq, e'⟩ := List.mem_map.mp w
    have := B.hold q hq
    rw [e', z] at this
    cases this
theorem Bld.more (B : Bld H C x dx fs L H') (g : Same H' H2) {ds : List Addr} (e : ∀ d ∈ ds, H2 d = some o) (z : ∀ d ∈ ds, H' d = none) (nd : ds.Nodup) : Bld H C x dx fs (L ++ ds.map fun d => (d, o)) H2 := by
  have nx : ∀ d ∈ ds, d ≠ x := fun d hd w => by have := z d hd; rw [w, B.ini.x_] at this; cases this
  refine ⟨B.ini.mono g, fun q hq => ?_, fun q hq => ?_, ?_⟩
  · rcases List.mem_append.mp hq with hq | hq
    · exact g _ _ (B.hold q hq)
    · obtain ⟨d, hd, rfl⟩ := List.mem_map.mp hq
      exact e d hd
  · rcases List.mem_append.mp hq with hq | hq
    · exact B.fr q hq
    · obtain ⟨d, hd, rfl⟩ := List.mem_map.mp hq
      exact ⟨B.ini.z _ (z d hd), nx d hd⟩
  · rw [List.map_append, List.map_map, List.nodup_append]
    refine ⟨B.nd, ?_, fun p hp q hq w => ?_⟩
    · show (ds.map fun d => d).Nodup
      rw [List.map_id']; exact nd
    · obtain ⟨p', hp', rfl⟩ := List.mem_map.mp hp
      obtain ⟨d, hd, rfl⟩ := List.mem_map.mp hq
      have h1 := B.hold p' hp'
      have w : p'.1 = d := w
      rw [w, z d hd] at h1
      cases h1
theorem Bld.addR (B : Bld H C x dx fs L H') (f : Str) (g : Same H' H2) (e : H2 a = some (.lst vs)) (z : H' a = none) {ds : List Addr} (ed : ∀ d ∈ ds, H2 d = some o) (zd : ∀ d ∈ ds, H' d = none ∧ d ≠ a) (nd : ds.Nodup) : Bld H C x dx (putF f (.ref a) fs) ((a, .lst vs) :: (L ++ ds.map fun d => (d, o))) (upd H2 x (.ins C dx (putF f (.ref a) fs))) := by
  have B2 := B.more g ed (fun d hd => (zd d hd).1) nd
  have nx : a ≠ x := fun w => by rw [w, B.ini.x_] at z; cases z
  refine ⟨B2.ini.fld f _, fun q hq => ?_, fun q hq => ?_, ?_⟩
  · rcases List.mem_cons.mp hq with rfl | hq
    · rw [upd_ne nx]; exact e
    · rw [upd_ne (B2.fr q hq).2]; exact B2.hold q hq
  · rcases List.mem_cons.mp hq with rfl | hq
    · exact ⟨B.ini.z _ z, nx⟩
    · exact B2.fr q hq
  · rw [List.map_cons, List.nodup_cons]
    refine ⟨fun w => ?_, B2.nd⟩
    obtain ⟨q, hq, e'⟩ := List.mem_map.mp w
    have e' : q.1 = a := e'
    rcases List.mem_append.mp hq with hq | hq
    · have := B.hold q hq
      rw [e', z] at this
      cases this
    · obtain ⟨d, hd, rfl⟩ := List.mem_map.mp hq
      exact (zd d hd).2 e'
theorem Bld.same (B : Bld H C x dx fs L H') (g : Same H' H2) : Bld H C x dx fs L H2 := ⟨B.ini.mono g, fun q hq => g _ _ (B.hold q hq), B.fr, B.nd⟩
end
theorem Bld.inI {H H' : Hp} {C x dx a1 a2 a3 a4 a5 a6 a7 : Addr} {bs ds : List Addr} {N : Chp.Net} {kv : Nat → List (Key × V)} (B : Bld H C x dx (mf a1 a2 a3 a4 a5 a6 a7) ((a7, .lst []) :: (a6, .lst []) :: (a5, .lst (ds.map V.ref)) :: (a4, .lst (bs.map V.ref)) :: ([(a3, .lst ((il N.M fun _ => 0).map V.int)), (a2, .lst ((il N.M fun _ => 0).map V.int)), (a1, .lst ((il N.M N.need).map V.int))] ++ bs.map fun d => (d, .lst []))) H') (d5 : ∀ (s : Nat) d, ds[s]? = some d → H' d = some (.dK (kv s))) (d : Nat → Nat) :
    InI H C ⟨N, x, dx, a1, a2, a3, a4, a5, a6, a7, bs, ds, kv⟩ 0 d (fun _ _ _ => False) 0 H' := by
  have nd := B.nd
  simp only [List.map_cons, List.map_append, List.map_map, List.map_nil] at nd
  have em : (bs.map ((fun q : Addr × HO => q.1) ∘ fun d => (d, HO.lst []))) = bs := by
    show bs.map (fun d => d) = bs
    exact List.map_id' _
  rw [em] at nd
  have perm : (a7 :: a6 :: a5 :: a4 :: ([a3, a2, a1] ++ bs)).Perm (a1 :: a2 :: a3 :: a4 :: a5 :: a6 :: a7 :: bs) := (List.reverse_perm [a1, a2, a3, a4, a5, a6, a7]).append_right bs
  have inL : ∀ c ∈ (a1 :: a2 :: a3 :: a4 :: a5 :: a6 :: a7 :: bs), ∃ o, (c, o) ∈ ((a7, HO.lst []) :: (a6, .lst []) :: (a5, .lst (ds.map V.ref)) :: (a4, .lst (bs.map V.ref)) :: ([(a3, .lst ((il N.M fun _ => 0).map V.int)), (a2, .lst ((il N.M fun _ => 0).map V.int)), (a1, .lst ((il N.M N.need).map V.int))] ++ bs.map fun d => (d, .lst []))) := fun c hc => by
    have hc := perm.mem_iff.mpr hc
    rw [show (a7 :: a6 :: a5 :: a4 :: ([a3, a2, a1] ++ bs)) = ((a7, HO.lst []) :: (a6, .lst []) :: (a5, .lst (ds.map V.ref)) :: (a4, .lst (bs.map V.ref)) :: ([(a3, .lst ((il N.M fun _ => 0).map V.int)), (a2, .lst ((il N.M fun _ => 0).map V.int)), (a1, .lst ((il N.M N.need).map V.int))] ++ bs.map fun d => (d, .lst []))).map (·.1) by
      simp only [List.map_cons, List.map_append, List.map_map, List.map_nil]
      rw [em]] at hc
    obtain ⟨q, hq, rfl⟩ := List.mem_map.mp hc
    exact ⟨q.2, hq⟩
  refine ⟨B.ini, B.hold (a1, _) (by simp), B.hold (a2, _) (by simp), ?_, B.hold (a4, _) (by simp), fun t l h => ⟨[], [], B.hold (l, .lst []) (by simp [List.mem_of_getElem? h]), .nil, Nat.le_refl _, fun s v => ⟨fun z => (by cases z), fun z => z.elim⟩⟩, B.hold (a5, _) (by simp), d5, B.hold (a6, .lst []) (by simp), B.hold (a7, .lst []) (by simp), perm.nodup_iff.mp nd, fun z => ?_, fun c hc => ?_, fun s hs => absurd hs (Nat.not_lt_zero _)⟩
  · have h3 := B.hold (a3, .lst ((il N.M fun _ => 0).map V.int)) (by simp)
    have e : (fun _ => 0) = Chp.cnt 0 d := funext fun c => (Chp.cnt_zero d c).symm
    rw [e] at h3
    exact h3
  · obtain ⟨o, ho⟩ := inL x z
    exact (B.fr _ ho).2 rfl
  · obtain ⟨o, ho⟩ := inL c hc
    exact (B.fr _ ho).1
theorem upd_comm {H : Hp} {a b : Addr} {o u : HO} (n : a ≠ b) : upd (upd H a o) b u = upd (upd H b u) a o := funext fun c => by
  by_cases h1 : c = a
  · rw [h1, upd_ne n, upd_same, upd_same]
  · by_cases h2 : c = b
    · rw [h2, upd_same, upd_ne n.symm, upd_same]
    · rw [upd_ne h2, upd_ne h1, upd_ne h1, upd_ne h2]
theorem upd_id {H : Hp} {a : Addr} {o : HO} (e : H a = some o) : upd H a o = H := funext fun c => by
  by_cases h : c = a
  · rw [h, upd_same, e]
  · rw [upd_ne h]
theorem thaw_of {H0 H : Hp} {t : TS} {D : Ends} {σ : St} {d : Addr} {ob : Obj} {kvs : List (Key × V)} (e : H d = some (.frz ob (.dK kvs))) (n : ∀ o u, H0 d ≠ some (.frz o u)) (h : t D σ (upd H d (.dK kvs))) : tThawK H0 t D σ H := ⟨d, ob, kvs, e, n, h⟩
def csOf (M S : Nat) (d : Nat → Nat) : List (Option Int) := (List.range S).map fun s => if d s < M then some ((d s : Nat) : Int) else none
def posB (xs : List Int) : Bool := xs.all fun a => decide (0 ≤ a)
def priB (cols lim ys zs : List Int) : Bool := decide (ys.length = cols.length) && (decide (zs.length = lim.length) && (posB ys && posB zs))
def chpB (ss : List Spt) (cols lim : List Int) (cs : List (Option Int)) (ys zs : List Int) : Bool := dealB ss cols lim cs && (priB cols lim ys zs && decide (costOf ss cs = worthT ss cols lim ys zs))
structure ChpOk (ss : List Spt) (cols lim : List Int) (cs : List (Option Int)) (ys zs : List Int) : Prop where
  sl : ss.length ≤ 20
  cl : cols.length ≤ 20
  ll : lim.length ≤ 20
  dl : cs.length ≤ 40
  yl : ys.length ≤ 60
  zl : zs.length ≤ 60
  ok : ∀ s ∈ ss, SpOk cols.length lim.length s
  cb : ∀ a ∈ cols, 0 ≤ a ∧ a ≤ 20
  lb : ∀ a ∈ lim, 0 ≤ a ∧ a < 2 ^ 40
theorem il_take (p : Nat → Int) (a b : Nat) : (il (a + b) p).take a = il a p := by
  refine List.ext_getElem? fun i => ?_
  rw [List.getElem?_take]
  by_cases h : i < a
  · rw [if_pos h, il_get (by omega), il_get h]
  · rw [if_neg h, List.getElem?_eq_none (by rw [il_len]; omega)]
theorem il_drop (p : Nat → Int) (a b : Nat) : (il (a + b) p).drop a = il b fun o => p (a + o) := by
  refine List.ext_getElem? fun i => ?_
  rw [List.getElem?_drop]
  by_cases h : i < b
  · rw [il_get (by omega), il_get h]
  · rw [List.getElem?_eq_none (by rw [il_len]; omega), List.getElem?_eq_none (by rw [il_len]; omega)]
end My

set_option Elab.async false
set_option linter.all false
set_option maxRecDepth 100000
set_option maxHeartbeats 1000000
namespace My
open PySem L2
/-- copies of lists, one by one, in the list at L -/
structure CpI (H : Hp) (L : Addr) (rows : List (List V)) (i : Nat) (H' : Hp) (ns : List Addr) : Prop where
  same : Same H H'
  at_ : H' L = some (.lst (ns.map V.ref))
  len : ns.length = i
  pr : ∀ (k : Nat) a xs, ns[k]? = some a → rows[k]? = some xs → H' a = some (.lst xs)
  fr : ∀ a ∈ ns, H a = none ∧ a ≠ L
theorem CpI.ini {H : Hp} {L : Addr} {rows : List (List V)} (hL : H L = none) : CpI H L rows 0 (upd H L (.lst [])) [] := ⟨same_new hL _, upd_same, rfl, (fun k a xs z => by simp at z), fun a z => by cases z⟩
theorem CpI.step {H H' : Hp} {L p : Addr} {rows : List (List V)} {i : Nat} {ns : List Addr} {xs : List V} (D : CpI H L rows i H' ns) (hL : H L = none) (hp : H' p = none) (hx : rows[i]? = some xs) : CpI H L rows (i + 1) (upd (upd H' p (.lst xs)) L (.lst (ns.map V.ref ++ [.ref p]))) (ns ++ [p]) := by
  have g := same_new hp (.lst xs)
  have nL : p ≠ L := fun z => by rw [z, D.at_] at hp; cases hp
  refine ⟨same_upd hL (D.same.trans g) _, by rw [upd_same, List.map_append]; rfl, by rw [List.length_append, D.len]; rfl, fun k a ys h hy => ?_, fun a ha => ?_⟩
  · by_cases z : k < ns.length
    · rw [List.getElem?_append_left z] at h
      rw [upd_ne (D.fr a (List.mem_of_getElem? h)).2]
      exact g _ _ (D.pr k a ys h hy)
    · have hs := (List.getElem?_eq_some_iff.mp h).1
      rw [List.length_append] at hs
      have hs : k < ns.length + 1 := hs
      have : k = ns.length := by omega
      subst this
      rw [List.getElem?_append_right (Nat.le_refl _), Nat.sub_self] at h
      cases h
      rw [D.len, hx] at hy
      cases hy
      rw [upd_ne nL, upd_same]
  · rcases List.mem_append.mp ha with z | z
    · exact D.fr a z
    · cases List.mem_singleton.mp z
      exact ⟨D.same.free hp, nL⟩
theorem three {α : Type} {l : List α} (h : l.length = 3) : ∃ a b c, l = [a, b, c] := by
  match l, h with
  | [a, b, c], _ => exact ⟨a, b, c, rfl⟩
end My
namespace My
open PySem L2
/-- a dealing and prices that are spoilt -/
structure SpT (H : Hp) (d y z : Addr) (H' : Hp) (cs : List (Option Int)) (ys zs : List Int) : Prop where
  fr : ∀ a o, H a = some o → a ≠ d → a ≠ y → a ≠ z → H' a = some o
  ed : H' d = some (.lst (cs.map oV))
  ey : H' y = some (.lst (ys.map V.int))
  ez : H' z = some (.lst (zs.map V.int))
theorem SpT.swap {H : Hp} {d y z : Addr} {H' : Hp} {cs : List (Option Int)} {ys zs : List Int} (h : SpT H d y z H' cs ys zs) : SpT H d z y H' cs zs ys := ⟨fun a o e n1 n2 n3 => h.fr a o e n1 n3 n2, h.ed, h.ez, h.ey⟩
theorem SpT.mono {H : Hp} {d y z : Addr} {H' H2 : Hp} {cs : List (Option Int)} {ys zs : List Int} (h : SpT H d y z H' cs ys zs) (g : Same H' H2) : SpT H d y z H2 cs ys zs := ⟨fun a o e n1 n2 n3 => g _ _ (h.fr a o e n1 n2 n3), g _ _ h.ed, g _ _ h.ey, g _ _ h.ez⟩
theorem SpT.putY {H : Hp} {d y z : Addr} {H' : Hp} {cs : List (Option Int)} {ys zs : List Int} (h : SpT H d y z H' cs ys zs) (n1 : y ≠ d) (n2 : y ≠ z) (xs : List Int) : SpT H d y z (upd H' y (.lst (xs.map V.int))) cs xs zs := ⟨fun a o e m1 m2 m3 => by rw [upd_ne m2]; exact h.fr a o e m1 m2 m3, by rw [upd_ne n1.symm]; exact h.ed, upd_same, by rw [upd_ne n2.symm]; exact h.ez⟩
theorem SpT.putD {H : Hp} {d y z : Addr} {H' : Hp} {cs : List (Option Int)} {ys zs : List Int} (h : SpT H d y z H' cs ys zs) (n1 : y ≠ d) (n2 : z ≠ d) (xs : List (Option Int)) : SpT H d y z (upd H' d (.lst (xs.map oV))) xs ys zs := ⟨fun a o e m1 m2 m3 => by rw [upd_ne m1]; exact h.fr a o e m1 m2 m3, upd_same, by rw [upd_ne n1]; exact h.ey, by rw [upd_ne n2]; exact h.ez⟩
theorem SpT.back {H H0 : Hp} {d y z : Addr} {H' : Hp} {cs : List (Option Int)} {ys zs : List Int} (h : SpT H d y z H' cs ys zs) (g : Same H0 H) (n1 : H0 d = none) (n2 : H0 y = none) (n3 : H0 z = none) : Same H0 H' := fun a o e => h.fr a o (g _ _ e) (fun w => by rw [w, n1] at e; cases e) (fun w => by rw [w, n2] at e; cases e) (fun w => by rw [w, n3] at e; cases e)
theorem emod_two (n : Int) : n % 2 = 0 ∨ n % 2 = 1 := by omega
theorem ne_nil {K : PySem.W.Frag} {H : Hp} {a b : Addr} {ds : List DV} {Q : VK} (h1 : Den K H 2 (.ref a) (.lst ds)) (h2 : H b = some (.lst [])) (hq : Q (.bl (!decide (ds = []))) H) : rNeD K 1 (.ref a) (.ref b) H Q := by
  refine ⟨a, b, .lst ds, .lst [], rfl, rfl, h1, ⟨_, SqL.of h2, .nil⟩, like_nil, ?_⟩
  have e : eqD (.lst ds) (.lst []) = decide (ds = []) := by
    unfold eqD
    exact decide_eq_decide.mpr ⟨fun h => by injection h, fun h => by rw [h]⟩
  rw [e]
  exact hq
theorem SpT.at {K : PySem.W.Frag} {H : Hp} {d y z : Addr} {H' : Hp} {cs : List (Option Int)} {ys zs : List Int} (h : SpT H d y z H' cs ys zs) {k : Nat} (hk : k < ys.length) : atI (ys.map V.int) (k : Int) = some (.int ys[k]) := atI_nat (by rw [List.getElem?_map, List.getElem?_eq_getElem hk]; rfl)
theorem era_int : ∀ (cs : List Int) (k : Nat), (cs.map V.int).eraseIdx k = (cs.eraseIdx k).map V.int
  | [], _ => rfl
  | _ :: _, 0 => rfl
  | a :: cs, k + 1 => by
    show V.int a :: (cs.map V.int).eraseIdx k = V.int a :: (cs.eraseIdx k).map V.int
    rw [era_int cs k]
theorem era_le {α : Type} (cs : List α) (k : Nat) : (cs.eraseIdx k).length ≤ cs.length := List.length_eraseIdx_le cs k
theorem seqIndex_nat {k n : Nat} (h : k < n) : seqIndex? (k : Int) n = some k := (ixN_seq (ixN_lt h)).1
theorem ifs_ofB {c : TT} {ta tb : TS} {D : Ends} {σ : St} {H : Hp} (h : ∀ A : TS, A = ta → tIfS c A tb D σ H) : tIfS c ta tb D σ H := h ta rfl
end My

set_option Elab.async false
set_option linter.all false
set_option maxRecDepth 100000
set_option maxHeartbeats 1000000
namespace My
open PySem L2
theorem offL_in {M : Nat} {s : Spt} {O : Nat} (ok : SpOk M O s) {c : Nat} {v : Int} (h : lkp (offL M s) c = some v) : (if c < M then some (c : Int) else none) ∈ s.fs.map (·.1) := by
  obtain ⟨f, hf, e⟩ := List.mem_map.mp (lkp_mem h)
  have e1 : colN M s.o f.1 = c := congrArg Prod.fst e
  cases hc : f.1 with
  | none =>
    rw [hc] at e1
    simp only [colN] at e1
    rw [if_neg (by omega), ← hc]
    exact List.mem_map_of_mem hf
  | some x =>
    have := ok.col f hf x hc
    rw [hc] at e1
    simp only [colN] at e1
    rw [if_pos (by omega), show (c : Int) = x by omega, ← hc]
    exact List.mem_map_of_mem hf
theorem in_offL {M : Nat} {s : Spt} {O : Nat} (ok : SpOk M O s) {c : Option Int} (h : c ∈ s.fs.map (·.1)) : colN M s.o c < M + O ∧ (lkp (offL M s) (colN M s.o c)).isSome = true := by
  obtain ⟨f, hf, rfl⟩ := List.mem_map.mp h
  have k := offL_kok ok
  have hm : (colN M s.o f.1, f.2) ∈ offL M s := by unfold offL; exact List.mem_map.mpr ⟨f, hf, rfl⟩
  refine ⟨k.lt _ (List.mem_map.mpr ⟨_, hm, rfl⟩), ?_⟩
  rw [lkp_of k.nd hm]
  rfl
/-- a dealing as columns -/
def dlN (M : Nat) (ss : List Spt) (cs : List (Option Int)) (s : Nat) : Nat := colN M (ss.getD s ⟨0, []⟩).o (cs.getD s none)
section
variable {M O : Nat} {ss : List Spt} {cs : List (Option Int)} (hlen : ss.length = cs.length) (hok : ∀ s ∈ ss, SpOk M O s) (hin : ∀ (i : Nat) s c, ss[i]? = some s → cs[i]? = some c → c ∈ s.fs.map (·.1))
include hlen hok hin
theorem dl_at {i : Nat} (hi : i < ss.length) : ∃ s c, ss[i]? = some s ∧ cs[i]? = some c ∧ SpOk M O s ∧ c ∈ s.fs.map (·.1) ∧ dlN M ss cs i = colN M s.o c := by
  have h1 := List.getElem?_eq_getElem hi
  have h2 := List.getElem?_eq_getElem (show i < cs.length by omega)
  refine ⟨_, _, h1, h2, hok _ (List.mem_of_getElem? h1), hin i _ _ h1 h2, ?_⟩
  unfold dlN
  rw [getD_of h1, getD_of h2]
theorem cnt_got {c : Nat} (hc : c < M) : ∀ i, i ≤ ss.length → Chp.cnt i (dlN M ss cs) c = gotN (cs.take i) c := by
  intro i
  induction i with
  | zero => intro _; rfl
  | succ i ih =>
    intro hi
    obtain ⟨s, x, h1, h2, ok, hx, e⟩ := dl_at hlen hok hin (show i < ss.length by omega)
    rw [Chp.cnt_succ, ih (by omega), take_one h2, e]
    unfold gotN
    rw [List.countP_append]
    have : (if colN M s.o x = c then (1 : Int) else 0) = (([x].countP fun z => decide (z = some (c : Int)) : Nat) : Int) := by
      obtain ⟨f, hf, ef⟩ := List.mem_map.mp hx
      cases x with
      | none =>
        have e0 : colN M s.o none = M + s.o.toNat := rfl
        rw [if_neg (by omega)]
        rfl
      | some v =>
        have := ok.col f hf v ef
        have e0 : colN M s.o (some v) = v.toNat := rfl
        by_cases z : colN M s.o (some v) = c
        · rw [if_pos z]
          have : v = (c : Int) := by omega
          simp [this]
        · rw [if_neg z]
          have : ¬ v = (c : Int) := by omega
          simp [this]
    rw [this]
    omega
theorem cnt_idle (o : Nat) : ∀ i, i ≤ ss.length → Chp.cnt i (dlN M ss cs) (M + o) = (((ss.take i).countP fun s => decide (s.o = (o : Int)) : Nat) : Int) - busyN (ss.take i) (cs.take i) o := by
  intro i
  induction i with
  | zero => intro _; rfl
  | succ i ih =>
    intro hi
    obtain ⟨s, x, h1, h2, ok, hx, e⟩ := dl_at hlen hok hin (show i < ss.length by omega)
    rw [Chp.cnt_succ, ih (by omega), take_one h2, take_one h1, busyN_snoc _ _ _ _ _ (by rw [List.length_take, List.length_take]; omega), e, List.countP_append]
    have own := ok.own
    have : (if colN M s.o x = M + o then (1 : Int) else 0) = (([s].countP fun z => decide (z.o = (o : Int)) : Nat) : Int) - (if x.isSome ∧ s.o = (o : Int) then 1 else 0) := by
      obtain ⟨f, hf, ef⟩ := List.mem_map.mp hx
      cases x with
      | none =>
        have e0 : colN M s.o none = M + s.o.toNat := rfl
        by_cases z : s.o = (o : Int)
        · rw [if_pos (by omega)]
          simp [z]
        · rw [if_neg (by omega)]
          simp [z]
      | some v =>
        have := ok.col f hf v ef
        have e0 : colN M s.o (some v) = v.toNat := rfl
        rw [if_neg (by omega)]
        by_cases z : s.o = (o : Int)
        · simp [z]
        · simp [z]
    rw [this]
    omega
end
theorem deal_net {ss : List Spt} {cols lim : List Int} {cs : List (Option Int)} (hok : ∀ s ∈ ss, SpOk cols.length lim.length s) (h : dealB ss cols lim cs = true) :
    (∀ s, s < ss.length → dlN cols.length ss cs s < cols.length + lim.length ∧ ((netS ss cols lim).off s (dlN cols.length ss cs s)).isSome = true) ∧ ∀ c, c < cols.length + lim.length → (netS ss cols lim).need c ≤ Chp.cnt ss.length (dlN cols.length ss cs) c := by
  unfold dealB at h
  rw [Bool.and_eq_true, Bool.and_eq_true] at h
  obtain ⟨ho, he, hb⟩ := h
  obtain ⟨hlen, hin⟩ := offB_in ho
  refine ⟨fun s hs => ?_, fun c hc => ?_⟩
  · obtain ⟨sp, x, h1, h2, ok, hx, e⟩ := dl_at hlen hok hin hs
    rw [e]
    have := in_offL ok hx
    refine ⟨this.1, ?_⟩
    show (lkp (offL cols.length (ss.getD s _)) _).isSome = true
    rw [getD_of h1]
    exact this.2
  · show (if c < cols.length then cols.getD c 0 else beyN ss lim (c - cols.length)) ≤ _
    by_cases z : c < cols.length
    · rw [if_pos z, cnt_got hlen hok hin z _ (Nat.le_refl _), hlen, List.take_length]
      exact of_decide_eq_true (all_get he z)
    · rw [if_neg z]
      obtain ⟨o, rfl⟩ : ∃ o, c = cols.length + o := ⟨c - cols.length, by omega⟩
      rw [cnt_idle hlen hok hin o _ (Nat.le_refl _), List.take_length, hlen, List.take_length, show cols.length + o - cols.length = o by omega]
      unfold beyN
      have : busyN ss cs o ≤ lim.getD o 0 := of_decide_eq_true (all_get hb (show o < lim.length by omega))
      omega
theorem csOf_len (M S : Nat) (d : Nat → Nat) : (csOf M S d).length = S := by unfold csOf; rw [List.length_map, List.length_range]
theorem csOf_in {ss : List Spt} {cols lim : List Int} {d : Nat → Nat} {p : Nat → Int} (hok : ∀ s ∈ ss, SpOk cols.length lim.length s) (G : Chp.Good (netS ss cols lim) d p) : ∀ (i : Nat) s c, ss[i]? = some s → (csOf cols.length ss.length d)[i]? = some c → c ∈ s.fs.map (·.1) := fun i s c hs hc => by
  have hi := (List.getElem?_eq_some_iff.mp hs).1
  have h := G.inn i hi
  have h : (lkp (offL cols.length (ss.getD i ⟨0, []⟩)) (d i)).isSome = true := h
  rw [getD_of hs] at h
  obtain ⟨v, hv⟩ := Option.isSome_iff_exists.mp h
  have e : (csOf cols.length ss.length d)[i]? = some (if d i < cols.length then some ((d i : Nat) : Int) else none) := by
    unfold csOf
    rw [List.getElem?_map, List.getElem?_range hi]
    rfl
  rw [e] at hc
  cases hc
  exact offL_in (hok s (List.mem_of_getElem? hs)) hv
end My
namespace My
open PySem L2
theorem ifs_ofC {c : TT} {ta tb : TS} {D : Ends} {σ : St} {H : Hp} (h : ∀ A B : TS, A = ta → B = tb → tIfS c A B D σ H) : tIfS c ta tb D σ H := h ta tb rfl rfl
/-- what is told: a dealing and prices in lists of their own -/
structure TldI (H1 H6 H7 : Hp) (r : Addr) (ss : List Spt) (M O : Nat) (t d y z : Addr) (cs : List (Option Int)) (ys zs : List Int) : Prop where
  same : Same H6 H7
  et : H7 t = some (.lst [.ref d, .ref y, .ref z])
  ed : H7 d = some (.lst (cs.map oV))
  ey : H7 y = some (.lst (ys.map V.int))
  ez : H7 z = some (.lst (zs.map V.int))
  nyd : y ≠ d
  nzd : z ≠ d
  nyz : y ≠ z
  ntd : t ≠ d
  nty : t ≠ y
  ntz : t ≠ z
  fd : H1 d = none
  fy : H6 y = none
  fz : H6 z = none
  fr : d = r ∨ H6 d = none
  ft : H6 t = none
  cl : ss.length = cs.length
  yl : ys.length = M
  zl : zs.length = O
  inn : ∀ (i : Nat) s c, ss[i]? = some s → cs[i]? = some c → c ∈ s.fs.map (·.1)
def Tld (H1 H6 H7 : Hp) (r : Addr) (ss : List Spt) (M O : Nat) (t : Addr) : Prop := ∃ d y z cs ys zs, TldI H1 H6 H7 r ss M O t d y z cs ys zs
end My

set_option Elab.async false
set_option linter.all false
set_option maxRecDepth 100000
set_option maxHeartbeats 4000000
namespace My
open PySem L2
def top (i : Nat) : Stmt := PySem.Challenge.pw_rotaward_k49_what_is_cheapest.main.body.getD i (.Pass ⟨0, 0, 0, 0⟩)
abbrev s_worth : Stmt := top 1
abbrev s_least_cost : Stmt := top 2
abbrev s_cost_of : Stmt := top 3
abbrev s_cost_at : Stmt := top 4
abbrev s_is_dealing : Stmt := top 5
abbrev s_are_offered : Stmt := top 6
abbrev s_is_enough : Stmt := top 7
abbrev s_is_borne : Stmt := top 8
abbrev s_is_cheapest : Stmt := top 9
abbrev s_are_prices : Stmt := top 10
abbrev s_Market___init__ : Stmt := inClass (top 12) 0
abbrev s_Market_lacks : Stmt := inClass (top 12) 1
abbrev s_Market_can_spare : Stmt := inClass (top 12) 2
abbrev s_Market_move : Stmt := inClass (top 12) 3
abbrev s_beyond_caps : Stmt := top 13
abbrev s_offers_of : Stmt := top 14
abbrev s_is_supplied : Stmt := top 15
abbrev s_look_on : Stmt := top 16
abbrev s_raise_prices : Stmt := top 17
abbrev s_follow : Stmt := top 18
abbrev s_cheapest : Stmt := top 19
abbrev s__law_cell_at : Stmt := top 21
abbrev s__law_stream : Stmt := top 22
abbrev s__law_whole : Stmt := top 23
abbrev s__law_spot : Stmt := top 24
abbrev s__law_cost : Stmt := top 25
abbrev s__law_spots : Stmt := top 26
abbrev s__law_copy : Stmt := top 27
abbrev s__law_limit : Stmt := top 28
abbrev s__law_picked : Stmt := top 29
abbrev s__law_counts : Stmt := top 30
abbrev s__law_worth_of : Stmt := top 31
abbrev s__law_cost_of : Stmt := top 32
abbrev s__law_dealing : Stmt := top 33
abbrev s__law_due : Stmt := top 34
abbrev s__law_spoilt : Stmt := top 35
abbrev s__law_good : Stmt := top 36
abbrev s_law : Stmt := top 37
structure Txt (K : PySem.W.Frag) (mg : Str → Option Value) (C_Market : Addr) : Prop where
  all : mg "all" = none
  bool : mg "bool" = none
  dict : mg "dict" = none
  enumerate : mg "enumerate" = none
  int : mg "int" = none
  isinstance : mg "isinstance" = none
  len : mg "len" = none
  list : mg "list" = none
  max : mg "max" = none
  min : mg "min" = none
  range : mg "range" = none
  sum : mg "sum" = none
  zip : mg "zip" = none
  cl_Market : Cls K C_Market
  n_Market_needs : NoAttr K C_Market "needs"
  n_Market_prices : NoAttr K C_Market "prices"
  n_Market_counts : NoAttr K C_Market "counts"
  n_Market_bids : NoAttr K C_Market "bids"
  n_Market_costs : NoAttr K C_Market "costs"
  n_Market_dealt : NoAttr K C_Market "dealt"
  n_Market_paid : NoAttr K C_Market "paid"
section
variable {P : Program} {w : World} {K : PySem.W.Frag} {mg : Str → Option Value} {base : Heap}
local macro_rules | `(pv $a)=>`(@pv _ $a _ _ rfl (by first | exact Or.inl rfl | exact Or.inr (Or.inl rfl) | exact Or.inr (Or.inr rfl)) (by decide) (by decide)) | `(pa_cons $a $b)=>`(@pa_cons _ _ _ _ _ $a $b rfl) | `(pe_op $a $b $c)=>`(@pe_op _ _ _ _ _ _ _ _ $a $b $c) | `(pss_cons $a $b)=>`(@pss_cons _ _ _ _ _ $a $b) | `(pe_ix $a $b $c $d)=>`(@pe_ix _ _ _ _ _ _ _ $a $b $c $d) | `(pss_one $a)=>`(@pss_one _ _ _ $a) | `(pg_name (i:=$a) $b $c $d)=>`(@pg_name _ _ $a _ $b $c $d (by first | exact .inl rfl | exact .inr rfl | assumption)) | `(pgs_cons $a $b)=>`(@pgs_cons _ _ _ _ _ $a $b rfl) | `(ps_set (i:=$a) $b $c $d $e)=>`(@ps_set _ _ $a _ _ _ _ $b $c $d $e rfl (by first | exact .inl rfl | exact .inr rfl | assumption)) | `(pe_callB $a $b $c $d $e)=>`(@pe_callB _ _ _ _ _ _ _ _ _ $a $b $c $d $e (by decide) (by decide) rfl rfl) | `(nomark $a)=>`(@nomark $a _ (by decide) (by decide)) | `(ps_ret $a)=>`(@ps_ret _ _ _ _ $a) | `(pe_cal $a $b $c $d)=>`(@pe_cal _ _ _ _ _ _ _ _ _ _ $a $b $c $d (by decide) rfl rfl) | `(pt_cmpR $a $b $c $d)=>`(@pt_cmpR _ _ _ _ _ _ _ _ $a $b $c $d) | `(ps_if $a $b $c)=>`(@ps_if _ _ _ _ _ _ _ _ $a $b $c) | `(call_lenK (K:=$a) $b)=>`(@call_lenK _ $a $b) | `(pe_comp (own:=$a) (fnames:=$b) (fr:=$c) (N':=$d) $e $f $g $h)=>`(@pe_comp _ _ $d $a $b $c _ _ _ _ _ _ _ _ _ $e $f $g $h (by intro _; rfl)) | `(pe_fld $a $b)=>`(@pe_fld _ _ _ _ _ $a $b) | `(pi_list $a)=>`(@pi_list _ _ _ _ $a) | `(pe_lst $a)=>`(@pe_lst _ _ _ _ $a) | `(pg_tupK (K:=$a) (n:=$b) $c $d $e)=>`(@pg_tupK _ $a _ _ _ $b _ $c $d $e rfl rfl) | `(ps_expr $a)=>`(@ps_expr _ _ _ _ $a rfl) | `(ps_asg $a $b)=>`(@ps_asg _ _ _ _ _ _ $a $b rfl rfl rfl) | `(pi_range1 $a $b $c)=>`(@pi_range1 _ _ _ _ _ _ $a $b $c rfl) | `(ix_listK (K:=$a) $b)=>`(@ix_listK _ $a $b) | `(ps_for $a $b $c $d $e)=>`(@ps_for _ _ _ _ _ _ _ _ $a $b $c $d $e (by intro _; rfl)) | `(pe_tup $a)=>`(@pe_tup _ _ _ _ _ $a) | `(pe_callTy $a $b $c $d $e)=>`(@pe_callTy _ _ _ _ _ _ _ _ _ $a $b $c $d $e (by decide) (by decide) rfl rfl) | `(pg_sub $a $b $c)=>`(@pg_sub _ _ _ _ _ _ _ $a $b $c (by intro _; rfl)) | `(call_listK (K:=$a) $b)=>`(@call_listK _ $a $b) | `(pe_bm $a $b $c $d $e $f)=>`(@pe_bm _ _ _ _ _ _ _ _ _ _ _ _ $a $b $c $d $e $f rfl rfl rfl rfl rfl) | `(pe_cmpR $a $b $c $d)=>`(@pe_cmpR _ _ _ _ _ _ _ _ $a $b $c $d) | `(pt_val $a)=>`(@pt_val _ _ _ $a (by intro _; rfl)) | `(pg_tup (n:=$a) $b $c)=>`(@pg_tup _ _ _ _ _ $a $b $c rfl rfl) | `(po_some $a)=>`(@po_some _ _ _ $a) | `(pss_cut $a $b)=>`(@pss_cut _ _ _ _ _ $a $b) | `(hu_of $a)=>`(@hu_of _ _ $a) | `(pe_slice $a $b $c $d)=>`(@pe_slice _ _ _ _ _ _ _ _ _ _ $a $b $c $d) | `(ix_tupK (K:=$a) $b)=>`(@ix_tupK _ $a $b) | `(pt_not $a)=>`(@pt_not _ _ _ _ $a) | `(ps_comp (i:=$a) $b $c $d (own:=$e) (fnames:=$f) (fr:=$g) (N':=$h) $i $j $k $l)=>`(@ps_comp _ _ $h $e $f $g $a _ _ _ _ _ _ _ _ _ _ _ _ $b $c $d $i $j $k $l rfl (by intro _; rfl)) | `(ps_fld $a $b $c)=>`(@ps_fld _ _ _ _ _ _ _ _ $a $b $c) | `(pw_or $a $b)=>`(@pw_or _ _ _ _ _ _ _ $a $b) | `(call_sumG $a)=>`(@call_sumG _ $a) | `(pi_enum_list $a $b $c)=>`(@pi_enum_list _ _ _ _ _ _ _ _ $a $b $c rfl) | `(pw_or1 $a)=>`(@pw_or1 _ _ _ _ $a) | `(pe_and $a $b)=>`(@pe_and _ _ _ _ _ _ _ $a $b) | `(pts_one $a)=>`(@pts_one _ _ _ $a) | `(pi_zip $a $b $c)=>`(@pi_zip _ _ _ _ _ _ _ _ _ $a $b $c rfl rfl) | `(call_all $a)=>`(@call_all _ $a) | `(pe_one $a)=>`(@pe_one _ _ _ _ _ $a)
local macro_rules | `(tactic| walk_at "rd") => `(tactic| try simp only [tSeq, tRet, tRetN, tIfS, tNext, tDrop, tOp, tUn, tVar, tC, rI0, rI, rU, rEq, rNe, L2.start, tAsg, gName, tTest, tB, tCB, tCons, tNil, rIxL, rIxT, tNot, tAnd, tOr, tNotV, tAndV, tOrV, tCall, rIsi, iRng1, iRng2, tFor, tWhile, tChain, tIf, tTup, tLst, tComp, tBlk, compSt, tTrue, Cx.comp, List.replicate_one, List.replicate_zero, Option.getD_some, tBM, tBM0, rLen, rListOf, rTupL, tRaise, tCallX, tDropX, tSetX, tTry0, tTryA, Ends.gone, rIsx, rExc, vO, tFld, tMeth, tMake, sFld, iEnL, iEnT, gTup, gCons, gNil, gSub, rSetL, rCat, rInsert, tSl, tNoPart, tPart, rSlL, rAppend, rClear, iList, iTup, cxOf, Cx.nox, Cx.wish, List.map_cons, List.map_nil, List.length_cons, List.length_nil, Nat.reduceAdd, Nat.reduceSub, List.reduceReplicate, List.cons_append, List.nil_append, List.append_nil, List.getElem?_cons_zero, List.getElem?_cons_succ, List.set_cons_zero, List.set_cons_succ, Option.some.injEq, V.int.injEq, V.bl.injEq, V.ref.injEq, V.str.injEq, V.ty.injEq, List.cons.injEq, and_true, true_and, and_assoc, exists_eq_left, exists_eq_left', exists_eq_right, exists_eq, exists_eq', exists_and_left, exists_const, decide_eq_true_eq, scal_ii, scal_bb, scal_ss, tEqI', Bool.not_eq_true', Bool.not_eq_true, decide_eq_false_iff_not, if_true, if_false, Bool.false_eq_true, reduceIte, tyN_int, tyN_bl, tyN_str, tyN_ref, okT_int, okT_bool, okT_str, okT_list, okT_tuple, subN_ii, subN_ib, subN_bb, subN_bi, subN_ss, subN_ll, subN_tt, Bool.not_true, Bool.not_false, not_true_eq_false, Bool.true_eq_false, rRep, iZip, tLRev, rIn, rCount, rPopAt, rLenD, rListD, rUpdD, rCopyD, tDGet, tDIn, tDNotIn, sDPut, tDPop1, tDNewK, tIsN, tNotN, tDisp, tPairs, rExtend, tThawK, rDictK, iItm, tMinV, tMinD, gLst])
def sp_beyond_caps (K : PySem.W.Frag) (C_Market : Addr) : Sp := fun vs H Q _ => ∃ (p l : Addr) (us : List V) (ss : List Spt) (lim : List Int), vs = [.ref p, .ref l] ∧ H p = some (.lst us) ∧ Spts H us ss ∧ H l = some (.lst (lim.map V.int)) ∧ ss.length ≤ 20 ∧ lim.length ≤ 30 ∧ ∀ (r : Addr) (H' : Hp), Same H H' → H r = none → H' r = some (.lst ((il lim.length (beyN ss lim)).map V.int)) → Q (.ref r) H'
theorem sc_beyond_caps : FnScope ["spots", "caps", "owners"] ["spots", "caps"] (defScope s_beyond_caps) := ⟨rfl, rfl, rfl, by decide +kernel, rfl, by decide +kernel, by decide +kernel⟩
theorem ok_beyond_caps {C_Market : Addr} {f : Addr} {fd : FuncData} (F : Fun K "beyond_caps" "beyond_caps" s_beyond_caps f fd) (T : Txt K mg C_Market)  : FnOk P w K mg base CX0 1 f fd ["spots", "caps"] (sp_beyond_caps K C_Market) := by
  refine F.ok sc_beyond_caps (fun vs H Q E h => ?_) (fun cdv A outer s H vs Q E hr h => ?_)
  · obtain ⟨p, l, us, ss, lim, rfl, _⟩ := h
    rfl
  · obtain ⟨p, l, us, ss, lim, rfl, hp, hS, hl, n1, n2, q⟩ := h
    refine ⟨_, (pss_cons (ps_set (i := 2) sc_beyond_caps.nd rfl (Or.inr rfl) (pe_comp (own := ["spot"]) (fnames := []) (fr := []) (N' := ["spot"]) ⟨rfl, rfl, rfl, rfl, rfl, rfl, rfl⟩ rfl (pi_list (pv 0)) (fun s0 H0 fp0 C0 => ⟨(pg_name (i := 0) (by show (["spot"] : List Str).Nodup; decide +kernel) rfl (Or.inl rfl)), pts_nil, (pe_ix (ix_tupK (K := K) rfl) (pv 0) pe_int (fun _ _ => rfl))⟩)))
    (pss_one (ps_ret (pe_comp (own := ["owner", "cap"]) (fnames := ["owners"]) (fr := [2]) (N' := ["owner", "cap", "owners"]) ⟨rfl, rfl, rfl, rfl, rfl, rfl, rfl⟩ rfl (pi_enum_list rfl T.enumerate (pv 1)) (fun s0 H0 fp0 C0 => ⟨(pg_tupK (K := K) (n := 2) rfl rfl (pgs_cons (pg_name (i := 0) (by show (["owner", "cap", "owners"] : List Str).Nodup; decide +kernel) rfl (Or.inl rfl)) (pgs_cons (pg_name (i := 1) (by show (["owner", "cap", "owners"] : List Str).Nodup; decide +kernel) rfl (Or.inl rfl)) pgs_nil))), pts_nil, (pe_op op_sub (pe_bmK (K := K) rfl PySem.F.plainAttrs_list PySem.F.slot_list_count PySem.F.type_list_count mt_count (pv 2) (pa_cons (pv 0) pa_nil)) (pv 1))⟩))))), ?_⟩
    have hul := Paired.length hS
    refine seq_of fun U1 u1 => ?_
    walk_at "rd"
    refine ⟨⟨_, SqL.of hp⟩, fun L hL => for_listW (xs := us) (fun i σ H' => Same H H' ∧ H' L = some (.lst (((ss.take i).map (·.o)).map V.int)) ∧ ∃ v0, σ = [v0]) ⟨same_new hL _, upd_same, none, rfl⟩ (fun i σ H' _ hh => SqL.of (hh.1 _ _ hp)) ?_ ?_⟩
    · rintro i v σ H' hv ⟨g, e, v0, rfl⟩
      obtain ⟨s, hs, t2, l2, ts2, rfl, q1, q2, q3⟩ := Paired.get' hS hv
      have hi := (List.getElem?_eq_some_iff.mp hs).1
      walk_at "rd"
      refine ⟨_, SqT.of (g _ _ q1), .int s.o, rfl, _, e, small1000 (by rw [List.length_map, List.length_map, List.length_take]; omega), same_upd hL g _, ?_⟩
      rw [upd_same, take_one hs, List.map_append, List.map_append]
      rfl
    rintro σ H1 ⟨g1, e1, v0, rfl⟩
    rw [hul, List.take_length] at e1
    rw [u1]; clear u1
    walk_at "rd"
    refine ⟨⟨_, SqL.of (g1 _ _ hl)⟩, fun L2 hL2 => for_enumW (xs := lim.map V.int) (fun i σ H' => Same H1 H' ∧ H' L2 = some (.lst ((il i (beyN ss lim)).map V.int)) ∧ ∃ v0 v1, σ = [v0, v1, some (.ref L)]) ⟨same_new hL2 _, upd_same, none, none, rfl⟩ (fun i σ H' _ hh => SqL.of (hh.1 _ _ (g1 _ _ hl))) ?_ ?_⟩
    · rintro i x σ H' t hx ⟨g, e, v0, v1, rfl⟩ ht
      obtain ⟨y, hy, rfl⟩ := map_item hx
      have hi := (List.getElem?_eq_some_iff.mp hy).1
      have gt := same_new ht (.tup [.int ((0 + i : Nat) : Int), .int y])
      walk_at "rd"
      refine ⟨_, SqT.of upd_same, rfl, _, _, rfl, _, _, rfl, rfl, ?_⟩
      walk_at "rd"
      refine ⟨.inl ⟨rfl, _, SqL.of ((g.trans gt) _ _ e1)⟩, _, (g.trans gt) _ _ e1, rfl, flat_ints _, _, gt _ _ e, small1000 (by rw [il_mlen]; omega), same_upd hL2 (g.trans gt) _, ?_⟩
      rw [upd_same, Nat.zero_add, il_snoc, List.map_append, bey_at hy]
      rfl
    rintro σ H' ⟨g, e, v0, v1, rfl⟩
    rw [List.length_map] at e
    exact q L2 H' (g1.trans g) (g1.free hL2) e
def sp_offers_of (K : PySem.W.Frag) (C_Market : Addr) : Sp := fun vs H Q _ => ∃ (t l c : Addr) (ts : List V) (s : Spt) (cols : List Int), vs = [.ref t, .ref c] ∧ (∃ O, SpOk cols.length O s) ∧ H t = some (.tup [.int s.o, .ref l]) ∧ H l = some (.lst ts) ∧ Offs H ts s.fs ∧ H c = some (.lst (cols.map V.int)) ∧ s.fs.length ≤ 30 ∧ ∀ (r : Addr) (ws : List V) (H' : Hp), Same H H' → H r = none → H' r = some (.lst ws) → PrsK H' ws (nrK (offL cols.length s)) → Q (.ref r) H'
theorem sc_offers_of : FnScope ["spot", "columns", "idle"] ["spot", "columns"] (defScope s_offers_of) := ⟨rfl, rfl, rfl, by decide +kernel, rfl, by decide +kernel, by decide +kernel⟩
theorem ok_offers_of {C_Market : Addr} {f : Addr} {fd : FuncData} (F : Fun K "offers_of" "offers_of" s_offers_of f fd) (T : Txt K mg C_Market)  : FnOk P w K mg base CX0 1 f fd ["spot", "columns"] (sp_offers_of K C_Market) := by
  refine F.ok sc_offers_of (fun vs H Q E h => ?_) (fun cdv A outer s H vs Q E hr h => ?_)
  · obtain ⟨t, l, c, ts, s, cols, rfl, _⟩ := h
    rfl
  · obtain ⟨t, l, c, ts, s, cols, rfl, ⟨O, ok⟩, ht, hl, hO, hc, n1, q⟩ := h
    refine ⟨_, (pss_cons (ps_set (i := 2) sc_offers_of.nd rfl (Or.inr rfl) (pe_op op_add (pe_callB (call_lenK (K := K) rfl) (by rfl) T.len PySem.boot_len (pa_cons (pv 1) pa_nil)) (pe_ix ix_tup (pv 0) pe_int (fun _ _ => rfl))))
    (pss_one (ps_ret (pe_comp (own := ["column", "cost"]) (fnames := ["idle"]) (fr := [2]) (N' := ["column", "cost", "idle"]) ⟨rfl, rfl, rfl, rfl, rfl, rfl, rfl⟩ rfl (pi_list (pe_ix ix_tup (pv 0) pe_int (fun _ _ => rfl))) (fun s0 H0 fp0 C0 => ⟨(pg_tupK (K := K) (n := 2) rfl rfl (pgs_cons (pg_name (i := 0) (by show (["column", "cost", "idle"] : List Str).Nodup; decide +kernel) rfl (Or.inl rfl)) (pgs_cons (pg_name (i := 1) (by show (["column", "cost", "idle"] : List Str).Nodup; decide +kernel) rfl (Or.inl rfl)) pgs_nil))), pts_nil, (pe_tup (pa_cons (pe_ifExp (pt_cmpR op_isN (pv 0) pe_non (nomark _)) (pv 2) (pv 0)) (pa_cons (pv 1) pa_nil)))⟩))))), ?_⟩
    have hul := Paired.length hO
    refine seq_of fun U1 u1 => ?_
    walk_at "rd"
    refine ⟨_, .inl (SqL.of hc), _, SqT.of ht, .int s.o, rfl, _, rfl, ?_⟩
    rw [u1]; clear u1
    walk_at "rd"
    rw [List.length_map]
    refine ⟨_, SqT.of ht, .ref l, rfl, l, rfl, ⟨_, SqL.of hl⟩, fun D hD => for_listW (xs := ts) (fun i σ H' => ∃ (ws : List V) (v0 v1 : Option V), Same H H' ∧ H' D = some (.lst ws) ∧ PrsK H' ws (nrK ((offL cols.length s).take i)) ∧ σ = [v0, v1, some (.int ((cols.length : Int) + s.o))]) ⟨[], none, none, same_new hD _, upd_same, .nil, rfl⟩ (fun i σ H' _ ⟨_, _, _, g, _⟩ => SqL.of (g _ _ hl)) ?_ ?_⟩
    · rintro i v σ H' hv ⟨ws, v0, v1, g, e, hw, rfl⟩
      obtain ⟨f, hf, t2, rfl, q2⟩ := Paired.get' hO hv
      have hi := (List.getElem?_eq_some_iff.mp hf).1
      have hwl := Paired.length hw
      have hkl : (nrK ((offL cols.length s).take i)).length ≤ i := by unfold nrK; rw [List.length_map, List.length_take]; omega
      have hof : (offL cols.length s)[i]? = some (colN cols.length s.o f.1, f.2) := by unfold offL; rw [List.getElem?_map, hf]; rfl
      have hcv : (if oV f.1 = V.non then V.int ((cols.length : Int) + s.o) else oV f.1) = V.int ((colN cols.length s.o f.1 : Nat) : Int) := by
        have o := ok.own
        cases hfc : f.1 with
        | none =>
          rw [if_pos (show oV none = V.non from rfl)]
          simp only [colN]
          congr 1
          omega
        | some c =>
          have := ok.col f (List.mem_of_getElem? hf) c hfc
          rw [if_neg (fun z => by cases z)]
          show V.int c = _
          simp only [colN]
          congr 1
          omega
      have fin : ∀ p, H' p = none → ∃ x, upd H' p (.tup [.int ((colN cols.length s.o f.1 : Nat) : Int), .int f.2]) D = some (.lst x) ∧ x.length < sizeLine ∧ Same H (upd (upd H' p (.tup [.int ((colN cols.length s.o f.1 : Nat) : Int), .int f.2])) D (.lst (x ++ [.ref p]))) ∧ ∃ (ws : List V), upd (upd H' p (.tup [.int ((colN cols.length s.o f.1 : Nat) : Int), .int f.2])) D (.lst (x ++ [.ref p])) D = some (.lst ws) ∧ PrsK (upd (upd H' p (.tup [.int ((colN cols.length s.o f.1 : Nat) : Int), .int f.2])) D (.lst (x ++ [.ref p]))) ws (nrK ((offL cols.length s).take (i + 1))) := by
        intro p hp
        have g2 := same_new hp (.tup [.int ((colN cols.length s.o f.1 : Nat) : Int), .int f.2])
        have eD := g2 _ _ e
        refine ⟨_, eD, small1000 (by omega), same_upd hD (g.trans g2) _, _, upd_same, ?_⟩
        rw [take_one hof]
        unfold nrK
        rw [List.map_append]
        refine PrsK.off (Paired.snoc ⟨p, rfl, upd_same⟩ (PrsK.mono g2 hw)) fun xs z => by rw [eD] at z; cases z
      walk_at "rd"
      refine ⟨_, SqT.of (g _ _ q2), rfl, _, _, rfl, _, _, rfl, rfl, ?_⟩
      walk_at "rd"
      by_cases z : oV f.1 = V.non
      · rw [if_pos z] at hcv ⊢
        rw [hcv]
        exact ⟨by decide, fin⟩
      · rw [if_neg z] at hcv ⊢
        rw [hcv]
        exact ⟨by decide, fin⟩
    rintro σ H' ⟨ws, v0, v1, g, e, hw, rfl⟩
    have : ts.length = (offL cols.length s).length := by rw [offL_len]; exact hul
    rw [this, List.take_length] at hw
    exact q D ws H' g hD e hw
def sp_Market___init__ (K : PySem.W.Frag) (C_Market : Addr) : Sp := fun vs H Q _ => ∃ (x dx ps pc pl : Addr) (us : List V) (ss : List Spt) (cols lim : List Int), vs = [.ref x, .ref ps, .ref pc, .ref pl] ∧ H x = some (.ins C_Market dx []) ∧ H ps = some (.lst us) ∧ Spts H us ss ∧ H pc = some (.lst (cols.map V.int)) ∧ H pl = some (.lst (lim.map V.int)) ∧ ss.length ≤ 20 ∧ cols.length ≤ 20 ∧ lim.length ≤ 20 ∧ (∀ s ∈ ss, SpOk cols.length lim.length s) ∧
  ∀ (G : MGeo) (d : Nat → Nat) (H' : Hp), G.N = netS ss cols lim → (∀ c o, H c = some o → c ≠ x → H' c = some o) → MkS C_Market H' x G → MkD H' G d (fun _ => 0) → Chp.Good G.N d (fun _ => 0) → (∀ c ∈ G.mut, H c = none) → Q .non H'
theorem sc_Market___init__ : FnScope ["self", "spots", "columns", "caps", "spot", "costs", "column", "cost", "first"] ["self", "spots", "columns", "caps"] (defScope s_Market___init__) := ⟨rfl, rfl, rfl, by decide +kernel, rfl, by decide +kernel, by decide +kernel⟩
theorem ok_Market___init__ {C_Market : Addr} {f : Addr} {fd : FuncData} (F : Fun K "__init__" "Market.__init__" s_Market___init__ f fd) (T : Txt K mg C_Market) (C_beyond_caps : Cal P w K mg base "beyond_caps" ["spots", "caps"] 1 (sp_beyond_caps K C_Market)) (C_offers_of : Cal P w K mg base "offers_of" ["spot", "columns"] 1 (sp_offers_of K C_Market)) : FnOk P w K mg base CX0 2 f fd ["self", "spots", "columns", "caps"] (sp_Market___init__ K C_Market) := by
  refine F.ok sc_Market___init__ (fun vs H Q E h => ?_) (fun cdv A outer s H vs Q E hr h => ?_)
  · obtain ⟨x, dx, ps, pc, pl, us, ss, cols, lim, rfl, _⟩ := h
    rfl
  · obtain ⟨x, dx, ps, pc, pl, us, ss, cols, lim, rfl, hx, hp, hS, hc, hl, n1, n2, n3, hok, q⟩ := h
    refine ⟨_, (pss_cons (ps_fld (pv 0) (pe_op op_cat (pe_callTy (call_listK (K := K) rfl) (by rfl) T.list PyProof.Rows.boot_list (pa_cons (pv 2) pa_nil)) (pe_cal C_beyond_caps (hr.mono (by decide)) rfl (pa_cons (pv 1) (pa_cons (pv 3) pa_nil)))) rfl)
    (pss_cons (ps_fld (pv 0) (pe_op op_rep (pe_lst (pa_cons pe_int pa_nil)) (pe_callB (call_lenK (K := K) rfl) (by rfl) T.len PySem.boot_len (pa_cons (pe_fld (pv 0) rfl) pa_nil))) rfl)
    (pss_cons (ps_fld (pv 0) (pe_op op_rep (pe_lst (pa_cons pe_int pa_nil)) (pe_callB (call_lenK (K := K) rfl) (by rfl) T.len PySem.boot_len (pa_cons (pe_fld (pv 0) rfl) pa_nil))) rfl)
    (pss_cons (ps_fld (pv 0) (pe_comp (own := ["need"]) (fnames := []) (fr := []) (N' := ["need"]) ⟨rfl, rfl, rfl, rfl, rfl, rfl, rfl⟩ rfl (pi_list (pe_fld (pv 0) rfl)) (fun s0 H0 fp0 C0 => ⟨(pg_name (i := 0) (by show (["need"] : List Str).Nodup; decide +kernel) rfl (Or.inl rfl)), pts_nil, (pe_lst pa_nil)⟩)) rfl)
    (pss_cons (ps_fld (pv 0) (pe_comp (own := ["spot"]) (fnames := ["columns"]) (fr := [2]) (N' := ["spot", "columns"]) ⟨rfl, rfl, rfl, rfl, rfl, rfl, rfl⟩ rfl (pi_list (pv 1)) (fun s0 H0 fp0 C0 => ⟨(pg_name (i := 0) (by show (["spot", "columns"] : List Str).Nodup; decide +kernel) rfl (Or.inl rfl)), pts_nil, (pe_callTy (call_dictK rfl hr) (by rfl) T.dict PyProof.Rows.boot_dict (pa_cons (pe_cal C_offers_of (hr.mono (by decide)) rfl (pa_cons (pv 0) (pa_cons (pv 1) pa_nil))) pa_nil))⟩)) rfl)
    (pss_cons (ps_fld (pv 0) (pe_lst pa_nil) rfl)
    (pss_cons (ps_fld (pv 0) (pe_lst pa_nil) rfl)
    (pss_one (ps_for PassesOwn.never rfl (pi_enum_list rfl T.enumerate (pe_fld (pv 0) rfl)) (pg_tup (n := 2) rfl (pgs_cons (pg_name (i := 4) sc_Market___init__.nd rfl (Or.inl rfl)) (pgs_cons (pg_name (i := 5) sc_Market___init__.nd rfl (Or.inl rfl)) pgs_nil)))
      (pss_cons (ps_for PassesOwn.never rfl (pi_items (pv 5)) (pg_tup (n := 2) rfl (pgs_cons (pg_name (i := 6) sc_Market___init__.nd rfl (Or.inl rfl)) (pgs_cons (pg_name (i := 7) sc_Market___init__.nd rfl (Or.inl rfl)) pgs_nil)))
          (pss_one (ps_expr (pe_bm PySem.F.plainAttrs_list PySem.F.slot_list_append PySem.F.type_list_append mt_append (pe_ix ix_list (pe_fld (pv 0) rfl) (pv 6) (fun _ _ => rfl)) (pa_cons (pe_tup (pa_cons (pv 4) (pa_cons (pv 7) pa_nil))) pa_nil)))))
        (pss_thawK (pss_cons (ps_set (i := 8) sc_Market___init__.nd rfl (Or.inl rfl) (pe_callB (call_minP hr rfl) (by rfl) T.min PyProof.Rows.boot_min (pa_cons (pe_comp (own := ["column", "cost"]) (fnames := []) (fr := []) (N' := ["column", "cost"]) ⟨rfl, rfl, rfl, rfl, rfl, rfl, rfl⟩ rfl (pi_items (pv 5)) (fun s0 H0 fp0 C0 => ⟨(pg_tupK (K := K) (n := 2) rfl rfl (pgs_cons (pg_name (i := 0) (by show (["column", "cost"] : List Str).Nodup; decide +kernel) rfl (Or.inl rfl)) (pgs_cons (pg_name (i := 1) (by show (["column", "cost"] : List Str).Nodup; decide +kernel) rfl (Or.inl rfl)) pgs_nil))), pts_nil, (pe_tup (pa_cons (pv 1) (pa_cons (pv 0) pa_nil)))⟩)) pa_nil)))
        (pss_thawK (pss_cons (ps_expr (pe_bm PySem.F.plainAttrs_list PySem.F.slot_list_append PySem.F.type_list_append mt_append (pe_fld (pv 0) rfl) (pa_cons (pe_ix ix_tup (pv 8) pe_int (fun _ _ => rfl)) pa_nil)))
        (pss_cons (ps_expr (pe_bm PySem.F.plainAttrs_list PySem.F.slot_list_append PySem.F.type_list_append mt_append (pe_fld (pv 0) rfl) (pa_cons (pe_ix ix_tup (pv 8) pe_int (fun _ _ => rfl)) pa_nil)))
        (pss_one (ps_asg (pe_op op_add (pe_ix ix_list (pe_fld (pv 0) rfl) (pe_ix ix_tup (pv 8) pe_int (fun _ _ => rfl)) (fun _ _ => rfl)) pe_int) (pg_sub (pe_fld (pv 0) rfl) (pe_ix ix_tup (pv 8) pe_int (fun _ _ => rfl)) set_list)))))))))))))))))), ?_⟩
    have hul := Paired.length hS
    have I0 : IniI H C_Market x dx [] H := ⟨fun c o e _ => e, hx, fun c e => e⟩
    have nl : ∀ {c : Addr} {l : List V}, H c = some (.lst l) → c ≠ x := fun e z => by rw [z, hx] at e; cases e
    refine seq_of fun U1 u1 => ?_
    walk_at "rd"
    refine ⟨_, .inl (SqL.of hc), fun b1 hb1 => ?_⟩
    have g1 := same_new hb1 (.lst (cols.map V.int))
    refine ⟨ps, pl, us, ss, lim, rfl, g1 _ _ hp, hS.mono g1, g1 _ _ hl, n1, by omega, fun r1 H1 g2 hr1 er1 => ?_⟩
    have eb1 : H1 b1 = some (.lst (cols.map V.int)) := g2 _ _ upd_same
    have g3 := g1.trans g2
    clear g1 g2
    refine ⟨r1, rfl, _, eb1, _, er1, small1000' (by rw [List.length_map, il_mlen]; omega), fun a1 ha1 => ?_⟩
    rw [← List.map_append, need_il]
    have B0 : Bld H C_Market x dx [] [] H := ⟨I0, (fun q z => by cases z), (fun q z => by cases z), List.nodup_nil⟩
    have z1 := same_new ha1 (.lst ((il (cols.length + lim.length) (netS ss cols lim).need).map V.int))
    refine ⟨_, _, _, (I0.mono (g3.trans z1)).x_, T.cl_Market, T.n_Market_needs, by decide, ?_⟩
    have B1 := B0.add "needs" (g3.trans z1) upd_same (g3.free ha1)
    have f1 : (putF "needs" (.ref a1) []).length ≤ 1 := length_putF _ _ _
    generalize upd (upd H1 a1 (.lst ((il (cols.length + lim.length) (netS ss cols lim).need).map V.int))) x (.ins C_Market dx (putF "needs" (.ref a1) [])) = H2 at B1 ⊢
    clear g3 eb1 er1 hr1 ha1 hb1 I0 B0 z1
    rw [u1]; clear u1
    refine seq_of fun U1 u1 => ?_
    walk_at "rd"
    refine ⟨by decide, fun b2 hb2 => ?_⟩
    have g1 := same_new hb2 (.lst [.int 0])
    have e1 : H2 a1 = _ := B1.hold _ List.mem_cons_self
    refine ⟨_, _, _, (B1.same g1).ini.x_, T.cl_Market, T.n_Market_needs, _, lk_same _ _ _, _, rfl, _, .inl (SqL.of (g1 _ _ e1)), _, upd_same, by omega, by rw [il_mlen]; omega, small1000' (by simp only [List.length_cons, List.length_nil, il_mlen]; omega), fun a2 ha2 => ?_⟩
    rw [il_mlen, rep_il]
    have g2 := g1.trans (same_new ha2 (.lst ((il (cols.length + lim.length) fun _ => 0).map V.int)))
    refine ⟨_, _, _, (B1.same g2).ini.x_, T.cl_Market, T.n_Market_prices, Nat.lt_of_le_of_lt f1 (by decide), ?_⟩
    have B2 := B1.add "prices" g2 upd_same (g1.free ha2)
    have f2 := Nat.le_trans (length_putF "prices" (.ref a2) _) (Nat.succ_le_succ f1)
    generalize upd (upd (upd H2 b2 (.lst [.int 0])) a2 (.lst ((il (cols.length + lim.length) fun _ => 0).map V.int))) x (.ins C_Market dx (putF "prices" (.ref a2) (putF "needs" (.ref a1) []))) = H3 at B2 ⊢
    clear g1 g2 ha2 hb2 B1
    rw [u1]; clear u1
    refine seq_of fun U1 u1 => ?_
    walk_at "rd"
    refine ⟨by decide, fun b2 hb2 => ?_⟩
    have g1 := same_new hb2 (.lst [.int 0])
    have lk2 : (putF "prices" (.ref a2) (putF "needs" (.ref a1) [])).lookup ("needs" : Str) = some (.ref a1) := by rw [lookup_putF, if_neg (by decide +kernel)]; exact lk_same _ _ _
    have e2 : H3 a1 = _ := B2.hold _ (List.mem_cons_of_mem _ List.mem_cons_self)
    refine ⟨_, _, _, (B2.same g1).ini.x_, T.cl_Market, T.n_Market_needs, _, lk2, _, rfl, _, .inl (SqL.of (g1 _ _ e2)), _, upd_same, by omega, by rw [il_mlen]; omega, small1000' (by simp only [List.length_cons, List.length_nil, il_mlen]; omega), fun a3 ha3 => ?_⟩
    rw [il_mlen, rep_il]
    have g2 := g1.trans (same_new ha3 (.lst ((il (cols.length + lim.length) fun _ => 0).map V.int)))
    refine ⟨_, _, _, (B2.same g2).ini.x_, T.cl_Market, T.n_Market_counts, Nat.lt_of_le_of_lt f2 (by decide), ?_⟩
    have B3 := B2.add "counts" g2 upd_same (g1.free ha3)
    have f3 := Nat.le_trans (length_putF "counts" (.ref a3) _) (Nat.succ_le_succ f2)
    have lk3 : (putF "counts" (.ref a3) (putF "prices" (.ref a2) (putF "needs" (.ref a1) []))).lookup ("needs" : Str) = some (.ref a1) := by rw [lookup_putF, if_neg (by decide +kernel)]; exact lk2
    generalize upd (upd (upd H3 b2 (.lst [.int 0])) a3 (.lst ((il (cols.length + lim.length) fun _ => 0).map V.int))) x (.ins C_Market dx (putF "counts" (.ref a3) (putF "prices" (.ref a2) (putF "needs" (.ref a1) [])))) = H4 at B3 ⊢
    clear g1 g2 ha3 hb2 B2 lk2
    rw [u1]; clear u1
    refine seq_of fun U1 u1 => ?_
    walk_at "rd"
    have e3 : H4 a1 = _ := B3.hold _ (List.mem_cons_of_mem _ (List.mem_cons_of_mem _ List.mem_cons_self))
    refine ⟨_, _, _, B3.ini.x_, T.cl_Market, T.n_Market_needs, _, lk3, _, rfl, ⟨_, SqL.of e3⟩, fun a4 ha4 => for_listW (xs := (il (cols.length + lim.length) (netS ss cols lim).need).map V.int) (fun j σ H' => ∃ (bs : List Addr) (v : Option V), MkI H4 a4 (fun H d => H d = some (.lst [])) j H' bs ∧ σ = [v]) ⟨[], none, MkI.ini ha4, rfl⟩ (fun j σ H' _ ⟨_, _, M, _⟩ => SqL.of (M.same _ _ e3)) ?_ ?_⟩
    · rintro j v σ H' hv ⟨bs, w, M, rfl⟩
      have hj := (List.getElem?_eq_some_iff.mp hv).1
      rw [il_mlen] at hj
      walk_at "rd"
      refine ⟨Nat.zero_le _, fun p hp => ?_⟩
      exact ⟨_, (same_new hp _) _ _ M.at_, small1000 (by rw [List.length_map, M.len]; omega), bs ++ [p], M.step ha4 hp⟩
    rintro σ H5 ⟨bs, v0, M, rfl⟩
    rw [il_mlen] at M
    walk_at "rd"
    refine ⟨_, _, _, (B3.same M.same).ini.x_, T.cl_Market, T.n_Market_bids, Nat.lt_of_le_of_lt f3 (by decide), ?_⟩
    have B4 := B3.addR "bids" M.same M.at_ ha4 (fun d hd => M.pr d hd) (fun d hd => M.fr d hd) M.nd
    have f4 := Nat.le_trans (length_putF "bids" (.ref a4) _) (Nat.succ_le_succ f3)
    have hbl := M.len
    generalize upd H5 x (.ins C_Market dx (putF "bids" (.ref a4) (putF "counts" (.ref a3) (putF "prices" (.ref a2) (putF "needs" (.ref a1) []))))) = H6 at B4 ⊢
    clear B3 M ha4 lk3 e3 e2 e1
    rw [u1]; clear u1
    refine seq_of fun U1 u1 => ?_
    walk_at "rd"
    have k6 := B4.ini.k
    have hS6 := Spts.kept hx k6 hS
    have hp6 := k6 _ _ hp (nl hp)
    have hc6 := k6 _ _ hc (nl hc)
    refine ⟨⟨_, SqL.of hp6⟩, fun a5 ha5 => for_listW (xs := us) (fun j σ H' => ∃ (ds : List Addr) (v : Option V), DsI H6 a5 (kvS ss cols.length) j H' ds ∧ σ = [v, some (.ref pc)]) ⟨[], none, DsI.ini ha5, rfl⟩ (fun j σ H' _ ⟨_, _, M, _⟩ => SqL.of (M.same _ _ hp6)) ?_ ?_⟩
    · rintro j v σ H' hv ⟨ds, w, M, rfl⟩
      have hj := (List.getElem?_eq_some_iff.mp hv).1
      obtain ⟨s, hs, t, l, ts, rfl, q1, q2, q3⟩ := Paired.get' (hS6.mono M.same) hv
      have ok := hok s (List.mem_of_getElem? hs)
      have hkk := offL_kok ok
      have eS : offL cols.length (ss.getD j ⟨0, []⟩) = offL cols.length s := by rw [getD_of hs]
      walk_at "rd"
      refine ⟨t, l, pc, ts, s, cols, rfl, ⟨_, ok⟩, q1, q2, q3, M.same _ _ hc6, ok.len, fun r ws H1 g1 hr er hw => ⟨r, rfl, ws, er, _, hw, ?_, fun p hp => ?_⟩⟩
      · have := ok.len
        unfold nrK
        rw [List.length_map, offL_len]
        omega
      rw [dict_nrK hkk.nd]
      have g2 := g1.trans (same_new hp (.dK (nrK (offL cols.length s))))
      exact ⟨_, g2 _ _ M.at_, small1000 (by rw [List.length_map, M.len]; omega), ds ++ [p], M.step ha5 g2 (by rw [upd_same]; unfold kvS; rw [eS])⟩
    rintro σ H7 ⟨ds, v0, M, rfl⟩
    rw [hul] at M
    walk_at "rd"
    refine ⟨_, _, _, (B4.same M.same).ini.x_, T.cl_Market, T.n_Market_costs, Nat.lt_of_le_of_lt f4 (by decide), ?_⟩
    have B5 := B4.add "costs" M.same M.at_ ha5
    have f5 := Nat.le_trans (length_putF "costs" (.ref a5) _) (Nat.succ_le_succ f4)
    have hdl := M.len
    have d5 : ∀ (s : Nat) d, ds[s]? = some d → upd H7 x (.ins C_Market dx (putF "costs" (.ref a5) (putF "bids" (.ref a4) (putF "counts" (.ref a3) (putF "prices" (.ref a2) (putF "needs" (.ref a1) [])))))) d = some (.dK (kvS ss cols.length s)) := fun s d h => by
      have := M.pr s d h
      rw [upd_ne fun z => by rw [z, (B4.same M.same).ini.x_] at this; cases this]
      exact this
    generalize upd H7 x (.ins C_Market dx (putF "costs" (.ref a5) (putF "bids" (.ref a4) (putF "counts" (.ref a3) (putF "prices" (.ref a2) (putF "needs" (.ref a1) [])))))) = H8 at B5 d5 ⊢
    clear B4 M ha5 k6 hS6 hp6 hc6
    rw [u1]; clear u1
    refine seq_of fun U1 u1 => ?_
    walk_at "rd"
    refine ⟨Nat.zero_le _, fun a6 ha6 => ?_⟩
    have g1 := same_new ha6 (.lst [])
    refine ⟨_, _, _, (B5.same g1).ini.x_, T.cl_Market, T.n_Market_dealt, Nat.lt_of_le_of_lt f5 (by decide), ?_⟩
    have B6 := B5.add "dealt" g1 upd_same ha6
    have f6 := Nat.le_trans (length_putF "dealt" (.ref a6) _) (Nat.succ_le_succ f5)
    have d6 : ∀ (s : Nat) d, ds[s]? = some d → upd (upd H8 a6 (.lst [])) x (.ins C_Market dx (putF "dealt" (.ref a6) (putF "costs" (.ref a5) (putF "bids" (.ref a4) (putF "counts" (.ref a3) (putF "prices" (.ref a2) (putF "needs" (.ref a1) []))))))) d = some (.dK (kvS ss cols.length s)) := fun s d h => by
      have := g1 _ _ (d5 s d h)
      rw [upd_ne fun z => by rw [z, (B5.same g1).ini.x_] at this; cases this]
      exact this
    generalize upd (upd H8 a6 (.lst [])) x (.ins C_Market dx (putF "dealt" (.ref a6) (putF "costs" (.ref a5) (putF "bids" (.ref a4) (putF "counts" (.ref a3) (putF "prices" (.ref a2) (putF "needs" (.ref a1) []))))))) = H9 at B6 d6 ⊢
    clear B5 d5 g1 ha6
    rw [u1]; clear u1
    refine seq_of fun U1 u1 => ?_
    walk_at "rd"
    refine ⟨Nat.zero_le _, fun a7 ha7 => ?_⟩
    have g1 := same_new ha7 (.lst [])
    refine ⟨_, _, _, (B6.same g1).ini.x_, T.cl_Market, T.n_Market_paid, Nat.lt_of_le_of_lt f6 (by decide), ?_⟩
    have B7 := B6.add "paid" g1 upd_same ha7
    have d7 : ∀ (s : Nat) d, ds[s]? = some d → upd (upd H9 a7 (.lst [])) x (.ins C_Market dx (putF "paid" (.ref a7) (putF "dealt" (.ref a6) (putF "costs" (.ref a5) (putF "bids" (.ref a4) (putF "counts" (.ref a3) (putF "prices" (.ref a2) (putF "needs" (.ref a1) [])))))))) d = some (.dK (kvS ss cols.length s)) := fun s d h => by
      have := g1 _ _ (d6 s d h)
      rw [upd_ne fun z => by rw [z, (B6.same g1).ini.x_] at this; cases this]
      exact this
    generalize upd (upd H9 a7 (.lst [])) x (.ins C_Market dx (putF "paid" (.ref a7) (putF "dealt" (.ref a6) (putF "costs" (.ref a5) (putF "bids" (.ref a4) (putF "counts" (.ref a3) (putF "prices" (.ref a2) (putF "needs" (.ref a1) [])))))))) = HA at B7 d7 ⊢
    clear B6 d6 g1 ha7
    have IN := Bld.inI (N := netS ss cols lim) B7 d7 fun _ => 0
    clear B7 d7 f1 f2 f3 f4 f5 f6
    rw [u1]; clear u1
    refine for_of fun B1 b1 => ?_
    walk_at "rd"
    obtain ⟨g, eg⟩ : ∃ g : IG, g = ⟨netS ss cols lim, x, dx, a1, a2, a3, a4, a5, a6, a7, bs, ds, kvS ss cols.length⟩ := ⟨_, rfl⟩
    rw [← eg] at IN
    have gN : g.N = netS ss cols lim := by rw [eg]
    have gx : g.x = x := by rw [eg]
    have g3 : g.a3 = a3 := by rw [eg]
    have g4 : g.a4 = a4 := by rw [eg]
    have g5 : g.a5 = a5 := by rw [eg]
    have g6 : g.a6 = a6 := by rw [eg]
    have g7 : g.a7 = a7 := by rw [eg]
    have gb : g.bs = bs := by rw [eg]
    have gd : g.ds = ds := by rw [eg]
    have gk : g.kv = kvS ss cols.length := by rw [eg]
    have gm : mf g.a1 g.a2 g.a3 g.a4 g.a5 g.a6 g.a7 = mf a1 a2 a3 a4 a5 a6 a7 := by rw [eg]
    have gdx : g.dx = dx := by rw [eg]
    have sI : ∀ {i d P n H'}, InI H C_Market g i d P n H' → H' x = some (.ins C_Market dx (mf a1 a2 a3 a4 a5 a6 a7)) := fun I => by have := I.ini.x_; rw [gm, gx, gdx] at this; exact this
    have s5 : ∀ {i d P n H'}, InI H C_Market g i d P n H' → H' a5 = some (.lst (ds.map V.ref)) := fun I => by have := I.s5; rw [g5, gd] at this; exact this
    refine ⟨_, _, _, sI IN, T.cl_Market, T.n_Market_costs, _, mf_costs _ _ _ _ _ _ _, _, rfl, ⟨_, SqL.of (s5 IN)⟩, for_enumW (xs := ds.map V.ref) (fun i σ H' => ∃ (d : Nat → Nat) (n : Nat) (v4 v5 v6 v7 v8 : Option V), n ≤ 30 * i ∧ InI H C_Market g i d (fun t s v => s < i ∧ g.N.off s t = some v) n H' ∧ σ = [some (.ref x), some (.ref ps), some (.ref pc), some (.ref pl), v4, v5, v6, v7, v8]) ⟨_, 0, none, none, none, none, none, Nat.zero_le _, IN.iff (fun t s v => ⟨False.elim, fun z => absurd z.1 (Nat.not_lt_zero _)⟩), rfl⟩ (fun i σ H' _ ⟨_, _, _, _, _, _, _, _, I, _⟩ => SqL.of (s5 I)) ?_ ?_⟩
    · rintro i v σ H' t hv ⟨d, n, v4, v5, v6, v7, v8, hn, I, rfl⟩ ht
      rw [Nat.zero_add]
      have hi : i < ds.length := by rw [← List.length_map (f := V.ref)]; exact (List.getElem?_eq_some_iff.mp hv).1
      have hdi := List.getElem?_eq_getElem hi
      rw [List.getElem?_map, hdi] at hv
      cases hv
      have I1 := I.same (same_new ht (.tup [.int (i : Int), .ref ds[i]]))
      have et : upd H' t (.tup [.int (i : Int), .ref ds[i]]) t = _ := upd_same
      generalize upd H' t (.tup [.int (i : Int), .ref ds[i]]) = H1 at I1 et ⊢
      clear ht I
      walk_at "rd"
      refine ⟨_, SqT.of et, rfl, _, _, rfl, _, _, rfl, rfl, ?_⟩
      rw [b1]
      refine seq_of fun U2 u2 => for_of fun B2 b2 => ?_
      walk_at "rd"
      have hdg : g.ds[i]? = some ds[i] := by rw [gd]; exact hdi
      have hss : i < ss.length := by rw [← hdl]; exact hi
      have hsi := List.getElem?_eq_getElem hss
      have oki := hok _ (List.mem_of_getElem? hsi)
      have hkok := offL_kok oki
      have eol : g.kv i = nrK (offL cols.length ss[i]) := by rw [gk]; unfold kvS; rw [getD_of hsi]
      have eoff : ∀ c, g.N.off i c = lkp (offL cols.length ss[i]) c := fun c => by rw [gN]; show lkp (offL cols.length (ss.getD i _)) c = _; rw [getD_of hsi]
      have eM : g.N.M = cols.length + lim.length := by rw [gN]; rfl
      have hoL : (offL cols.length ss[i]).length ≤ 30 := by rw [offL_len]; exact oki.len
      obtain ⟨ol, eo⟩ : ∃ ol, ol = offL cols.length ss[i] := ⟨_, rfl⟩
      obtain ⟨di, ed⟩ : ∃ di, di = ds[i] := ⟨_, rfl⟩
      rw [← eo] at hkok eol eoff hoL
      rw [← ed] at hdg ⊢
      have dD : ∀ {P n H0 d}, InI H C_Market g i d P n H0 → H0 di = some (.dK (nrK ol)) := fun I => by have := I.d5 i di hdg; rw [eol] at this; exact this
      have ne : ∀ {H0 : Hp} {c : Addr} {o : HO}, H0 di = some (.dK (nrK ol)) → H0 c = some o → (∀ kvs, o ≠ .dK kvs) → c ≠ di := fun e1 e2 h z => by rw [z, e1] at e2; cases e2; exact h _ rfl
      refine ⟨_, dD I1, fun ob => for_itemsW (fun j σ H2 => ∃ (H0 : Hp) (n' : Nat) (v6 v7 : Option V), H2 = upd H0 di (.frz ob (.dK (nrK ol))) ∧ n' ≤ n + j ∧ InI H C_Market g i d (fun t s v => (s < i ∧ g.N.off s t = some v) ∨ (s = i ∧ (t, v) ∈ ol.take j)) n' H0 ∧ σ = [some (.ref x), some (.ref ps), some (.ref pc), some (.ref pl), some (.int i), some (.ref di), v6, v7, v8]) ⟨H1, n, v6, v7, rfl, Nat.le_refl _, I1.iff (fun t s v => ⟨.inl, fun z => z.elim id fun z => by cases z.2⟩), rfl⟩ (fun j σ H2 _ ⟨_, _, _, _, e, _⟩ => by rw [e]; exact upd_same) ?_ ?_⟩
      · rintro j kk vv σ H2 t2 hkv ⟨H0, n', w6, w7, rfl, hn', I2, rfl⟩ ht2
        have hj : j < ol.length := by have := (List.getElem?_eq_some_iff.mp hkv).1; unfold nrK at this; rw [List.length_map] at this; exact this
        have hoj := List.getElem?_eq_getElem hj
        have e2 : (nrK ol)[j]? = some (Sum.inl ((ol[j]).1 : Int), .int (ol[j]).2) := by unfold nrK; rw [List.getElem?_map, hoj]; rfl
        rw [e2] at hkv
        cases hkv
        have nt2 : t2 ≠ di := fun z => by rw [z, upd_same] at ht2; cases ht2
        have ht0 : H0 t2 = none := by rw [upd_ne nt2] at ht2; exact ht2
        rw [upd_comm nt2.symm]
        have I3 := I2.same (same_new ht0 (.tup [kV (Sum.inl ((ol[j]).1 : Int)), .int (ol[j]).2]))
        have et2 : upd H0 t2 (.tup [kV (Sum.inl ((ol[j]).1 : Int)), .int (ol[j]).2]) t2 = some (.tup [.int ((ol[j]).1 : Int), .int (ol[j]).2]) := upd_same
        generalize upd H0 t2 (.tup [kV (Sum.inl ((ol[j]).1 : Int)), .int (ol[j]).2]) = H3 at I3 et2 ⊢
        clear I2 ht2 ht0
        have d3 := dD I3
        walk_at "rd"
        refine ⟨_, SqT.of (show upd H3 di _ t2 = _ by rw [upd_ne nt2]; exact et2), rfl, _, _, rfl, _, _, rfl, rfl, ?_⟩
        rw [b2]
        have x3 := sI I3
        have s43 : H3 a4 = some (.lst (bs.map V.ref)) := by have := I3.s4; rw [g4, gb] at this; exact this
        have nx3 : x ≠ di := ne d3 x3 (fun _ z => by cases z)
        have n43 : a4 ≠ di := ne d3 s43 (fun _ z => by cases z)
        have hcM : (ol[j]).1 < bs.length := by
          have := hkok.lt _ (List.mem_map_of_mem (List.mem_of_getElem? hoj))
          rw [hbl]; exact this
        have hbj := List.getElem?_eq_getElem hcM
        walk_at "rd"
        have hbg : g.bs[(ol[j]).1]? = some bs[(ol[j]).1] := by rw [gb]; exact hbj
        obtain ⟨l, el⟩ : ∃ l, l = bs[(ol[j]).1] := ⟨_, rfl⟩
        rw [← el] at hbg hbj
        obtain ⟨ts3, _, h31, _⟩ := I3.r4 _ _ hbg
        have nl3 : l ≠ di := ne d3 h31 (fun _ z => by cases z)
        refine ⟨_, _, _, (show upd H3 di _ x = _ by rw [upd_ne nx3]; exact x3), T.cl_Market, T.n_Market_bids, _, mf_bids _ _ _ _ _ _ _, _, rfl, _, SqL.of (show upd H3 di _ a4 = _ by rw [upd_ne n43]; exact s43), .ref l, atI_nat (by rw [List.getElem?_map, hbj]; rfl), .inl ⟨rfl, _, SqL.of (show upd H3 di _ l = _ by rw [upd_ne nl3]; exact h31)⟩, by decide, fun p hp => ?_⟩
        have npd : p ≠ di := fun z => by rw [z, upd_same] at hp; cases hp
        have hp3 : H3 p = none := by rw [upd_ne npd] at hp; exact hp
        have I5 := I3.same (same_new hp3 (.tup [.int (i : Int), .int (ol[j]).2]))
        obtain ⟨ts, e5, l5, I6⟩ := I5.bid (s := i) (v := (ol[j]).2) hbg upd_same
        rw [upd_comm npd.symm]
        refine ⟨l, rfl, ts, by rw [upd_ne nl3]; exact e5, small1000 (by omega), _, upd_comm nl3.symm, n' + 1, by omega, I6.iff fun t s v => ?_⟩
        rw [take_one hoj, List.mem_append, List.mem_singleton]
        constructor
        · rintro ((z | z) | ⟨rfl, rfl, rfl⟩)
          · exact .inl z
          · exact .inr ⟨z.1, .inl z.2⟩
          · exact .inr ⟨rfl, .inr rfl⟩
        · rintro (z | ⟨z1, z2 | z2⟩)
          · exact .inl (.inl z)
          · exact .inl (.inr ⟨z1, z2⟩)
          · exact .inr ⟨congrArg Prod.fst z2, z1, congrArg Prod.snd z2⟩
      rintro σ H2 ⟨H0, n', w6, w7, rfl, hn', I2, rfl⟩
      rw [show (nrK ol).length = ol.length by unfold nrK; rw [List.length_map], List.take_length] at I2
      have hn2 : (nrK ol).length ≤ 30 := by unfold nrK; rw [List.length_map]; exact hoL
      rw [u2]; clear u2
      have d2 := dD I2
      have nxd : x ≠ di := ne d2 (sI I2) (fun _ z => by cases z)
      have nfz : ∀ o u, H di ≠ some (.frz o u) := fun o u z => by
        have := I2.ini.k di _ z (by rw [gx]; exact nxd.symm)
        rw [d2] at this
        cases this
      refine thaw_of upd_same nfz ?_
      rw [upd_upd, upd_id d2]
      have I4 := I2.iff (P' := fun t s v => s < i + 1 ∧ g.N.off s t = some v) fun t s v => by
        constructor
        · rintro (⟨h1, h2⟩ | ⟨rfl, h2⟩)
          · exact ⟨Nat.lt_succ_of_lt h1, h2⟩
          · exact ⟨Nat.lt_succ_self _, by rw [eoff]; exact lkp_of hkok.nd h2⟩
        · rintro ⟨h1, h2⟩
          by_cases z : s = i
          · subst z
            rw [eoff] at h2
            exact .inr ⟨rfl, lkp_mem h2⟩
          · exact .inl ⟨by omega, h2⟩
      refine seq_of fun U2 u2 => ?_
      walk_at "rd"
      have fzt : ∀ {Hx : Hp} {ob : Obj} {c : Addr} {ts : List V}, Hx di = some (.dK (nrK ol)) → Hx c = some (.tup ts) → upd Hx di (.frz ob (.dK (nrK ol))) c = some (.tup ts) := fun e1 e2 => by rw [upd_ne (ne e1 e2 fun _ z => by cases z)]; exact e2
      have hpos : 0 < ol.length := by rw [eo, offL_len]; exact List.length_pos_iff.mpr oki.ne
      refine ⟨_, d2, fun ob DD hDD => ?_⟩
      have nDd : DD ≠ di := fun z => by rw [z, upd_same] at hDD; cases hDD
      have hD0 : H0 DD = none := by rw [upd_ne nDd] at hDD; exact hDD
      rw [upd_comm nDd.symm]
      refine for_itemsW (fun j σ H2 => ∃ (Hx : Hp) (ws : List V) (v0 v1 : Option V), H2 = upd Hx di (.frz ob (.dK (nrK ol))) ∧ Same H0 Hx ∧ Hx DD = some (.lst ws) ∧ Paired (PrA Hx) ws ((ol.take j).map fun q => (q.2, (q.1 : Int))) ∧ σ = [v0, v1]) ⟨_, [], none, none, rfl, same_new hD0 _, upd_same, .nil, rfl⟩ (fun j σ H2 _ ⟨_, _, _, _, e, _⟩ => by rw [e]; exact upd_same) ?_ ?_
      · rintro j kk vv σ H2 t2 hkv ⟨Hx, ws, w0, w1, rfl, gx2, eD, pw, rfl⟩ ht2
        have hj : j < ol.length := by have := (List.getElem?_eq_some_iff.mp hkv).1; unfold nrK at this; rw [List.length_map] at this; exact this
        have hoj := List.getElem?_eq_getElem hj
        have e2 : (nrK ol)[j]? = some (Sum.inl ((ol[j]).1 : Int), .int (ol[j]).2) := by unfold nrK; rw [List.getElem?_map, hoj]; rfl
        rw [e2] at hkv
        cases hkv
        have hwl := Paired.length pw
        rw [List.length_map, List.length_take] at hwl
        have nt2 : t2 ≠ di := fun z => by rw [z, upd_same] at ht2; cases ht2
        have ht0 : Hx t2 = none := by rw [upd_ne nt2] at ht2; exact ht2
        rw [upd_comm nt2.symm]
        have g3 := same_new ht0 (.tup [kV (Sum.inl ((ol[j]).1 : Int)), .int (ol[j]).2])
        have et2 : upd Hx t2 (.tup [kV (Sum.inl ((ol[j]).1 : Int)), .int (ol[j]).2]) t2 = some (.tup [.int ((ol[j]).1 : Int), .int (ol[j]).2]) := upd_same
        generalize upd Hx t2 (.tup [kV (Sum.inl ((ol[j]).1 : Int)), .int (ol[j]).2]) = H3 at g3 et2 ⊢
        have gx3 := gx2.trans g3
        have d3 := gx3 _ _ d2
        walk_at "rd"
        refine ⟨_, SqT.of (fzt d3 et2), rfl, _, _, rfl, _, _, rfl, rfl, ?_⟩
        walk_at "rd"
        refine ⟨by decide, fun p hp => ?_⟩
        have npd : p ≠ di := fun z => by rw [z, upd_same] at hp; cases hp
        have hp3 : H3 p = none := by rw [upd_ne npd] at hp; exact hp
        have g4 := same_new hp3 (.tup [.int (ol[j]).2, .int ((ol[j]).1 : Int)])
        have eD4 := g4 _ _ (g3 _ _ eD)
        rw [upd_comm npd.symm]
        refine ⟨ws, by rw [upd_ne nDd]; exact eD4, small1000 (by omega), upd (upd H3 p (.tup [.int (ol[j]).2, .int ((ol[j]).1 : Int)])) DD (.lst (ws ++ [.ref p])), upd_comm nDd.symm, same_upd hD0 (gx3.trans g4) _, _, upd_same, ?_⟩
        have kt : ∀ t ts, upd H3 p (.tup [.int (ol[j]).2, .int ((ol[j]).1 : Int)]) t = some (.tup ts) → upd (upd H3 p (.tup [.int (ol[j]).2, .int ((ol[j]).1 : Int)])) DD (.lst (ws ++ [.ref p])) t = some (.tup ts) := fun t ts e => by rw [upd_ne fun z => by rw [z, eD4] at e; cases e]; exact e
        rw [take_one hoj, List.map_append]
        exact Paired.snoc ⟨p, rfl, kt _ _ upd_same⟩ (Paired.mapP pw fun v k ⟨t, e1, e2⟩ => ⟨t, e1, kt _ _ (g4 _ _ (g3 _ _ e2))⟩)
      rintro σ H2 ⟨Hx, ws, w0, w1, rfl, gx2, eD, pw, rfl⟩
      rw [show (nrK ol).length = ol.length by unfold nrK; rw [List.length_map], List.take_length] at pw
      have I5 := I4.same gx2
      have d5 := dD I5
      have hwl := Paired.length pw
      rw [List.length_map] at hwl
      refine ⟨ws, SqL.of (by rw [upd_ne nDd]; exact eD), _, Paired.mapP pw fun v k ⟨t, e1, e2⟩ => ⟨t, e1, fzt d5 e2⟩, by omega, fun j v kk hv hk hmin => ?_⟩
      obtain ⟨⟨cc, vv⟩, hoj, ek⟩ : ∃ q : Nat × Int, ol[j]? = some q ∧ (q.2, (q.1 : Int)) = kk := by
        rw [List.getElem?_map] at hk
        cases e : ol[j]? with
        | none => rw [e] at hk; cases hk
        | some q => rw [e] at hk; cases hk; exact ⟨q, rfl, rfl⟩
      subst ek
      obtain ⟨k', hk', t1, rfl, et1⟩ := Paired.get' pw hv
      rw [hk] at hk'
      cases hk'
      have hv1 : g.N.off i cc = some vv := by rw [eoff]; exact lkp_of hkok.nd (List.mem_of_getElem? hoj)
      have hm1 : ∀ c' v', g.N.off i c' = some v' → vv ≤ v' := fun c' v' e => by
        rw [eoff] at e
        exact hmin (v', (c' : Int)) (List.mem_map.mpr ⟨_, lkp_mem e, rfl⟩)
      have hcM : cc < g.N.M := by rw [eM]; exact hkok.lt cc (List.mem_map_of_mem (List.mem_of_getElem? hoj))
      rw [u2]; clear u2
      refine thaw_of upd_same nfz ?_
      rw [upd_upd, upd_id d5]
      have I6 := I5.deal hcM hv1 hm1
      have x5 := sI I5
      have s65 := I5.s6
      have s75 := I5.s7
      have s35 := I5.s3
      rw [g6] at s65 I6
      rw [g7] at s75 I6
      rw [g3] at s35 I6
      have hcM' : cc < cols.length + lim.length := by rw [← eM]; exact hcM
      have ap := I5.ap
      simp only [List.nodup_cons, List.mem_cons, not_or] at ap
      obtain ⟨-, -, ⟨-, -, n36, n37, -⟩, -, -, ⟨n67, -⟩, -⟩ := ap
      rw [g3, g6] at n36
      rw [g3, g7] at n37
      rw [g6, g7] at n67
      have nx6 : x ≠ a6 := fun z => by rw [z, s65] at x5; cases x5
      have nx7 : x ≠ a7 := fun z => by rw [z, s75] at x5; cases x5
      have nt6 : t1 ≠ a6 := fun z => by rw [z, s65] at et1; cases et1
      have nt7 : t1 ≠ a7 := fun z => by rw [z, s75] at et1; cases et1
      refine seq_of fun U2 u2 => ?_
      walk_at "rd"
      refine ⟨_, _, _, x5, T.cl_Market, T.n_Market_dealt, _, mf_dealt _ _ _ _ _ _ _, .inl ⟨rfl, _, SqL.of s65⟩, _, SqT.of et1, _, rfl, a6, rfl, _, s65, small1000 (by rw [il_mlen]; omega), ?_⟩
      rw [u2]; clear u2
      refine seq_of fun U2 u2 => ?_
      walk_at "rd"
      have x6 : upd Hx a6 (.lst ((il i fun s => ((d s : Nat) : Int)).map V.int ++ [.int (cc : Int)])) x = some (.ins C_Market dx (mf a1 a2 a3 a4 a5 a6 a7)) := by rw [upd_ne nx6]; exact x5
      have t6 : upd Hx a6 (.lst ((il i fun s => ((d s : Nat) : Int)).map V.int ++ [.int (cc : Int)])) t1 = some (.tup [.int vv, .int (cc : Int)]) := by rw [upd_ne nt6]; exact et1
      have s76 : upd Hx a6 (.lst ((il i fun s => ((d s : Nat) : Int)).map V.int ++ [.int (cc : Int)])) a7 = some (.lst ((il i (g.N.pay d)).map V.int)) := by rw [upd_ne (Ne.symm n67)]; exact s75
      refine ⟨_, _, _, x6, T.cl_Market, T.n_Market_paid, _, mf_paid _ _ _ _ _ _ _, .inl ⟨rfl, _, SqL.of s76⟩, _, SqT.of t6, _, rfl, a7, rfl, _, s76, small1000 (by rw [il_mlen]; omega), ?_⟩
      rw [u2]; clear u2
      walk_at "rd"
      have x7 : upd (upd Hx a6 (.lst ((il i fun s => ((d s : Nat) : Int)).map V.int ++ [.int (cc : Int)]))) a7 (.lst ((il i (g.N.pay d)).map V.int ++ [.int vv])) x = some (.ins C_Market dx (mf a1 a2 a3 a4 a5 a6 a7)) := by rw [upd_ne nx7]; exact x6
      have t7 : upd (upd Hx a6 (.lst ((il i fun s => ((d s : Nat) : Int)).map V.int ++ [.int (cc : Int)]))) a7 (.lst ((il i (g.N.pay d)).map V.int ++ [.int vv])) t1 = some (.tup [.int vv, .int (cc : Int)]) := by rw [upd_ne nt7]; exact t6
      have s37 : upd (upd Hx a6 (.lst ((il i fun s => ((d s : Nat) : Int)).map V.int ++ [.int (cc : Int)]))) a7 (.lst ((il i (g.N.pay d)).map V.int ++ [.int vv])) a3 = some (.lst ((il g.N.M (Chp.cnt i d)).map V.int)) := by rw [upd_ne n37, upd_ne n36]; exact s35
      generalize upd (upd Hx a6 (.lst ((il i fun s => ((d s : Nat) : Int)).map V.int ++ [.int (cc : Int)]))) a7 (.lst ((il i (g.N.pay d)).map V.int ++ [.int vv])) = Hy at x7 t7 s37 I6 ⊢
      refine ⟨_, _, _, x7, T.cl_Market, T.n_Market_counts, _, mf_counts _ _ _ _ _ _ _, _, SqT.of t7, .int (cc : Int), rfl, _, rfl, _, _, rfl, SqL.of s37, _, atI_nat (il_at hcM), _, rfl, _, _, _, x7, T.cl_Market, T.n_Market_counts, _, mf_counts _ _ _ _ _ _ _, _, SqT.of t7, .int (cc : Int), rfl, _, rfl, _, _, rfl, s37, _, ixN_lt (by rw [il_mlen]; exact hcM), ?_⟩
      rw [il_put]
      refine ⟨_, n', ?_, I6⟩
      have : (nrK ol).length = ol.length := by unfold nrK; rw [List.length_map]
      omega
    rintro σ H' ⟨d, n, v4, v5, v6, v7, v8, hn, I, rfl⟩
    rw [List.length_map, hdl] at I
    have hdl' : g.ds.length = g.N.S := by rw [gd, gN]; exact hdl
    have hbl' : g.bs.length = g.N.M := by rw [gb, gN]; exact hbl
    have hS' : g.N.S = ss.length := by rw [gN]; rfl
    obtain ⟨G, eG, S1, D1, F1, fr⟩ := I.done gN (fun t s v => by rw [hS']) hbl' hdl' (fun s hs c => by
      rw [gk, gN]
      unfold kvS
      rw [nrK_val]
      rfl) (by rw [hS']; exact n1) (by rw [gN]; show cols.length + lim.length ≤ 40; omega)
    rw [gx] at S1
    exact q G d H' (eG.trans gN) (fun c o e nx => I.ini.k c o e (by rw [gx]; exact nx)) S1 D1 F1 fr
def sp_Market_lacks (K : PySem.W.Frag) (C_Market : Addr) : Sp := fun vs H Q _ => ∃ (x : Addr) (G : MGeo) (d : Nat → Nat) (p : Nat → Int) (c : Nat), vs = [.ref x, .int c] ∧ MkS C_Market H x G ∧ MkD H G d p ∧ c < G.N.M ∧ Q (.bl (decide (Chp.cnt G.N.S d c < G.N.need c))) H
theorem sc_Market_lacks : FnScope ["self", "column"] ["self", "column"] (defScope s_Market_lacks) := ⟨rfl, rfl, rfl, by decide +kernel, rfl, by decide +kernel, by decide +kernel⟩
theorem ok_Market_lacks {C_Market : Addr} {f : Addr} {fd : FuncData} (F : Fun K "lacks" "Market.lacks" s_Market_lacks f fd) (T : Txt K mg C_Market)  : FnOk P w K mg base CX0 1 f fd ["self", "column"] (sp_Market_lacks K C_Market) := by
  refine F.ok sc_Market_lacks (fun vs H Q E h => ?_) (fun cdv A outer s H vs Q E hr h => ?_)
  · obtain ⟨x, G, d, p, c, rfl, _⟩ := h
    rfl
  · obtain ⟨x, G, d, p, c, rfl, S, D, hc, q⟩ := h
    refine ⟨_, (pss_one (ps_ret (pe_cmpR op_lt (pe_ix ix_list (pe_fld (pv 0) rfl) (pv 1) (fun _ _ => rfl)) (pe_ix ix_list (pe_fld (pv 0) rfl) (pv 1) (fun _ _ => rfl)) (nomark _)))), ?_⟩
    obtain ⟨dx, hi⟩ := S.ins
    walk_at "rd"
    refine ⟨_, _, _, hi, T.cl_Market, T.n_Market_counts, _, mf_counts _ _ _ _ _ _ _, _, rfl, _, SqL.of D.s3, .int (Chp.cnt G.N.S d c), atI_nat (by rw [List.getElem?_map, il_get hc]; rfl), _, _, _, hi, T.cl_Market, T.n_Market_needs, _, mf_needs _ _ _ _ _ _ _, _, rfl, _, SqL.of S.s1, .int (G.N.need c), atI_nat (by rw [List.getElem?_map, il_get hc]; rfl), _, rfl, _, rfl, q⟩
def sp_Market_can_spare (K : PySem.W.Frag) (C_Market : Addr) : Sp := fun vs H Q _ => ∃ (x : Addr) (G : MGeo) (d : Nat → Nat) (p : Nat → Int) (c : Nat), vs = [.ref x, .int c] ∧ MkS C_Market H x G ∧ MkD H G d p ∧ c < G.N.M ∧ Q (.bl (decide (G.N.need c < Chp.cnt G.N.S d c))) H
theorem sc_Market_can_spare : FnScope ["self", "column"] ["self", "column"] (defScope s_Market_can_spare) := ⟨rfl, rfl, rfl, by decide +kernel, rfl, by decide +kernel, by decide +kernel⟩
theorem ok_Market_can_spare {C_Market : Addr} {f : Addr} {fd : FuncData} (F : Fun K "can_spare" "Market.can_spare" s_Market_can_spare f fd) (T : Txt K mg C_Market)  : FnOk P w K mg base CX0 1 f fd ["self", "column"] (sp_Market_can_spare K C_Market) := by
  refine F.ok sc_Market_can_spare (fun vs H Q E h => ?_) (fun cdv A outer s H vs Q E hr h => ?_)
  · obtain ⟨x, G, d, p, c, rfl, _⟩ := h
    rfl
  · obtain ⟨x, G, d, p, c, rfl, S, D, hc, q⟩ := h
    refine ⟨_, (pss_one (ps_ret (pe_cmpR op_gt (pe_ix ix_list (pe_fld (pv 0) rfl) (pv 1) (fun _ _ => rfl)) (pe_ix ix_list (pe_fld (pv 0) rfl) (pv 1) (fun _ _ => rfl)) (nomark _)))), ?_⟩
    obtain ⟨dx, hi⟩ := S.ins
    walk_at "rd"
    refine ⟨_, _, _, hi, T.cl_Market, T.n_Market_counts, _, mf_counts _ _ _ _ _ _ _, _, rfl, _, SqL.of D.s3, .int (Chp.cnt G.N.S d c), atI_nat (by rw [List.getElem?_map, il_get hc]; rfl), _, _, _, hi, T.cl_Market, T.n_Market_needs, _, mf_needs _ _ _ _ _ _ _, _, rfl, _, SqL.of S.s1, .int (G.N.need c), atI_nat (by rw [List.getElem?_map, il_get hc]; rfl), _, rfl, _, rfl, q⟩
def sp_look_on (K : PySem.W.Frag) (C_Market : Addr) : Sp := fun vs H Q _ => ∃ (x an af am : Addr) (G : MGeo) (d : Nat → Nat) (p : Nat → Int) (ns fs : List (Nat × Int)) (ms : List (Nat × (Nat × Nat))) (tk col : Nat) (xx : Int) (rk : Nat → Nat) (k : Nat), vs = [.ref x, .int tk, .ref an, .ref af, .ref am] ∧ MkS C_Market H x G ∧ MkD H G d p ∧ Chp.Fit G.N d p ∧ Srh H an af am ns fs ms G.N.M ∧ OfD x G an ∧ OfD x G af ∧ OfD x G am ∧ lkp ns tk = some xx ∧ (∀ c y, lkp ns c = some y → y ≤ xx) ∧ Chp.Sr G.N d p col (lkp ns) (lkp fs) (mvOf ms) rk k (fun t _ => t ≠ tk) ∧ HasM col ns fs ms ∧
  ∀ (fs' : List (Nat × Int)) (ms' : List (Nat × (Nat × Nat))) (H' : Hp), KpL [af, am] H H' → Srh H' an af am ns fs' ms' G.N.M → Chp.Sr G.N d p col (lkp ns) (lkp fs') (mvOf ms') rk k (fun _ _ => True) → HasM col ns fs' ms' → Q .non H'
theorem sc_look_on : FnScope ["market", "taker", "near", "far", "moves", "dealt", "paid", "prices", "base", "spot", "cost", "giver", "distance"] ["market", "taker", "near", "far", "moves"] (defScope s_look_on) := ⟨rfl, rfl, rfl, by decide +kernel, rfl, by decide +kernel, by decide +kernel⟩
theorem ok_look_on {C_Market : Addr} {f : Addr} {fd : FuncData} (F : Fun K "look_on" "look_on" s_look_on f fd) (T : Txt K mg C_Market) (M_Market_can_spare : CalM P w K mg base C_Market "can_spare" ["self", "column"] 1 (sp_Market_can_spare K C_Market)) : FnOk P w K mg base CX0 2 f fd ["market", "taker", "near", "far", "moves"] (sp_look_on K C_Market) := by
  refine F.ok sc_look_on (fun vs H Q E h => ?_) (fun cdv A outer s H vs Q E hr h => ?_)
  · obtain ⟨x, an, af, am, G, d, p, ns, fs, ms, tk, col, xx, rk, k, rfl, _⟩ := h
    rfl
  · obtain ⟨x, an, af, am, G, d, p, ns, fs, ms, tk, col, xx, rk, k, rfl, S, D, F, Z, on, of, om, htk, hmx, R, hm, q⟩ := h
    refine ⟨_, (pss_cons (ps_set (i := 5) sc_look_on.nd rfl (Or.inl rfl) (pe_fld (pv 0) rfl))
    (pss_cons (ps_set (i := 6) sc_look_on.nd rfl (Or.inl rfl) (pe_fld (pv 0) rfl))
    (pss_cons (ps_set (i := 7) sc_look_on.nd rfl (Or.inl rfl) (pe_fld (pv 0) rfl))
    (pss_cons (ps_set (i := 8) sc_look_on.nd rfl (Or.inl rfl) (pe_op op_sub (pe_dget (hu_of hr) (pv 2) (pv 1) (fun _ _ => rfl)) (pe_ix ix_list (pv 7) (pv 1) (fun _ _ => rfl))))
    (pss_one (ps_for PassesOwn.never rfl (pi_list (pe_ix ix_list (pe_fld (pv 0) rfl) (pv 1) (fun _ _ => rfl))) (pg_tup (n := 2) rfl (pgs_cons (pg_name (i := 9) sc_look_on.nd rfl (Or.inl rfl)) (pgs_cons (pg_name (i := 10) sc_look_on.nd rfl (Or.inl rfl)) pgs_nil)))
      (pss_cons (ps_set (i := 11) sc_look_on.nd rfl (Or.inl rfl) (pe_ix ix_list (pv 5) (pv 9) (fun _ _ => rfl)))
        (pss_one (ps_if (pt_cmp (pc_dnotin (hu_of hr) (pv 11) (pv 2))) (pss_cons (ps_set (i := 12) sc_look_on.nd rfl (Or.inl rfl) (pe_op op_add (pe_op op_sub (pe_op op_add (pv 8) (pv 10)) (pe_ix ix_list (pv 6) (pv 9) (fun _ _ => rfl))) (pe_ix ix_list (pv 7) (pv 11) (fun _ _ => rfl))))
          (pss_one (ps_if (PW.pt (pw_or (pt_cmp (pc_dnotin (hu_of hr) (pv 11) (pv 3))) (pw_or1 (pt_cmpR op_lt (pv 12) (pe_ix ix_tup (pe_dget (hu_of hr) (pv 3) (pv 11) (fun _ _ => rfl)) pe_int (fun _ _ => rfl)) (nomark _))))) (pss_cons (ps_dput (hu_of hr) (pv 3) (pv 11) (pe_tup (pa_cons (pv 12) (pa_cons (pe_not (pe_methC M_Market_can_spare (hr.mono (by decide)) (pv 0) (pa_cons (pv 11) pa_nil))) (pa_cons (pv 11) pa_nil)))) rfl)
            (pss_one (ps_dput (hu_of hr) (pv 4) (pv 11) (pe_tup (pa_cons (pv 9) (pa_cons (pv 1) pa_nil))) rfl))) pss_nil))) pss_nil))))))))), ?_⟩
    obtain ⟨dx, hi⟩ := S.ins
    have htM : tk < G.N.M := (R.nlt _ _ htk).1
    refine seq_of fun U1 u1 => ?_
    walk_at "rd"
    refine ⟨_, _, _, hi, T.cl_Market, T.n_Market_dealt, _, mf_dealt _ _ _ _ _ _ _, ?_⟩
    rw [u1]; clear u1
    refine seq_of fun U1 u1 => ?_
    walk_at "rd"
    refine ⟨_, _, _, hi, T.cl_Market, T.n_Market_paid, _, mf_paid _ _ _ _ _ _ _, ?_⟩
    rw [u1]; clear u1
    refine seq_of fun U1 u1 => ?_
    walk_at "rd"
    refine ⟨_, _, _, hi, T.cl_Market, T.n_Market_prices, _, mf_prices _ _ _ _ _ _ _, ?_⟩
    rw [u1]; clear u1
    refine seq_of fun U1 u1 => ?_
    walk_at "rd"
    refine ⟨.int xx, .inl ⟨_, Sum.inl (tk : Int), .inl Z.n, rfl, by rw [nrK_val, htk]; rfl⟩, _, SqL.of D.s2, _, atI_nat (il_at htM), _, rfl, _, rfl, ?_⟩
    rw [u1]; clear u1
    refine for_of fun B1 b1 => ?_
    walk_at "rd"
    have hbd := List.getElem?_eq_getElem (show tk < G.bd.length by rw [S.b4]; exact htM)
    obtain ⟨rv, hus, l, ts, rfl, hl, hP⟩ := Paired.getR S.r4 hbd
    have hmem := S.m4 tk _ hbd
    have htl := Paired.length hP
    revert hP hmem htl
    generalize G.bd[tk]'(by rw [S.b4]; exact htM) = row
    intro hP hmem htl
    have ofL : ∀ c ∈ [af, am], OfD x G c := fun c hc => by
      rcases List.mem_cons.mp hc with rfl | hc
      · exact of
      · cases List.mem_singleton.mp hc; exact om
    have isD : ∀ c ∈ [af, am], ∃ kvs, H c = some (.dK kvs) := fun c hc => by
      rcases List.mem_cons.mp hc with rfl | hc
      · obtain ⟨kvs, e, _⟩ := Z.f; exact ⟨kvs, e⟩
      · cases List.mem_singleton.mp hc; obtain ⟨kvs, e, _⟩ := Z.m; exact ⟨kvs, e⟩
    have ofM : ∀ c ∈ [af, am], OffM H x G c := fun c hc => (ofL c hc).off fun tt z => by obtain ⟨kvs, e⟩ := isD c hc; rw [e] at z; cases z
    have ntu : ∀ t tt, H t = some (.tup tt) → t ∉ [af, am] := fun t tt e z => by obtain ⟨kvs, e'⟩ := isD t z; rw [e'] at e; cases e
    have nli : ∀ t tt, H t = some (.lst tt) → t ∉ [af, am] := fun t tt e z => by obtain ⟨kvs, e'⟩ := isD t z; rw [e'] at e; cases e
    refine ⟨_, _, _, hi, T.cl_Market, T.n_Market_bids, _, mf_bids _ _ _ _ _ _ _, _, rfl, _, SqL.of S.s4, _, atI_nat hus, l, rfl, ⟨_, SqL.of hl⟩, for_listW (xs := ts) (fun i σ H' => ∃ (fs' : List (Nat × Int)) (ms' : List (Nat × (Nat × Nat))) (v9 v10 v11 v12 : Option V), KpL [af, am] H H' ∧ Srh H' an af am ns fs' ms' G.N.M ∧ Chp.Sr G.N d p col (lkp ns) (lkp fs') (mvOf ms') rk k (fun t s => t ≠ tk ∨ ∃ v, (s, v) ∈ row.take i) ∧ HasM col ns fs' ms' ∧ σ = [some (.ref x), some (.int tk), some (.ref an), some (.ref af), some (.ref am), some (.ref G.a6), some (.ref G.a7), some (.ref G.a2), some (.int (xx - p tk)), v9, v10, v11, v12]) ⟨fs, ms, none, none, none, none, KpL.refl, Z, R.imp (fun t s v _ _ z => z.elim id fun ⟨v, w⟩ => by cases w), hm, rfl⟩ (fun i σ H' _ ⟨_, _, _, _, _, _, g, _⟩ => SqL.of (g _ _ hl (nli _ _ hl))) ?_ ?_⟩
    · rintro i v σ H' hv ⟨fs', ms', v9, v10, v11, v12, g, Z1, R1, hm1, rfl⟩
      obtain ⟨⟨s, c⟩, hrow, t, rfl, ht⟩ := Paired.get' hP hv
      obtain ⟨hs, hoff⟩ := (hmem s c).mp (List.mem_of_getElem? hrow)
      have ht1 := g _ _ ht (ntu _ _ ht)
      have S1 := S.kp g ofM
      have D1 := D.kp g fun c hc => (ofL c hc).nm
      obtain ⟨dx1, hi1⟩ := S1.ins
      walk_at "rd"
      refine ⟨_, SqT.of ht1, rfl, _, _, rfl, _, _, rfl, rfl, ?_⟩
      rw [b1]
      refine seq_of fun U2 u2 => ?_
      walk_at "rd"
      refine ⟨_, SqL.of D1.s6, _, atI_nat (il_at hs), ?_⟩
      rw [u2]; clear u2
      have hdM := F.lt s hs
      walk_at "rd"
      have nrv : valV (nrK ns) (Sum.inl ((d s : Nat) : Int)) = (lkp ns (d s)).map V.int := nrK_val _ _
      obtain ⟨fk, ef, pf⟩ := Z1.f
      have hfv := dc_val (c := d s) pf
      have sm := S.sm
      have okI : ∀ t s' v, s' < G.N.S → G.N.off s' t = some v → (t ≠ tk ∨ ∃ v, (s', v) ∈ row.take (i + 1)) → (t ≠ tk ∨ ∃ v, (s', v) ∈ row.take i) ∨ (t = tk ∧ s' = s) := by
        rintro t s' v _ _ (z | ⟨v', z⟩)
        · exact .inl (.inl z)
        · rw [take_one hrow] at z
          rcases List.mem_append.mp z with z | z
          · exact .inl (.inr ⟨v', z⟩)
          · have e := List.mem_singleton.mp z
            by_cases e2 : t = tk
            · exact .inr ⟨e2, congrArg Prod.fst e⟩
            · exact .inl (.inl e2)
      have dist : xx - p tk + c - G.N.pay d s + p (d s) = xx + G.N.red d p s tk c := by unfold Chp.Net.red; omega
      have fin : lkp ns (d s) = none → (∀ y, lkp fs' (d s) = some y → xx + G.N.red d p s tk c < y) → ∀ (b : Bool) (p1 : Addr), H' p1 = none → ∃ X, DPut (upd H' p1 (.tup [.int (xx - p tk + c - G.N.pay d s + p (d s)), .bl b, .int ((d s : Nat) : Int)])) af (.int ((d s : Nat) : Int)) (.ref p1) X ∧ 2 ≤ sizeLine ∧ ∀ p2, X p2 = none → ∃ Y, DPut (upd X p2 (.tup [.int (s : Int), .int (tk : Int)])) am (.int ((d s : Nat) : Int)) (.ref p2) Y ∧ KpL [af, am] H Y ∧ ∃ f2 m2, Srh Y an af am ns f2 m2 G.N.M ∧ (Chp.Sr G.N d p col (lkp ns) (lkp f2) (mvOf m2) rk k fun t s => t ≠ tk ∨ ∃ v, (s, v) ∈ row.take (i + 1)) ∧ HasM col ns f2 m2 := by
        intro hn hf b p1 hp1
        rw [dist]
        have g1 := same_new hp1 (.tup [.int (xx + G.N.red d p s tk c), .bl b, .int ((d s : Nat) : Int)])
        obtain ⟨k1, e1, l1, Z2⟩ := (Z1.same g1).putF hdM (y := xx + G.N.red d p s tk c) (b := b) (t := p1) upd_same sm.2
        refine ⟨_, .inl ⟨k1, Sum.inl ((d s : Nat) : Int), e1, rfl, l1, rfl⟩, by decide, fun p2 hp2 => ?_⟩
        have g2 := same_new hp2 (.tup [.int (s : Int), .int (tk : Int)])
        obtain ⟨k2, e2, l2, Z3⟩ := (Z2.same g2).putM hdM (q := (s, tk)) (t := p2) upd_same sm.2
        refine ⟨_, .inl ⟨k2, Sum.inl ((d s : Nat) : Int), e2, rfl, l2, rfl⟩, ?_, _, _, Z3, ?_, hm1.put _ _ _⟩
        · exact (((g.trans (KpL.same g1)).trans (KpL.put List.mem_cons_self)).trans (KpL.same g2)).trans (KpL.put (List.mem_cons_of_mem _ List.mem_cons_self))
        · rw [lkp_putF, mvOf_put]
          exact (R1.come F htk hmx hs hoff hn hf).imp okI
      refine ⟨_, .inl ⟨_, Sum.inl ((d s : Nat) : Int), .inl Z1.n, rfl, rfl⟩, ?_⟩
      rw [nrv]
      cases hn : lkp ns (d s) with
      | some y =>
        rw [if_neg (fun z => (nomatch z))]
        exact ⟨g, fs', ms', Z1, (R1.stay F htk hmx hs hoff (.inl (by rw [hn]; rfl))).imp okI, hm1⟩
      | none =>
        rw [if_pos (show (Option.map V.int none).isSome = false from rfl)]
        refine ⟨_, SqL.of D1.s7, _, atI_nat (il_at hs), _, rfl, _, SqL.of D1.s2, _, atI_nat (il_at hdM), _, rfl, _, .inl ⟨_, Sum.inl ((d s : Nat) : Int), .inl ef, rfl, rfl⟩, ?_⟩
        cases hf : lkp fs' (d s) with
        | none =>
          rw [hfv.1 hf, if_pos (show (none : Option V).isSome = false from rfl)]
          exact ⟨_, _, hi1, mf_no _ _ _ _ _ _ _ (.inr (.inr rfl)), x, G, d, p, d s, rfl, S1, D1, hdM, _, rfl, by decide, fin hn (fun y z => by rw [hf] at z; cases z) _⟩
        | some y =>
          obtain ⟨v, hv1, t1, b1, rfl, ht1'⟩ := hfv.2 y hf
          rw [hv1, if_neg (fun z => (nomatch z))]
          refine ⟨_, .inl ⟨_, Sum.inl ((d s : Nat) : Int), .inl ef, rfl, hv1.symm⟩, t1, rfl, _, SqT.of ht1', .int y, rfl, y, rfl, ?_⟩
          by_cases z : xx - p tk + c - G.N.pay d s + p (d s) < y
          · rw [if_pos z]
            rw [dist] at z
            exact ⟨_, _, hi1, mf_no _ _ _ _ _ _ _ (.inr (.inr rfl)), x, G, d, p, d s, rfl, S1, D1, hdM, _, rfl, by decide, fin hn (fun y' z' => by rw [hf] at z'; cases z'; exact z) _⟩
          · rw [if_neg z]
            rw [dist] at z
            exact ⟨g, fs', ms', Z1, (R1.stay F htk hmx hs hoff (.inr ⟨y, hf, by omega⟩)).imp okI, hm1⟩
    rintro σ H' ⟨fs', ms', v9, v10, v11, v12, g, Z1, R1, hm1, rfl⟩
    refine q fs' ms' H' g Z1 (R1.imp fun t s v hs hv _ => ?_) hm1
    by_cases e : t = tk
    · subst e
      refine .inr ⟨v, ?_⟩
      rw [htl, List.take_length]
      exact (hmem s v).mpr ⟨hs, hv⟩
    · exact .inl e
def sp_raise_prices (K : PySem.W.Frag) (C_Market : Addr) : Sp := fun vs H Q _ => ∃ (x an : Addr) (G : MGeo) (d : Nat → Nat) (p : Nat → Int) (ks : List (Nat × Int)) (top : Int), vs = [.ref x, .ref an, .int top] ∧ MkS C_Market H x G ∧ MkD H G d p ∧ H an = some (.dK (nrK ks)) ∧ OffM H x G an ∧ (ks.map (·.1)).Nodup ∧ (∀ q ∈ ks, q.1 < G.N.M) ∧ ∀ H', KpL (an :: G.mut) H H' → MkS C_Market H' x G → MkD H' G d (Chp.up p (nrOf ks) top) → Q .non H'
theorem sc_raise_prices : FnScope ["market", "near", "top", "column", "distance"] ["market", "near", "top"] (defScope s_raise_prices) := ⟨rfl, rfl, rfl, by decide +kernel, rfl, by decide +kernel, by decide +kernel⟩
theorem ok_raise_prices {C_Market : Addr} {f : Addr} {fd : FuncData} (F : Fun K "raise_prices" "raise_prices" s_raise_prices f fd) (T : Txt K mg C_Market)  : FnOk P w K mg base CX0 1 f fd ["market", "near", "top"] (sp_raise_prices K C_Market) := by
  refine F.ok sc_raise_prices (fun vs H Q E h => ?_) (fun cdv A outer s H vs Q E hr h => ?_)
  · obtain ⟨x, an, G, d, p, ks, top, rfl, _⟩ := h
    rfl
  · obtain ⟨x, an, G, d, p, ks, top, rfl, S, D, ha, oa, nd, hlt, q⟩ := h
    refine ⟨_, (pss_one (ps_for PassesOwn.never rfl (pi_items (pv 1)) (pg_tup (n := 2) rfl (pgs_cons (pg_name (i := 3) sc_raise_prices.nd rfl (Or.inl rfl)) (pgs_cons (pg_name (i := 4) sc_raise_prices.nd rfl (Or.inl rfl)) pgs_nil)))
      (pss_one (ps_asg (pe_op op_sub (pe_op op_add (pe_ix ix_list (pe_fld (pv 0) rfl) (pv 3) (fun _ _ => rfl)) (pv 2)) (pv 4)) (pg_sub (pe_fld (pv 0) rfl) (pv 3) set_list))))), ?_⟩
    refine for_of fun B1 b1 => ?_
    walk_at "rd"
    have hk : (nrK ks).length = ks.length := by unfold nrK; rw [List.length_map]
    obtain ⟨n23, n26, n27, n36, n37, n67⟩ := MGeo.apart S.nd
    have m2 : G.a2 ∈ G.mut := by simp [MGeo.mut]
    have nam : an ∉ G.mut := fun z => by
      obtain ⟨vs, e⟩ := D.lst z
      rw [ha] at e
      cases e
    refine ⟨_, ha, fun ob => for_itemsW (fun i σ H' => KpL (an :: G.mut) H H' ∧ MkS C_Market H' x G ∧ MkD H' G d (Chp.up p (nrOf (ks.take i)) top) ∧ H' an = some (.frz ob (.dK (nrK ks))) ∧ ∃ v3 v4, σ = [some (.ref x), some (.ref an), some (.int top), v3, v4]) ?_ (fun i σ H' _ hh => hh.2.2.2.1) ?_ ?_⟩
    · have k0 : KpL [an] H (upd H an (.frz ob (.dK (nrK ks)))) := KpL.put List.mem_cons_self
      refine ⟨k0.mono fun c hc => by cases List.mem_singleton.mp hc; exact List.mem_cons_self, S.kp k0 fun c hc => by cases List.mem_singleton.mp hc; exact oa, D.kp k0 fun c hc => by cases List.mem_singleton.mp hc; exact nam, upd_same, none, none, rfl⟩
    · rintro i k v σ H' t hkv ⟨k1, S1, D1, e1, v3, v4, rfl⟩ ht
      have hi : i < ks.length := by rw [← hk]; exact (List.getElem?_eq_some_iff.mp hkv).1
      have hki := List.getElem?_eq_getElem hi
      have e2 : (nrK ks)[i]? = some (Sum.inl ((ks[i]).1 : Int), .int (ks[i]).2) := by unfold nrK; rw [List.getElem?_map, hki]; rfl
      rw [e2] at hkv
      cases hkv
      rw [b1]
      walk_at "rd"
      have g := same_new ht (.tup [kV (Sum.inl ((ks[i]).1 : Int)), .int (ks[i]).2])
      have et : upd H' t (.tup [kV (Sum.inl ((ks[i]).1 : Int)), .int (ks[i]).2]) t = some (.tup [.int ((ks[i]).1 : Int), .int (ks[i]).2]) := upd_same
      revert g et
      generalize upd H' t (.tup [kV (Sum.inl ((ks[i]).1 : Int)), .int (ks[i]).2]) = H1
      intro g et
      have S2 := S1.kp (L := []) (KpL.same g) (fun c hc => by cases hc)
      have D2 := D1.kp (L := []) (KpL.same g) (fun c hc => by cases hc)
      obtain ⟨dx, hi2⟩ := S2.ins
      have hc := hlt _ (List.mem_of_getElem? hki)
      refine ⟨_, SqT.of et, rfl, _, _, rfl, _, _, rfl, rfl, _, _, _, hi2, T.cl_Market, T.n_Market_prices, _, mf_prices _ _ _ _ _ _ _, _, rfl, _, _, rfl, SqL.of D2.s2, _, atI_nat (il_at hc), _, rfl, _, rfl, ?_⟩
      have nin : (ks[i]).1 ∉ (ks.take i).map (·.1) := by
        have n2 := nd
        rw [← List.take_append_drop i ks, List.drop_eq_getElem_cons hi, List.map_append, List.map_cons] at n2
        exact fun z => (List.nodup_append.mp n2).2.2 _ z _ List.mem_cons_self rfl
      refine ⟨_, _, _, hi2, T.cl_Market, T.n_Market_prices, _, mf_prices _ _ _ _ _ _ _, _, rfl, _, _, rfl, D2.s2, _, ixN_lt (by rw [il_mlen]; exact hc), ?_⟩
      rw [il_put, up_snoc nin, take_one hki]
      have k2 : KpL G.mut H1 (upd H1 G.a2 (.lst ((il G.N.M (Chp.up p (nrOf (ks.take i ++ [((ks[i]).1, (ks[i]).2)])) top)).map V.int))) := KpL.put m2
      refine ⟨(k1.trans (KpL.same g)).trans (k2.mono fun c hc => List.mem_cons_of_mem _ hc), S2.kp k2 (D2.offs S2), ⟨upd_same, ?_, ?_, ?_⟩, ?_⟩
      · rw [upd_ne n23.symm]; exact D2.s3
      · rw [upd_ne n26.symm]; exact D2.s6
      · rw [upd_ne n27.symm]; exact D2.s7
      · rw [upd_ne (fun z => nam (by rw [z]; exact m2))]; exact g _ _ e1
    · rintro σ H' ⟨k1, S1, D1, e1, v3, v4, rfl⟩
      rw [hk, List.take_length] at D1
      exact q H' k1 S1 D1
def sp_Market_move (K : PySem.W.Frag) (C_Market : Addr) : Sp := fun vs H Q _ => ∃ (x : Addr) (G : MGeo) (d : Nat → Nat) (p : Nat → Int) (s c : Nat) (v : Int), vs = [.ref x, .int s, .int c] ∧ MkS C_Market H x G ∧ MkD H G d p ∧ s < G.N.S ∧ c < G.N.M ∧ d s < G.N.M ∧ G.N.off s c = some v ∧ ∀ H', KpL G.mut H H' → MkD H' G (Chp.fset d s c) p → Q .non H'
theorem sc_Market_move : FnScope ["self", "spot", "column", "before"] ["self", "spot", "column"] (defScope s_Market_move) := ⟨rfl, rfl, rfl, by decide +kernel, rfl, by decide +kernel, by decide +kernel⟩
theorem ok_Market_move {C_Market : Addr} {f : Addr} {fd : FuncData} (F : Fun K "move" "Market.move" s_Market_move f fd) (T : Txt K mg C_Market)  : FnOk P w K mg base CX0 1 f fd ["self", "spot", "column"] (sp_Market_move K C_Market) := by
  refine F.ok sc_Market_move (fun vs H Q E h => ?_) (fun cdv A outer s H vs Q E hr h => ?_)
  · obtain ⟨x, G, d, p, s, c, v, rfl, _⟩ := h
    rfl
  · obtain ⟨x, G, d, p, s, c, v, rfl, S, D, hs, hc, hd, hv, q⟩ := h
    refine ⟨_, (pss_cons (ps_set (i := 3) sc_Market_move.nd rfl (Or.inl rfl) (pe_ix ix_list (pe_fld (pv 0) rfl) (pv 1) (fun _ _ => rfl)))
    (pss_cons (ps_asg (pe_op op_sub (pe_ix ix_list (pe_fld (pv 0) rfl) (pv 3) (fun _ _ => rfl)) pe_int) (pg_sub (pe_fld (pv 0) rfl) (pv 3) set_list))
    (pss_cons (ps_asg (pe_op op_add (pe_ix ix_list (pe_fld (pv 0) rfl) (pv 2) (fun _ _ => rfl)) pe_int) (pg_sub (pe_fld (pv 0) rfl) (pv 2) set_list))
    (pss_cons (ps_asg (pv 2) (pg_sub (pe_fld (pv 0) rfl) (pv 1) set_list))
    (pss_one (ps_asg (pe_dget (hu_of hr) (pe_ix ix_list (pe_fld (pv 0) rfl) (pv 1) (fun _ _ => rfl)) (pv 2) (fun _ _ => rfl)) (pg_sub (pe_fld (pv 0) rfl) (pv 1) set_list))))))), ?_⟩
    obtain ⟨dx, hi⟩ := S.ins
    refine seq_of fun U1 u1 => ?_
    walk_at "rd"
    refine ⟨_, _, _, hi, T.cl_Market, T.n_Market_dealt, _, mf_dealt _ _ _ _ _ _ _, _, rfl, _, SqL.of D.s6, .int ((d s : Nat) : Int), atI_nat (by rw [List.getElem?_map, il_get hs]; rfl), ?_⟩
    rw [u1]; clear u1
    refine seq_of fun U1 u1 => ?_
    walk_at "rd"
    obtain ⟨n23, n26, n27, n36, n37, n67⟩ := MGeo.apart S.nd
    have m3 : G.a3 ∈ G.mut := by simp [MGeo.mut]
    have m6 : G.a6 ∈ G.mut := by simp [MGeo.mut]
    have m7 : G.a7 ∈ G.mut := by simp [MGeo.mut]
    have of := D.offs S
    refine ⟨_, _, _, hi, T.cl_Market, T.n_Market_counts, _, mf_counts _ _ _ _ _ _ _, _, rfl, _, SqL.of D.s3, _, atI_nat (il_at hd), _, rfl, _, _, _, hi, T.cl_Market, T.n_Market_counts, _, mf_counts _ _ _ _ _ _ _, _, rfl, _, D.s3, _, ixN_lt (by rw [il_mlen]; exact hd), ?_⟩
    rw [il_put]
    have k1 : KpL G.mut H (upd H G.a3 (.lst ((il G.N.M (Chp.fset (Chp.cnt G.N.S d) (d s) (Chp.cnt G.N.S d (d s) - 1))).map V.int))) := KpL.put m3
    have f2 : upd H G.a3 (.lst ((il G.N.M (Chp.fset (Chp.cnt G.N.S d) (d s) (Chp.cnt G.N.S d (d s) - 1))).map V.int)) G.a2 = some (.lst ((il G.N.M p).map V.int)) := by rw [upd_ne n23]; exact D.s2
    have f3 : upd H G.a3 (.lst ((il G.N.M (Chp.fset (Chp.cnt G.N.S d) (d s) (Chp.cnt G.N.S d (d s) - 1))).map V.int)) G.a3 = _ := upd_same
    have f6 : upd H G.a3 (.lst ((il G.N.M (Chp.fset (Chp.cnt G.N.S d) (d s) (Chp.cnt G.N.S d (d s) - 1))).map V.int)) G.a6 = some (.lst ((il G.N.S fun s => (d s : Int)).map V.int)) := by rw [upd_ne n36.symm]; exact D.s6
    have f7 : upd H G.a3 (.lst ((il G.N.M (Chp.fset (Chp.cnt G.N.S d) (d s) (Chp.cnt G.N.S d (d s) - 1))).map V.int)) G.a7 = some (.lst ((il G.N.S (G.N.pay d)).map V.int)) := by rw [upd_ne n37.symm]; exact D.s7
    revert k1 f2 f3 f6 f7
    generalize upd H G.a3 (.lst ((il G.N.M (Chp.fset (Chp.cnt G.N.S d) (d s) (Chp.cnt G.N.S d (d s) - 1))).map V.int)) = H1
    intro k1 f2 f3 f6 f7
    have S1 := S.kp k1 of
    obtain ⟨dx1, hi1⟩ := S1.ins
    rw [u1]; clear u1
    refine seq_of fun U1 u1 => ?_
    walk_at "rd"
    refine ⟨_, _, _, hi1, T.cl_Market, T.n_Market_counts, _, mf_counts _ _ _ _ _ _ _, _, rfl, _, SqL.of f3, _, atI_nat (il_at hc), _, rfl, _, _, _, hi1, T.cl_Market, T.n_Market_counts, _, mf_counts _ _ _ _ _ _ _, _, rfl, _, f3, _, ixN_lt (by rw [il_mlen]; exact hc), ?_⟩
    rw [il_put, il_congr fun k _ => cnt_fset hs k]
    have k2 : KpL G.mut H1 (upd H1 G.a3 (.lst ((il G.N.M (Chp.cnt G.N.S (Chp.fset d s c))).map V.int))) := KpL.put m3
    have g2 : upd H1 G.a3 (.lst ((il G.N.M (Chp.cnt G.N.S (Chp.fset d s c))).map V.int)) G.a2 = some (.lst ((il G.N.M p).map V.int)) := by rw [upd_ne n23]; exact f2
    have g3 : upd H1 G.a3 (.lst ((il G.N.M (Chp.cnt G.N.S (Chp.fset d s c))).map V.int)) G.a3 = _ := upd_same
    have g6 : upd H1 G.a3 (.lst ((il G.N.M (Chp.cnt G.N.S (Chp.fset d s c))).map V.int)) G.a6 = some (.lst ((il G.N.S fun s => (d s : Int)).map V.int)) := by rw [upd_ne n36.symm]; exact f6
    have g7 : upd H1 G.a3 (.lst ((il G.N.M (Chp.cnt G.N.S (Chp.fset d s c))).map V.int)) G.a7 = some (.lst ((il G.N.S (G.N.pay d)).map V.int)) := by rw [upd_ne n37.symm]; exact f7
    revert k2 g2 g3 g6 g7
    generalize upd H1 G.a3 (.lst ((il G.N.M (Chp.cnt G.N.S (Chp.fset d s c))).map V.int)) = H2
    intro k2 g2 g3 g6 g7
    have k12 := k1.trans k2
    clear f2 f3 f6 f7 S1 hi1
    have S2 := S.kp k12 of
    obtain ⟨dx2, hi2⟩ := S2.ins
    rw [u1]; clear u1
    refine seq_of fun U1 u1 => ?_
    walk_at "rd"
    refine ⟨_, _, _, hi2, T.cl_Market, T.n_Market_dealt, _, mf_dealt _ _ _ _ _ _ _, _, rfl, _, g6, _, ixN_lt (by rw [il_mlen]; exact hs), ?_⟩
    rw [il_put, il_deal]
    have k3 : KpL G.mut H2 (upd H2 G.a6 (.lst ((il G.N.S fun s' => ((Chp.fset d s c s' : Nat) : Int)).map V.int))) := KpL.put m6
    have f2 : upd H2 G.a6 (.lst ((il G.N.S fun s' => ((Chp.fset d s c s' : Nat) : Int)).map V.int)) G.a2 = some (.lst ((il G.N.M p).map V.int)) := by rw [upd_ne n26]; exact g2
    have f3 : upd H2 G.a6 (.lst ((il G.N.S fun s' => ((Chp.fset d s c s' : Nat) : Int)).map V.int)) G.a3 = some (.lst ((il G.N.M (Chp.cnt G.N.S (Chp.fset d s c))).map V.int)) := by rw [upd_ne n36]; exact g3
    have f6 : upd H2 G.a6 (.lst ((il G.N.S fun s' => ((Chp.fset d s c s' : Nat) : Int)).map V.int)) G.a6 = _ := upd_same
    have f7 : upd H2 G.a6 (.lst ((il G.N.S fun s' => ((Chp.fset d s c s' : Nat) : Int)).map V.int)) G.a7 = some (.lst ((il G.N.S (G.N.pay d)).map V.int)) := by rw [upd_ne n67.symm]; exact g7
    revert k3 f2 f3 f6 f7
    generalize upd H2 G.a6 (.lst ((il G.N.S fun s' => ((Chp.fset d s c s' : Nat) : Int)).map V.int)) = H3
    intro k3 f2 f3 f6 f7
    have k13 := k12.trans k3
    have S3 := S.kp k13 of
    obtain ⟨dx3, hi3⟩ := S3.ins
    rw [u1]; clear u1
    have hds : s < G.ds.length := by rw [S.l5]; exact hs
    have hdd := List.getElem?_eq_getElem hds
    walk_at "rd"
    refine ⟨_, _, _, hi3, T.cl_Market, T.n_Market_costs, _, mf_costs _ _ _ _ _ _ _, _, rfl, _, SqL.of S3.s5, .ref G.ds[s], atI_nat (by rw [List.getElem?_map, hdd]; rfl), _, rfl, .int v, .inl ⟨_, Sum.inl (c : Int), .inl (S3.d5 s _ hdd), rfl, by rw [S.v5 s hs, hv]; rfl⟩, _, _, _, hi3, T.cl_Market, T.n_Market_paid, _, mf_paid _ _ _ _ _ _ _, _, rfl, _, f7, _, ixN_lt (by rw [il_mlen]; exact hs), ?_⟩
    rw [il_put, il_pay hv]
    refine q _ (k13.trans (KpL.put m7)) ⟨?_, ?_, ?_, upd_same⟩
    · rw [upd_ne n27]; exact f2
    · rw [upd_ne n37]; exact f3
    · rw [upd_ne n67]; exact f6
def sp_follow (K : PySem.W.Frag) (C_Market : Addr) : Sp := fun vs H Q _ => ∃ (x am : Addr) (G : MGeo) (d : Nat → Nat) (p : Nat → Int) (kvs : List (Key × V)) (g0 col : Nat) (R : Nat → Nat) (On : Nat → Prop), vs = [.ref x, .ref am, .int g0, .int col] ∧ MkS C_Market H x G ∧ MkD H G d p ∧ H am = some (.dK kvs) ∧ Chp.Fit G.N d p ∧ On g0 ∧
  (∀ a, On a → a ≠ col → ∃ (t : Addr) (s c : Nat) (v : Int), valV kvs (Sum.inl (a : Int)) = some (.ref t) ∧ H t = some (.tup [.int s, .int c]) ∧ s < G.N.S ∧ d s = a ∧ c < G.N.M ∧ On c ∧ R c < R a ∧ G.N.off s c = some v ∧ G.N.pay d s - p a = v - p c) ∧ ∀ (d' : Nat → Nat) (H' : Hp), KpL G.mut H H' → MkD H' G d' p → Chp.Fw G.N d p g0 R col d' → Q .non H'
theorem sc_follow : FnScope ["market", "moves", "giver", "column", "place", "step"] ["market", "moves", "giver", "column"] (defScope s_follow) := ⟨rfl, rfl, rfl, by decide +kernel, rfl, by decide +kernel, by decide +kernel⟩
theorem ok_follow {C_Market : Addr} {f : Addr} {fd : FuncData} (F : Fun K "follow" "follow" s_follow f fd) (T : Txt K mg C_Market) (M_Market_move : CalM P w K mg base C_Market "move" ["self", "spot", "column"] 1 (sp_Market_move K C_Market)) : FnOk P w K mg base CX0 2 f fd ["market", "moves", "giver", "column"] (sp_follow K C_Market) := by
  refine F.ok sc_follow (fun vs H Q E h => ?_) (fun cdv A outer s H vs Q E hr h => ?_)
  · obtain ⟨x, am, G, d, p, kvs, g0, col, R, On, rfl, _⟩ := h
    rfl
  · obtain ⟨x, am, G, d, p, kvs, g0, col, R, On, rfl, S, D, ha, ft, on0, way, q⟩ := h
    refine ⟨_, (pss_cons (ps_set (i := 4) sc_follow.nd rfl (Or.inl rfl) (pv 2))
    (pss_one (ps_while PassesOwn.never (pt_cmpR op_ne (pv 4) (pv 3) (nomark _))
      (pss_cons (ps_set (i := 5) sc_follow.nd rfl (Or.inl rfl) (pe_dget (hu_of hr) (pv 1) (pv 4) (fun _ _ => rfl)))
        (pss_cons (ps_expr (pe_methC M_Market_move (hr.mono (by decide)) (pv 0) (pa_cons (pe_ix ix_tup (pv 5) pe_int (fun _ _ => rfl)) (pa_cons (pe_ix ix_tup (pv 5) pe_int (fun _ _ => rfl)) pa_nil))))
        (pss_one (ps_set (i := 4) sc_follow.nd rfl (Or.inl rfl) (pe_ix ix_tup (pv 5) pe_int (fun _ _ => rfl))))))))), ?_⟩
    have of := D.offs S
    have nam : am ∉ G.mut := fun z => by
      obtain ⟨vs, e⟩ := D.lst z
      rw [ha] at e
      cases e
    have ntu : ∀ t ts, H t = some (.tup ts) → t ∉ G.mut := fun t ts e z => (of t z).nt ts e
    refine seq_of fun U1 u1 => ?_
    walk_at "rd"
    rw [u1]; clear u1
    walk_at "rd"
    refine ⟨fun m σ H' => ∃ (a : Nat) (dk : Nat → Nat) (v5 : Option V), KpL G.mut H H' ∧ MkD H' G dk p ∧ Chp.Fw G.N d p g0 R a dk ∧ On a ∧ m = R a ∧ σ = [some (.ref x), some (.ref am), some (.int g0), some (.int col), some (.int a), v5], ⟨_, g0, d, none, KpL.refl, D, Chp.Fw.start ft, on0, rfl, rfl⟩, ?_⟩
    rintro m σ H' ⟨a, dk, v5, k1, D1, W, on, rfl, rfl⟩
    walk_at "rd"
    by_cases hac : a = col
    · rw [if_neg (fun z => z (by rw [hac]))]
      subst hac
      exact q dk H' k1 D1 W
    · rw [if_pos (fun z => hac (by omega))]
      obtain ⟨t, s, c, v, hv, ht, hs, hd, hc, onc, hR, hoff, tight⟩ := way a on hac
      have ht1 := k1 _ _ ht (ntu _ _ ht)
      have S1 := S.kp k1 of
      obtain ⟨dx1, hi1⟩ := S1.ins
      obtain ⟨e1, W2⟩ := W.step hs hd hc hoff hR tight
      refine ⟨fun σ' H2 => ∃ (d2 : Nat → Nat) (v5 : Option V), KpL G.mut H H2 ∧ MkD H2 G d2 p ∧ Chp.Fw G.N d p g0 R c d2 ∧ σ' = [some (.ref x), some (.ref am), some (.int g0), some (.int col), some (.int c), v5], ?_, ?_⟩
      · rintro σ' H2 ⟨d2, v5, z1, z2, z3, rfl⟩
        exact ⟨R c, hR, z1, c, d2, z2, z3, onc, rfl, v5, rfl⟩
      · refine ⟨.ref t, .inl ⟨_, Sum.inl (a : Int), .inl (k1 _ _ ha nam), rfl, hv.symm⟩, _, _, hi1, mf_no _ _ _ _ _ _ _ (.inl rfl), t, rfl, _, SqT.of ht1, .int (s : Int), rfl, t, rfl, _, SqT.of ht1, .int (c : Int), rfl, x, G, dk, p, s, c, v, rfl, S1, D1, hs, hc, W.fit.lt s hs, hoff, fun H2 k2 D2 => ?_⟩
        exact ⟨t, rfl, _, SqT.of (k2 _ _ ht1 (ntu _ _ ht)), .int (c : Int), rfl, _, some (.ref t), k1.trans k2, D2, W2, rfl⟩
def sp_is_supplied (K : PySem.W.Frag) (C_Market : Addr) : Sp := fun vs H Q _ => ∃ (x : Addr) (G : MGeo) (d : Nat → Nat) (p : Nat → Int) (col : Nat), vs = [.ref x, .int col] ∧ MkS C_Market H x G ∧ MkD H G d p ∧ Chp.Good G.N d p ∧ col < G.N.M ∧ Chp.cnt G.N.S d col < G.N.need col ∧
  (∀ (d' : Nat → Nat) (p' : Nat → Int) (H' : Hp), KpL G.mut H H' → MkS C_Market H' x G → MkD H' G d' p' → Chp.Good G.N d' p' → Chp.cnt G.N.S d' col = Chp.cnt G.N.S d col + 1 → (∀ c, G.N.need c ≤ Chp.cnt G.N.S d c → G.N.need c ≤ Chp.cnt G.N.S d' c) → Q (.bl true) H') ∧
  ∀ H' : Hp, KpL G.mut H H' → (∀ e : Nat → Nat, (∀ s, s < G.N.S → e s < G.N.M ∧ (G.N.off s (e s)).isSome = true) → (∀ c, c < G.N.M → G.N.need c ≤ Chp.cnt G.N.S e c) → False) → Q (.bl false) H'
theorem sc_is_supplied : FnScope ["market", "column", "near", "far", "moves", "first", "giver"] ["market", "column"] (defScope s_is_supplied) := ⟨rfl, rfl, rfl, by decide +kernel, rfl, by decide +kernel, by decide +kernel⟩
theorem ok_is_supplied {C_Market : Addr} {f : Addr} {fd : FuncData} (F : Fun K "is_supplied" "is_supplied" s_is_supplied f fd) (T : Txt K mg C_Market) (M_Market_can_spare : CalM P w K mg base C_Market "can_spare" ["self", "column"] 1 (sp_Market_can_spare K C_Market)) (C_look_on : Cal P w K mg base "look_on" ["market", "taker", "near", "far", "moves"] 2 (sp_look_on K C_Market)) (C_raise_prices : Cal P w K mg base "raise_prices" ["market", "near", "top"] 1 (sp_raise_prices K C_Market)) (C_follow : Cal P w K mg base "follow" ["market", "moves", "giver", "column"] 2 (sp_follow K C_Market)) : FnOk P w K mg base CX0 3 f fd ["market", "column"] (sp_is_supplied K C_Market) := by
  refine F.ok sc_is_supplied (fun vs H Q E h => ?_) (fun cdv A outer s H vs Q E hr h => ?_)
  · obtain ⟨x, G, d, p, col, rfl, _⟩ := h
    rfl
  · obtain ⟨x, G, d, p, col, rfl, S, D, F, hc, hl, q1, q2⟩ := h
    refine ⟨_, (pss_cons (ps_set (i := 2) sc_is_supplied.nd rfl (Or.inl rfl) pe_dnewK)
    (pss_cons (ps_set (i := 3) sc_is_supplied.nd rfl (Or.inl rfl) (pe_disp (pps_cons (pv 1) (pe_tup (pa_cons pe_int (pa_cons pe_bl (pa_cons (pv 1) pa_nil)))) pps_nil) rfl rfl (by simp) (by decide)))
    (pss_cons (ps_set (i := 4) sc_is_supplied.nd rfl (Or.inl rfl) pe_dnewK)
    (pss_cons (ps_while PassesOwn.never (pt_truth (pv 3) (fun _ => rfl))
      (pss_cons (ps_set (i := 5) sc_is_supplied.nd rfl (Or.inl rfl) (pe_minV hr rfl rfl T.min (pv 3)))
        (pss_cons (ps_set (i := 6) sc_is_supplied.nd rfl (Or.inl rfl) (pe_ix ix_tup (pv 5) pe_int (fun _ _ => rfl)))
        (pss_cons (ps_if (pt_val (pe_methC M_Market_can_spare (hr.mono (by decide)) (pv 0) (pa_cons (pv 6) pa_nil))) (pss_cons (ps_expr (pe_cal C_raise_prices (hr.mono (by decide)) rfl (pa_cons (pv 0) (pa_cons (pv 2) (pa_cons (pe_ix ix_tup (pv 5) pe_int (fun _ _ => rfl)) pa_nil)))))
          (pss_cons (ps_expr (pe_cal C_follow (hr.mono (by decide)) rfl (pa_cons (pv 0) (pa_cons (pv 4) (pa_cons (pv 6) (pa_cons (pv 1) pa_nil))))))
          (pss_one (ps_ret pe_bl)))) pss_nil)
        (pss_cons (ps_expr (pe_dpop1 (pv 3) (pv 6) ⟨rfl, rfl, rfl, rfl⟩))
        (pss_cons (ps_dput (hu_of hr) (pv 2) (pv 6) (pe_ix ix_tup (pv 5) pe_int (fun _ _ => rfl)) rfl)
        (pss_one (ps_expr (pe_cal C_look_on (hr.mono (by decide)) rfl (pa_cons (pv 0) (pa_cons (pv 6) (pa_cons (pv 2) (pa_cons (pv 3) (pa_cons (pv 4) pa_nil))))))))))))))
    (pss_one (ps_ret pe_bl)))))), ?_⟩
    refine seq_of fun U1 u1 => ?_
    walk_at "rd"
    intro an han
    have g1 := same_new han (.dK [])
    rw [u1]; clear u1
    refine seq_of fun U1 u1 => ?_
    walk_at "rd"
    intro af haf
    refine ⟨by decide, fun t0 ht0 => ?_⟩
    have g2 := same_new haf (.dK [])
    have g3 := same_new ht0 (.tup [.int 0, .bl true, .int (col : Int)])
    refine ⟨g3 _ _ upd_same, [(Sum.inl (col : Int), .ref t0)], rfl, Nat.succ_le_succ (Nat.zero_le _), ?_⟩
    have naf : an ≠ af := ne_of_none upd_same haf
    have eaf : ∀ X : HO, upd (upd (upd (upd H an (.dK [])) af (.dK [])) t0 (.tup [.int 0, .bl true, .int (col : Int)])) af X af = some X := fun X => upd_same
    have ntf : t0 ≠ af := fun z => by rw [z, upd_same] at ht0; cases ht0
    have et0 : upd (upd (upd (upd H an (.dK [])) af (.dK [])) t0 (.tup [.int 0, .bl true, .int (col : Int)])) af (.dK (mergeK [] [(Sum.inl (col : Int), .ref t0)])) t0 = some (.tup [.int 0, .bl true, .int (col : Int)]) := by rw [upd_ne ntf, upd_same]
    have ean : upd (upd (upd (upd H an (.dK [])) af (.dK [])) t0 (.tup [.int 0, .bl true, .int (col : Int)])) af (.dK (mergeK [] [(Sum.inl (col : Int), .ref t0)])) an = some (.dK []) := by rw [upd_ne naf]; exact g3 _ _ (g2 _ _ upd_same)
    have hafH : H af = none := g1.free haf
    have g4 : Same H (upd (upd (upd (upd H an (.dK [])) af (.dK [])) t0 (.tup [.int 0, .bl true, .int (col : Int)])) af (.dK (mergeK [] [(Sum.inl (col : Int), .ref t0)]))) := same_upd hafH ((g1.trans g2).trans g3) _
    have eaf := eaf (.dK (mergeK [] [(Sum.inl (col : Int), .ref t0)]))
    have mg : mergeK [] [((Sum.inl (col : Int) : Key), V.ref t0)] = [(Sum.inl (col : Int), .ref t0)] := rfl
    rw [mg] at eaf et0 ean g4 ⊢
    generalize upd (upd (upd (upd H an (.dK [])) af (.dK [])) t0 (.tup [.int 0, .bl true, .int (col : Int)])) af (.dK [(Sum.inl (col : Int), .ref t0)]) = H1 at g4 ean et0 eaf ⊢
    clear g1 g2 g3 mg
    rw [u1]; clear u1
    refine seq_of fun U1 u1 => ?_
    walk_at "rd"
    intro am ham
    have g5 := same_new ham (.dK [])
    have nfm : af ≠ am := ne_of_none eaf ham
    have nnm : an ≠ am := ne_of_none ean ham
    have hamH : H am = none := g4.free ham
    have g6 := g4.trans g5
    have Z0 : Srh (upd H1 am (.dK [])) an af am [] [(col, 0)] [] G.N.M := ⟨g5 _ _ ean, ⟨_, g5 _ _ eaf, .cons ⟨rfl, t0, true, rfl, g5 _ _ et0⟩ .nil⟩, ⟨[], upd_same, .nil⟩, ⟨List.nodup_nil, fun c z => by cases z⟩, ⟨by simp, fun c z => by cases List.mem_singleton.mp z; exact hc⟩, ⟨List.nodup_nil, fun c z => by cases z⟩, naf, nnm, nfm⟩
    have on := OfD.fresh S D han
    have of := OfD.fresh S D hafH
    have om := OfD.fresh S D hamH
    generalize upd H1 am (.dK []) = H2 at g6 Z0 ⊢
    clear g4 g5 ean eaf et0 ham haf
    rw [u1]; clear u1
    refine seq_of fun U1 u1 => while_of fun B1 b1 => ?_
    walk_at "rd"
    have S2 := S.kp (L := []) (KpL.same g6) (fun c z => by cases z)
    have D2 := D.kp (L := []) (KpL.same g6) (fun c z => by cases z)
    have ofL : ∀ c ∈ [an, af, am], OfD x G c := fun c hc => by
      rcases List.mem_cons.mp hc with rfl | hc
      · exact on
      · rcases List.mem_cons.mp hc with rfl | hc
        · exact of
        · cases List.mem_singleton.mp hc; exact om
    have isD : ∀ c ∈ [an, af, am], ∃ kvs, H2 c = some (.dK kvs) := fun c hc => by
      rcases List.mem_cons.mp hc with rfl | hc
      · exact ⟨_, Z0.n⟩
      · rcases List.mem_cons.mp hc with rfl | hc
        · obtain ⟨kvs, e, _⟩ := Z0.f; exact ⟨kvs, e⟩
        · cases List.mem_singleton.mp hc; obtain ⟨kvs, e, _⟩ := Z0.m; exact ⟨kvs, e⟩
    have ofM : ∀ c ∈ [an, af, am], OffM H2 x G c := fun c hc => (ofL c hc).off fun tt z => by obtain ⟨kvs, e⟩ := isD c hc; rw [e] at z; cases z
    have nH : ∀ c ∈ [an, af, am], H c = none := fun c hc => by
      rcases List.mem_cons.mp hc with rfl | hc
      · exact han
      · rcases List.mem_cons.mp hc with rfl | hc
        · exact hafH
        · cases List.mem_singleton.mp hc; exact hamH
    have sm := S.sm
    refine ⟨fun m σ H' => ∃ (ns fs : List (Nat × Int)) (ms : List (Nat × (Nat × Nat))) (rk : Nat → Nat) (k : Nat) (v5 v6 : Option V), KpL [an, af, am] H2 H' ∧ Srh H' an af am ns fs ms G.N.M ∧ Chp.Sr G.N d p col (lkp ns) (lkp fs) (mvOf ms) rk k (fun _ _ => True) ∧ HasM col ns fs ms ∧ m = G.N.M + 1 - ns.length ∧ σ = [some (.ref x), some (.int col), some (.ref an), some (.ref af), some (.ref am), v5, v6], ⟨_, [], [(col, 0)], [], fun _ => 0, 0, none, none, KpL.refl, Z0, ?_, ?_, rfl, rfl⟩, ?_⟩
    · have e : lkp [(col, (0 : Int))] = Chp.fset (fun _ => none) col (some 0) := funext fun c => by
        unfold Chp.fset
        by_cases z : c = col
        · rw [if_pos z]; exact lkp_pos z.symm
        · rw [if_neg z]; exact lkp_neg fun w => z w.symm
      rw [e]
      exact Chp.Sr.start hc
    · intro g hg z
      rcases z with z | z
      · cases z
      · rw [lkp_neg fun w => hg w.symm] at z; cases z
    rintro m σ H' ⟨ns, fs, ms, rk, k, v5, v6, g, Z, R, hm, rfl, rfl⟩
    obtain ⟨fk, ef, pf⟩ := Z.f
    have hfl := Paired.length pf
    have S3 := S2.kp g ofM
    have D3 := D2.kp g fun c hc => (ofL c hc).nm
    obtain ⟨dx3, hi3⟩ := S3.ins
    walk_at "rd"
    refine ⟨_, .inr (.inr ⟨fk, ef, rfl⟩), ?_⟩
    cases hfs : fk.isEmpty with
    | true =>
      rw [if_neg (fun z => (nomatch z))]
      rw [u1]; clear u1
      walk_at "rd"
      have e0 : fs = [] := by
        have : fk = [] := List.isEmpty_iff.mp hfs
        rw [this] at hfl
        exact List.eq_nil_of_length_eq_zero hfl.symm
      refine q2 H' (fun b o e _ => g _ _ (g6 _ _ e) fun z => by rw [nH b z] at e; cases e) fun e he hn => ?_
      exact R.none F.toFit hc hl (fun c => by rw [e0]; rfl) he hn
    | false =>
      rw [if_pos (show (!false) = true from rfl)]
      rw [b1]
      refine ⟨fun σ' H3 => ∃ (ns' fs' : List (Nat × Int)) (ms' : List (Nat × (Nat × Nat))) (rk' : Nat → Nat) (k' : Nat) (v5 v6 : Option V), KpL [an, af, am] H2 H3 ∧ Srh H3 an af am ns' fs' ms' G.N.M ∧ Chp.Sr G.N d p col (lkp ns') (lkp fs') (mvOf ms') rk' k' (fun _ _ => True) ∧ HasM col ns' fs' ms' ∧ ns.length < ns'.length ∧ σ' = [some (.ref x), some (.int col), some (.ref an), some (.ref af), some (.ref am), v5, v6], ?_, ?_⟩
      · rintro σ' H3 ⟨ns', fs', ms', rk', k', v5, v6, z1, z2, z3, z4, z5, rfl⟩
        have := z2.kn.len
        exact ⟨G.N.M + 1 - ns'.length, by omega, z1, ns', fs', ms', z2, rk', k', z3, z4, rfl, v5, v6, rfl⟩
      refine seq_of fun U2 u2 => ?_
      walk_at "rd"
      refine ⟨fk, ef, fs.map (·.2), far_tri pf, ?_, fun i kk v a hi1 hi2 hmin => ?_⟩
      · cases fk with
        | nil => cases hfs
        | cons _ _ => exact Nat.succ_pos _
      obtain ⟨⟨gv, y⟩, hq, e1, t1, tb, e2, ht1⟩ := Paired.get' pf hi1
      rw [List.getElem?_map, hq] at hi2
      cases hi2
      have e2 : v = .ref t1 := e2
      subst e2
      have hgf : lkp fs gv = some y := lkp_of Z.kf.nd (List.mem_of_getElem? hq)
      have hgM : gv < G.N.M := (R.flt _ _ hgf).1
      have hmin : ∀ c y', lkp fs c = some y' → y ≤ y' := fun c y' e => hmin y' (List.mem_map.mpr ⟨_, lkp_mem e, rfl⟩)
      rw [u2]; clear u2
      refine seq_of fun U2 u2 => ?_
      walk_at "rd"
      refine ⟨_, SqT.of ht1, _, rfl, ?_⟩
      rw [u2]; clear u2
      refine seq_of fun U2 u2 => ?_
      walk_at "rd"
      refine ⟨_, _, hi3, mf_no _ _ _ _ _ _ _ (.inr (.inr rfl)), x, G, d, p, gv, rfl, S3, D3, hgM, _, rfl, ?_⟩
      have nb3 : ∀ b o, H b = some o → b ∉ [an, af, am] := fun b o e z => by rw [nH b z] at e; cases e
      by_cases hsp : G.N.need gv < Chp.cnt G.N.S d gv
      · rw [if_pos (decide_eq_true hsp)]
        have Ft : Chp.Fit G.N d (Chp.up p (nrOf ns) y) := R.fit F.toFit hmin fun c x' e => R.mono _ _ _ _ e hgf
        have oan : OffM H' x G an := on.off fun tt z => by rw [Z.n] at z; cases z
        obtain ⟨mk, em, pm⟩ := Z.m
        refine ⟨_, SqT.of ht1, .int y, rfl, x, an, G, d, p, ns, y, rfl, S3, D3, Z.n, oan, Z.kn.nd, (fun q hq => Z.kn.lt _ (List.mem_map_of_mem hq)), fun H4 k4 S4 D4 => ?_⟩
        have tH4 : ∀ t tt, H' t = some (.tup tt) → H4 t = some (.tup tt) := fun t tt e => k4 _ _ e fun z => by
          rcases List.mem_cons.mp z with z | z
          · rw [z, Z.n] at e; cases e
          · exact (D3.offs S3 t z).nt tt e
        refine ⟨x, am, G, d, _, mk, gv, col, Chp.fset rk gv k, (fun a => a = gv ∨ (lkp ns a).isSome = true), rfl, S4, D4, k4 _ _ em (fun z => ?_), Ft, .inl rfl, fun a ha hac => ?_, fun d' H5 k5 D5 W => ?_⟩
        · rcases List.mem_cons.mp z with z | z
          · exact nnm z.symm
          · exact om.nm z
        · obtain ⟨w1, w2, w3, w4, w5, v, w6, w7⟩ := R.way hgf hac ha
          obtain ⟨q, hq⟩ := hm a hac (ha.elim (fun e => .inr (by rw [e, hgf]; rfl)) .inl)
          obtain ⟨v', hv', t, rfl, ht⟩ := (dc_val pm).2 q hq
          have eq : mvOf ms a = q := by unfold mvOf; rw [hq]; rfl
          rw [eq] at w1 w2 w3 w4 w5 w6 w7
          exact ⟨t, q.1, q.2, v, hv', tH4 _ _ ht, w1, w2, w3, .inr w4, w5, w6, w7⟩
        · obtain ⟨G1, c1, c2⟩ := R.done F hl hgf hsp W
          refine q1 d' _ H5 (fun b o e nb => k5 _ _ (k4 _ _ (g _ _ (g6 _ _ e) (nb3 b o e)) fun z => ?_) nb) (S4.kp k5 (D4.offs S4)) D5 G1 c1 c2
          rcases List.mem_cons.mp z with z | z
          · rw [z, han] at e; cases e
          · exact nb z
      rw [if_neg (fun z => hsp (of_decide_eq_true z))]
      rw [u2]; clear u2
      refine seq_of fun U2 u2 => ?_
      walk_at "rd"
      obtain ⟨fk2, v2, ef2, hv2, Z4⟩ := Z.dropF hgf
      refine ⟨.inl ⟨_, .inl ef2⟩, fk2, ef2, Sum.inl (gv : Int), rfl, v2, hv2, ?_⟩
      have ht2 : upd H' af (.dK (dropK fk2 (Sum.inl (gv : Int)))) t1 = some (.tup [.int y, .bl tb, .int (gv : Int)]) := by rw [upd_ne fun z => by rw [z, ef2] at ht1; cases ht1]; exact ht1
      have g2 : KpL [an, af, am] H2 (upd H' af (.dK (dropK fk2 (Sum.inl (gv : Int))))) := g.trans (KpL.put (by simp))
      generalize upd H' af (.dK (dropK fk2 (Sum.inl (gv : Int)))) = H4 at Z4 ht2 g2 ⊢
      rw [u2]; clear u2
      refine seq_of fun U2 u2 => ?_
      walk_at "rd"
      obtain ⟨l5, Z5⟩ := Z4.putA hgM y sm.2
      refine ⟨_, SqT.of ht2, .int y, rfl, _, .inl ⟨_, Sum.inl (gv : Int), Z4.n, rfl, l5, rfl⟩, ?_⟩
      have g3 : KpL [an, af, am] H2 (upd H4 an (.dK (putK (nrK ns) (Sum.inl (gv : Int)) (.int y)))) := g2.trans (KpL.put (by simp))
      generalize upd H4 an (.dK (putK (nrK ns) (Sum.inl (gv : Int)) (.int y))) = H5 at Z5 g3 ⊢
      rw [u2]; clear u2
      walk_at "rd"
      have hcap : Chp.cnt G.N.S d gv ≤ G.N.need gv := by omega
      obtain ⟨R5, hx5⟩ := R.first hgf hmin hcap
      have hgn : lkp ns gv = none := by
        cases z : lkp ns gv with
        | none => rfl
        | some w => exact (R.dis _ _ _ z hgf).elim
      rw [← lkp_putF, ← lkp_dropF] at R5
      rw [← lkp_putF] at hx5
      refine ⟨x, an, af, am, G, d, p, putN ns gv y, dropN fs gv, ms, gv, col, y, _, _, rfl, S2.kp g3 ofM, D2.kp g3 (fun c hc => (ofL c hc).nm), F.toFit, Z5, on, of, om, by rw [lkp_put, if_pos rfl], hx5, R5, hm.near hgf, fun fs' ms' H6 k6 Z6 R6 hm6 => ?_⟩
      refine ⟨g3.trans (k6.mono fun c hc => List.mem_cons_of_mem _ hc), _, _, _, Z6, _, _, R6, hm6, ?_⟩
      unfold putN
      rw [if_neg (lkp_none.mp hgn), List.length_append]
      exact Nat.lt_succ_self _
def sp_cheapest (K : PySem.W.Frag) (C_Market : Addr) : Sp := fun vs H Q _ => ∃ (ps pc pl : Addr) (us : List V) (ss : List Spt) (cols lim : List Int), vs = [.ref ps, .ref pc, .ref pl] ∧ H ps = some (.lst us) ∧ Spts H us ss ∧ H pc = some (.lst (cols.map V.int)) ∧ H pl = some (.lst (lim.map V.int)) ∧ ss.length ≤ 20 ∧ cols.length ≤ 20 ∧ lim.length ≤ 20 ∧ (∀ s ∈ ss, SpOk cols.length lim.length s) ∧
  (∀ (r ad ay az : Addr) (d : Nat → Nat) (p : Nat → Int) (H' : Hp), Same H H' → H' r = some (.tup [.ref ad, .ref ay, .ref az]) → H ad = none → H ay = none → H az = none → H' ad = some (.lst ((csOf cols.length ss.length d).map oV)) → H' ay = some (.lst ((il cols.length p).map V.int)) → H' az = some (.lst ((il lim.length fun o => p (cols.length + o)).map V.int)) → Chp.Good (netS ss cols lim) d p → (∀ c, c < cols.length + lim.length → (netS ss cols lim).need c ≤ Chp.cnt ss.length d c) → Q (.ref r) H') ∧
  ∀ H' : Hp, Same H H' → (∀ e : Nat → Nat, (∀ s, s < ss.length → e s < cols.length + lim.length ∧ ((netS ss cols lim).off s (e s)).isSome = true) → (∀ c, c < cols.length + lim.length → (netS ss cols lim).need c ≤ Chp.cnt ss.length e c) → False) → Q .non H'
theorem sc_cheapest : FnScope ["spots", "columns", "caps", "market", "column", "many", "dealt"] ["spots", "columns", "caps"] (defScope s_cheapest) := ⟨rfl, rfl, rfl, by decide +kernel, rfl, by decide +kernel, by decide +kernel⟩
theorem ok_cheapest {C_Market : Addr} {f : Addr} {fd : FuncData} (F : Fun K "cheapest" "cheapest" s_cheapest f fd) (T : Txt K mg C_Market) (I_Market : CalI P w K mg base "Market" C_Market ["self", "spots", "columns", "caps"] 2 (sp_Market___init__ K C_Market)) (M_Market_lacks : CalM P w K mg base C_Market "lacks" ["self", "column"] 1 (sp_Market_lacks K C_Market)) (C_is_supplied : Cal P w K mg base "is_supplied" ["market", "column"] 3 (sp_is_supplied K C_Market)) : FnOk P w K mg base CX0 4 f fd ["spots", "columns", "caps"] (sp_cheapest K C_Market) := by
  refine F.ok sc_cheapest (fun vs H Q E h => ?_) (fun cdv A outer s H vs Q E hr h => ?_)
  · obtain ⟨ps, pc, pl, us, ss, cols, lim, rfl, _⟩ := h
    rfl
  · obtain ⟨ps, pc, pl, us, ss, cols, lim, rfl, hp, hS, hc, hl, n1, n2, n3, hok, q1, q2⟩ := h
    refine ⟨_, (pss_cons (ps_set (i := 3) sc_cheapest.nd rfl (Or.inl rfl) (pe_makeC I_Market (hr.mono (by decide)) rfl (pa_cons (pv 0) (pa_cons (pv 1) (pa_cons (pv 2) pa_nil)))))
    (pss_cons (ps_for PassesOwn.never rfl (pi_range1 rfl T.range (pa_cons (pe_callB (call_lenK (K := K) rfl) (by rfl) T.len PySem.boot_len (pa_cons (pe_fld (pv 3) rfl) pa_nil)) pa_nil)) (pg_name (i := 4) sc_cheapest.nd rfl (Or.inl rfl))
      (pss_one (ps_while PassesOwn.never (pt_val (pe_methC M_Market_lacks (hr.mono (by decide)) (pv 3) (pa_cons (pv 4) pa_nil)))
          (pss_one (ps_if (pt_not (pt_val (pe_cal C_is_supplied (hr.mono (by decide)) rfl (pa_cons (pv 3) (pa_cons (pv 4) pa_nil))))) (pss_one (ps_ret pe_non)) pss_nil)))))
    (pss_cons (ps_set (i := 5) sc_cheapest.nd rfl (Or.inr rfl) (pe_callB (call_lenK (K := K) rfl) (by rfl) T.len PySem.boot_len (pa_cons (pv 1) pa_nil)))
    (pss_cons (ps_comp (i := 6) sc_cheapest.nd rfl rfl (own := ["column"]) (fnames := ["many"]) (fr := [5]) (N' := ["column", "many"]) ⟨rfl, rfl, rfl, rfl, rfl, rfl, rfl⟩ rfl (pi_list (pe_fld (pv 3) rfl)) (fun s0 H0 fp0 C0 => ⟨(pg_name (i := 0) (by show (["column", "many"] : List Str).Nodup; decide +kernel) rfl (Or.inl rfl)), pts_nil, (pe_ifExp (pt_cmpR op_lt (pv 0) (pv 1) (nomark _)) (pv 0) pe_non)⟩))
    (pss_one (ps_ret (pe_tup (pa_cons (pv 6) (pa_cons (pe_slice sl_list (pe_fld (pv 3) rfl) po_none (po_some (pv 5))) (pa_cons (pe_slice sl_list (pe_fld (pv 3) rfl) (po_some (pv 5)) po_none) pa_nil)))))))))), ?_⟩
    refine seq_of fun U1 u1 => ?_
    walk_at "rd"
    intro x dx hx hdx nx
    have g2 := same_new hdx (.own x)
    have hx' : upd H dx (.own x) x = none := by rw [upd_ne nx.symm]; exact hx
    have g3 := g2.trans (same_new hx' (.ins C_Market dx []))
    refine ⟨x, dx, ps, pc, pl, us, ss, cols, lim, rfl, upd_same, g3 _ _ hp, hS.mono g3, g3 _ _ hc, g3 _ _ hl, n1, n2, n3, hok, fun G d0 H1 eN k S1 D1 F1 mz => ⟨rfl, ?_⟩⟩
    have gH : Same H H1 := fun c o e => k c o (g3 c o e) fun z => by rw [z, hx] at e; cases e
    have mH : ∀ c ∈ G.mut, H c = none := fun c hc => g3.free (mz c hc)
    clear g3 g2 k mz hx hx' hdx
    have eS : G.N.S = ss.length := by rw [eN]; rfl
    have eM : G.N.M = cols.length + lim.length := by rw [eN]; rfl
    rw [u1]; clear u1
    refine seq_of fun U1 u1 => for_of fun B1 b1 => ?_
    walk_at "rd"
    obtain ⟨dx1, hi1⟩ := S1.ins
    have sm := S1.sm
    refine ⟨_, _, _, hi1, T.cl_Market, T.n_Market_needs, _, mf_needs _ _ _ _ _ _ _, _, rfl, _, .inl (SqL.of S1.s1), by omega, by rw [il_mlen]; omega, ?_⟩
    rw [il_mlen, Int.toNat_natCast]
    refine for_rangeW (fun i σ H' => ∃ (d : Nat → Nat) (p : Nat → Int) (v4 : Option V), KpL G.mut H1 H' ∧ MkS C_Market H' x G ∧ MkD H' G d p ∧ Chp.Good G.N d p ∧ (∀ c, c < i → G.N.need c ≤ Chp.cnt G.N.S d c) ∧ σ = [some (.ref ps), some (.ref pc), some (.ref pl), some (.ref x), v4, none, none]) ⟨d0, _, none, KpL.refl, S1, D1, F1, (fun c z => absurd z (Nat.not_lt_zero _)), rfl⟩ ?_ ?_
    · rintro i σ H' hi ⟨d, p, v4, kp, S2, D2, F2, hn, rfl⟩
      rw [show (0 + (i : Int)) = i by omega]
      rw [b1]
      refine while_of fun B2 b2 => ?_
      walk_at "rd"
      refine ⟨fun m σ H2 => ∃ (d : Nat → Nat) (p : Nat → Int), KpL G.mut H1 H2 ∧ MkS C_Market H2 x G ∧ MkD H2 G d p ∧ Chp.Good G.N d p ∧ (∀ c, c < i → G.N.need c ≤ Chp.cnt G.N.S d c) ∧ m = (G.N.need i - Chp.cnt G.N.S d i).toNat ∧ σ = [some (.ref ps), some (.ref pc), some (.ref pl), some (.ref x), some (.int i), none, none], ⟨_, d, p, kp, S2, D2, F2, hn, rfl, rfl⟩, ?_⟩
      rintro m σ H2 ⟨d2, p2, kp2, S3, D3, F3, hn3, rfl, rfl⟩
      obtain ⟨dx3, hi3⟩ := S3.ins
      walk_at "rd"
      refine ⟨_, _, hi3, mf_no _ _ _ _ _ _ _ (.inr (.inl rfl)), x, G, d2, p2, i, rfl, S3, D3, hi, _, rfl, ?_⟩
      by_cases z : Chp.cnt G.N.S d2 i < G.N.need i
      · rw [if_pos (decide_eq_true z)]
        rw [b2]
        walk_at "rd"
        refine ⟨fun σ' H3 => ∃ (d : Nat → Nat) (p : Nat → Int), KpL G.mut H1 H3 ∧ MkS C_Market H3 x G ∧ MkD H3 G d p ∧ Chp.Good G.N d p ∧ (∀ c, c < i → G.N.need c ≤ Chp.cnt G.N.S d c) ∧ Chp.cnt G.N.S d i = Chp.cnt G.N.S d2 i + 1 ∧ σ' = [some (.ref ps), some (.ref pc), some (.ref pl), some (.ref x), some (.int i), none, none], ?_, ?_⟩
        · rintro σ' H3 ⟨d3, p3, y1, y2, y3, y4, y5, y6, rfl⟩
          exact ⟨_, by omega, y1, y2, d3, p3, y3, y4, y5, rfl, rfl⟩
        refine ⟨x, G, d2, p2, i, rfl, S3, D3, F3, hi, z, fun d3 p3 H3 k3 S4 D4 F4 c1 c2 => ⟨true, rfl, ?_⟩, fun H3 k3 no => ⟨false, rfl, ?_⟩⟩
        · rw [if_neg (fun w => (nomatch w))]
          exact ⟨d3, p3, kp2.trans k3, S4, D4, F4, fun c hc => c2 c (hn3 c hc), c1, rfl⟩
        · rw [if_pos rfl]
          refine q2 H3 (fun b o e => k3 _ _ (kp2 _ _ (gH _ _ e) fun w => by rw [mH b w] at e; cases e) fun w => by rw [mH b w] at e; cases e) fun e h1 h2 => no e (fun s hs => ?_) fun c hc => ?_
          · rw [eN]
            exact h1 s (by rw [← eS]; exact hs)
          · rw [eN]
            exact h2 c (by rw [← eM]; exact hc)
      · rw [if_neg fun w => z (of_decide_eq_true w)]
        refine ⟨kp2, S3, d2, p2, D3, F3, fun c hc => ?_⟩
        by_cases w : c = i
        · rw [w]; omega
        · exact hn3 c (by omega)
    rintro σ H' ⟨d, p, v4, kp, S2, D2, F2, hn, rfl⟩
    rw [u1]; clear u1
    refine seq_of fun U1 u1 => ?_
    walk_at "rd"
    have gH2 : Same H H' := fun b o e => kp _ _ (gH _ _ e) fun w => by rw [mH b w] at e; cases e
    refine ⟨_, .inl (SqL.of (gH2 _ _ hc)), ?_⟩
    rw [List.length_map]
    obtain ⟨dx2, hi2⟩ := S2.ins
    have s2 := D2.s2
    have s6 := D2.s6
    rw [eS] at s6
    rw [eM] at s2
    rw [u1]; clear u1
    refine seq_of fun U1 u1 => ?_
    walk_at "rd"
    refine ⟨_, _, _, hi2, T.cl_Market, T.n_Market_dealt, _, mf_dealt _ _ _ _ _ _ _, _, rfl, ⟨_, SqL.of s6⟩, fun ad had => for_listW (xs := (il ss.length fun s => ((d s : Nat) : Int)).map V.int) (fun j σ H3 => Same H' H3 ∧ H3 ad = some (.lst ((csOf cols.length j d).map oV)) ∧ ∃ v0, σ = [v0, some (.int (cols.length : Int))]) ⟨same_new had _, upd_same, none, rfl⟩ (fun j σ H3 _ hh => SqL.of (hh.1 _ _ s6)) ?_ ?_⟩
    · rintro j v σ H3 hv ⟨g, e, v0, rfl⟩
      have hj := (List.getElem?_eq_some_iff.mp hv).1
      rw [il_mlen] at hj
      rw [il_at hj] at hv
      cases hv
      walk_at "rd"
      have hcl : (csOf cols.length j d).length = j := by unfold csOf; rw [List.length_map, List.length_range]
      have hcs : csOf cols.length (j + 1) d = csOf cols.length j d ++ [if d j < cols.length then some ((d j : Nat) : Int) else none] := by unfold csOf; rw [List.range_succ, List.map_append]; rfl
      rw [hcs, List.map_append]
      by_cases z : d j < cols.length
      · rw [if_pos (by omega), if_pos z]
        exact ⟨_, e, small1000 (by rw [List.length_map, hcl]; omega), same_upd had g _, upd_same⟩
      · rw [if_neg (by omega), if_neg z]
        exact ⟨_, e, small1000 (by rw [List.length_map, hcl]; omega), same_upd had g _, upd_same⟩
    rintro σ H3 ⟨g, e, v0, rfl⟩
    rw [il_mlen] at e
    rw [u1]; clear u1
    walk_at "rd"
    have hadH : H ad = none := gH2.free had
    have g3 := gH2.trans g
    refine ⟨_, _, _, g _ _ hi2, T.cl_Market, T.n_Market_prices, _, mf_prices _ _ _ _ _ _ _, _, rfl, _, SqL.of (g _ _ s2), fun ay hay => ?_⟩
    rw [cut_take, ← List.map_take]
    have g4 := same_new hay (.lst (((il (cols.length + lim.length) p).take cols.length).map V.int))
    refine ⟨_, _, _, g4 _ _ (g _ _ hi2), T.cl_Market, T.n_Market_prices, _, mf_prices _ _ _ _ _ _ _, _, rfl, _, SqL.of (g4 _ _ (g _ _ s2)), fun az haz => ⟨by decide, fun r hr => ?_⟩⟩
    rw [cut_from, ← List.map_drop] at *
    have g5 := same_new haz (.lst (((il (cols.length + lim.length) p).drop cols.length).map V.int))
    have g6 := same_new hr (.tup [.ref ad, .ref ay, .ref az])
    refine q1 r ad ay az d p _ (((g3.trans g4).trans g5).trans g6) upd_same hadH (g3.free hay) ((g3.trans g4).free haz) (((g4.trans g5).trans g6) _ _ e) ?_ ?_ ?_ ?_
    · rw [← il_take p cols.length lim.length]
      exact (g5.trans g6) _ _ upd_same
    · rw [← il_drop p cols.length lim.length]
      exact g6 _ _ upd_same
    · rw [← eN]; exact F2
    · intro c hcc
      have := hn c (by rw [eM]; exact hcc)
      rw [eS, eN] at this
      exact this
def sp_cost_at (K : PySem.W.Frag) (C_Market : Addr) : Sp := fun vs H Q _ => ∃ (t l : Addr) (ts : List V) (s : Spt) (c : Option Int), vs = [.ref t, oV c] ∧ H t = some (.tup [.int s.o, .ref l]) ∧ H l = some (.lst ts) ∧ Offs H ts s.fs ∧ s.fs.length ≤ 30 ∧ ∀ H', Same H H' → Q (.int (costAt s c)) H'
theorem sc_cost_at : FnScope ["spot", "column"] ["spot", "column"] (defScope s_cost_at) := ⟨rfl, rfl, rfl, by decide +kernel, rfl, by decide +kernel, by decide +kernel⟩
theorem ok_cost_at {C_Market : Addr} {f : Addr} {fd : FuncData} (F : Fun K "cost_at" "cost_at" s_cost_at f fd) (T : Txt K mg C_Market)  : FnOk P w K mg base CX0 1 f fd ["spot", "column"] (sp_cost_at K C_Market) := by
  refine F.ok sc_cost_at (fun vs H Q E h => ?_) (fun cdv A outer s H vs Q E hr h => ?_)
  · obtain ⟨t, l, ts, s, c, rfl, _⟩ := h
    rfl
  · obtain ⟨t, l, ts, s, c, rfl, ht, hl, hO, hn, q⟩ := h
    refine ⟨_, (pss_one (ps_ret (pe_callB (call_sumG rfl) (by rfl) T.sum PyProof.Rows.boot_sum (pa_cons (pe_comp (own := ["offered", "cost"]) (fnames := ["column"]) (fr := [1]) (N' := ["offered", "cost", "column"]) ⟨rfl, rfl, rfl, rfl, rfl, rfl, rfl⟩ rfl (pi_list (pe_ix ix_tup (pv 0) pe_int (fun _ _ => rfl))) (fun s0 H0 fp0 C0 => ⟨(pg_tupK (K := K) (n := 2) rfl rfl (pgs_cons (pg_name (i := 0) (by show (["offered", "cost", "column"] : List Str).Nodup; decide +kernel) rfl (Or.inl rfl)) (pgs_cons (pg_name (i := 1) (by show (["offered", "cost", "column"] : List Str).Nodup; decide +kernel) rfl (Or.inl rfl)) pgs_nil))), (pts_one (pt_cmpR op_eq (pv 0) (pv 2) (nomark _))), (pv 1)⟩)) pa_nil)))), ?_⟩
    have hul := Paired.length hO
    walk_at "rd"
    refine ⟨_, SqT.of ht, _, rfl, l, rfl, ⟨_, SqL.of hl⟩, fun L hL => for_listW (xs := ts) (fun i σ H' => Same H H' ∧ H' L = some (.lst ((((s.fs.take i).filter fun f => decide (f.1 = c)).map (·.2)).map V.int)) ∧ ∃ v0 v1, σ = [v0, v1, some (oV c)]) ⟨same_new hL _, upd_same, none, none, rfl⟩ (fun i σ H' _ hh => SqL.of (hh.1 _ _ hl)) ?_ ?_⟩
    · rintro i v σ H' hv ⟨g, e, v0, v1, rfl⟩
      obtain ⟨f, hf, t2, rfl, q2⟩ := Paired.get' hO hv
      have hi := (List.getElem?_eq_some_iff.mp hf).1
      walk_at "rd"
      refine ⟨_, SqT.of (g _ _ q2), rfl, _, _, rfl, _, _, rfl, rfl, ?_⟩
      walk_at "rd"
      refine ⟨oV_scal _ _, ?_⟩
      have hfl := List.length_filter_le (fun f : Off => decide (f.1 = c)) (s.fs.take i)
      rw [List.length_take] at hfl
      rw [take_one hf, filter_snoc]
      by_cases zc : f.1 = c
      · rw [if_pos (by rw [zc]), if_pos (decide_eq_true zc)]
        exact ⟨_, e, small1000 (by rw [List.length_map, List.length_map]; omega), same_upd hL g _, by rw [upd_same, List.map_append, List.map_append]; rfl⟩
      · rw [if_neg (fun w => zc (oV_inj w)), if_neg (fun w => zc (of_decide_eq_true w)), List.append_nil]
        exact ⟨g, e⟩
    rintro σ H' ⟨g, e, v0, v1, rfl⟩
    rw [hul, List.take_length] at e
    refine ⟨_, SqL.of e, ?_⟩
    exact q H' g
def sp_cost_of (K : PySem.W.Frag) (C_Market : Addr) : Sp := fun vs H Q _ => ∃ (p d : Addr) (us : List V) (ss : List Spt) (cs : List (Option Int)), vs = [.ref p, .ref d] ∧ H p = some (.lst us) ∧ Spts H us ss ∧ H d = some (.lst (cs.map oV)) ∧ ss.length = cs.length ∧ ss.length ≤ 20 ∧ (∀ s ∈ ss, s.fs.length ≤ 30) ∧ ∀ H', Same H H' → Q (.int (costOf ss cs)) H'
theorem sc_cost_of : FnScope ["spots", "dealt"] ["spots", "dealt"] (defScope s_cost_of) := ⟨rfl, rfl, rfl, by decide +kernel, rfl, by decide +kernel, by decide +kernel⟩
theorem ok_cost_of {C_Market : Addr} {f : Addr} {fd : FuncData} (F : Fun K "cost_of" "cost_of" s_cost_of f fd) (T : Txt K mg C_Market) (C_cost_at : Cal P w K mg base "cost_at" ["spot", "column"] 1 (sp_cost_at K C_Market)) : FnOk P w K mg base CX0 2 f fd ["spots", "dealt"] (sp_cost_of K C_Market) := by
  refine F.ok sc_cost_of (fun vs H Q E h => ?_) (fun cdv A outer s H vs Q E hr h => ?_)
  · obtain ⟨p, d, us, ss, cs, rfl, _⟩ := h
    rfl
  · obtain ⟨p, d, us, ss, cs, rfl, hp, hS, hd, hlen, hn, hf, q⟩ := h
    refine ⟨_, (pss_one (ps_ret (pe_callB (call_sumG rfl) (by rfl) T.sum PyProof.Rows.boot_sum (pa_cons (pe_comp (own := ["spot", "column"]) (fnames := []) (fr := []) (N' := ["spot", "column"]) ⟨rfl, rfl, rfl, rfl, rfl, rfl, rfl⟩ rfl (pi_zip rfl T.zip (pa_cons (pv 0) (pa_cons (pv 1) pa_nil))) (fun s0 H0 fp0 C0 => ⟨(pg_tupK (K := K) (n := 2) rfl rfl (pgs_cons (pg_name (i := 0) (by show (["spot", "column"] : List Str).Nodup; decide +kernel) rfl (Or.inl rfl)) (pgs_cons (pg_name (i := 1) (by show (["spot", "column"] : List Str).Nodup; decide +kernel) rfl (Or.inl rfl)) pgs_nil))), pts_nil, (pe_cal C_cost_at (hr.mono (by decide)) rfl (pa_cons (pv 0) (pa_cons (pv 1) pa_nil)))⟩)) pa_nil)))), ?_⟩
    have hul := Paired.length hS
    walk_at "rd"
    refine ⟨⟨_, SqL.of hp⟩, ⟨_, SqL.of hd⟩, fun L hL => for_zipW (xs := us) (ys := cs.map oV) (fun i σ H' => Same H H' ∧ (∃ ms : List Int, H' L = some (.lst (ms.map V.int)) ∧ ms.length = i ∧ ms.sum = costOf (ss.take i) (cs.take i)) ∧ ∃ v0 v1, σ = [v0, v1]) (by rw [List.length_map]; omega) ⟨same_new hL _, ⟨[], upd_same, rfl, by simp [costOf]⟩, none, none, rfl⟩ (fun i σ H' _ hh => ⟨SqL.of (hh.1 _ _ hp), SqL.of (hh.1 _ _ hd)⟩) ?_ ?_⟩
    · rintro i x y σ H' t hx1 hy1 ⟨g, ⟨ms, e, hml, hms⟩, v0, v1, rfl⟩ ht
      obtain ⟨s, hs, t2, l2, ts2, rfl, q1, q2, q3⟩ := Paired.get' hS hx1
      obtain ⟨c, hc, rfl⟩ := os_item hy1
      have hi := (List.getElem?_eq_some_iff.mp hs).1
      have gt := same_new ht (.tup [.ref t2, oV c])
      have gg := g.trans gt
      walk_at "rd"
      refine ⟨_, SqT.of upd_same, rfl, _, _, rfl, _, _, rfl, rfl, ?_⟩
      walk_at "rd"
      refine ⟨t2, l2, ts2, s, c, rfl, gg _ _ q1, gg _ _ q2, q3.mono gg, hf s (List.mem_of_getElem? hs), fun H2 g2 => ?_⟩
      refine ⟨_, g2 _ _ (gt _ _ e), small1000 (by rw [List.length_map]; omega), same_upd hL (gg.trans g2) _, ms ++ [costAt s c], by rw [upd_same, List.map_append]; rfl, by rw [List.length_append, hml]; rfl, ?_⟩
      rw [List.sum_append, hms, take_one hs, take_one hc, costOf_snoc _ _ _ _ (by rw [List.length_take, List.length_take]; omega)]
      simp
    rintro σ H' ⟨g, ⟨ms, e, hml, hms⟩, v0, v1, rfl⟩
    refine ⟨_, SqL.of e, ?_⟩
    rw [hms, hul, List.take_length, hlen, List.take_length]
    exact q H' g
def sp_least_cost (K : PySem.W.Frag) (C_Market : Addr) : Sp := fun vs H Q _ => ∃ (t l y z : Addr) (ts : List V) (s : Spt) (ys zs : List Int), vs = [.ref t, .ref y, .ref z] ∧ H t = some (.tup [.int s.o, .ref l]) ∧ H l = some (.lst ts) ∧ Offs H ts s.fs ∧ H y = some (.lst (ys.map V.int)) ∧ H z = some (.lst (zs.map V.int)) ∧ SpOk ys.length zs.length s ∧ ∀ H', Same H H' → Q (.int (lstC ys zs s)) H'
theorem sc_least_cost : FnScope ["spot", "ys", "zs", "owner"] ["spot", "ys", "zs"] (defScope s_least_cost) := ⟨rfl, rfl, rfl, by decide +kernel, rfl, by decide +kernel, by decide +kernel⟩
theorem ok_least_cost {C_Market : Addr} {f : Addr} {fd : FuncData} (F : Fun K "least_cost" "least_cost" s_least_cost f fd) (T : Txt K mg C_Market)  : FnOk P w K mg base CX0 1 f fd ["spot", "ys", "zs"] (sp_least_cost K C_Market) := by
  refine F.ok sc_least_cost (fun vs H Q E h => ?_) (fun cdv A outer s H vs Q E hr h => ?_)
  · obtain ⟨t, l, y, z, ts, s, ys, zs, rfl, _⟩ := h
    rfl
  · obtain ⟨t, l, y, z, ts, s, ys, zs, rfl, ht, hl, hO, hy, hz, ok, q⟩ := h
    refine ⟨_, (pss_cons (ps_set (i := 3) sc_least_cost.nd rfl (Or.inr rfl) (pe_ix ix_tup (pv 0) pe_int (fun _ _ => rfl)))
    (pss_one (ps_ret (pe_callB (call_minL rfl) (by rfl) T.min PyProof.Rows.boot_min (pa_cons (pe_comp (own := ["column", "cost"]) (fnames := ["ys", "zs", "owner"]) (fr := [1, 2, 3]) (N' := ["column", "cost", "ys", "zs", "owner"]) ⟨rfl, rfl, rfl, rfl, rfl, rfl, rfl⟩ rfl (pi_list (pe_ix ix_tup (pv 0) pe_int (fun _ _ => rfl))) (fun s0 H0 fp0 C0 => ⟨(pg_tupK (K := K) (n := 2) rfl rfl (pgs_cons (pg_name (i := 0) (by show (["column", "cost", "ys", "zs", "owner"] : List Str).Nodup; decide +kernel) rfl (Or.inl rfl)) (pgs_cons (pg_name (i := 1) (by show (["column", "cost", "ys", "zs", "owner"] : List Str).Nodup; decide +kernel) rfl (Or.inl rfl)) pgs_nil))), pts_nil, (pe_ifExp (pt_cmpR op_isN (pv 0) pe_non (nomark _)) (pv 1) (pe_op op_add (pe_op op_sub (pv 1) (pe_ix (ix_listK (K := K) rfl) (pv 2) (pv 0) (fun _ _ => rfl))) (pe_ix (ix_listK (K := K) rfl) (pv 3) (pv 4) (fun _ _ => rfl))))⟩)) pa_nil))))), ?_⟩
    have hul := Paired.length hO
    have hn := ok.len
    obtain ⟨o0, o1⟩ := ok.own
    obtain ⟨o, ho⟩ : ∃ o : Nat, s.o = o := ⟨s.o.toNat, by omega⟩
    have hol : o < zs.length := by omega
    refine seq_of fun U1 u1 => ?_
    walk_at "rd"
    refine ⟨_, SqT.of ht, .int s.o, rfl, ?_⟩
    rw [u1]; clear u1
    walk_at "rd"
    refine ⟨_, SqT.of ht, _, rfl, l, rfl, ⟨_, SqL.of hl⟩, fun L hL => for_listW (xs := ts) (fun i σ H' => Same H H' ∧ H' L = some (.lst (((s.fs.take i).map (offC ys zs s.o)).map V.int)) ∧ ∃ v0 v1, σ = [v0, v1, some (.ref y), some (.ref z), some (.int s.o)]) ⟨same_new hL _, upd_same, none, none, rfl⟩ (fun i σ H' _ hh => SqL.of (hh.1 _ _ hl)) ?_ ?_⟩
    · rintro i v σ H' hv ⟨g, e, v0, v1, rfl⟩
      obtain ⟨f, hf, t2, rfl, q2⟩ := Paired.get' hO hv
      have hi := (List.getElem?_eq_some_iff.mp hf).1
      walk_at "rd"
      refine ⟨_, SqT.of (g _ _ q2), rfl, _, _, rfl, _, _, rfl, rfl, ?_⟩
      walk_at "rd"
      rw [take_one hf, List.map_append, List.map_append]
      cases hfc : f.1 with
      | none =>
        rw [if_pos (oV_none rfl)]
        refine ⟨_, e, small1000 (by rw [List.length_map, List.length_map, List.length_take]; omega), same_upd hL g _, ?_⟩
        rw [upd_same, List.map_cons, List.map_nil, offC_none hfc]
        rfl
      | some x =>
        rw [if_neg (by rw [oV_some rfl]; intro w; cases w)]
        obtain ⟨x0, x1⟩ := ok.col f (List.mem_of_getElem? hf) x hfc
        obtain ⟨n, rfl⟩ : ∃ n : Nat, x = n := ⟨x.toNat, by omega⟩
        have hny : n < ys.length := by omega
        have ey := List.getElem?_eq_getElem hny
        have ez := List.getElem?_eq_getElem hol
        refine ⟨_, _, oV_some rfl, SqL.of (g _ _ hy), .int ys[n], atI_nat (by rw [List.getElem?_map, ey]; rfl), _, rfl, _, SqL.of (g _ _ hz), .int zs[o], by rw [ho]; exact atI_nat (by rw [List.getElem?_map, ez]; rfl), _, rfl, _, e, small1000 (by rw [List.length_map, List.length_map, List.length_take]; omega), same_upd hL g _, ?_⟩
        rw [upd_same, List.map_cons, List.map_nil, offC_some hfc (by rw [Int.toNat_natCast]; exact ey) (by rw [ho, Int.toNat_natCast]; exact ez)]
        rfl
    rintro σ H' ⟨g, e, v0, v1, rfl⟩
    rw [hul, List.take_length] at e
    refine ⟨_, SqL.of e, by rw [List.length_map]; exact List.length_pos_iff.mpr ok.ne, fun M h1 h2 => ?_⟩
    rw [mn_is h1 h2]
    exact q H' g
def sp_worth (K : PySem.W.Frag) (C_Market : Addr) : Sp := fun vs H Q _ => ∃ (p c l y z : Addr) (us : List V) (ss : List Spt) (cols lim ys zs : List Int), vs = [.ref p, .ref c, .ref l, .ref y, .ref z] ∧ H p = some (.lst us) ∧ Spts H us ss ∧ H c = some (.lst (cols.map V.int)) ∧ H l = some (.lst (lim.map V.int)) ∧ H y = some (.lst (ys.map V.int)) ∧ H z = some (.lst (zs.map V.int)) ∧ Pcs ss cols lim ys zs ∧ ∀ H', Same H H' → Q (.int (worthT ss cols lim ys zs)) H'
theorem sc_worth : FnScope ["spots", "columns", "caps", "ys", "zs", "gained", "lost"] ["spots", "columns", "caps", "ys", "zs"] (defScope s_worth) := ⟨rfl, rfl, rfl, by decide +kernel, rfl, by decide +kernel, by decide +kernel⟩
theorem ok_worth {C_Market : Addr} {f : Addr} {fd : FuncData} (F : Fun K "worth" "worth" s_worth f fd) (T : Txt K mg C_Market) (C_least_cost : Cal P w K mg base "least_cost" ["spot", "ys", "zs"] 1 (sp_least_cost K C_Market)) : FnOk P w K mg base CX0 2 f fd ["spots", "columns", "caps", "ys", "zs"] (sp_worth K C_Market) := by
  refine F.ok sc_worth (fun vs H Q E h => ?_) (fun cdv A outer s H vs Q E hr h => ?_)
  · obtain ⟨p, c, l, y, z, us, ss, cols, lim, ys, zs, rfl, _⟩ := h
    rfl
  · obtain ⟨p, c, l, y, z, us, ss, cols, lim, ys, zs, rfl, hp, hS, hc, hl, hy, hz, pc, q⟩ := h
    refine ⟨_, (pss_cons (ps_set (i := 5) sc_worth.nd rfl (Or.inl rfl) (pe_callB (call_sumG rfl) (by rfl) T.sum PyProof.Rows.boot_sum (pa_cons (pe_comp (own := ["need", "price"]) (fnames := []) (fr := []) (N' := ["need", "price"]) ⟨rfl, rfl, rfl, rfl, rfl, rfl, rfl⟩ rfl (pi_zip rfl T.zip (pa_cons (pv 1) (pa_cons (pv 3) pa_nil))) (fun s0 H0 fp0 C0 => ⟨(pg_tupK (K := K) (n := 2) rfl rfl (pgs_cons (pg_name (i := 0) (by show (["need", "price"] : List Str).Nodup; decide +kernel) rfl (Or.inl rfl)) (pgs_cons (pg_name (i := 1) (by show (["need", "price"] : List Str).Nodup; decide +kernel) rfl (Or.inl rfl)) pgs_nil))), pts_nil, (pe_op op_mul (pv 0) (pv 1))⟩)) pa_nil)))
    (pss_cons (ps_set (i := 6) sc_worth.nd rfl (Or.inl rfl) (pe_callB (call_sumG rfl) (by rfl) T.sum PyProof.Rows.boot_sum (pa_cons (pe_comp (own := ["cap", "price"]) (fnames := []) (fr := []) (N' := ["cap", "price"]) ⟨rfl, rfl, rfl, rfl, rfl, rfl, rfl⟩ rfl (pi_zip rfl T.zip (pa_cons (pv 2) (pa_cons (pv 4) pa_nil))) (fun s0 H0 fp0 C0 => ⟨(pg_tupK (K := K) (n := 2) rfl rfl (pgs_cons (pg_name (i := 0) (by show (["cap", "price"] : List Str).Nodup; decide +kernel) rfl (Or.inl rfl)) (pgs_cons (pg_name (i := 1) (by show (["cap", "price"] : List Str).Nodup; decide +kernel) rfl (Or.inl rfl)) pgs_nil))), pts_nil, (pe_op op_mul (pv 0) (pv 1))⟩)) pa_nil)))
    (pss_one (ps_ret (pe_op op_add (pe_op op_sub (pv 5) (pv 6)) (pe_callB (call_sumG rfl) (by rfl) T.sum PyProof.Rows.boot_sum (pa_cons (pe_comp (own := ["spot"]) (fnames := ["ys", "zs"]) (fr := [3, 4]) (N' := ["spot", "ys", "zs"]) ⟨rfl, rfl, rfl, rfl, rfl, rfl, rfl⟩ rfl (pi_list (pv 0)) (fun s0 H0 fp0 C0 => ⟨(pg_name (i := 0) (by show (["spot", "ys", "zs"] : List Str).Nodup; decide +kernel) rfl (Or.inl rfl)), pts_nil, (pe_cal C_least_cost (hr.mono (by decide)) rfl (pa_cons (pv 0) (pa_cons (pv 1) (pa_cons (pv 2) pa_nil))))⟩)) pa_nil))))))), ?_⟩
    have hul := Paired.length hS
    have p1 := pc.sl
    have p2 := pc.cl
    have p3 := pc.ll
    have p4 := pc.yl
    have p5 := pc.zl
    refine seq_of fun U1 u1 => ?_
    walk_at "rd"
    refine ⟨⟨_, SqL.of hc⟩, ⟨_, SqL.of hy⟩, fun L hL => for_zipW (xs := cols.map V.int) (ys := ys.map V.int) (fun i σ H' => Same H H' ∧ H' L = some (.lst ((List.zipWith (· * ·) (cols.take i) (ys.take i)).map V.int)) ∧ ∃ v0 v1, σ = [v0, v1]) (by rw [List.length_map, List.length_map]; omega) ⟨same_new hL _, upd_same, none, none, rfl⟩ (fun i σ H' _ hh => ⟨SqL.of (hh.1 _ _ hc), SqL.of (hh.1 _ _ hy)⟩) ?_ ?_⟩
    · rintro i x y' σ H' t hx1 hy1 ⟨g, e, v0, v1, rfl⟩ ht
      obtain ⟨a, ha, rfl⟩ := map_item hx1
      obtain ⟨b, hb, rfl⟩ := map_item hy1
      have hi := (List.getElem?_eq_some_iff.mp ha).1
      obtain ⟨c1, c2⟩ := pc.cb a (List.mem_of_getElem? ha)
      have hzl := zip_len cols ys i
      have gt := same_new ht (.tup [.int a, .int b])
      walk_at "rd"
      refine ⟨_, SqT.of upd_same, rfl, _, _, rfl, _, _, rfl, rfl, ?_⟩
      walk_at "rd"
      refine ⟨.inl ⟨by omega, by omega⟩, _, gt _ _ e, small1000 (by rw [List.length_map]; omega), same_upd hL (g.trans gt) _, ?_⟩
      rw [upd_same, zip_step ha hb, List.map_append]
      rfl
    rintro σ H1 ⟨g1, e1, v0, v1, rfl⟩
    rw [List.length_map, zip_all p4] at e1
    refine ⟨_, SqL.of e1, ?_⟩
    rw [u1]; clear u1
    refine seq_of fun U1 u1 => ?_
    walk_at "rd"
    refine ⟨⟨_, SqL.of (g1 _ _ hl)⟩, ⟨_, SqL.of (g1 _ _ hz)⟩, fun L hL => for_zipW (xs := lim.map V.int) (ys := zs.map V.int) (fun i σ H' => Same H1 H' ∧ H' L = some (.lst ((List.zipWith (· * ·) (lim.take i) (zs.take i)).map V.int)) ∧ ∃ v0 v1, σ = [v0, v1]) (by rw [List.length_map, List.length_map]; omega) ⟨same_new hL _, upd_same, none, none, rfl⟩ (fun i σ H' _ hh => ⟨SqL.of (hh.1 _ _ (g1 _ _ hl)), SqL.of (hh.1 _ _ (g1 _ _ hz))⟩) ?_ ?_⟩
    · rintro i x y' σ H' t hx1 hy1 ⟨g, e, v0, v1, rfl⟩ ht
      obtain ⟨a, ha, rfl⟩ := map_item hx1
      obtain ⟨b, hb, rfl⟩ := map_item hy1
      have hi := (List.getElem?_eq_some_iff.mp ha).1
      obtain ⟨c1, c2⟩ := pc.lb a (List.mem_of_getElem? ha)
      have hzl := zip_len lim zs i
      have gt := same_new ht (.tup [.int a, .int b])
      walk_at "rd"
      refine ⟨_, SqT.of upd_same, rfl, _, _, rfl, _, _, rfl, rfl, ?_⟩
      walk_at "rd"
      refine ⟨.inl ⟨by omega, by omega⟩, _, gt _ _ e, small1000 (by rw [List.length_map]; omega), same_upd hL (g.trans gt) _, ?_⟩
      rw [upd_same, zip_step ha hb, List.map_append]
      rfl
    rintro σ H2 ⟨g2, e2, v0, v1, rfl⟩
    rw [List.length_map, zip_all p5] at e2
    refine ⟨_, SqL.of e2, ?_⟩
    have g12 := g1.trans g2
    rw [u1]; clear u1
    walk_at "rd"
    refine ⟨⟨_, SqL.of (g12 _ _ hp)⟩, fun L hL => for_listW (xs := us) (fun i σ H' => Same H2 H' ∧ H' L = some (.lst (((ss.take i).map (lstC ys zs)).map V.int)) ∧ ∃ v0, σ = [v0, some (.ref y), some (.ref z)]) ⟨same_new hL _, upd_same, none, rfl⟩ (fun i σ H' _ hh => SqL.of (hh.1 _ _ (g12 _ _ hp))) ?_ ?_⟩
    · rintro i v σ H' hv ⟨g, e, v0, rfl⟩
      obtain ⟨s, hs, t2, l2, ts2, rfl, q1, q2, q3⟩ := Paired.get' hS hv
      have hi := (List.getElem?_eq_some_iff.mp hs).1
      have gg := g12.trans g
      walk_at "rd"
      refine ⟨t2, l2, y, z, ts2, s, ys, zs, rfl, gg _ _ q1, gg _ _ q2, q3.mono gg, gg _ _ hy, gg _ _ hz, by rw [← p4, ← p5]; exact pc.ok s (List.mem_of_getElem? hs), fun H3 g3 => ?_⟩
      refine ⟨_, g3 _ _ e, small1000 (by rw [List.length_map, List.length_map, List.length_take]; omega), same_upd hL (g.trans g3) _, ?_⟩
      rw [upd_same, take_one hs, List.map_append, List.map_append]
      rfl
    rintro σ H3 ⟨g3, e3, v0, rfl⟩
    rw [hul, List.take_length] at e3
    exact ⟨_, SqL.of e3, q H3 (g12.trans g3)⟩
def sp_are_offered (K : PySem.W.Frag) (C_Market : Addr) : Sp := fun vs H Q _ => ∃ (p d : Addr) (us : List V) (ss : List Spt) (cs : List (Option Int)), vs = [.ref p, .ref d] ∧ H p = some (.lst us) ∧ Spts H us ss ∧ H d = some (.lst (cs.map oV)) ∧ ss.length ≤ 20 ∧ cs.length ≤ 40 ∧ (∀ s ∈ ss, s.fs.length ≤ 30) ∧ ∀ H', Same H H' → Q (.bl (offB ss cs)) H'
theorem sc_are_offered : FnScope ["spots", "dealt"] ["spots", "dealt"] (defScope s_are_offered) := ⟨rfl, rfl, rfl, by decide +kernel, rfl, by decide +kernel, by decide +kernel⟩
theorem ok_are_offered {C_Market : Addr} {f : Addr} {fd : FuncData} (F : Fun K "are_offered" "are_offered" s_are_offered f fd) (T : Txt K mg C_Market)  : FnOk P w K mg base CX0 1 f fd ["spots", "dealt"] (sp_are_offered K C_Market) := by
  refine F.ok sc_are_offered (fun vs H Q E h => ?_) (fun cdv A outer s H vs Q E hr h => ?_)
  · obtain ⟨p, d, us, ss, cs, rfl, _⟩ := h
    rfl
  · obtain ⟨p, d, us, ss, cs, rfl, hp, hS, hd, hn, hcn, hf, q⟩ := h
    refine ⟨_, (pss_cons (ps_if (pt_cmpR op_ne (pe_callB (call_lenK (K := K) rfl) (by rfl) T.len PySem.boot_len (pa_cons (pv 1) pa_nil)) (pe_callB (call_lenK (K := K) rfl) (by rfl) T.len PySem.boot_len (pa_cons (pv 0) pa_nil)) (nomark _)) (pss_one (ps_ret pe_bl)) pss_nil)
    (pss_one (ps_ret (pe_callB (call_all rfl) (by rfl) T.all PyProof.Rows.boot_all (pa_cons (pe_comp (own := ["spot", "column"]) (fnames := []) (fr := []) (N' := ["spot", "column"]) ⟨rfl, rfl, rfl, rfl, rfl, rfl, rfl⟩ rfl (pi_zip rfl T.zip (pa_cons (pv 0) (pa_cons (pv 1) pa_nil))) (fun s0 H0 fp0 C0 => ⟨(pg_tupK (K := K) (n := 2) rfl rfl (pgs_cons (pg_name (i := 0) (by show (["spot", "column"] : List Str).Nodup; decide +kernel) rfl (Or.inl rfl)) (pgs_cons (pg_name (i := 1) (by show (["spot", "column"] : List Str).Nodup; decide +kernel) rfl (Or.inl rfl)) pgs_nil))), pts_nil, (pe_cmpR (op_in_seqK (K := K) rfl) (pv 1) (pe_comp (own := ["offer"]) (fnames := []) (fr := []) (N' := ["offer"]) ⟨rfl, rfl, rfl, rfl, rfl, rfl, rfl⟩ rfl (pi_listK (K := K) rfl (pe_ix (ix_tupK (K := K) rfl) (pv 0) pe_int (fun _ _ => rfl))) (fun s0 H0 fp0 C0 => ⟨(pg_name (i := 0) (by show (["offer"] : List Str).Nodup; decide +kernel) rfl (Or.inl rfl)), pts_nil, (pe_ix (ix_tupK (K := K) rfl) (pv 0) pe_int (fun _ _ => rfl))⟩)) (by with_unfolding_all rfl))⟩)) pa_nil))))), ?_⟩
    have hul := Paired.length hS
    refine seq_of fun U1 u1 => ?_
    walk_at "rd"
    refine ⟨_, .inl (SqL.of hd), _, .inl (SqL.of hp), ?_⟩
    rw [List.length_map, hul]
    by_cases hlen : cs.length = ss.length
    · rw [if_neg (fun w => w (by rw [hlen]))]
      rw [u1]; clear u1
      walk_at "rd"
      refine ⟨⟨_, SqL.of hp⟩, ⟨_, SqL.of hd⟩, fun L hL => for_zipW (xs := us) (ys := cs.map oV) (fun i σ H' => Same H H' ∧ H' L = some (.lst (((List.range i).map (offAt ss cs)).map V.bl)) ∧ ∃ v0 v1, σ = [v0, v1]) (by rw [List.length_map]; omega) ⟨same_new hL _, upd_same, none, none, rfl⟩ (fun i σ H' _ hh => ⟨SqL.of (hh.1 _ _ hp), SqL.of (hh.1 _ _ hd)⟩) ?_ ?_⟩
      · rintro i x y σ H' t hx1 hy1 ⟨g, e, v0, v1, rfl⟩ ht
        obtain ⟨s, hs, t2, l2, ts2, rfl, q1, q2, q3⟩ := Paired.get' hS hx1
        obtain ⟨c, hc, rfl⟩ := os_item hy1
        have hi := (List.getElem?_eq_some_iff.mp hs).1
        have gt := same_new ht (.tup [.ref t2, oV c])
        have gg := g.trans gt
        have htl := Paired.length q3
        have hfl := hf s (List.mem_of_getElem? hs)
        walk_at "rd"
        refine ⟨_, SqT.of upd_same, rfl, _, _, rfl, _, _, rfl, rfl, ?_⟩
        walk_at "rd"
        refine ⟨_, SqT.of (gg _ _ q1), _, rfl, l2, rfl, ⟨_, SqL.of (gg _ _ q2)⟩, fun D hD => for_listW (xs := ts2) (fun j σ H2 => Same (upd H' t (.tup [.ref t2, oV c])) H2 ∧ H2 D = some (.lst (((s.fs.take j).map (·.1)).map oV)) ∧ ∃ v0, σ = [v0]) ⟨same_new hD _, upd_same, none, rfl⟩ (fun j σ H2 _ hh => SqL.of (hh.1 _ _ (gg _ _ q2))) ?_ ?_⟩
        · rintro j v σ H2 hv ⟨g2, e2, v0, rfl⟩
          obtain ⟨f, hf', t3, rfl, q4⟩ := Paired.get' q3 hv
          have hj := (List.getElem?_eq_some_iff.mp hf').1
          walk_at "rd"
          refine ⟨_, SqT.of ((gg.trans g2) _ _ q4), _, rfl, _, e2, small1000 (by rw [List.length_map, List.length_map, List.length_take]; omega), same_upd hD g2 _, ?_⟩
          rw [upd_same, take_one hf', List.map_append, List.map_append]
          rfl
        rintro σ H2 ⟨g2, e2, v0, rfl⟩
        rw [htl, List.take_length] at e2
        refine ⟨_, .inl (SqL.of e2), oV_flat c, os_flat _, _, g2 _ _ (gt _ _ e), small1000 (by rw [List.length_map, List.length_map, List.length_range]; omega), same_upd hL (gg.trans g2) _, ?_⟩
        rw [upd_same, inOs, range_snoc, List.map_append, offAt_of hs hc]
        rfl
      rintro σ H' ⟨g, e, v0, v1, rfl⟩
      rw [hul] at e
      refine ⟨_, SqL.of e, ?_⟩
      rw [all_map_id, show (List.range ss.length).all (offAt ss cs) = offB ss cs by unfold offB; rw [decide_eq_true hlen, Bool.true_and]]
      exact q H' g
    · rw [if_pos (fun w => hlen (by omega)), show false = offB ss cs by unfold offB; rw [decide_eq_false hlen, Bool.false_and]]
      exact q H (Same.refl _)
def sp_is_enough (K : PySem.W.Frag) (C_Market : Addr) : Sp := fun vs H Q _ => ∃ (c d : Addr) (cols : List Int) (cs : List (Option Int)), vs = [.ref c, .ref d] ∧ H c = some (.lst (cols.map V.int)) ∧ H d = some (.lst (cs.map oV)) ∧ cols.length ≤ 30 ∧ ∀ H', Same H H' → Q (.bl (enB cols cs)) H'
theorem sc_is_enough : FnScope ["columns", "dealt"] ["columns", "dealt"] (defScope s_is_enough) := ⟨rfl, rfl, rfl, by decide +kernel, rfl, by decide +kernel, by decide +kernel⟩
theorem ok_is_enough {C_Market : Addr} {f : Addr} {fd : FuncData} (F : Fun K "is_enough" "is_enough" s_is_enough f fd) (T : Txt K mg C_Market)  : FnOk P w K mg base CX0 1 f fd ["columns", "dealt"] (sp_is_enough K C_Market) := by
  refine F.ok sc_is_enough (fun vs H Q E h => ?_) (fun cdv A outer s H vs Q E hr h => ?_)
  · obtain ⟨c, d, cols, cs, rfl, _⟩ := h
    rfl
  · obtain ⟨c, d, cols, cs, rfl, hc, hd, hn, q⟩ := h
    refine ⟨_, (pss_one (ps_ret (pe_callB (call_all rfl) (by rfl) T.all PyProof.Rows.boot_all (pa_cons (pe_comp (own := ["column", "need"]) (fnames := ["dealt"]) (fr := [1]) (N' := ["column", "need", "dealt"]) ⟨rfl, rfl, rfl, rfl, rfl, rfl, rfl⟩ rfl (pi_enum_list rfl T.enumerate (pv 0)) (fun s0 H0 fp0 C0 => ⟨(pg_tupK (K := K) (n := 2) rfl rfl (pgs_cons (pg_name (i := 0) (by show (["column", "need", "dealt"] : List Str).Nodup; decide +kernel) rfl (Or.inl rfl)) (pgs_cons (pg_name (i := 1) (by show (["column", "need", "dealt"] : List Str).Nodup; decide +kernel) rfl (Or.inl rfl)) pgs_nil))), pts_nil, (pe_cmpR op_ge (pe_bmK (K := K) rfl PySem.F.plainAttrs_list PySem.F.slot_list_count PySem.F.type_list_count mt_count (pv 2) (pa_cons (pv 0) pa_nil)) (pv 1) (nomark _))⟩)) pa_nil)))), ?_⟩
    walk_at "rd"
    refine ⟨⟨_, SqL.of hc⟩, fun L hL => for_enumW (xs := cols.map V.int) (fun i σ H' => Same H H' ∧ H' L = some (.lst (((List.range i).map (enAt cols cs)).map V.bl)) ∧ ∃ v0 v1, σ = [v0, v1, some (.ref d)]) ⟨same_new hL _, upd_same, none, none, rfl⟩ (fun i σ H' _ hh => SqL.of (hh.1 _ _ hc)) ?_ ?_⟩
    · rintro i x σ H' t hx ⟨g, e, v0, v1, rfl⟩ ht
      obtain ⟨y, hy, rfl⟩ := map_item hx
      have hi := (List.getElem?_eq_some_iff.mp hy).1
      have gt := same_new ht (.tup [.int ((0 + i : Nat) : Int), .int y])
      walk_at "rd"
      refine ⟨_, SqT.of upd_same, rfl, _, _, rfl, _, _, rfl, rfl, ?_⟩
      walk_at "rd"
      refine ⟨.inl ⟨rfl, _, SqL.of ((g.trans gt) _ _ hd)⟩, _, (g.trans gt) _ _ hd, rfl, os_flat cs, _, gt _ _ e, small1000 (by rw [List.length_map, List.length_map, List.length_range]; omega), same_upd hL (g.trans gt) _, ?_⟩
      rw [upd_same, os_count, range_snoc, List.map_append, Nat.zero_add]
      unfold enAt
      rw [getD_of hy]
      rfl
    rintro σ H' ⟨g, e, v0, v1, rfl⟩
    rw [List.length_map] at e
    refine ⟨_, SqL.of e, ?_⟩
    rw [all_map_id]
    exact q H' g
def sp_is_borne (K : PySem.W.Frag) (C_Market : Addr) : Sp := fun vs H Q _ => ∃ (p l d : Addr) (us : List V) (ss : List Spt) (lim : List Int) (cs : List (Option Int)), vs = [.ref p, .ref l, .ref d] ∧ H p = some (.lst us) ∧ Spts H us ss ∧ H l = some (.lst (lim.map V.int)) ∧ H d = some (.lst (cs.map oV)) ∧ ss.length = cs.length ∧ ss.length ≤ 20 ∧ lim.length ≤ 30 ∧ ∀ H', Same H H' → Q (.bl (boB ss lim cs)) H'
theorem sc_is_borne : FnScope ["spots", "caps", "dealt", "working"] ["spots", "caps", "dealt"] (defScope s_is_borne) := ⟨rfl, rfl, rfl, by decide +kernel, rfl, by decide +kernel, by decide +kernel⟩
theorem ok_is_borne {C_Market : Addr} {f : Addr} {fd : FuncData} (F : Fun K "is_borne" "is_borne" s_is_borne f fd) (T : Txt K mg C_Market)  : FnOk P w K mg base CX0 1 f fd ["spots", "caps", "dealt"] (sp_is_borne K C_Market) := by
  refine F.ok sc_is_borne (fun vs H Q E h => ?_) (fun cdv A outer s H vs Q E hr h => ?_)
  · obtain ⟨p, l, d, us, ss, lim, cs, rfl, _⟩ := h
    rfl
  · obtain ⟨p, l, d, us, ss, lim, cs, rfl, hp, hS, hl, hd, hlen, hn, hln, q⟩ := h
    refine ⟨_, (pss_cons (ps_set (i := 3) sc_is_borne.nd rfl (Or.inr rfl) (pe_comp (own := ["spot", "column"]) (fnames := []) (fr := []) (N' := ["spot", "column"]) ⟨rfl, rfl, rfl, rfl, rfl, rfl, rfl⟩ rfl (pi_zip rfl T.zip (pa_cons (pv 0) (pa_cons (pv 2) pa_nil))) (fun s0 H0 fp0 C0 => ⟨(pg_tupK (K := K) (n := 2) rfl rfl (pgs_cons (pg_name (i := 0) (by show (["spot", "column"] : List Str).Nodup; decide +kernel) rfl (Or.inl rfl)) (pgs_cons (pg_name (i := 1) (by show (["spot", "column"] : List Str).Nodup; decide +kernel) rfl (Or.inl rfl)) pgs_nil))), (pts_one (pt_cmpR op_notN (pv 1) pe_non (nomark _))), (pe_ix (ix_tupK (K := K) rfl) (pv 0) pe_int (fun _ _ => rfl))⟩)))
    (pss_one (ps_ret (pe_callB (call_all rfl) (by rfl) T.all PyProof.Rows.boot_all (pa_cons (pe_comp (own := ["owner", "cap"]) (fnames := ["working"]) (fr := [3]) (N' := ["owner", "cap", "working"]) ⟨rfl, rfl, rfl, rfl, rfl, rfl, rfl⟩ rfl (pi_enum_list rfl T.enumerate (pv 1)) (fun s0 H0 fp0 C0 => ⟨(pg_tupK (K := K) (n := 2) rfl rfl (pgs_cons (pg_name (i := 0) (by show (["owner", "cap", "working"] : List Str).Nodup; decide +kernel) rfl (Or.inl rfl)) (pgs_cons (pg_name (i := 1) (by show (["owner", "cap", "working"] : List Str).Nodup; decide +kernel) rfl (Or.inl rfl)) pgs_nil))), pts_nil, (pe_cmpR op_le (pe_bmK (K := K) rfl PySem.F.plainAttrs_list PySem.F.slot_list_count PySem.F.type_list_count mt_count (pv 2) (pa_cons (pv 0) pa_nil)) (pv 1) (nomark _))⟩)) pa_nil))))), ?_⟩
    have hul := Paired.length hS
    refine seq_of fun U1 u1 => ?_
    walk_at "rd"
    refine ⟨⟨_, SqL.of hp⟩, ⟨_, SqL.of hd⟩, fun L hL => for_zipW (xs := us) (ys := cs.map oV) (fun i σ H' => Same H H' ∧ H' L = some (.lst ((workL (ss.take i) (cs.take i)).map V.int)) ∧ ∃ v0 v1, σ = [v0, v1]) (by rw [List.length_map]; omega) ⟨same_new hL _, upd_same, none, none, rfl⟩ (fun i σ H' _ hh => ⟨SqL.of (hh.1 _ _ hp), SqL.of (hh.1 _ _ hd)⟩) ?_ ?_⟩
    · rintro i x y σ H' t hx1 hy1 ⟨g, e, v0, v1, rfl⟩ ht
      obtain ⟨s, hs, t2, l2, ts2, rfl, q1, q2, q3⟩ := Paired.get' hS hx1
      obtain ⟨c, hc, rfl⟩ := os_item hy1
      have hi := (List.getElem?_eq_some_iff.mp hs).1
      have gt := same_new ht (.tup [.ref t2, oV c])
      have hwl := workL_len (ss.take i) (cs.take i)
      rw [List.length_take] at hwl
      walk_at "rd"
      refine ⟨_, SqT.of upd_same, rfl, _, _, rfl, _, _, rfl, rfl, ?_⟩
      walk_at "rd"
      rw [take_one hs, take_one hc, workL_snoc _ _ _ _ (by rw [List.length_take, List.length_take]; omega)]
      cases c with
      | none =>
        rw [if_neg (fun w => w rfl)]
        exact ⟨g.trans gt, by rw [gt _ _ e]; simp⟩
      | some x =>
        rw [if_pos (by intro w; cases w)]
        exact ⟨_, SqT.of ((g.trans gt) _ _ q1), _, rfl, _, gt _ _ e, small1000 (by rw [List.length_map]; omega), same_upd hL (g.trans gt) _, by rw [upd_same, List.map_append]; rfl⟩
    rintro σ H1 ⟨g1, e1, v0, v1, rfl⟩
    rw [hul, List.take_length, hlen, List.take_length] at e1
    rw [u1]; clear u1
    walk_at "rd"
    refine ⟨⟨_, SqL.of (g1 _ _ hl)⟩, fun L2 hL2 => for_enumW (xs := lim.map V.int) (fun i σ H' => Same H1 H' ∧ H' L2 = some (.lst (((List.range i).map (boAt ss lim cs)).map V.bl)) ∧ ∃ v0 v1, σ = [v0, v1, some (.ref L)]) ⟨same_new hL2 _, upd_same, none, none, rfl⟩ (fun i σ H' _ hh => SqL.of (hh.1 _ _ (g1 _ _ hl))) ?_ ?_⟩
    · rintro i x σ H' t hx ⟨g, e, v0, v1, rfl⟩ ht
      obtain ⟨y, hy, rfl⟩ := map_item hx
      have hi := (List.getElem?_eq_some_iff.mp hy).1
      have gt := same_new ht (.tup [.int ((0 + i : Nat) : Int), .int y])
      walk_at "rd"
      refine ⟨_, SqT.of upd_same, rfl, _, _, rfl, _, _, rfl, rfl, ?_⟩
      walk_at "rd"
      refine ⟨.inl ⟨rfl, _, SqL.of ((g.trans gt) _ _ e1)⟩, _, (g.trans gt) _ _ e1, rfl, flat_ints _, _, gt _ _ e, small1000 (by rw [List.length_map, List.length_map, List.length_range]; omega), same_upd hL2 (g.trans gt) _, ?_⟩
      rw [upd_same, Nat.zero_add, workL_count, range_snoc, List.map_append]
      unfold boAt
      rw [getD_of hy]
      rfl
    rintro σ H' ⟨g, e, v0, v1, rfl⟩
    rw [List.length_map] at e
    refine ⟨_, SqL.of e, ?_⟩
    rw [all_map_id]
    exact q H' (g1.trans g)
def sp_is_dealing (K : PySem.W.Frag) (C_Market : Addr) : Sp := fun vs H Q _ => ∃ (p c l d : Addr) (us : List V) (ss : List Spt) (cols lim : List Int) (cs : List (Option Int)), vs = [.ref p, .ref c, .ref l, .ref d] ∧ H p = some (.lst us) ∧ Spts H us ss ∧ H c = some (.lst (cols.map V.int)) ∧ H l = some (.lst (lim.map V.int)) ∧ H d = some (.lst (cs.map oV)) ∧ ss.length ≤ 20 ∧ cs.length ≤ 40 ∧ cols.length ≤ 30 ∧ lim.length ≤ 30 ∧ (∀ s ∈ ss, SpOk cols.length lim.length s) ∧ ∀ H', Same H H' → Q (.bl (dealB ss cols lim cs)) H'
theorem sc_is_dealing : FnScope ["spots", "columns", "caps", "dealt"] ["spots", "columns", "caps", "dealt"] (defScope s_is_dealing) := ⟨rfl, rfl, rfl, by decide +kernel, rfl, by decide +kernel, by decide +kernel⟩
theorem ok_is_dealing {C_Market : Addr} {f : Addr} {fd : FuncData} (F : Fun K "is_dealing" "is_dealing" s_is_dealing f fd) (T : Txt K mg C_Market) (C_are_offered : Cal P w K mg base "are_offered" ["spots", "dealt"] 1 (sp_are_offered K C_Market)) (C_is_enough : Cal P w K mg base "is_enough" ["columns", "dealt"] 1 (sp_is_enough K C_Market)) (C_is_borne : Cal P w K mg base "is_borne" ["spots", "caps", "dealt"] 1 (sp_is_borne K C_Market)) : FnOk P w K mg base CX0 2 f fd ["spots", "columns", "caps", "dealt"] (sp_is_dealing K C_Market) := by
  refine F.ok sc_is_dealing (fun vs H Q E h => ?_) (fun cdv A outer s H vs Q E hr h => ?_)
  · obtain ⟨p, c, l, d, us, ss, cols, lim, cs, rfl, _⟩ := h
    rfl
  · obtain ⟨p, c, l, d, us, ss, cols, lim, cs, rfl, hp, hS, hc, hl, hd, n1, n2, n3, n4, hok, q⟩ := h
    refine ⟨_, (pss_one (ps_ret (pe_and (pe_cal C_are_offered (hr.mono (by decide)) rfl (pa_cons (pv 0) (pa_cons (pv 3) pa_nil))) (pe_and (pe_cal C_is_enough (hr.mono (by decide)) rfl (pa_cons (pv 1) (pa_cons (pv 3) pa_nil))) (pe_one (pe_cal C_is_borne (hr.mono (by decide)) rfl (pa_cons (pv 0) (pa_cons (pv 2) (pa_cons (pv 3) pa_nil))))))))), ?_⟩
    walk_at "rd"
    refine ⟨p, d, us, ss, cs, rfl, hp, hS, hd, n1, n2, fun s hs => (hok s hs).len, fun H1 g1 => ?_⟩
    refine ⟨_, rfl, ?_⟩
    unfold dealB at q
    cases ho : offB ss cs with
    | false =>
      rw [if_neg (by decide)]
      have := q H1 g1
      rw [ho] at this
      exact this
    | true =>
      rw [if_pos rfl]
      refine ⟨c, d, cols, cs, rfl, g1 _ _ hc, g1 _ _ hd, n3, fun H2 g2 => ⟨_, rfl, ?_⟩⟩
      have g12 := g1.trans g2
      cases he : enB cols cs with
      | false =>
        rw [if_neg (by decide)]
        have := q H2 g12
        rw [ho, he] at this
        exact this
      | true =>
        rw [if_pos rfl]
        refine ⟨p, l, d, us, ss, lim, cs, rfl, g12 _ _ hp, hS.mono g12, g12 _ _ hl, g12 _ _ hd, (offB_in ho).1, n1, n4, fun H3 g3 => ?_⟩
        have := q H3 (g12.trans g3)
        rw [ho, he] at this
        exact this
def sp_are_prices (K : PySem.W.Frag) (C_Market : Addr) : Sp := fun vs H Q _ => ∃ (c l y z : Addr) (cols lim ys zs : List Int), vs = [.ref c, .ref l, .ref y, .ref z] ∧ H c = some (.lst (cols.map V.int)) ∧ H l = some (.lst (lim.map V.int)) ∧ H y = some (.lst (ys.map V.int)) ∧ H z = some (.lst (zs.map V.int)) ∧ ys.length ≤ 100 ∧ zs.length ≤ 100 ∧ ∀ H', Same H H' → Q (.bl (priB cols lim ys zs)) H'
theorem sc_are_prices : FnScope ["columns", "caps", "ys", "zs"] ["columns", "caps", "ys", "zs"] (defScope s_are_prices) := ⟨rfl, rfl, rfl, by decide +kernel, rfl, by decide +kernel, by decide +kernel⟩
theorem ok_are_prices {C_Market : Addr} {f : Addr} {fd : FuncData} (F : Fun K "are_prices" "are_prices" s_are_prices f fd) (T : Txt K mg C_Market)  : FnOk P w K mg base CX0 1 f fd ["columns", "caps", "ys", "zs"] (sp_are_prices K C_Market) := by
  refine F.ok sc_are_prices (fun vs H Q E h => ?_) (fun cdv A outer s H vs Q E hr h => ?_)
  · obtain ⟨c, l, y, z, cols, lim, ys, zs, rfl, _⟩ := h
    rfl
  · obtain ⟨c, l, y, z, cols, lim, ys, zs, rfl, hc, hl, hy, hz, n1, n2, q⟩ := h
    refine ⟨_, (pss_cons (ps_if (PW.pt (pw_or (pt_cmpR op_ne (pe_callB (call_lenK (K := K) rfl) (by rfl) T.len PySem.boot_len (pa_cons (pv 2) pa_nil)) (pe_callB (call_lenK (K := K) rfl) (by rfl) T.len PySem.boot_len (pa_cons (pv 0) pa_nil)) (nomark _)) (pw_or1 (pt_cmpR op_ne (pe_callB (call_lenK (K := K) rfl) (by rfl) T.len PySem.boot_len (pa_cons (pv 3) pa_nil)) (pe_callB (call_lenK (K := K) rfl) (by rfl) T.len PySem.boot_len (pa_cons (pv 1) pa_nil)) (nomark _))))) (pss_one (ps_ret pe_bl)) pss_nil)
    (pss_one (ps_ret (pe_and (pe_callB (call_all rfl) (by rfl) T.all PyProof.Rows.boot_all (pa_cons (pe_comp (own := ["price"]) (fnames := []) (fr := []) (N' := ["price"]) ⟨rfl, rfl, rfl, rfl, rfl, rfl, rfl⟩ rfl (pi_list (pv 2)) (fun s0 H0 fp0 C0 => ⟨(pg_name (i := 0) (by show (["price"] : List Str).Nodup; decide +kernel) rfl (Or.inl rfl)), pts_nil, (pe_cmpR op_ge (pv 0) pe_int (nomark _))⟩)) pa_nil)) (pe_one (pe_callB (call_all rfl) (by rfl) T.all PyProof.Rows.boot_all (pa_cons (pe_comp (own := ["price"]) (fnames := []) (fr := []) (N' := ["price"]) ⟨rfl, rfl, rfl, rfl, rfl, rfl, rfl⟩ rfl (pi_list (pv 3)) (fun s0 H0 fp0 C0 => ⟨(pg_name (i := 0) (by show (["price"] : List Str).Nodup; decide +kernel) rfl (Or.inl rfl)), pts_nil, (pe_cmpR op_ge (pv 0) pe_int (nomark _))⟩)) pa_nil))))))), ?_⟩
    refine seq_of fun U1 u1 => ?_
    walk_at "rd"
    refine ⟨_, .inl (SqL.of hy), _, .inl (SqL.of hc), ?_⟩
    rw [List.length_map, List.length_map]
    unfold priB at q
    by_cases e1 : ys.length = cols.length
    · rw [if_neg (fun w => w (by rw [e1]))]
      refine ⟨_, .inl (SqL.of hz), _, .inl (SqL.of hl), ?_⟩
      rw [List.length_map, List.length_map]
      by_cases e2 : zs.length = lim.length
      · rw [if_neg (fun w => w (by rw [e2]))]
        rw [decide_eq_true e1, decide_eq_true e2, Bool.true_and, Bool.true_and] at q
        rw [u1]; clear u1
        walk_at "rd"
        refine ⟨⟨_, SqL.of hy⟩, fun L hL => for_listW (xs := ys.map V.int) (fun i σ H' => Same H H' ∧ H' L = some (.lst (((ys.take i).map fun a => decide (0 ≤ a)).map V.bl)) ∧ ∃ v0, σ = [v0]) ⟨same_new hL _, upd_same, none, rfl⟩ (fun i σ H' _ hh => SqL.of (hh.1 _ _ hy)) ?_ ?_⟩
        · rintro i v σ H' hv ⟨g, e, v0, rfl⟩
          obtain ⟨a, ha, rfl⟩ := map_item hv
          have hi := (List.getElem?_eq_some_iff.mp ha).1
          walk_at "rd"
          refine ⟨_, e, small1000 (by rw [List.length_map, List.length_map, List.length_take]; omega), same_upd hL g _, ?_⟩
          rw [upd_same, take_one ha, List.map_append, List.map_append]
          rfl
        rintro σ H1 ⟨g1, e1', v0, rfl⟩
        rw [List.length_map, List.take_length] at e1'
        refine ⟨_, SqL.of e1', ?_⟩
        have eP : ∀ xs : List Int, (xs.map fun a => decide (0 ≤ a)).all id = posB xs := fun xs => by unfold posB; rw [List.all_map]; rfl
        rw [eP]
        cases hb : posB ys with
        | false =>
          rw [if_neg (fun w => (nomatch w))]
          rw [hb, Bool.false_and] at q
          exact q H1 g1
        | true =>
          rw [if_pos rfl]
          rw [hb, Bool.true_and] at q
          refine ⟨⟨_, SqL.of (g1 _ _ hz)⟩, fun L2 hL2 => for_listW (xs := zs.map V.int) (fun i σ H' => Same H1 H' ∧ H' L2 = some (.lst (((zs.take i).map fun a => decide (0 ≤ a)).map V.bl)) ∧ ∃ v0, σ = [v0]) ⟨same_new hL2 _, upd_same, none, rfl⟩ (fun i σ H' _ hh => SqL.of (hh.1 _ _ (g1 _ _ hz))) ?_ ?_⟩
          · rintro i v σ H' hv ⟨g, e, v0, rfl⟩
            obtain ⟨a, ha, rfl⟩ := map_item hv
            have hi := (List.getElem?_eq_some_iff.mp ha).1
            walk_at "rd"
            refine ⟨_, e, small1000 (by rw [List.length_map, List.length_map, List.length_take]; omega), same_upd hL2 g _, ?_⟩
            rw [upd_same, take_one ha, List.map_append, List.map_append]
            rfl
          rintro σ H2 ⟨g2, e2', v0, rfl⟩
          rw [List.length_map, List.take_length] at e2'
          refine ⟨_, SqL.of e2', ?_⟩
          rw [eP]
          exact q H2 (g1.trans g2)
      · rw [if_pos (fun w => e2 (by omega))]
        rw [decide_eq_false e2, Bool.false_and, Bool.and_false] at q
        exact q H (Same.refl _)
    · rw [if_pos (fun w => e1 (by omega))]
      rw [decide_eq_false e1, Bool.false_and] at q
      exact q H (Same.refl _)
def sp_is_cheapest (K : PySem.W.Frag) (C_Market : Addr) : Sp := fun vs H Q _ => ∃ (p c l d y z : Addr) (us : List V) (ss : List Spt) (cols lim ys zs : List Int) (cs : List (Option Int)), vs = [.ref p, .ref c, .ref l, .ref d, .ref y, .ref z] ∧ H p = some (.lst us) ∧ Spts H us ss ∧ H c = some (.lst (cols.map V.int)) ∧ H l = some (.lst (lim.map V.int)) ∧ H d = some (.lst (cs.map oV)) ∧ H y = some (.lst (ys.map V.int)) ∧ H z = some (.lst (zs.map V.int)) ∧ ChpOk ss cols lim cs ys zs ∧ ∀ H', Same H H' → Q (.bl (chpB ss cols lim cs ys zs)) H'
theorem sc_is_cheapest : FnScope ["spots", "columns", "caps", "dealt", "ys", "zs"] ["spots", "columns", "caps", "dealt", "ys", "zs"] (defScope s_is_cheapest) := ⟨rfl, rfl, rfl, by decide +kernel, rfl, by decide +kernel, by decide +kernel⟩
theorem ok_is_cheapest {C_Market : Addr} {f : Addr} {fd : FuncData} (F : Fun K "is_cheapest" "is_cheapest" s_is_cheapest f fd) (T : Txt K mg C_Market) (C_cost_of : Cal P w K mg base "cost_of" ["spots", "dealt"] 2 (sp_cost_of K C_Market)) (C_worth : Cal P w K mg base "worth" ["spots", "columns", "caps", "ys", "zs"] 2 (sp_worth K C_Market)) (C_is_dealing : Cal P w K mg base "is_dealing" ["spots", "columns", "caps", "dealt"] 2 (sp_is_dealing K C_Market)) (C_are_prices : Cal P w K mg base "are_prices" ["columns", "caps", "ys", "zs"] 1 (sp_are_prices K C_Market)) : FnOk P w K mg base CX0 3 f fd ["spots", "columns", "caps", "dealt", "ys", "zs"] (sp_is_cheapest K C_Market) := by
  refine F.ok sc_is_cheapest (fun vs H Q E h => ?_) (fun cdv A outer s H vs Q E hr h => ?_)
  · obtain ⟨p, c, l, d, y, z, us, ss, cols, lim, ys, zs, cs, rfl, _⟩ := h
    rfl
  · obtain ⟨p, c, l, d, y, z, us, ss, cols, lim, ys, zs, cs, rfl, hp, hS, hc, hl, hd, hy, hz, O, q⟩ := h
    refine ⟨_, (pss_cons (ps_if (PW.pt (pw_or (pt_not (pt_val (pe_cal C_is_dealing (hr.mono (by decide)) rfl (pa_cons (pv 0) (pa_cons (pv 1) (pa_cons (pv 2) (pa_cons (pv 3) pa_nil))))))) (pw_or1 (pt_not (pt_val (pe_cal C_are_prices (hr.mono (by decide)) rfl (pa_cons (pv 1) (pa_cons (pv 2) (pa_cons (pv 4) (pa_cons (pv 5) pa_nil)))))))))) (pss_one (ps_ret pe_bl)) pss_nil)
    (pss_one (ps_ret (pe_cmpR op_eq (pe_cal C_cost_of (hr.mono (by decide)) rfl (pa_cons (pv 0) (pa_cons (pv 3) pa_nil))) (pe_cal C_worth (hr.mono (by decide)) rfl (pa_cons (pv 0) (pa_cons (pv 1) (pa_cons (pv 2) (pa_cons (pv 4) (pa_cons (pv 5) pa_nil)))))) (nomark _))))), ?_⟩
    refine seq_of fun U1 u1 => ?_
    walk_at "rd"
    refine ⟨p, c, l, d, us, ss, cols, lim, cs, rfl, hp, hS, hc, hl, hd, O.sl, O.dl, Nat.le_trans O.cl (by decide), Nat.le_trans O.ll (by decide), O.ok, fun H1 g1 => ⟨_, rfl, ?_⟩⟩
    unfold chpB at q
    cases hD : dealB ss cols lim cs with
    | false =>
      rw [if_pos rfl]
      rw [hD, Bool.false_and] at q
      exact q H1 g1
    | true =>
      rw [if_neg (fun w => (nomatch w))]
      rw [hD, Bool.true_and] at q
      have ho : offB ss cs = true := by
        unfold dealB at hD
        rw [Bool.and_eq_true] at hD
        exact hD.1
      obtain ⟨hlen, hin⟩ := offB_in ho
      have n1 := O.yl
      have n2 := O.zl
      refine ⟨c, l, y, z, cols, lim, ys, zs, rfl, g1 _ _ hc, g1 _ _ hl, g1 _ _ hy, g1 _ _ hz, by omega, by omega, fun H2 g2 => ⟨_, rfl, ?_⟩⟩
      have g12 := g1.trans g2
      cases hb : priB cols lim ys zs with
      | false =>
        rw [if_pos rfl]
        rw [hb, Bool.false_and] at q
        exact q H2 g12
      | true =>
        rw [if_neg (fun w => (nomatch w))]
        rw [hb, Bool.true_and] at q
        unfold priB at hb
        rw [Bool.and_eq_true, Bool.and_eq_true] at hb
        have e1 := of_decide_eq_true hb.1
        have e2 := of_decide_eq_true hb.2.1
        have PC : Pcs ss cols lim ys zs := ⟨O.ok, O.sl, e1.symm, e2.symm, Nat.le_trans O.cl (by decide), Nat.le_trans O.ll (by decide), (fun a ha => by have := O.cb a ha; omega), fun a ha => by have := O.lb a ha; omega⟩
        rw [u1]; clear u1
        walk_at "rd"
        refine ⟨p, d, us, ss, cs, rfl, g12 _ _ hp, hS.mono g12, g12 _ _ hd, hlen, O.sl, (fun s hs => (O.ok s hs).len), fun H3 g3 => ?_⟩
        have gA := g12.trans g3
        refine ⟨p, c, l, y, z, us, ss, cols, lim, ys, zs, rfl, gA _ _ hp, hS.mono gA, gA _ _ hc, gA _ _ hl, gA _ _ hy, gA _ _ hz, PC, fun H4 g4 => ?_⟩
        refine ⟨rfl, ?_⟩
        simp only [V.int.injEq]
        exact q H4 (gA.trans g4)
def sp__law_cell_at (K : PySem.W.Frag) (C_Market : Addr) : Sp := fun vs H Q _ => ∃ (a : Addr) (ns : List Int) (k : Int), vs = [.ref a, .int k] ∧ SqL K H a (ns.map V.int) ∧ 0 ≤ k ∧ ∀ v : Int, Q (.int v) H
theorem sc__law_cell_at : FnScope ["_law_script", "_law_k"] ["_law_script", "_law_k"] (defScope s__law_cell_at) := ⟨rfl, rfl, rfl, by decide +kernel, rfl, by decide +kernel, by decide +kernel⟩
theorem ok__law_cell_at {C_Market : Addr} {f : Addr} {fd : FuncData} (F : Fun K "_law_cell_at" "_law_cell_at" s__law_cell_at f fd) (T : Txt K mg C_Market)  : FnOk P w K mg base CX0 1 f fd ["_law_script", "_law_k"] (sp__law_cell_at K C_Market) := by
  refine F.ok sc__law_cell_at (fun vs H Q E h => ?_) (fun cdv A outer s H vs Q E hr h => ?_)
  · obtain ⟨a, ns, k, rfl, _⟩ := h
    rfl
  · obtain ⟨a, ns, k, rfl, hS, k0, q⟩ := h
    refine ⟨_, (pss_cons (ps_if (pt_cmpR op_lt (pv 1) (pe_callB (call_lenK (K := K) rfl) (by rfl) T.len PySem.boot_len (pa_cons (pv 0) pa_nil)) (nomark _)) (pss_one (ps_ret (pe_ix ix_list (pv 0) (pv 1) (fun _ _ => rfl)))) pss_nil)
    (pss_one (ps_ret pe_int))), ?_⟩
    walk_at "rd"
    refine ⟨_, .inl hS, ?_⟩
    split
    · rename_i hk
      rw [List.length_map] at hk
      obtain ⟨v, hv⟩ := item_of k0 hk
      exact ⟨_, hS, _, hv, q v⟩
    · exact q 0
def sp__law_stream (_ : PySem.W.Frag) (C_Market : Addr) : Sp := fun vs H Q _ => ∃ c n : Int, vs = [.int c, .int n] ∧ 0 ≤ n ∧ n ≤ 300 ∧ ∀ (r : Addr) (ns : List Int), H r = none → (ns.length : Int) = n → (∀ x ∈ ns, 0 ≤ x ∧ x < 2 ^ 31) → Q (.ref r) (upd H r (.lst (ns.map V.int)))
theorem sc__law_stream : FnScope ["_law_cell", "_law_many", "_law_found", "_law_number", "_law_k"] ["_law_cell", "_law_many"] (defScope s__law_stream) := ⟨rfl, rfl, rfl, by decide +kernel, rfl, by decide +kernel, by decide +kernel⟩
theorem ok__law_stream {C_Market : Addr} {f : Addr} {fd : FuncData} (F : Fun K "_law_stream" "_law_stream" s__law_stream f fd) (T : Txt K mg C_Market)  : FnOk P w K mg base CX0 1 f fd ["_law_cell", "_law_many"] (sp__law_stream K C_Market) := by
  refine F.ok sc__law_stream (fun vs H Q E h => ?_) (fun cdv A outer s H vs Q E hr h => ?_)
  · obtain ⟨c, n, rfl, _⟩ := h
    rfl
  · obtain ⟨c, n, rfl, n0, n1, q⟩ := h
    refine ⟨_, (pss_cons (ps_set (i := 2) sc__law_stream.nd rfl (Or.inl rfl) (pe_lst pa_nil))
    (pss_cons (ps_set (i := 3) sc__law_stream.nd rfl (Or.inl rfl) (pe_op op_add (pe_op op_mod (pv 0) pe_int) pe_int))
    (pss_cons (ps_for PassesOwn.never rfl (pi_range1 rfl T.range (pa_cons (pv 1) pa_nil)) (pg_name (i := 4) sc__law_stream.nd rfl (Or.inl rfl))
      (pss_cons (ps_set (i := 3) sc__law_stream.nd rfl (Or.inl rfl) (pe_op op_mod (pe_op op_add (pe_op op_add (pe_op op_mul (pv 3) pe_int) (pe_op op_mul (pv 4) (pv 4))) pe_int) pe_int))
        (pss_one (ps_expr (pe_bm PySem.F.plainAttrs_list PySem.F.slot_list_append PySem.F.type_list_append mt_append (pv 2) (pa_cons (pe_op op_fdiv (pv 3) pe_int) pa_nil))))))
    (pss_one (ps_ret (pv 2)))))), ?_⟩
    refine seq_of fun U1 u1 => ?_
    walk_at "rd"
    refine ⟨Nat.zero_le _, fun p hp => ?_⟩
    rw [u1]; clear u1
    refine seq_of fun U1 u1 => ?_
    walk_at "rd"
    refine ⟨by decide, ?_⟩
    rw [u1]; clear u1
    refine seq_of fun U1 u1 => for_of fun B1 b1 => ?_
    walk_at "rd"
    refine ⟨by omega, by omega, for_rangeW (fun i σ H' => ∃ (ns : List Int) (x : Int) (v4 : Option V), H' = upd H p (.lst (ns.map V.int)) ∧ ns.length = i ∧ (∀ x ∈ ns, 0 ≤ x ∧ x < 2 ^ 31) ∧ σ = [some (.int c), some (.int n), some (.ref p), some (.int x), v4]) ⟨[], _, none, rfl, rfl, (fun x z => by cases z), rfl⟩ ?_ ?_⟩
    · rintro i σ H' hi ⟨ns, x, v4, rfl, hn, hb, rfl⟩
      rw [show (0 + (i : Int)) = i by omega]
      rw [b1]
      refine seq_of fun U2 u2 => ?_
      walk_at "rd"
      refine ⟨.inr ⟨by decide, by decide⟩, .inl ⟨by omega, by omega⟩, by decide, ?_⟩
      rw [u2]; clear u2
      walk_at "rd"
      refine ⟨.inl ⟨rfl, _, SqL.of upd_same⟩, ⟨by decide, by decide⟩, _, upd_same, small1000 (by rw [List.length_map]; omega), ns ++ [(x * 69621 + (i : Int) * (i : Int) + 1) % 2147483647 / 7], ?_, by rw [List.length_append, hn]; rfl, fun y hy => ?_⟩
      · rw [upd_upd, List.map_append]
        rfl
      · rcases List.mem_append.mp hy with z | z
        · exact hb y z
        · rw [List.mem_singleton.mp z]
          have h1 := Int.emod_nonneg (x * 69621 + (i : Int) * (i : Int) + 1) (b := 2147483647) (by decide)
          have h2 := Int.emod_lt_of_pos (x * 69621 + (i : Int) * (i : Int) + 1) (b := 2147483647) (by decide)
          omega
    rintro σ H' ⟨ns, x, v4, rfl, hn, hb, rfl⟩
    rw [u1]; clear u1
    walk_at "rd"
    exact q p ns hp (by omega) hb
def sp__law_cost (_ : PySem.W.Frag) (C_Market : Addr) : Sp := fun vs H Q _ => ∃ (n : Int) (g : Bool), vs = [.int n, .bl g] ∧ ∀ v : Int, Q (.int v) H
theorem sc__law_cost : FnScope ["_law_number", "_law_great"] ["_law_number", "_law_great"] (defScope s__law_cost) := ⟨rfl, rfl, rfl, by decide +kernel, rfl, by decide +kernel, by decide +kernel⟩
theorem ok__law_cost {C_Market : Addr} {f : Addr} {fd : FuncData} (F : Fun K "_law_cost" "_law_cost" s__law_cost f fd) (T : Txt K mg C_Market)  : FnOk P w K mg base CX0 1 f fd ["_law_number", "_law_great"] (sp__law_cost K C_Market) := by
  refine F.ok sc__law_cost (fun vs H Q E h => ?_) (fun cdv A outer s H vs Q E hr h => ?_)
  · obtain ⟨n, g, rfl, _⟩ := h
    rfl
  · obtain ⟨n, g, rfl, q⟩ := h
    refine ⟨_, (pss_cons (ps_if (PW.pt (pw_and (pt_val (pv 1)) (pw_and1 (pt_cmpR op_gt (pe_op op_mod (pv 0) pe_int) pe_int (nomark _))))) (pss_one (ps_ret (pe_op op_mod (pe_op op_mul (pv 0) pe_int) (pe_op op_add (pe_op op_pow pe_int pe_int) pe_int)))) pss_nil)
    (pss_one (ps_ret (pe_op op_mod (pe_op op_fdiv (pv 0) pe_int) pe_int)))), ?_⟩
    walk_at "rd"
    split
    · refine ⟨by decide, ?_⟩
      split
      · exact ⟨.inr ⟨by decide, by decide⟩, ⟨by decide, by decide, by decide⟩, by decide, q _⟩
      · exact ⟨⟨by decide, by decide⟩, by decide, q _⟩
    · exact ⟨⟨by decide, by decide⟩, by decide, q _⟩
def sp__law_spot (_ : PySem.W.Frag) (C_Market : Addr) : Sp := fun vs H Q _ => ∃ (c : Int) (O M : Nat) (g : Bool), vs = [.int c, .int O, .int M, .bl g] ∧ 0 < O ∧ O ≤ 20 ∧ M ≤ 20 ∧ ∀ (t l : Addr) (ts : List V) (s : Spt) (H' : Hp), Same H H' → H l = none → H t = none → H' t = some (.tup [.int s.o, .ref l]) → H' l = some (.lst ts) → Offs H' ts s.fs → SpOk M O s → Q (.ref t) H'
theorem sc__law_spot : FnScope ["_law_cell", "_law_owners", "_law_many", "_law_great", "_law_xs", "_law_offers", "_law_column", "_law_turn"] ["_law_cell", "_law_owners", "_law_many", "_law_great"] (defScope s__law_spot) := ⟨rfl, rfl, rfl, by decide +kernel, rfl, by decide +kernel, by decide +kernel⟩
theorem ok__law_spot {C_Market : Addr} {f : Addr} {fd : FuncData} (F : Fun K "_law_spot" "_law_spot" s__law_spot f fd) (T : Txt K mg C_Market) (C__law_stream : Cal P w K mg base "_law_stream" ["_law_cell", "_law_many"] 1 (sp__law_stream K C_Market)) (C__law_cost : Cal P w K mg base "_law_cost" ["_law_number", "_law_great"] 1 (sp__law_cost K C_Market)) : FnOk P w K mg base CX0 2 f fd ["_law_cell", "_law_owners", "_law_many", "_law_great"] (sp__law_spot K C_Market) := by
  refine F.ok sc__law_spot (fun vs H Q E h => ?_) (fun cdv A outer s H vs Q E hr h => ?_)
  · obtain ⟨c, O, M, g, rfl, _⟩ := h
    rfl
  · obtain ⟨c, O, M, gr, rfl, hO0, hO, hM, q⟩ := h
    refine ⟨_, (pss_cons (ps_set (i := 4) sc__law_spot.nd rfl (Or.inl rfl) (pe_cal C__law_stream (hr.mono (by decide)) rfl (pa_cons (pv 0) (pa_cons (pe_op op_add (pv 2) pe_int) pa_nil))))
    (pss_cons (ps_set (i := 5) sc__law_spot.nd rfl (Or.inl rfl) (pe_lst pa_nil))
    (pss_cons (ps_for PassesOwn.never rfl (pi_range1 rfl T.range (pa_cons (pv 2) pa_nil)) (pg_name (i := 6) sc__law_spot.nd rfl (Or.inl rfl))
      (pss_one (ps_if (pt_cmpR op_eq (pe_op op_and (pe_op op_shr (pv 0) (pv 6)) pe_int) pe_int (nomark _)) (pss_one (ps_expr (pe_bm PySem.F.plainAttrs_list PySem.F.slot_list_append PySem.F.type_list_append mt_append (pv 5) (pa_cons (pe_tup (pa_cons (pv 6) (pa_cons (pe_cal C__law_cost (hr.mono (by decide)) rfl (pa_cons (pe_ix ix_list (pv 4) (pv 6) (fun _ _ => rfl)) (pa_cons (pv 3) pa_nil))) pa_nil))) pa_nil)))) pss_nil)))
    (pss_cut (ps_if (PW.pt (pw_or (pt_cmpR op_gt (pe_op op_mod (pe_op op_fdiv (pv 0) pe_int) pe_int) pe_int (nomark _)) (pw_or1 (pt_cmpR (op_eqD 1 hr) (pv 5) (pe_lst pa_nil) (nomark _))))) (pss_one (ps_expr (pe_bm PySem.F.plainAttrs_list PySem.F.slot_list_insert PySem.F.type_list_insert mt_insert (pv 5) (pa_cons (pe_op op_mod (pe_ix ix_list (pv 4) (pv 2) (fun _ _ => rfl)) (pe_op op_add (pe_callB (call_lenK (K := K) rfl) (by rfl) T.len PySem.boot_len (pa_cons (pv 5) pa_nil)) pe_int)) (pa_cons (pe_tup (pa_cons pe_non (pa_cons (pe_cal C__law_cost (hr.mono (by decide)) rfl (pa_cons (pe_ix ix_list (pv 4) (pe_op op_add (pv 2) pe_int) (fun _ _ => rfl)) (pa_cons (pv 3) pa_nil))) pa_nil))) pa_nil))))) pss_nil)
    (pss_cons (ps_set (i := 7) sc__law_spot.nd rfl (Or.inl rfl) (pe_op op_mod (pe_op op_fdiv (pv 0) pe_int) pe_int))
    (pss_one (ps_ret (pe_tup (pa_cons (pe_op op_mod (pe_op op_fdiv (pv 0) pe_int) (pv 1)) (pa_cons (pe_op op_cat (pe_slice sl_list (pv 5) (po_some (pv 7)) po_none) (pe_slice sl_list (pv 5) po_none (po_some (pv 7)))) pa_nil)))))))))), ?_⟩
    refine seq_of fun U1 u1 => ?_
    walk_at "rd"
    refine ⟨_, _, rfl, by omega, by omega, fun px xs hpx hxl _ => ?_⟩
    have g0 := same_new hpx (.lst (xs.map V.int))
    rw [u1]; clear u1
    refine seq_of fun U1 u1 => ?_
    walk_at "rd"
    refine ⟨Nat.zero_le _, fun po hpo => ?_⟩
    have g1 := g0.trans (same_new hpo (.lst []))
    have ex : upd (upd H px (.lst (xs.map V.int))) po (.lst []) px = some (.lst (xs.map V.int)) := same_new hpo _ _ _ upd_same
    have eo : upd (upd H px (.lst (xs.map V.int))) po (.lst []) po = some (.lst []) := upd_same
    have hpo0 : H po = none := g0.free hpo
    have nxo : px ≠ po := ne_of_none upd_same hpo
    revert g1 ex eo
    generalize upd (upd H px (.lst (xs.map V.int))) po (.lst []) = H1
    intro g1 ex eo
    rw [u1]; clear u1
    refine seq_of fun U1 u1 => for_of fun B1 b1 => ?_
    walk_at "rd"
    refine ⟨by omega, by omega, for_rangeW (fun i σ H' => ∃ (ts : List V) (fs : List Off) (v6 : Option V), Same H H' ∧ H' px = some (.lst (xs.map V.int)) ∧ H' po = some (.lst ts) ∧ Offs H' ts fs ∧ fs.length ≤ i ∧ (fs.map (·.1)).Nodup ∧ (∀ f ∈ fs, ∃ c : Int, f.1 = some c ∧ 0 ≤ c ∧ c < (i : Int)) ∧ σ = [some (.int c), some (.int O), some (.int M), some (.bl gr), some (.ref px), some (.ref po), v6, none]) ⟨[], [], none, g1, ex, eo, .nil, Nat.le_refl _, List.nodup_nil, (fun f z => by cases z), rfl⟩ ?_ ?_⟩
    · rintro i σ H' hi ⟨ts, fs, v6, g, ex', eo', hF, hfl, nd, hb, rfl⟩
      rw [show (0 + (i : Int)) = i by omega]
      obtain ⟨y, hy⟩ := item_of (ns := xs) (k := (i : Int)) (by omega) (by omega)
      have htl := Paired.length hF
      rw [b1]
      walk_at "rd"
      refine ⟨by omega, ?_⟩
      split
      · refine ⟨.inl ⟨rfl, _, SqL.of eo'⟩, _, SqL.of ex', _, hy, _, _, rfl, fun v => ⟨by decide, fun t ht => ?_⟩⟩
        have gt := same_new ht (.tup [.int (i : Int), .int v])
        obtain ⟨s1, s2⟩ := off_step (v := v) nd hb
        exact ⟨ts, gt _ _ eo', small1000 (by omega), same_upd hpo0 (g.trans gt) _, by rw [upd_ne nxo]; exact gt _ _ ex', ts ++ [.ref t], upd_same, fs ++ [(some (i : Int), v)], Offs.off (paired_snoc (Offs.mono gt hF) ⟨t, rfl, upd_same⟩) (fun xs z => by rw [gt _ _ eo'] at z; cases z), by rw [List.length_append]; exact Nat.succ_le_succ hfl, s1, s2⟩
      · exact ⟨g, ex', ts, eo', fs, hF, by omega, nd, fun f hf => by obtain ⟨c', h1, h2, h3⟩ := hb f hf; exact ⟨c', h1, h2, by omega⟩⟩
    rintro σ H' ⟨ts, fs, v6, g, ex', eo', hF, hfl, nd, hb, rfl⟩
    rw [Int.toNat_natCast] at hfl hb
    have htl := Paired.length hF
    rw [u1]; clear u1
    refine cut_of (fun σ H2 => ∃ (ts : List V) (fs : List Off), Same H H2 ∧ H2 po = some (.lst ts) ∧ Offs H2 ts fs ∧ fs ≠ [] ∧ fs.length ≤ 25 ∧ (fs.map (·.1)).Nodup ∧ (∀ f ∈ fs, ∀ c : Int, f.1 = some c → 0 ≤ c ∧ c < (M : Int)) ∧ σ = [some (.int c), some (.int O), some (.int M), some (.bl gr), some (.ref px), some (.ref po), v6, none]) ?_ ?_
    · obtain ⟨y1, hy1⟩ := item_of (ns := xs) (k := (M : Int)) (by omega) (by omega)
      obtain ⟨y2, hy2⟩ := item_of (ns := xs) (k := (M : Int) + 1) (by omega) (by omega)
      walk_at "rd"
      refine ⟨⟨by decide, by decide⟩, by decide, ?_⟩
      split
      · have eo2 := eo'
        have ex2 := ex'
        have hF2' := hF
        have gH := g
        refine ⟨.inl ⟨rfl, _, SqL.of eo2⟩, _, SqL.of ex2, _, hy1, _, .inl (SqL.of eo2), _, rfl, by omega, _, SqL.of ex2, _, hy2, _, _, rfl, fun v => ⟨by decide, fun t ht => ?_⟩⟩
        have gt := same_new ht (.tup [.non, .int v])
        obtain ⟨k, ek, hk⟩ : ∃ k : Nat, y1 % ((ts.length : Int) + 1) = k ∧ k ≤ ts.length := ⟨(y1 % ((ts.length : Int) + 1)).toNat, by have := Int.emod_nonneg y1 (b := (ts.length : Int) + 1) (by omega); omega, by have := Int.emod_lt_of_pos y1 (b := (ts.length : Int) + 1) (by omega); have := Int.emod_nonneg y1 (b := (ts.length : Int) + 1) (by omega); omega⟩
        rw [ek, Int.toNat_natCast]
        obtain ⟨n1, n2, n3, n4, n5⟩ := ins_ok (M := M) k (Offs.mono gt hF2') (upd_same (o := .tup [.non, .int v])) (by omega) nd hb
        exact ⟨ts, gt _ _ eo2, by omega, by omega, small1000 (by omega), same_upd hpo0 (gH.trans gt) _, _, upd_same, _, Offs.off n1 (fun xs z => by rw [gt _ _ eo2] at z; cases z), n2, n3, n4, n5⟩
      · refine ⟨Nat.zero_le _, fun pe hpe => ?_⟩
        have ge := same_new hpe (.lst [])
        refine ⟨_, _, _, _, rfl, rfl, den_offs (SqL.of (ge _ _ eo')) (Offs.mono ge hF), den_ints (ns := []) (SqL.of upd_same), like_nil, _, rfl, ?_⟩
        have eo2 := ge _ _ eo'
        have ex2 := ge _ _ ex'
        have hF2' := Offs.mono ge hF
        have gH := g.trans ge
        split
        · refine ⟨.inl ⟨rfl, _, SqL.of eo2⟩, _, SqL.of ex2, _, hy1, _, .inl (SqL.of eo2), _, rfl, by omega, _, SqL.of ex2, _, hy2, _, _, rfl, fun v => ⟨by decide, fun t ht => ?_⟩⟩
          have gt := same_new ht (.tup [.non, .int v])
          obtain ⟨k, ek, hk⟩ : ∃ k : Nat, y1 % ((ts.length : Int) + 1) = k ∧ k ≤ ts.length := ⟨(y1 % ((ts.length : Int) + 1)).toNat, by have := Int.emod_nonneg y1 (b := (ts.length : Int) + 1) (by omega); omega, by have := Int.emod_lt_of_pos y1 (b := (ts.length : Int) + 1) (by omega); have := Int.emod_nonneg y1 (b := (ts.length : Int) + 1) (by omega); omega⟩
          rw [ek, Int.toNat_natCast]
          obtain ⟨n1, n2, n3, n4, n5⟩ := ins_ok (M := M) k (Offs.mono gt hF2') (upd_same (o := .tup [.non, .int v])) (by omega) nd hb
          exact ⟨ts, gt _ _ eo2, by omega, by omega, small1000 (by omega), same_upd hpo0 (gH.trans gt) _, _, upd_same, _, Offs.off n1 (fun xs z => by rw [gt _ _ eo2] at z; cases z), n2, n3, n4, n5⟩
        · rename_i hne
          refine ⟨gH, ts, eo2, fs, hF2', fun z => hne ?_, by omega, nd, fun f hf c' hc' => ?_⟩
          · rw [z]
            exact eqD_same _
          · obtain ⟨c2, h1, h2⟩ := hb f hf
            rw [h1] at hc'
            cases hc'
            exact h2
    rintro σ H2 ⟨ts2, fs2, g2, e2, hF2, ne2, fl2, nd2, cb2, rfl⟩
    refine seq_of fun U1 u1 => ?_
    walk_at "rd"
    refine ⟨⟨by decide, by decide⟩, by decide, ?_⟩
    obtain ⟨t, et⟩ : ∃ t : Nat, c / 256 % 7 = t := ⟨(c / 256 % 7).toNat, by omega⟩
    rw [et]
    rw [u1]; clear u1
    walk_at "rd"
    refine ⟨⟨by decide, by decide⟩, by omega, ?_⟩
    have htl2 := Paired.length hF2
    refine turned_ofV (Q := fun p H' => 2 ≤ sizeLine ∧ ∀ p2, H' p2 = none → Q (.ref p2) (upd H' p2 (.tup [.int (c / 1792 % (O : Int)), .ref p]))) e2 (by omega) fun l H3 g3 hl3 e3 => ⟨by decide, fun t4 ht4 => ?_⟩
    have gt := same_new ht4 (.tup [.int (c / 1792 % (O : Int)), .ref l])
    have gg := (g2.trans g3).trans gt
    refine q t4 l _ ⟨c / 1792 % (O : Int), fs2.drop t ++ fs2.take t⟩ _ gg (g2.free hl3) ((g2.trans g3).free ht4) upd_same (gt _ _ e3) (Offs.mono (g3.trans gt) (paired_app (paired_drop t hF2) (paired_take t hF2))) ?_
    exact SpOk.perm (s := ⟨c / 1792 % (O : Int), fs2⟩) ⟨ne2, by show fs2.length ≤ 30; omega, nd2, cb2, Int.emod_nonneg _ (by omega), Int.emod_lt_of_pos _ (by omega)⟩ (turn_permA fs2 t)
def sp__law_spots (K : PySem.W.Frag) (C_Market : Addr) : Sp := fun vs H Q _ => ∃ (a : Addr) (ns : List Int), vs = [.ref a, .int 16] ∧ SqL K H a (ns.map V.int) ∧ ns.length ≤ 63 ∧ ∀ (t p : Addr) (us : List V) (ss : List Spt) (O M : Nat) (H' : Hp), Same H H' → H' t = some (.tup [.ref p, .int O, .int M]) → H' p = some (.lst us) → Spts H' us ss → ss.length ≤ 16 → (∀ s ∈ ss, SpOk M O s) → 1 ≤ O → O ≤ 4 → M ≤ 18 → Q (.ref t) H'
theorem sc__law_spots : FnScope ["_law_script", "_law_most", "_law_owners", "_law_many", "_law_great", "_law_extra", "_law_numbers"] ["_law_script", "_law_most"] (defScope s__law_spots) := ⟨rfl, rfl, rfl, by decide +kernel, rfl, by decide +kernel, by decide +kernel⟩
theorem ok__law_spots {C_Market : Addr} {f : Addr} {fd : FuncData} (F : Fun K "_law_spots" "_law_spots" s__law_spots f fd) (T : Txt K mg C_Market) (C__law_cell_at : Cal P w K mg base "_law_cell_at" ["_law_script", "_law_k"] 1 (sp__law_cell_at K C_Market)) (C__law_stream : Cal P w K mg base "_law_stream" ["_law_cell", "_law_many"] 1 (sp__law_stream K C_Market)) (C__law_spot : Cal P w K mg base "_law_spot" ["_law_cell", "_law_owners", "_law_many", "_law_great"] 2 (sp__law_spot K C_Market)) : FnOk P w K mg base CX0 3 f fd ["_law_script", "_law_most"] (sp__law_spots K C_Market) := by
  refine F.ok sc__law_spots (fun vs H Q E h => ?_) (fun cdv A outer s H vs Q E hr h => ?_)
  · obtain ⟨a, ns, rfl, _⟩ := h
    rfl
  · obtain ⟨a, ns, rfl, hS, hn, q⟩ := h
    refine ⟨_, (pss_cons (ps_set (i := 2) sc__law_spots.nd rfl (Or.inr rfl) (pe_op op_add pe_int (pe_op op_mod (pe_cal C__law_cell_at (hr.mono (by decide)) rfl (pa_cons (pv 0) (pa_cons pe_int pa_nil))) pe_int)))
    (pss_cons (ps_set (i := 3) sc__law_spots.nd rfl (Or.inr rfl) (pe_op op_mod (pe_cal C__law_cell_at (hr.mono (by decide)) rfl (pa_cons (pv 0) (pa_cons pe_int pa_nil))) pe_int))
    (pss_cut (ps_if (pt_cmpR op_eq (pe_op op_mod (pe_op op_fdiv (pe_cal C__law_cell_at (hr.mono (by decide)) rfl (pa_cons (pv 0) (pa_cons pe_int pa_nil))) pe_int) pe_int) pe_int (nomark _)) (pss_one (ps_set (i := 3) sc__law_spots.nd rfl (Or.inr rfl) pe_int)) pss_nil)
    (pss_cons (ps_set (i := 4) sc__law_spots.nd rfl (Or.inr rfl) (pe_cmpR op_eq (pe_op op_mod (pe_op op_fdiv (pe_cal C__law_cell_at (hr.mono (by decide)) rfl (pa_cons (pv 0) (pa_cons pe_int pa_nil))) pe_int) pe_int) pe_int (nomark _)))
    (pss_cons (ps_set (i := 5) sc__law_spots.nd rfl (Or.inl rfl) (pe_op op_mod (pe_cal C__law_cell_at (hr.mono (by decide)) rfl (pa_cons (pv 0) (pa_cons pe_int pa_nil))) (pe_op op_pow pe_int pe_int)))
    (pss_cons (ps_set (i := 6) sc__law_spots.nd rfl (Or.inl rfl) (pe_op op_cat (pe_comp (own := ["_law_cell"]) (fnames := []) (fr := []) (N' := ["_law_cell"]) ⟨rfl, rfl, rfl, rfl, rfl, rfl, rfl⟩ rfl (pi_list (pe_slice sl_list (pv 0) (po_some pe_int) (po_some pe_int))) (fun s0 H0 fp0 C0 => ⟨(pg_name (i := 0) (by show (["_law_cell"] : List Str).Nodup; decide +kernel) rfl (Or.inl rfl)), pts_nil, (pe_op op_mod (pv 0) pe_int)⟩)) (pe_cal C__law_stream (hr.mono (by decide)) rfl (pa_cons (pv 5) (pa_cons (pe_op op_mod (pv 5) pe_int) pa_nil)))))
    (pss_one (ps_ret (pe_tup (pa_cons (pe_comp (own := ["_law_number"]) (fnames := ["_law_owners", "_law_many", "_law_great"]) (fr := [2, 3, 4]) (N' := ["_law_number", "_law_owners", "_law_many", "_law_great"]) ⟨rfl, rfl, rfl, rfl, rfl, rfl, rfl⟩ rfl (pi_list (pe_slice sl_list (pv 6) po_none (po_some (pv 1)))) (fun s0 H0 fp0 C0 => ⟨(pg_name (i := 0) (by show (["_law_number", "_law_owners", "_law_many", "_law_great"] : List Str).Nodup; decide +kernel) rfl (Or.inl rfl)), pts_nil, (pe_cal C__law_spot (hr.mono (by decide)) rfl (pa_cons (pv 0) (pa_cons (pv 1) (pa_cons (pv 2) (pa_cons (pv 3) pa_nil)))))⟩)) (pa_cons (pv 2) (pa_cons (pv 3) pa_nil)))))))))))), ?_⟩
    refine seq_of fun U1 u1 => ?_
    walk_at "rd"
    refine ⟨a, ns, _, rfl, hS, by decide, fun c0 => ?_⟩
    walk_at "rd"
    refine ⟨by decide, ?_⟩
    obtain ⟨o, ho, ho1, ho4⟩ : ∃ o : Nat, 1 + c0 % 4 = o ∧ 1 ≤ o ∧ o ≤ 4 := ⟨(1 + c0 % 4).toNat, by omega, by omega, by omega⟩
    rw [ho]
    rw [u1]; clear u1
    refine seq_of fun U1 u1 => ?_
    walk_at "rd"
    refine ⟨a, ns, _, rfl, hS, by decide, fun c1 => ?_⟩
    walk_at "rd"
    refine ⟨by decide, ?_⟩
    rw [u1]; clear u1
    refine cut_of (fun σ H' => H' = H ∧ ∃ m : Nat, m ≤ 18 ∧ σ = [some (.ref a), some (.int 16), some (.int o), some (.int m), none, none, none]) ?_ ?_
    · walk_at "rd"
      refine ⟨a, ns, _, rfl, hS, by decide, fun c2 => ?_⟩
      walk_at "rd"
      refine ⟨⟨by decide, by decide⟩, by decide, ?_⟩
      split
      · exact ⟨18, by decide, rfl⟩
      · exact ⟨(c1 % 6).toNat, by omega, by rw [Int.toNat_of_nonneg (by omega)]⟩
    rintro σ H' ⟨rfl, m, m18, rfl⟩
    refine seq_of fun U1 u1 => ?_
    walk_at "rd"
    refine ⟨a, ns, _, rfl, hS, by decide, fun c3 => ?_⟩
    walk_at "rd"
    refine ⟨⟨by decide, by decide⟩, by decide, ?_⟩
    generalize decide (c3 / 4 % 2 = 1) = gr
    rw [u1]; clear u1
    refine seq_of fun U1 u1 => ?_
    walk_at "rd"
    refine ⟨a, ns, _, rfl, hS, by decide, fun c4 => ?_⟩
    walk_at "rd"
    refine ⟨⟨by decide, by decide, by decide⟩, by decide, ?_⟩
    generalize c4 % 10 ^ Int.toNat 9 = ex
    rw [u1]; clear u1
    refine seq_of fun U1 u1 => ?_
    walk_at "rd"
    refine ⟨_, hS, fun p hp => ?_⟩
    obtain ⟨ms, ems, hms⟩ := cut_map ns (some 5) (some 17)
    rw [ems]
    have g5 := same_new hp (.lst (ms.map V.int))
    refine ⟨⟨_, SqL.of upd_same⟩, fun D hD => for_listW (xs := ms.map V.int) (fun i σ H6 => ∃ l6 : List Int, H6 = upd (upd H' p (.lst (ms.map V.int))) D (.lst (l6.map V.int)) ∧ l6.length = i ∧ ∃ v0, σ = [v0]) ⟨[], rfl, rfl, none, rfl⟩ (fun i σ H6 _ ⟨l6, e6, _⟩ => by rw [e6]; exact SqL.of (same_new hD _ _ _ upd_same)) ?_ ?_⟩
    · rintro i v σ H6 hv ⟨l6, rfl, hl6, v0, rfl⟩
      obtain ⟨y, hy, rfl⟩ := map_item hv
      have hi := (List.getElem?_eq_some_iff.mp hy).1
      walk_at "rd"
      exact ⟨by decide, _, upd_same, small1000 (by rw [List.length_map]; omega), l6 ++ [y % 1000003], by rw [upd_upd, List.map_append]; rfl, by rw [List.length_append, hl6]; rfl⟩
    rintro σ H6 ⟨l6, rfl, hl6, v0, rfl⟩
    rw [List.length_map] at hl6
    have g6 := g5.trans (same_new hD (.lst (l6.map V.int)))
    refine ⟨by decide, _, _, rfl, by omega, by omega, fun r ys hr hyl _ => ⟨_, rfl, _, same_new hr _ _ _ upd_same, _, upd_same, small1000' (by rw [List.length_map, List.length_map]; omega), fun pn hpn => ?_⟩⟩
    rw [← List.map_append]
    have g7 := (g6.trans (same_new hr (.lst (ys.map V.int)))).trans (same_new hpn (.lst ((l6 ++ ys).map V.int)))
    have en : upd (upd (upd (upd H' p (.lst (ms.map V.int))) D (.lst (l6.map V.int))) r (.lst (ys.map V.int))) pn (.lst ((l6 ++ ys).map V.int)) pn = some (.lst ((l6 ++ ys).map V.int)) := upd_same
    revert g7 en
    generalize upd (upd (upd (upd H' p (.lst (ms.map V.int))) D (.lst (l6.map V.int))) r (.lst (ys.map V.int))) pn (.lst ((l6 ++ ys).map V.int)) = HN
    generalize l6 ++ ys = zs
    intro g7 en
    rw [u1]; clear u1
    walk_at "rd"
    refine ⟨_, SqL.of en, fun p2 hp2 => ?_⟩
    have e16 := cut_take (zs.map V.int) 16
    rw [show (((16 : Nat)) : Int) = 16 from rfl] at e16
    rw [e16, ← List.map_take]
    have g8 := g7.trans (same_new hp2 (.lst ((zs.take 16).map V.int)))
    have e8 : upd HN p2 (.lst ((zs.take 16).map V.int)) p2 = some (.lst ((zs.take 16).map V.int)) := upd_same
    revert g8 e8
    generalize upd HN p2 (.lst ((zs.take 16).map V.int)) = H8
    intro g8 e8
    refine ⟨⟨_, SqL.of e8⟩, fun L hL => for_listW (xs := (zs.take 16).map V.int) (fun i σ H9 => Same H8 H9 ∧ (∃ (us : List V) (ss : List Spt), ss.length = i ∧ H9 L = some (.lst us) ∧ Spts H9 us ss ∧ (∀ s ∈ ss, SpOk m o s) ∧ ∀ t a l, V.ref t ∈ us → H9 t = some (.tup [.int a, .ref l]) → l ≠ L) ∧ ∃ v0, σ = [v0, some (.int o), some (.int m), some (.bl gr)]) ⟨same_new hL _, ⟨[], [], rfl, upd_same, .nil, (fun s z => by cases z), fun t a l z => by cases z⟩, none, rfl⟩ (fun i σ H9 _ hh => SqL.of (hh.1 _ _ e8)) ?_ ?_⟩
    · rintro i v σ H9 hv ⟨g9, ⟨us, ss, hsl, e9, hS9, hok9, fr9⟩, v0, rfl⟩
      obtain ⟨y, hy, rfl⟩ := map_item hv
      have hi := (List.getElem?_eq_some_iff.mp hy).1
      rw [List.length_take] at hi
      have hul := Paired.length hS9
      walk_at "rd"
      refine ⟨_, o, m, gr, rfl, by omega, by omega, by omega, fun t l ts s H3 g3 hl3 ht3 e1 e2 hO3 ok3 => ?_⟩
      obtain ⟨n1, n2⟩ := Spts.grow e9 hS9 fr9 g3 hl3 e1 e2 hO3
      refine ⟨us, g3 _ _ e9, small1000 (by omega), same_upd hL (g9.trans g3) _, us ++ [.ref t], ss ++ [s], by rw [List.length_append, hsl]; rfl, upd_same, n1, fun x hx => ?_, n2⟩
      rcases List.mem_append.mp hx with z | z
      · exact hok9 x z
      · rw [List.mem_singleton.mp z]
        exact ok3
    rintro σ H9 ⟨g9, ⟨us, ss, hsl, e9, hS9, hok9, fr9⟩, v0, rfl⟩
    rw [List.length_map, List.length_take] at hsl
    refine ⟨by decide, fun t ht => ?_⟩
    have gt := same_new ht (.tup [.ref L, .int o, .int m])
    exact q t L us ss o m _ ((g8.trans g9).trans gt) upd_same (gt _ _ e9) (hS9.mono gt) (by omega) hok9 ho1 ho4 m18
def sp__law_picked (_ : PySem.W.Frag) (C_Market : Addr) : Sp := fun vs H Q _ => ∃ (p : Addr) (us : List V) (ss : List Spt) (c : Int), vs = [.ref p, .int c] ∧ H p = some (.lst us) ∧ Spts H us ss ∧ ss.length ≤ 20 ∧ (∀ s ∈ ss, s.fs ≠ [] ∧ s.fs.length ≤ 30) ∧ ∀ (r : Addr) (cs : List (Option Int)) (H' : Hp), Same H H' → H r = none → H' r = some (.lst (cs.map oV)) → ss.length = cs.length → (∀ (i : Nat) s c, ss[i]? = some s → cs[i]? = some c → c ∈ s.fs.map (·.1)) → Q (.ref r) H'
theorem sc__law_picked : FnScope ["_law_spots_here", "_law_cell", "_law_xs"] ["_law_spots_here", "_law_cell"] (defScope s__law_picked) := ⟨rfl, rfl, rfl, by decide +kernel, rfl, by decide +kernel, by decide +kernel⟩
theorem ok__law_picked {C_Market : Addr} {f : Addr} {fd : FuncData} (F : Fun K "_law_picked" "_law_picked" s__law_picked f fd) (T : Txt K mg C_Market) (C__law_stream : Cal P w K mg base "_law_stream" ["_law_cell", "_law_many"] 1 (sp__law_stream K C_Market)) : FnOk P w K mg base CX0 2 f fd ["_law_spots_here", "_law_cell"] (sp__law_picked K C_Market) := by
  refine F.ok sc__law_picked (fun vs H Q E h => ?_) (fun cdv A outer s H vs Q E hr h => ?_)
  · obtain ⟨p, us, ss, c, rfl, _⟩ := h
    rfl
  · obtain ⟨p, us, ss, c, rfl, hp, hS, hn, hf, q⟩ := h
    refine ⟨_, (pss_cons (ps_set (i := 2) sc__law_picked.nd rfl (Or.inr rfl) (pe_cal C__law_stream (hr.mono (by decide)) rfl (pa_cons (pv 1) (pa_cons (pe_callB (call_lenK (K := K) rfl) (by rfl) T.len PySem.boot_len (pa_cons (pv 0) pa_nil)) pa_nil))))
    (pss_one (ps_ret (pe_comp (own := ["_law_k", "_law_spot_here"]) (fnames := ["_law_xs"]) (fr := [2]) (N' := ["_law_k", "_law_spot_here", "_law_xs"]) ⟨rfl, rfl, rfl, rfl, rfl, rfl, rfl⟩ rfl (pi_enum_list rfl T.enumerate (pv 0)) (fun s0 H0 fp0 C0 => ⟨(pg_tupK (K := K) (n := 2) rfl rfl (pgs_cons (pg_name (i := 0) (by show (["_law_k", "_law_spot_here", "_law_xs"] : List Str).Nodup; decide +kernel) rfl (Or.inl rfl)) (pgs_cons (pg_name (i := 1) (by show (["_law_k", "_law_spot_here", "_law_xs"] : List Str).Nodup; decide +kernel) rfl (Or.inl rfl)) pgs_nil))), pts_nil, (pe_ix (ix_tupK (K := K) rfl) (pe_ix (ix_listK (K := K) rfl) (pe_ix (ix_tupK (K := K) rfl) (pv 1) pe_int (fun _ _ => rfl)) (pe_op op_mod (pe_ix (ix_listK (K := K) rfl) (pv 2) (pv 0) (fun _ _ => rfl)) (pe_callB (call_lenK (K := K) rfl) (by rfl) T.len PySem.boot_len (pa_cons (pe_ix (ix_tupK (K := K) rfl) (pv 1) pe_int (fun _ _ => rfl)) pa_nil))) (fun _ _ => rfl)) pe_int (fun _ _ => rfl))⟩))))), ?_⟩
    have hul := Paired.length hS
    refine seq_of fun U1 u1 => ?_
    walk_at "rd"
    refine ⟨_, .inl (SqL.of hp), _, _, rfl, by omega, by omega, fun r xs hr hxl _ => ?_⟩
    have g1 := same_new hr (.lst (xs.map V.int))
    have er : upd H r (.lst (xs.map V.int)) r = some (.lst (xs.map V.int)) := upd_same
    revert g1 er
    generalize upd H r (.lst (xs.map V.int)) = H1
    intro g1 er
    rw [u1]; clear u1
    walk_at "rd"
    refine ⟨⟨_, SqL.of (g1 _ _ hp)⟩, fun L hL => for_enumW (xs := us) (fun i σ H' => Same H1 H' ∧ (∃ cs : List (Option Int), H' L = some (.lst (cs.map oV)) ∧ cs.length = i ∧ ∀ (j : Nat) s c, ss[j]? = some s → cs[j]? = some c → c ∈ s.fs.map (·.1)) ∧ ∃ v0 v1, σ = [v0, v1, some (.ref r)]) ⟨same_new hL _, ⟨[], upd_same, rfl, fun j s c _ z => by simp at z⟩, none, none, rfl⟩ (fun i σ H' _ hh => SqL.of (hh.1 _ _ (g1 _ _ hp))) ?_ ?_⟩
    · rintro i x σ H' t hx ⟨g, ⟨cs, e, hcl, hcc⟩, v0, v1, rfl⟩ ht
      obtain ⟨s, hs, t2, l2, ts2, rfl, q1, q2, q3⟩ := Paired.get' hS hx
      have hi := (List.getElem?_eq_some_iff.mp hs).1
      obtain ⟨f1, f2⟩ := hf s (List.mem_of_getElem? hs)
      have gt := same_new ht (.tup [.int ((0 + i : Nat) : Int), .ref t2])
      have gg := (g1.trans g).trans gt
      obtain ⟨y, hy⟩ := item_of (ns := xs) (k := ((0 + i : Nat) : Int)) (by omega) (by omega)
      have htl := Paired.length q3
      have hfp := List.length_pos_iff.mpr f1
      obtain ⟨n, en, hn2⟩ : ∃ n : Nat, y % (s.fs.length : Int) = n ∧ n < s.fs.length := ⟨(y % (s.fs.length : Int)).toNat, by have := Int.emod_nonneg y (b := (s.fs.length : Int)) (by omega); omega, by have := Int.emod_lt_of_pos y (b := (s.fs.length : Int)) (by omega); have := Int.emod_nonneg y (b := (s.fs.length : Int)) (by omega); omega⟩
      have hfn := List.getElem?_eq_getElem hn2
      obtain ⟨t3, hv3, q4⟩ := q3.get hfn
      walk_at "rd"
      refine ⟨_, SqT.of upd_same, rfl, _, _, rfl, _, _, rfl, rfl, ?_⟩
      walk_at "rd"
      have q1' := gg _ _ q1
      have q2' := gg _ _ q2
      refine ⟨_, SqT.of q1', _, rfl, _, SqL.of (gt _ _ (g _ _ er)), _, hy, _, SqT.of q1', _, rfl, l2, rfl, _, .inl (SqL.of q2'), y, rfl, by omega, l2, rfl, _, SqL.of q2', _, by rw [htl, en]; exact atI_nat hv3, t3, rfl, _, SqT.of (gg _ _ q4), _, rfl, _, gt _ _ e, small1000 (by rw [List.length_map]; omega), same_upd hL (g.trans gt) _, cs ++ [(s.fs[n]).1], by rw [upd_same, List.map_append]; rfl, by rw [List.length_append, hcl]; rfl, fun j s' c' h1 h2 => ?_⟩
      by_cases hj : j < cs.length
      · rw [List.getElem?_append_left hj] at h2
        exact hcc j s' c' h1 h2
      · rw [List.getElem?_append_right (by omega)] at h2
        have hj0 := (List.getElem?_eq_some_iff.mp h2).1
        have hj1 : j = i := by simp at hj0; omega
        subst hj1
        rw [hs] at h1
        cases h1
        rw [show j - cs.length = 0 by omega] at h2
        cases h2
        exact List.mem_map_of_mem (List.getElem_mem hn2)
    rintro σ H' ⟨g, ⟨cs, e, hcl, hcc⟩, v0, v1, rfl⟩
    exact q L cs H' (g1.trans g) (g1.free hL) e (by omega) hcc
def sp__law_counts (_ : PySem.W.Frag) (C_Market : Addr) : Sp := fun vs H Q _ => ∃ (p d : Addr) (us : List V) (ss : List Spt) (cs : List (Option Int)) (O M : Nat), vs = [.ref p, .int O, .int M, .ref d] ∧ H p = some (.lst us) ∧ Spts H us ss ∧ H d = some (.lst (cs.map oV)) ∧ ss.length = cs.length ∧ ss.length ≤ 20 ∧ O ≤ 30 ∧ M ≤ 30 ∧ (∀ s ∈ ss, 0 ≤ s.o ∧ s.o < (O : Int)) ∧ ∀ (t g b : Addr) (H' : Hp), Same H H' → H' t = some (.tup [.ref g, .ref b]) → H' g = some (.lst ((il M (gotN cs)).map V.int)) → H' b = some (.lst ((il O (busyN ss cs)).map V.int)) → Q (.ref t) H'
theorem sc__law_counts : FnScope ["_law_spots_here", "_law_owners", "_law_many", "_law_dealt", "_law_got", "_law_busy", "_law_k", "_law_column"] ["_law_spots_here", "_law_owners", "_law_many", "_law_dealt"] (defScope s__law_counts) := ⟨rfl, rfl, rfl, by decide +kernel, rfl, by decide +kernel, by decide +kernel⟩
theorem ok__law_counts {C_Market : Addr} {f : Addr} {fd : FuncData} (F : Fun K "_law_counts" "_law_counts" s__law_counts f fd) (T : Txt K mg C_Market)  : FnOk P w K mg base CX0 1 f fd ["_law_spots_here", "_law_owners", "_law_many", "_law_dealt"] (sp__law_counts K C_Market) := by
  refine F.ok sc__law_counts (fun vs H Q E h => ?_) (fun cdv A outer s H vs Q E hr h => ?_)
  · obtain ⟨p, d, us, ss, cs, O, M, rfl, _⟩ := h
    rfl
  · obtain ⟨p, d, us, ss, cs, O, M, rfl, hp, hS, hd, hlen, hn, hO, hM, ho, q⟩ := h
    refine ⟨_, (pss_cons (ps_comp (i := 4) sc__law_counts.nd rfl rfl (own := ["_law_column"]) (fnames := ["_law_dealt"]) (fr := [3]) (N' := ["_law_column", "_law_dealt"]) ⟨rfl, rfl, rfl, rfl, rfl, rfl, rfl⟩ rfl (pi_range1 rfl T.range (pa_cons (pv 2) pa_nil)) (fun s0 H0 fp0 C0 => ⟨(pg_name (i := 0) (by show (["_law_column", "_law_dealt"] : List Str).Nodup; decide +kernel) rfl (Or.inl rfl)), pts_nil, (pe_bmK (K := K) rfl PySem.F.plainAttrs_list PySem.F.slot_list_count PySem.F.type_list_count mt_count (pv 1) (pa_cons (pv 0) pa_nil))⟩))
    (pss_cons (ps_comp (i := 5) sc__law_counts.nd rfl rfl (own := ["_law_owner"]) (fnames := []) (fr := []) (N' := ["_law_owner"]) ⟨rfl, rfl, rfl, rfl, rfl, rfl, rfl⟩ rfl (pi_range1 rfl T.range (pa_cons (pv 1) pa_nil)) (fun s0 H0 fp0 C0 => ⟨(pg_name (i := 0) (by show (["_law_owner"] : List Str).Nodup; decide +kernel) rfl (Or.inl rfl)), pts_nil, pe_int⟩))
    (pss_cons (ps_for PassesOwn.never rfl (pi_enum_list rfl T.enumerate (pv 3)) (pg_tup (n := 2) rfl (pgs_cons (pg_name (i := 6) sc__law_counts.nd rfl (Or.inl rfl)) (pgs_cons (pg_name (i := 7) sc__law_counts.nd rfl (Or.inl rfl)) pgs_nil)))
      (pss_one (ps_if (pt_cmpR op_notN (pv 7) pe_non (nomark _)) (pss_one (ps_asg (pe_op op_add (pe_ix ix_list (pv 5) (pe_ix ix_tup (pe_ix ix_list (pv 0) (pv 6) (fun _ _ => rfl)) pe_int (fun _ _ => rfl)) (fun _ _ => rfl)) pe_int) (pg_sub (pv 5) (pe_ix ix_tup (pe_ix ix_list (pv 0) (pv 6) (fun _ _ => rfl)) pe_int (fun _ _ => rfl)) set_list))) pss_nil)))
    (pss_one (ps_ret (pe_tup (pa_cons (pv 4) (pa_cons (pv 5) pa_nil)))))))), ?_⟩
    have hul := Paired.length hS
    refine seq_of fun U1 u1 => ?_
    walk_at "rd"
    refine ⟨by omega, by omega, fun L hL => for_rangeW (fun i σ H' => H' = upd H L (.lst ((il i (gotN cs)).map V.int)) ∧ ∃ v0, σ = [v0, some (.ref d)]) ⟨rfl, none, rfl⟩ ?_ ?_⟩
    · rintro i σ H' hi ⟨rfl, v0, rfl⟩
      rw [show (0 + (i : Int)) = i by omega]
      have gL := same_new hL (.lst ((il i (gotN cs)).map V.int))
      walk_at "rd"
      refine ⟨.inl ⟨rfl, _, SqL.of (gL _ _ hd)⟩, _, gL _ _ hd, rfl, os_flat cs, _, upd_same, small1000 (by rw [List.length_map, il_len]; omega), ?_⟩
      rw [os_count, upd_upd, il_snoc, List.map_append]
      rfl
    rintro σ H1 ⟨rfl, v0, rfl⟩
    rw [Int.toNat_natCast]
    have g1 := same_new hL (.lst ((il M (gotN cs)).map V.int))
    have eL : upd H L (.lst ((il M (gotN cs)).map V.int)) L = some (.lst ((il M (gotN cs)).map V.int)) := upd_same
    revert g1 eL
    generalize upd H L (.lst ((il M (gotN cs)).map V.int)) = H1
    intro g1 eL
    rw [u1]; clear u1
    refine seq_of fun U1 u1 => ?_
    walk_at "rd"
    refine ⟨by omega, by omega, fun B hB => for_rangeW (fun i σ H' => H' = upd H1 B (.lst ((il i fun _ => 0).map V.int)) ∧ ∃ v0, σ = [v0]) ⟨rfl, none, rfl⟩ ?_ ?_⟩
    · rintro i σ H' hi ⟨rfl, v0, rfl⟩
      walk_at "rd"
      refine ⟨_, upd_same, small1000 (by rw [List.length_map, il_len]; omega), ?_⟩
      rw [upd_upd, il_snoc, List.map_append]
      rfl
    rintro σ H2 ⟨rfl, v0, rfl⟩
    rw [Int.toNat_natCast]
    have g2 := same_new hB (.lst ((il O fun _ => 0).map V.int))
    have hB0 : H B = none := g1.free hB
    have nBL : B ≠ L := (ne_of_none eL hB).symm
    rw [u1]; clear u1
    refine seq_of fun U1 u1 => for_of fun B1 b1 => ?_
    walk_at "rd"
    refine ⟨⟨_, SqL.of (g2 _ _ (g1 _ _ hd))⟩, for_enumW (xs := cs.map oV) (fun i σ H' => ∃ (v6 v7 : Option V), Same H H' ∧ H' L = some (.lst ((il M (gotN cs)).map V.int)) ∧ H' B = some (.lst ((il O (busyN (ss.take i) (cs.take i))).map V.int)) ∧ σ = [some (.ref p), some (.int O), some (.int M), some (.ref d), some (.ref L), some (.ref B), v6, v7]) ⟨none, none, g1.trans g2, g2 _ _ eL, upd_same, rfl⟩ (fun i σ H' _ ⟨_, _, g, _⟩ => SqL.of (g _ _ hd)) ?_ ?_⟩
    · rintro i x σ H' t hx ⟨v6, v7, g, e1, e2, rfl⟩ ht
      obtain ⟨c, hc, rfl⟩ := os_item hx
      have hi := (List.getElem?_eq_some_iff.mp hc).1
      have hsi := List.getElem?_eq_getElem (show i < ss.length by omega)
      obtain ⟨t2, l2, ts2, a2, q1, q2, q3⟩ := hS.get hsi
      obtain ⟨o0, o1⟩ := ho _ (List.mem_of_getElem? hsi)
      obtain ⟨o, eo⟩ : ∃ o : Nat, (ss[i]).o = o := ⟨(ss[i]).o.toNat, by omega⟩
      have hol : o < O := by omega
      have gt := same_new ht (.tup [.int ((0 + i : Nat) : Int), oV c])
      have gg := g.trans gt
      walk_at "rd"
      refine ⟨_, SqT.of upd_same, rfl, _, _, rfl, _, _, rfl, rfl, ?_⟩
      rw [b1]
      walk_at "rd"
      have hll : (ss.take i).length = (cs.take i).length := by rw [List.length_take, List.length_take]; omega
      have ai : atI us ((0 + i : Nat) : Int) = some (.ref t2) := by rw [Nat.zero_add]; exact atI_nat a2
      rw [take_one hsi, take_one hc]
      cases c with
      | none =>
        rw [if_neg (fun w => w rfl), busy_none hll]
        exact ⟨gg, gt _ _ e1, gt _ _ e2⟩
      | some x =>
        rw [if_pos (by intro w; cases w)]
        have e2' := gt _ _ e2
        have hp' := gg _ _ hp
        have q1' := gg _ _ q1
        refine ⟨_, SqL.of hp', _, ai, t2, rfl, _, SqT.of q1', _, rfl, _, _, rfl, SqL.of e2', .int (busyN (ss.take i) (cs.take i) o), by rw [eo]; exact atI_nat (by rw [List.getElem?_map, il_get hol]; rfl), _, rfl, _, SqL.of hp', _, ai, t2, rfl, _, SqT.of q1', _, rfl, _, _, rfl, e2', o, by rw [eo, List.length_map, il_len]; exact ixN_lt hol, same_upd hB0 gg _, by rw [upd_ne nBL.symm]; exact gt _ _ e1, ?_⟩
        rw [upd_same, set_ints, busy_set hll eo]
    rintro σ H' ⟨v6, v7, g, e1, e2, rfl⟩
    rw [List.length_map, List.take_length, ← hlen, List.take_length] at e2
    rw [u1]; clear u1
    walk_at "rd"
    refine ⟨by decide, fun t ht => ?_⟩
    have gt := same_new ht (.tup [.ref L, .ref B])
    exact q t L B _ (g.trans gt) upd_same (gt _ _ e1) (gt _ _ e2)
def sp__law_limit (_ : PySem.W.Frag) (C_Market : Addr) : Sp := fun vs H Q _ => ∃ b n : Int, vs = [.int b, .int n] ∧ 0 ≤ b ∧ b ≤ 100 ∧ ∀ v : Int, b ≤ v → v < 2 ^ 40 → Q (.int v) H
theorem sc__law_limit : FnScope ["_law_busy", "_law_number"] ["_law_busy", "_law_number"] (defScope s__law_limit) := ⟨rfl, rfl, rfl, by decide +kernel, rfl, by decide +kernel, by decide +kernel⟩
theorem ok__law_limit {C_Market : Addr} {f : Addr} {fd : FuncData} (F : Fun K "_law_limit" "_law_limit" s__law_limit f fd) (T : Txt K mg C_Market)  : FnOk P w K mg base CX0 1 f fd ["_law_busy", "_law_number"] (sp__law_limit K C_Market) := by
  refine F.ok sc__law_limit (fun vs H Q E h => ?_) (fun cdv A outer s H vs Q E hr h => ?_)
  · obtain ⟨b, n, rfl, _⟩ := h
    rfl
  · obtain ⟨b, n, rfl, b0, b1, q⟩ := h
    refine ⟨_, (pss_cons (ps_if (pt_cmpR op_eq (pe_op op_mod (pv 1) pe_int) pe_int (nomark _)) (pss_one (ps_ret (pe_op op_sub (pe_op op_pow pe_int pe_int) (pe_op op_mod (pe_op op_fdiv (pv 1) pe_int) pe_int)))) pss_nil)
    (pss_one (ps_ret (pe_op op_add (pv 0) (pe_op op_fdiv (pe_op op_mod (pe_op op_fdiv (pv 1) pe_int) pe_int) pe_int))))), ?_⟩
    walk_at "rd"
    refine ⟨by decide, ?_⟩
    split
    · refine ⟨⟨by decide, by decide, by decide⟩, ⟨by decide, by decide⟩, by decide, q _ ?_ ?_⟩
      · rw [show (10 : Int) ^ Int.toNat 9 = 1000000000 by decide]
        omega
      · rw [show (10 : Int) ^ Int.toNat 9 = 1000000000 by decide]
        omega
    · exact ⟨⟨by decide, by decide⟩, by decide, ⟨by decide, by decide⟩, q _ (by omega) (by omega)⟩
def sp__law_copy (_ : PySem.W.Frag) (C_Market : Addr) : Sp := fun vs H Q _ => ∃ (p : Addr) (us : List V) (ss : List Spt), vs = [.ref p] ∧ H p = some (.lst us) ∧ Spts H us ss ∧ ss.length ≤ 20 ∧ ∀ (r : Addr) (us' : List V) (H' : Hp), Same H H' → H r = none → H' r = some (.lst us') → Spts H' us' ss → Q (.ref r) H'
theorem sc__law_copy : FnScope ["_law_spots_here"] ["_law_spots_here"] (defScope s__law_copy) := ⟨rfl, rfl, rfl, by decide +kernel, rfl, by decide +kernel, by decide +kernel⟩
theorem ok__law_copy {C_Market : Addr} {f : Addr} {fd : FuncData} (F : Fun K "_law_copy" "_law_copy" s__law_copy f fd) (T : Txt K mg C_Market)  : FnOk P w K mg base CX0 1 f fd ["_law_spots_here"] (sp__law_copy K C_Market) := by
  refine F.ok sc__law_copy (fun vs H Q E h => ?_) (fun cdv A outer s H vs Q E hr h => ?_)
  · obtain ⟨p, us, ss, rfl, _⟩ := h
    rfl
  · obtain ⟨p, us, ss, rfl, hp, hS, hn, q⟩ := h
    refine ⟨_, (pss_one (ps_ret (pe_comp (own := ["_law_owner", "_law_offers"]) (fnames := []) (fr := []) (N' := ["_law_owner", "_law_offers"]) ⟨rfl, rfl, rfl, rfl, rfl, rfl, rfl⟩ rfl (pi_list (pv 0)) (fun s0 H0 fp0 C0 => ⟨(pg_tupK (K := K) (n := 2) rfl rfl (pgs_cons (pg_name (i := 0) (by show (["_law_owner", "_law_offers"] : List Str).Nodup; decide +kernel) rfl (Or.inl rfl)) (pgs_cons (pg_name (i := 1) (by show (["_law_owner", "_law_offers"] : List Str).Nodup; decide +kernel) rfl (Or.inl rfl)) pgs_nil))), pts_nil, (pe_tup (pa_cons (pv 0) (pa_cons (pe_callTy (call_listK (K := K) rfl) (by rfl) T.list PyProof.Rows.boot_list (pa_cons (pv 1) pa_nil)) pa_nil)))⟩)))), ?_⟩
    have hul := Paired.length hS
    walk_at "rd"
    refine ⟨⟨_, SqL.of hp⟩, fun L hL => for_listW (xs := us) (fun i σ H' => Same H H' ∧ (∃ us' : List V, us'.length = i ∧ H' L = some (.lst us') ∧ Spts H' us' (ss.take i) ∧ ∀ t a l, V.ref t ∈ us' → H' t = some (.tup [.int a, .ref l]) → l ≠ L) ∧ ∃ v0 v1, σ = [v0, v1]) ⟨same_new hL _, ⟨[], rfl, upd_same, .nil, fun t a l z => by cases z⟩, none, none, rfl⟩ (fun i σ H' _ hh => SqL.of (hh.1 _ _ hp)) ?_ ?_⟩
    · rintro i v σ H' hv ⟨g, ⟨us', hu', e, hS', fr⟩, v0, v1, rfl⟩
      obtain ⟨s, hs, t2, l2, ts2, rfl, q1, q2, q3⟩ := Paired.get' hS hv
      have hi := (List.getElem?_eq_some_iff.mp hs).1
      walk_at "rd"
      refine ⟨_, SqT.of (g _ _ q1), rfl, _, _, rfl, _, _, rfl, rfl, ?_⟩
      walk_at "rd"
      refine ⟨_, .inl (SqL.of (g _ _ q2)), fun l hl => ⟨by decide, fun t ht => ?_⟩⟩
      have a1 := same_new hl (.lst ts2)
      have a2 := a1.trans (same_new ht (.tup [.int s.o, .ref l]))
      have nLl : l ≠ L := (ne_of_none e hl).symm
      have key : ∀ t' a' l', V.ref t' ∈ us' ++ [.ref t] → upd (upd H' l (.lst ts2)) t (.tup [.int s.o, .ref l]) t' = some (.tup [.int a', .ref l']) → l' ≠ L := by
        intro t' a' l' ht' e'
        rcases List.mem_append.mp ht' with z | z
        · obtain ⟨a3, l3, e3⟩ := hS'.tup z
          rw [a2 _ _ e3] at e'
          cases e'
          exact fr t' _ _ z e3
        · cases List.mem_singleton.mp z
          rw [upd_same] at e'
          cases e'
          exact nLl
      refine ⟨us', a2 _ _ e, small1000 (by omega), same_upd hL (g.trans a2) _, us' ++ [.ref t], by rw [List.length_append, hu']; rfl, upd_same, ?_, fun t' a' l' ht' e' => key t' a' l' ht' ?_⟩
      · rw [take_one hs]
        exact Spts.off (paired_snoc (hS'.mono a2) ⟨t, l, ts2, rfl, upd_same, same_new ht _ _ _ upd_same, q3.mono (g.trans a2)⟩) (fun xs z => by rw [a2 _ _ e] at z; cases z) key
      · by_cases z : t' = L
        · subst z
          rw [upd_same] at e'
          cases e'
        · rw [upd_ne z] at e'
          exact e'
    rintro σ H' ⟨g, ⟨us', hu', e, hS', fr⟩, v0, v1, rfl⟩
    rw [hul, List.take_length] at hS'
    exact q L us' H' g hL e hS'
def sp__law_whole (_ : PySem.W.Frag) (C_Market : Addr) : Sp := fun vs H Q _ => ∃ i : Int, vs = [.int i] ∧ Q (.bl true) H
theorem sc__law_whole : FnScope ["_law_found"] ["_law_found"] (defScope s__law_whole) := ⟨rfl, rfl, rfl, by decide +kernel, rfl, by decide +kernel, by decide +kernel⟩
theorem ok__law_whole {C_Market : Addr} {f : Addr} {fd : FuncData} (F : Fun K "_law_whole" "_law_whole" s__law_whole f fd) (T : Txt K mg C_Market)  : FnOk P w K mg base CX0 1 f fd ["_law_found"] (sp__law_whole K C_Market) := by
  refine F.ok sc__law_whole (fun vs H Q E h => ?_) (fun cdv A outer s H vs Q E hr h => ?_)
  · obtain ⟨i, rfl, _⟩ := h
    rfl
  · obtain ⟨i, rfl, q⟩ := h
    refine ⟨_, (pss_one (ps_ret (pe_and (pe_callB call_isi (by rfl) T.isinstance PyProof.Rows.boot_isinstance (pa_cons (pv 0) (pa_cons (pe_bltn (v := .ty "int") rfl T.int PyProof.Rows.boot_int rfl) pa_nil))) (pe_one (pe_not (pe_callB call_isi (by rfl) T.isinstance PyProof.Rows.boot_isinstance (pa_cons (pv 0) (pa_cons (pe_bltn (v := .ty "bool") rfl T.bool PyProof.Rows.boot_bool rfl) pa_nil)))))))), ?_⟩
    walk_at "rd"
    exact q
def sp__law_dealing (K : PySem.W.Frag) (C_Market : Addr) : Sp := fun vs H Q _ => ∃ (p c l d : Addr) (us : List V) (ss : List Spt) (cols lim : List Int) (cs : List (Option Int)), vs = [.ref p, .ref c, .ref l, .ref d] ∧ H p = some (.lst us) ∧ Spts H us ss ∧ H c = some (.lst (cols.map V.int)) ∧ H l = some (.lst (lim.map V.int)) ∧ H d = some (.lst (cs.map oV)) ∧ ss.length ≤ 20 ∧ cs.length ≤ 40 ∧ cols.length ≤ 30 ∧ lim.length ≤ 30 ∧ (∀ s ∈ ss, SpOk cols.length lim.length s) ∧ ∀ H', Same H H' → Q (.bl (dealB ss cols lim cs)) H'
theorem sc__law_dealing : FnScope ["_law_spots_here", "_law_columns", "_law_limits", "_law_dealt", "_law_k", "_law_got", "_law_busy"] ["_law_spots_here", "_law_columns", "_law_limits", "_law_dealt"] (defScope s__law_dealing) := ⟨rfl, rfl, rfl, by decide +kernel, rfl, by decide +kernel, by decide +kernel⟩
theorem ok__law_dealing {C_Market : Addr} {f : Addr} {fd : FuncData} (F : Fun K "_law_dealing" "_law_dealing" s__law_dealing f fd) (T : Txt K mg C_Market) (C__law_counts : Cal P w K mg base "_law_counts" ["_law_spots_here", "_law_owners", "_law_many", "_law_dealt"] 1 (sp__law_counts K C_Market)) (C__law_whole : Cal P w K mg base "_law_whole" ["_law_found"] 1 (sp__law_whole K C_Market)) : FnOk P w K mg base CX0 2 f fd ["_law_spots_here", "_law_columns", "_law_limits", "_law_dealt"] (sp__law_dealing K C_Market) := by
  refine F.ok sc__law_dealing (fun vs H Q E h => ?_) (fun cdv A outer s H vs Q E hr h => ?_)
  · obtain ⟨p, c, l, d, us, ss, cols, lim, cs, rfl, _⟩ := h
    rfl
  · obtain ⟨p, c, l, d, us, ss, cols, lim, cs, rfl, hp, hS, hc, hl, hd, n1, n2, n3, n4, hok, q⟩ := h
    refine ⟨_, (pss_cons (ps_if (PW.pt (pw_or (pt_not (pt_val (pe_callB call_isi (by rfl) T.isinstance PyProof.Rows.boot_isinstance (pa_cons (pv 3) (pa_cons (pe_bltn (v := .ty "list") rfl T.list PyProof.Rows.boot_list rfl) pa_nil))))) (pw_or1 (pt_cmpR op_ne (pe_callB (call_lenK (K := K) rfl) (by rfl) T.len PySem.boot_len (pa_cons (pv 3) pa_nil)) (pe_callB (call_lenK (K := K) rfl) (by rfl) T.len PySem.boot_len (pa_cons (pv 0) pa_nil)) (nomark _))))) (pss_one (ps_ret pe_bl)) pss_nil)
    (pss_cons (ps_for PassesOwn.never rfl (pi_range1 rfl T.range (pa_cons (pe_callB (call_lenK (K := K) rfl) (by rfl) T.len PySem.boot_len (pa_cons (pv 0) pa_nil)) pa_nil)) (pg_name (i := 4) sc__law_dealing.nd rfl (Or.inl rfl))
      (pss_cons (ps_if (PW.pt (pw_and (pt_cmpR op_notN (pe_ix ix_list (pv 3) (pv 4) (fun _ _ => rfl)) pe_non (nomark _)) (pw_and1 (pt_not (pt_val (pe_cal C__law_whole (hr.mono (by decide)) rfl (pa_cons (pe_ix ix_list (pv 3) (pv 4) (fun _ _ => rfl)) pa_nil))))))) (pss_one (ps_ret pe_bl)) pss_nil)
        (pss_one (ps_if (pt_cmpR op_notIn_seq (pe_ix ix_list (pv 3) (pv 4) (fun _ _ => rfl)) (pe_comp (own := ["_law_offer"]) (fnames := []) (fr := []) (N' := ["_law_offer"]) ⟨rfl, rfl, rfl, rfl, rfl, rfl, rfl⟩ rfl (pi_list (pe_ix ix_tup (pe_ix ix_list (pv 0) (pv 4) (fun _ _ => rfl)) pe_int (fun _ _ => rfl))) (fun s0 H0 fp0 C0 => ⟨(pg_name (i := 0) (by show (["_law_offer"] : List Str).Nodup; decide +kernel) rfl (Or.inl rfl)), pts_nil, (pe_ix (ix_tupK (K := K) rfl) (pv 0) pe_int (fun _ _ => rfl))⟩)) (by with_unfolding_all rfl)) (pss_one (ps_ret pe_bl)) pss_nil))))
    (pss_cons (ps_asg (pe_cal C__law_counts (hr.mono (by decide)) rfl (pa_cons (pv 0) (pa_cons (pe_callB (call_lenK (K := K) rfl) (by rfl) T.len PySem.boot_len (pa_cons (pv 2) pa_nil)) (pa_cons (pe_callB (call_lenK (K := K) rfl) (by rfl) T.len PySem.boot_len (pa_cons (pv 1) pa_nil)) (pa_cons (pv 3) pa_nil))))) (pg_tup (n := 2) rfl (pgs_cons (pg_name (i := 5) sc__law_dealing.nd rfl (Or.inl rfl)) (pgs_cons (pg_name (i := 6) sc__law_dealing.nd rfl (Or.inl rfl)) pgs_nil))))
    (pss_cons (ps_for PassesOwn.never rfl (pi_range1 rfl T.range (pa_cons (pe_callB (call_lenK (K := K) rfl) (by rfl) T.len PySem.boot_len (pa_cons (pv 1) pa_nil)) pa_nil)) (pg_name (i := 4) sc__law_dealing.nd rfl (Or.inl rfl))
      (pss_one (ps_if (pt_cmpR op_lt (pe_ix ix_list (pv 5) (pv 4) (fun _ _ => rfl)) (pe_ix ix_list (pv 1) (pv 4) (fun _ _ => rfl)) (nomark _)) (pss_one (ps_ret pe_bl)) pss_nil)))
    (pss_cons (ps_for PassesOwn.never rfl (pi_range1 rfl T.range (pa_cons (pe_callB (call_lenK (K := K) rfl) (by rfl) T.len PySem.boot_len (pa_cons (pv 2) pa_nil)) pa_nil)) (pg_name (i := 4) sc__law_dealing.nd rfl (Or.inl rfl))
      (pss_one (ps_if (pt_cmpR op_gt (pe_ix ix_list (pv 6) (pv 4) (fun _ _ => rfl)) (pe_ix ix_list (pv 2) (pv 4) (fun _ _ => rfl)) (nomark _)) (pss_one (ps_ret pe_bl)) pss_nil)))
    (pss_one (ps_ret pe_bl))))))), ?_⟩
    have hul := Paired.length hS
    refine seq_of fun U1 u1 => ?_
    walk_at "rd"
    refine ⟨"list", .inl ⟨rfl, _, hd⟩, ?_⟩
    rw [if_neg (by decide)]
    refine ⟨_, .inl (SqL.of hd), _, .inl (SqL.of hp), ?_⟩
    rw [List.length_map, hul]
    by_cases hlen : cs.length = ss.length
    · rw [if_neg (fun w => w (by rw [hlen]))]
      rw [u1]; clear u1
      refine seq_of fun U1 u1 => for_of fun B1 b1 => ?_
      walk_at "rd"
      refine ⟨_, .inl (SqL.of hp), by omega, by omega, for_rangeW (fun i σ H' => ∃ v4 : Option V, Same H H' ∧ (∀ j, j < i → offAt ss cs j = true) ∧ σ = [some (.ref p), some (.ref c), some (.ref l), some (.ref d), v4, none, none]) ⟨none, Same.refl _, (fun j hj => by omega), rfl⟩ ?_ ?_⟩
      · rintro i σ H' hi ⟨v4, g, hof, rfl⟩
        rw [show (0 + (i : Int)) = i by omega]
        rw [hul, Int.toNat_natCast] at hi
        have hsi := List.getElem?_eq_getElem hi
        have hci := List.getElem?_eq_getElem (show i < cs.length by omega)
        have hcv : (cs.map oV)[i]? = some (oV cs[i]) := by rw [List.getElem?_map, hci]; rfl
        obtain ⟨t2, l2, ts2, a2, q1, q2, q3⟩ := hS.get hsi
        have htl := Paired.length q3
        have hfl := (hok _ (List.mem_of_getElem? hsi)).len
        rw [b1]
        refine seq_of fun U2 u2 => ?_
        walk_at "rd"
        refine ⟨_, SqL.of (g _ _ hd), _, atI_nat hcv, ?_⟩
        have hif : ∀ B : Hp → Prop, B H' → (if ¬ oV cs[i] = V.non then ∃ x, SqL K H' d x ∧ ∃ x_1, atI x ↑i = some x_1 ∧ sp__law_whole K C_Market [x_1] H' (fun x H1 => ∃ c_1, x = V.bl c_1 ∧ if c_1 = false then Q (V.bl false) H1 else B H1) E0 else B H') := by
          intro B hB
          by_cases z : oV cs[i] = V.non
          · rw [if_neg (fun w => w z)]
            exact hB
          · rw [if_pos z]
            obtain ⟨x, hx⟩ : ∃ x, cs[i] = some x := by
              cases hq : cs[i] with
              | none => exact absurd (by rw [hq]; rfl) z
              | some x => exact ⟨x, rfl⟩
            refine ⟨_, SqL.of (g _ _ hd), .int x, by rw [atI_nat hcv, hx]; rfl, x, rfl, true, rfl, ?_⟩
            rw [if_neg (by decide)]
            exact hB
        refine hif _ ?_
        clear hif
        rw [u2]; clear u2
        walk_at "rd"
        refine ⟨_, SqL.of (g _ _ hd), _, atI_nat hcv, _, SqL.of (g _ _ hp), _, atI_nat a2, t2, rfl, _, SqT.of (g _ _ q1), _, rfl, l2, rfl, ⟨_, SqL.of (g _ _ q2)⟩, fun D hD => for_listW (xs := ts2) (fun j σ H2 => Same H' H2 ∧ H2 D = some (.lst ((((ss[i]).fs.take j).map (·.1)).map oV)) ∧ ∃ v0, σ = [v0]) ⟨same_new hD _, upd_same, none, rfl⟩ (fun j σ H2 _ hh => SqL.of (hh.1 _ _ (g _ _ q2))) ?_ ?_⟩
        · rintro j v σ H2 hv ⟨g2, e2, v0, rfl⟩
          obtain ⟨f, hf', t3, rfl, q4⟩ := Paired.get' q3 hv
          have hj := (List.getElem?_eq_some_iff.mp hf').1
          walk_at "rd"
          refine ⟨_, SqT.of ((g.trans g2) _ _ q4), _, rfl, _, e2, small1000 (by rw [List.length_map, List.length_map, List.length_take]; omega), same_upd hD g2 _, ?_⟩
          rw [upd_same, take_one hf', List.map_append, List.map_append]
          rfl
        rintro σ H2 ⟨g2, e2, v0, rfl⟩
        rw [htl, List.take_length] at e2
        have hoa := offAt_of hsi hci
        refine ⟨_, .inl (SqL.of e2), oV_flat _, os_flat _, ?_⟩
        rw [inOs]
        by_cases z : cs[i] ∈ (ss[i]).fs.map (·.1)
        · rw [if_neg (by rw [decide_eq_true z]; decide)]
          refine ⟨g.trans g2, fun j hj => ?_⟩
          by_cases zj : j < i
          · exact hof j zj
          · have : j = i := by omega
            subst this
            rw [hoa]
            exact decide_eq_true z
        · rw [if_pos (decide_eq_false z), ← deal_off (cols := cols) (lim := lim) (off_at hi (by rw [hoa]; exact decide_eq_false z))]
          exact q _ (g.trans g2)
      rintro σ H1 ⟨v4, g1, hof, rfl⟩
      rw [hul, Int.toNat_natCast] at hof
      have ho : offB ss cs = true := by unfold offB; rw [decide_eq_true hlen, Bool.true_and]; exact all_true hof
      rw [u1]; clear u1
      refine seq_of fun U1 u1 => ?_
      walk_at "rd"
      refine ⟨_, .inl (SqL.of (g1 _ _ hl)), _, .inl (SqL.of (g1 _ _ hc)), p, d, us, ss, cs, lim.length, cols.length, by rw [List.length_map, List.length_map], g1 _ _ hp, hS.mono g1, g1 _ _ hd, hlen.symm, n1, n4, n3, fun s hs => (hok s hs).own, fun t pg pb H2 g2 ht hg hb => ?_⟩
      walk_at "rd"
      refine ⟨_, SqT.of ht, rfl, _, _, rfl, _, _, rfl, rfl, ?_⟩
      have g12 := g1.trans g2
      rw [u1]; clear u1
      refine seq_of fun U1 u1 => for_of fun B1 b1 => ?_
      walk_at "rd"
      refine ⟨_, .inl (SqL.of (g12 _ _ hc)), by omega, by rw [List.length_map]; omega, for_rangeW (fun i σ H' => ∃ v4 : Option V, H' = H2 ∧ (∀ j, j < i → enAt cols cs j = true) ∧ σ = [some (.ref p), some (.ref c), some (.ref l), some (.ref d), v4, some (.ref pg), some (.ref pb)]) ⟨_, rfl, (fun j hj => by omega), rfl⟩ ?_ ?_⟩
      · rintro i σ H' hi ⟨v4, rfl, hof', rfl⟩
        rw [show (0 + (i : Int)) = i by omega]
        rw [List.length_map, Int.toNat_natCast] at hi
        have e1 := List.getElem?_eq_getElem hi
        rw [b1]
        walk_at "rd"
        refine ⟨_, SqL.of hg, .int (gotN cs i), atI_nat (by rw [List.getElem?_map, il_get hi]; rfl), _, SqL.of (g12 _ _ hc), .int cols[i], atI_nat (by rw [List.getElem?_map, e1]; rfl), _, rfl, _, rfl, ?_⟩
        split
        · rename_i hlt
          rw [← deal_en (ss := ss) (lim := lim) (all_false hi (by unfold enAt; rw [getD_of e1]; exact decide_eq_false (Int.not_le.mpr hlt)))]
          exact q _ g12
        · rename_i hlt
          intro j hj
          by_cases z : j < i
          · exact hof' j z
          · have : j = i := by omega
            subst this
            unfold enAt
            rw [getD_of e1]
            exact decide_eq_true (Int.not_lt.mp hlt)
      rintro σ H' ⟨v4, rfl, hen, rfl⟩
      rw [List.length_map, Int.toNat_natCast] at hen
      have he : enB cols cs = true := all_true hen
      rw [u1]; clear u1
      refine seq_of fun U1 u1 => for_of fun B1 b1 => ?_
      walk_at "rd"
      refine ⟨_, .inl (SqL.of (g12 _ _ hl)), by omega, by rw [List.length_map]; omega, for_rangeW (fun i σ H2 => ∃ v4 : Option V, H2 = H' ∧ (∀ j, j < i → boAt ss lim cs j = true) ∧ σ = [some (.ref p), some (.ref c), some (.ref l), some (.ref d), v4, some (.ref pg), some (.ref pb)]) ⟨_, rfl, (fun j hj => by omega), rfl⟩ ?_ ?_⟩
      · rintro i σ H2 hi ⟨v4, rfl, hof', rfl⟩
        rw [show (0 + (i : Int)) = i by omega]
        rw [List.length_map, Int.toNat_natCast] at hi
        have e1 := List.getElem?_eq_getElem hi
        rw [b1]
        walk_at "rd"
        refine ⟨_, SqL.of hb, .int (busyN ss cs i), atI_nat (by rw [List.getElem?_map, il_get hi]; rfl), _, SqL.of (g12 _ _ hl), .int lim[i], atI_nat (by rw [List.getElem?_map, e1]; rfl), _, rfl, _, rfl, ?_⟩
        split
        · rename_i hlt
          rw [← deal_bo (cols := cols) (all_false hi (by unfold boAt; rw [getD_of e1]; exact decide_eq_false (Int.not_le.mpr hlt)))]
          exact q _ g12
        · rename_i hlt
          intro j hj
          by_cases z : j < i
          · exact hof' j z
          · have : j = i := by omega
            subst this
            unfold boAt
            rw [getD_of e1]
            exact decide_eq_true (Int.not_lt.mp hlt)
      rintro σ H2 ⟨v4, rfl, hbo, rfl⟩
      rw [List.length_map, Int.toNat_natCast] at hbo
      have hb2 : boB ss lim cs = true := all_true hbo
      rw [u1]; clear u1
      walk_at "rd"
      have := q _ g12
      unfold dealB at this
      rw [ho, he, hb2] at this
      exact this
    · rw [if_pos (fun w => hlen (by omega)), ← deal_off (cols := cols) (lim := lim) (off_len hlen)]
      exact q H (Same.refl _)
def sp__law_cost_of (K : PySem.W.Frag) (C_Market : Addr) : Sp := fun vs H Q _ => ∃ (p d : Addr) (us : List V) (ss : List Spt) (cs : List (Option Int)), vs = [.ref p, .ref d] ∧ H p = some (.lst us) ∧ Spts H us ss ∧ H d = some (.lst (cs.map oV)) ∧ ss.length = cs.length ∧ ss.length ≤ 20 ∧ (∀ s ∈ ss, s.fs.length ≤ 30 ∧ (s.fs.map (·.1)).Nodup) ∧ (∀ (i : Nat) s c, ss[i]? = some s → cs[i]? = some c → c ∈ s.fs.map (·.1)) ∧ ∀ H', Same H H' → Q (.int (costOf ss cs)) H'
theorem sc__law_cost_of : FnScope ["_law_spots_here", "_law_dealt", "_law_due_here", "_law_k"] ["_law_spots_here", "_law_dealt"] (defScope s__law_cost_of) := ⟨rfl, rfl, rfl, by decide +kernel, rfl, by decide +kernel, by decide +kernel⟩
theorem ok__law_cost_of {C_Market : Addr} {f : Addr} {fd : FuncData} (F : Fun K "_law_cost_of" "_law_cost_of" s__law_cost_of f fd) (T : Txt K mg C_Market)  : FnOk P w K mg base CX0 1 f fd ["_law_spots_here", "_law_dealt"] (sp__law_cost_of K C_Market) := by
  refine F.ok sc__law_cost_of (fun vs H Q E h => ?_) (fun cdv A outer s H vs Q E hr h => ?_)
  · obtain ⟨p, d, us, ss, cs, rfl, _⟩ := h
    rfl
  · obtain ⟨p, d, us, ss, cs, rfl, hp, hS, hd, hlen, hn, hf, hin, q⟩ := h
    refine ⟨_, (pss_cons (ps_set (i := 2) sc__law_cost_of.nd rfl (Or.inl rfl) pe_int)
    (pss_cons (ps_for PassesOwn.never rfl (pi_range1 rfl T.range (pa_cons (pe_callB (call_lenK (K := K) rfl) (by rfl) T.len PySem.boot_len (pa_cons (pv 0) pa_nil)) pa_nil)) (pg_name (i := 3) sc__law_cost_of.nd rfl (Or.inr rfl))
      (pss_one (ps_set (i := 2) sc__law_cost_of.nd rfl (Or.inl rfl) (pe_op op_add (pv 2) (pe_ix ix_list (pe_comp (own := ["_law_column", "_law_cost_here"]) (fnames := ["_law_dealt", "_law_k"]) (fr := [1, 3]) (N' := ["_law_column", "_law_cost_here", "_law_dealt", "_law_k"]) ⟨rfl, rfl, rfl, rfl, rfl, rfl, rfl⟩ rfl (pi_list (pe_ix ix_tup (pe_ix ix_list (pv 0) (pv 3) (fun _ _ => rfl)) pe_int (fun _ _ => rfl))) (fun s0 H0 fp0 C0 => ⟨(pg_tupK (K := K) (n := 2) rfl rfl (pgs_cons (pg_name (i := 0) (by show (["_law_column", "_law_cost_here", "_law_dealt", "_law_k"] : List Str).Nodup; decide +kernel) rfl (Or.inl rfl)) (pgs_cons (pg_name (i := 1) (by show (["_law_column", "_law_cost_here", "_law_dealt", "_law_k"] : List Str).Nodup; decide +kernel) rfl (Or.inl rfl)) pgs_nil))), (pts_one (pt_cmpR op_eq (pv 0) (pe_ix (ix_listK (K := K) rfl) (pv 2) (pv 3) (fun _ _ => rfl)) (nomark _))), (pv 1)⟩)) pe_int (fun _ _ => rfl))))))
    (pss_one (ps_ret (pv 2))))), ?_⟩
    have hul := Paired.length hS
    refine seq_of fun U1 u1 => ?_
    walk_at "rd"
    rw [u1]; clear u1
    refine seq_of fun U1 u1 => for_of fun B1 b1 => ?_
    walk_at "rd"
    refine ⟨_, .inl (SqL.of hp), by omega, by omega, for_rangeW (fun i σ H' => ∃ v3 : Option V, Same H H' ∧ σ = [some (.ref p), some (.ref d), some (.int (costOf (ss.take i) (cs.take i))), v3]) ⟨none, Same.refl _, by simp [costOf]⟩ ?_ ?_⟩
    · rintro i σ H' hi ⟨v3, g, rfl⟩
      rw [show (0 + (i : Int)) = i by omega]
      rw [hul, Int.toNat_natCast] at hi
      have hsi := List.getElem?_eq_getElem hi
      have hci := List.getElem?_eq_getElem (show i < cs.length by omega)
      obtain ⟨t2, l2, ts2, a2, q1, q2, q3⟩ := hS.get hsi
      have htl := Paired.length q3
      obtain ⟨f1, f2⟩ := hf _ (List.mem_of_getElem? hsi)
      obtain ⟨f, hff, hfc⟩ := List.mem_map.mp (hin i _ _ hsi hci)
      rw [b1]
      walk_at "rd"
      refine ⟨_, SqL.of (g _ _ hp), _, atI_nat a2, t2, rfl, _, SqT.of (g _ _ q1), _, rfl, l2, rfl, ⟨_, SqL.of (g _ _ q2)⟩, fun L hL => for_listW (xs := ts2) (fun j σ H2 => Same H' H2 ∧ H2 L = some (.lst (((((ss[i]).fs.take j).filter fun f => decide (f.1 = cs[i])).map (·.2)).map V.int)) ∧ ∃ v0 v1, σ = [v0, v1, some (.ref d), some (.int i)]) ⟨same_new hL _, upd_same, none, none, rfl⟩ (fun j σ H2 _ hh => SqL.of (hh.1 _ _ (g _ _ q2))) ?_ ?_⟩
      · rintro j v σ H2 hv ⟨g2, e2, v0, v1, rfl⟩
        obtain ⟨f', hf', t3, rfl, q4⟩ := Paired.get' q3 hv
        have hj := (List.getElem?_eq_some_iff.mp hf').1
        have gg := g.trans g2
        walk_at "rd"
        refine ⟨_, SqT.of (gg _ _ q4), rfl, _, _, rfl, _, _, rfl, rfl, ?_⟩
        walk_at "rd"
        refine ⟨_, SqL.of (gg _ _ hd), oV cs[i], atI_nat (by rw [List.getElem?_map, hci]; rfl), oV_scal _ _, ?_⟩
        have hfl := List.length_filter_le (fun f : Off => decide (f.1 = cs[i])) ((ss[i]).fs.take j)
        rw [List.length_take] at hfl
        rw [take_one hf', filter_snoc]
        by_cases zc : f'.1 = cs[i]
        · rw [if_pos (by rw [zc]), if_pos (decide_eq_true zc)]
          exact ⟨_, e2, small1000 (by rw [List.length_map, List.length_map]; omega), same_upd hL g2 _, by rw [upd_same, List.map_append, List.map_append]; rfl⟩
        · rw [if_neg (fun w => zc (oV_inj w)), if_neg (fun w => zc (of_decide_eq_true w)), List.append_nil]
          exact ⟨g2, e2⟩
      rintro σ H2 ⟨g2, e2, v0, v1, rfl⟩
      rw [htl, List.take_length, ← hfc, filter_one f2 hff] at e2
      refine ⟨_, SqL.of e2, .int f.2, rfl, _, rfl, g.trans g2, ?_⟩
      rw [take_one hsi, take_one hci, costOf_snoc _ _ _ _ (by rw [List.length_take, List.length_take]; omega), ← hfc, costAt_one f2 hff]
    rintro σ H' ⟨v3, g, rfl⟩
    rw [u1]; clear u1
    walk_at "rd"
    rw [hul, Int.toNat_natCast, List.take_length, hlen, List.take_length]
    exact q H' g
def sp__law_worth_of (K : PySem.W.Frag) (C_Market : Addr) : Sp := fun vs H Q _ => ∃ (p c l y z : Addr) (us : List V) (ss : List Spt) (cols lim ys zs : List Int), vs = [.ref p, .ref c, .ref l, .ref y, .ref z] ∧ H p = some (.lst us) ∧ Spts H us ss ∧ H c = some (.lst (cols.map V.int)) ∧ H l = some (.lst (lim.map V.int)) ∧ H y = some (.lst (ys.map V.int)) ∧ H z = some (.lst (zs.map V.int)) ∧ Pcs ss cols lim ys zs ∧ ∀ H', Same H H' → Q (.int (worthT ss cols lim ys zs)) H'
theorem sc__law_worth_of : FnScope ["_law_spots_here", "_law_columns", "_law_limits", "_law_ys", "_law_zs", "_law_due_here", "_law_owner", "_law_offers", "_law_some", "_law_column", "_law_cost_here"] ["_law_spots_here", "_law_columns", "_law_limits", "_law_ys", "_law_zs"] (defScope s__law_worth_of) := ⟨rfl, rfl, rfl, by decide +kernel, rfl, by decide +kernel, by decide +kernel⟩
theorem ok__law_worth_of {C_Market : Addr} {f : Addr} {fd : FuncData} (F : Fun K "_law_worth_of" "_law_worth_of" s__law_worth_of f fd) (T : Txt K mg C_Market)  : FnOk P w K mg base CX0 1 f fd ["_law_spots_here", "_law_columns", "_law_limits", "_law_ys", "_law_zs"] (sp__law_worth_of K C_Market) := by
  refine F.ok sc__law_worth_of (fun vs H Q E h => ?_) (fun cdv A outer s H vs Q E hr h => ?_)
  · obtain ⟨p, c, l, y, z, us, ss, cols, lim, ys, zs, rfl, _⟩ := h
    rfl
  · obtain ⟨p, c, l, y, z, us, ss, cols, lim, ys, zs, rfl, hp, hS, hc, hl, hy, hz, pc, q⟩ := h
    refine ⟨_, (pss_cons (ps_set (i := 5) sc__law_worth_of.nd rfl (Or.inl rfl) (pe_callB (call_sumG rfl) (by rfl) T.sum PyProof.Rows.boot_sum (pa_cons (pe_comp (own := ["_law_k"]) (fnames := ["_law_columns", "_law_ys"]) (fr := [1, 3]) (N' := ["_law_k", "_law_columns", "_law_ys"]) ⟨rfl, rfl, rfl, rfl, rfl, rfl, rfl⟩ rfl (pi_range1 rfl T.range (pa_cons (pe_callB (call_lenK (K := K) rfl) (by rfl) T.len PySem.boot_len (pa_cons (pv 1) pa_nil)) pa_nil)) (fun s0 H0 fp0 C0 => ⟨(pg_name (i := 0) (by show (["_law_k", "_law_columns", "_law_ys"] : List Str).Nodup; decide +kernel) rfl (Or.inl rfl)), pts_nil, (pe_op op_mul (pe_ix (ix_listK (K := K) rfl) (pv 1) (pv 0) (fun _ _ => rfl)) (pe_ix (ix_listK (K := K) rfl) (pv 2) (pv 0) (fun _ _ => rfl)))⟩)) pa_nil)))
    (pss_cons (ps_set (i := 5) sc__law_worth_of.nd rfl (Or.inl rfl) (pe_op op_sub (pv 5) (pe_callB (call_sumG rfl) (by rfl) T.sum PyProof.Rows.boot_sum (pa_cons (pe_comp (own := ["_law_k"]) (fnames := ["_law_limits", "_law_zs"]) (fr := [2, 4]) (N' := ["_law_k", "_law_limits", "_law_zs"]) ⟨rfl, rfl, rfl, rfl, rfl, rfl, rfl⟩ rfl (pi_range1 rfl T.range (pa_cons (pe_callB (call_lenK (K := K) rfl) (by rfl) T.len PySem.boot_len (pa_cons (pv 2) pa_nil)) pa_nil)) (fun s0 H0 fp0 C0 => ⟨(pg_name (i := 0) (by show (["_law_k", "_law_limits", "_law_zs"] : List Str).Nodup; decide +kernel) rfl (Or.inl rfl)), pts_nil, (pe_op op_mul (pe_ix (ix_listK (K := K) rfl) (pv 1) (pv 0) (fun _ _ => rfl)) (pe_ix (ix_listK (K := K) rfl) (pv 2) (pv 0) (fun _ _ => rfl)))⟩)) pa_nil))))
    (pss_cons (ps_for PassesOwn.never rfl (pi_list (pv 0)) (pg_tup (n := 2) rfl (pgs_cons (pg_name (i := 6) sc__law_worth_of.nd rfl (Or.inl rfl)) (pgs_cons (pg_name (i := 7) sc__law_worth_of.nd rfl (Or.inl rfl)) pgs_nil)))
      (pss_cons (ps_set (i := 8) sc__law_worth_of.nd rfl (Or.inl rfl) (pe_lst pa_nil))
        (pss_cons (ps_for PassesOwn.never rfl (pi_list (pv 7)) (pg_tup (n := 2) rfl (pgs_cons (pg_name (i := 9) sc__law_worth_of.nd rfl (Or.inl rfl)) (pgs_cons (pg_name (i := 10) sc__law_worth_of.nd rfl (Or.inl rfl)) pgs_nil)))
          (pss_one (ps_if (pt_cmpR op_isN (pv 9) pe_non (nomark _)) (pss_one (ps_expr (pe_bm PySem.F.plainAttrs_list PySem.F.slot_list_append PySem.F.type_list_append mt_append (pv 8) (pa_cons (pv 10) pa_nil)))) (pss_one (ps_expr (pe_bm PySem.F.plainAttrs_list PySem.F.slot_list_append PySem.F.type_list_append mt_append (pv 8) (pa_cons (pe_op op_add (pe_op op_sub (pv 10) (pe_ix ix_list (pv 3) (pv 9) (fun _ _ => rfl))) (pe_ix ix_list (pv 4) (pv 6) (fun _ _ => rfl))) pa_nil)))))))
        (pss_one (ps_set (i := 5) sc__law_worth_of.nd rfl (Or.inl rfl) (pe_op op_add (pv 5) (pe_callB (call_minL rfl) (by rfl) T.min PyProof.Rows.boot_min (pa_cons (pv 8) pa_nil))))))))
    (pss_one (ps_ret (pv 5)))))), ?_⟩
    have hul := Paired.length hS
    have p1 := pc.sl
    have p2 := pc.cl
    have p3 := pc.ll
    have p4 := pc.yl
    have p5 := pc.zl
    refine seq_of fun U1 u1 => ?_
    walk_at "rd"
    refine ⟨_, .inl (SqL.of hc), by rw [List.length_map]; omega, by rw [List.length_map]; omega, fun L hL => for_rangeW (fun i σ H' => Same H H' ∧ H' L = some (.lst ((il i fun k => cols.getD k 0 * ys.getD k 0).map V.int)) ∧ ∃ v0, σ = [v0, some (.ref c), some (.ref y)]) ⟨same_new hL _, upd_same, none, rfl⟩ ?_ ?_⟩
    · rintro i σ H' hi ⟨g, e, v0, rfl⟩
      rw [show (0 + (i : Int)) = i by omega]
      rw [List.length_map, Int.toNat_natCast] at hi
      have e1 := List.getElem?_eq_getElem hi
      have e2 := List.getElem?_eq_getElem (show i < ys.length by omega)
      obtain ⟨c1, c2⟩ := pc.cb _ (List.mem_of_getElem? e1)
      walk_at "rd"
      refine ⟨_, SqL.of (g _ _ hc), .int cols[i], atI_nat (by rw [List.getElem?_map, e1]; rfl), _, SqL.of (g _ _ hy), .int ys[i], atI_nat (by rw [List.getElem?_map, e2]; rfl), _, rfl, _, rfl, .inl ⟨by omega, by omega⟩, _, e, small1000 (by rw [List.length_map, il_len]; omega), same_upd hL g _, ?_⟩
      rw [upd_same, il_snoc, List.map_append, getD_of e1, getD_of e2]
      rfl
    rintro σ H1 ⟨g1, e1, v0, rfl⟩
    rw [List.length_map, Int.toNat_natCast] at e1
    refine ⟨_, SqL.of e1, ?_⟩
    rw [← dot_il p4]
    rw [u1]; clear u1
    refine seq_of fun U1 u1 => ?_
    walk_at "rd"
    refine ⟨_, .inl (SqL.of (g1 _ _ hl)), by rw [List.length_map]; omega, by rw [List.length_map]; omega, fun L hL => for_rangeW (fun i σ H' => Same H1 H' ∧ H' L = some (.lst ((il i fun k => lim.getD k 0 * zs.getD k 0).map V.int)) ∧ ∃ v0, σ = [v0, some (.ref l), some (.ref z)]) ⟨same_new hL _, upd_same, none, rfl⟩ ?_ ?_⟩
    · rintro i σ H' hi ⟨g, e, v0, rfl⟩
      rw [show (0 + (i : Int)) = i by omega]
      rw [List.length_map, Int.toNat_natCast] at hi
      have e1 := List.getElem?_eq_getElem hi
      have e2 := List.getElem?_eq_getElem (show i < zs.length by omega)
      obtain ⟨c1, c2⟩ := pc.lb _ (List.mem_of_getElem? e1)
      have gg := g1.trans g
      walk_at "rd"
      refine ⟨_, SqL.of (gg _ _ hl), .int lim[i], atI_nat (by rw [List.getElem?_map, e1]; rfl), _, SqL.of (gg _ _ hz), .int zs[i], atI_nat (by rw [List.getElem?_map, e2]; rfl), _, rfl, _, rfl, .inl ⟨by omega, by omega⟩, _, e, small1000 (by rw [List.length_map, il_len]; omega), same_upd hL g _, ?_⟩
      rw [upd_same, il_snoc, List.map_append, getD_of e1, getD_of e2]
      rfl
    rintro σ H2 ⟨g2, e2, v0, rfl⟩
    rw [List.length_map, Int.toNat_natCast] at e2
    refine ⟨_, SqL.of e2, ?_⟩
    rw [← dot_il p5]
    have g12 := g1.trans g2
    rw [u1]; clear u1
    refine seq_of fun U1 u1 => for_of fun B1 b1 => ?_
    walk_at "rd"
    refine ⟨⟨_, SqL.of (g12 _ _ hp)⟩, for_listW (xs := us) (fun i σ H' => ∃ (v6 v7 v8 v9 v10 : Option V), Same H H' ∧ σ = [some (.ref p), some (.ref c), some (.ref l), some (.ref y), some (.ref z), some (.int (dot cols ys - dot lim zs + ((ss.take i).map (lstC ys zs)).sum)), v6, v7, v8, v9, v10]) ⟨none, none, none, none, none, g12, by simp⟩ (fun i σ H' _ ⟨_, _, _, _, _, g, _⟩ => SqL.of (g _ _ hp)) ?_ ?_⟩
    · rintro i v σ H' hv ⟨v6, v7, v8, v9, v10, g, rfl⟩
      obtain ⟨s, hs, t2, l2, ts2, rfl, q1, q2, q3⟩ := Paired.get' hS hv
      have ok := pc.ok s (List.mem_of_getElem? hs)
      have htl := Paired.length q3
      have hfl := ok.len
      obtain ⟨o0, o1⟩ := ok.own
      obtain ⟨o, ho⟩ : ∃ o : Nat, s.o = o := ⟨s.o.toNat, by omega⟩
      have hol : o < zs.length := by omega
      have ez := List.getElem?_eq_getElem hol
      walk_at "rd"
      refine ⟨_, SqT.of (g _ _ q1), rfl, _, _, rfl, _, _, rfl, rfl, ?_⟩
      rw [b1]
      refine seq_of fun U2 u2 => ?_
      walk_at "rd"
      refine ⟨Nat.zero_le _, fun So hSo => ?_⟩
      have gS := same_new hSo (.lst [])
      have hSo0 : H So = none := g.free hSo
      rw [u2]; clear u2
      refine seq_of fun U2 u2 => for_of fun B2 b2 => ?_
      walk_at "rd"
      refine ⟨⟨_, SqL.of ((g.trans gS) _ _ q2)⟩, for_listW (xs := ts2) (fun j σ H3 => ∃ (v9 v10 : Option V), Same H H3 ∧ H3 So = some (.lst (((s.fs.take j).map (offC ys zs s.o)).map V.int)) ∧ σ = [some (.ref p), some (.ref c), some (.ref l), some (.ref y), some (.ref z), some (.int (dot cols ys - dot lim zs + ((ss.take i).map (lstC ys zs)).sum)), some (.int s.o), some (.ref l2), some (.ref So), v9, v10]) ⟨_, _, g.trans gS, upd_same, rfl⟩ (fun j σ H3 _ ⟨_, _, g3, _⟩ => SqL.of (g3 _ _ q2)) ?_ ?_⟩
      · rintro j v σ H3 hv ⟨v9, v10, g3, e3, rfl⟩
        obtain ⟨f, hf, t3, rfl, q4⟩ := Paired.get' q3 hv
        have hj := (List.getElem?_eq_some_iff.mp hf).1
        walk_at "rd"
        refine ⟨_, SqT.of (g3 _ _ q4), rfl, _, _, rfl, _, _, rfl, rfl, ?_⟩
        rw [b2]
        walk_at "rd"
        rw [take_one hf, List.map_append, List.map_append]
        cases hfc : f.1 with
        | none =>
          rw [if_pos (oV_none rfl)]
          refine ⟨.inl ⟨rfl, _, SqL.of e3⟩, _, e3, small1000 (by rw [List.length_map, List.length_map, List.length_take]; omega), same_upd hSo0 g3 _, ?_⟩
          rw [upd_same, List.map_cons, List.map_nil, offC_none hfc]
          rfl
        | some x =>
          rw [if_neg (by rw [oV_some rfl]; intro w; cases w)]
          obtain ⟨x0, x1⟩ := ok.col f (List.mem_of_getElem? hf) x hfc
          obtain ⟨n, rfl⟩ : ∃ n : Nat, x = n := ⟨x.toNat, by omega⟩
          have hny : n < ys.length := by omega
          have ey := List.getElem?_eq_getElem hny
          refine ⟨.inl ⟨rfl, _, SqL.of e3⟩, _, _, oV_some rfl, SqL.of (g3 _ _ hy), .int ys[n], atI_nat (by rw [List.getElem?_map, ey]; rfl), _, rfl, _, SqL.of (g3 _ _ hz), .int zs[o], by rw [ho]; exact atI_nat (by rw [List.getElem?_map, ez]; rfl), _, rfl, _, e3, small1000 (by rw [List.length_map, List.length_map, List.length_take]; omega), same_upd hSo0 g3 _, ?_⟩
          rw [upd_same, List.map_cons, List.map_nil, offC_some hfc (by rw [Int.toNat_natCast]; exact ey) (by rw [ho, Int.toNat_natCast]; exact ez)]
          rfl
      rintro σ H3 ⟨v9, v10, g3, e3, rfl⟩
      rw [htl, List.take_length] at e3
      rw [u2]; clear u2
      walk_at "rd"
      refine ⟨_, SqL.of e3, by rw [List.length_map]; exact List.length_pos_iff.mpr ok.ne, fun M h1 h2 => ?_⟩
      rw [mn_is h1 h2, take_one hs, List.map_append, List.sum_append]
      refine ⟨g3, ?_⟩
      rw [List.map_cons, List.map_nil, List.sum_cons, List.sum_nil]
      show _ = _ + (_ + (mn (s.fs.map (offC ys zs s.o)) + 0))
      omega
    rintro σ H' ⟨v6, v7, v8, v9, v10, g, rfl⟩
    rw [hul, List.take_length]
    rw [u1]; clear u1
    walk_at "rd"
    exact q H' g
def sp__law_due (K : PySem.W.Frag) (C_Market : Addr) : Sp := fun vs H Q _ => ∃ (p c l t d y z : Addr) (us : List V) (ss : List Spt) (cols lim ys zs : List Int) (cs : List (Option Int)), vs = [.ref p, .ref c, .ref l, .ref t] ∧ H t = some (.lst [.ref d, .ref y, .ref z]) ∧ H p = some (.lst us) ∧ Spts H us ss ∧ H c = some (.lst (cols.map V.int)) ∧ H l = some (.lst (lim.map V.int)) ∧ H d = some (.lst (cs.map oV)) ∧ H y = some (.lst (ys.map V.int)) ∧ H z = some (.lst (zs.map V.int)) ∧ ChpOk ss cols lim cs ys zs ∧ ∀ H', Same H H' → Q (.bl (chpB ss cols lim cs ys zs)) H'
theorem sc__law_due : FnScope ["_law_spots_here", "_law_columns", "_law_limits", "_law_told", "_law_dealt", "_law_ys", "_law_zs"] ["_law_spots_here", "_law_columns", "_law_limits", "_law_told"] (defScope s__law_due) := ⟨rfl, rfl, rfl, by decide +kernel, rfl, by decide +kernel, by decide +kernel⟩
theorem ok__law_due {C_Market : Addr} {f : Addr} {fd : FuncData} (F : Fun K "_law_due" "_law_due" s__law_due f fd) (T : Txt K mg C_Market) (C__law_dealing : Cal P w K mg base "_law_dealing" ["_law_spots_here", "_law_columns", "_law_limits", "_law_dealt"] 2 (sp__law_dealing K C_Market)) (C__law_cost_of : Cal P w K mg base "_law_cost_of" ["_law_spots_here", "_law_dealt"] 1 (sp__law_cost_of K C_Market)) (C__law_worth_of : Cal P w K mg base "_law_worth_of" ["_law_spots_here", "_law_columns", "_law_limits", "_law_ys", "_law_zs"] 1 (sp__law_worth_of K C_Market)) : FnOk P w K mg base CX0 3 f fd ["_law_spots_here", "_law_columns", "_law_limits", "_law_told"] (sp__law_due K C_Market) := by
  refine F.ok sc__law_due (fun vs H Q E h => ?_) (fun cdv A outer s H vs Q E hr h => ?_)
  · obtain ⟨p, c, l, t, d, y, z, us, ss, cols, lim, ys, zs, cs, rfl, _⟩ := h
    rfl
  · obtain ⟨p, c, l, t, d, y, z, us, ss, cols, lim, ys, zs, cs, rfl, ht, hp, hS, hc, hl, hd, hy, hz, O, q⟩ := h
    refine ⟨_, (pss_cons (ps_asg (pv 3) (pg_lst (n := 3) rfl (pgs_cons (pg_name (i := 4) sc__law_due.nd rfl (Or.inl rfl)) (pgs_cons (pg_name (i := 5) sc__law_due.nd rfl (Or.inl rfl)) (pgs_cons (pg_name (i := 6) sc__law_due.nd rfl (Or.inl rfl)) pgs_nil)))))
    (pss_cons (ps_if (pt_not (pt_val (pe_cal C__law_dealing (hr.mono (by decide)) rfl (pa_cons (pv 0) (pa_cons (pv 1) (pa_cons (pv 2) (pa_cons (pv 4) pa_nil))))))) (pss_one (ps_ret pe_bl)) pss_nil)
    (pss_cons (ps_if (PW.pt (pw_or (pt_cmpR op_ne (pe_callB (call_lenK (K := K) rfl) (by rfl) T.len PySem.boot_len (pa_cons (pv 5) pa_nil)) (pe_callB (call_lenK (K := K) rfl) (by rfl) T.len PySem.boot_len (pa_cons (pv 1) pa_nil)) (nomark _)) (pw_or (pt_cmpR op_ne (pe_callB (call_lenK (K := K) rfl) (by rfl) T.len PySem.boot_len (pa_cons (pv 6) pa_nil)) (pe_callB (call_lenK (K := K) rfl) (by rfl) T.len PySem.boot_len (pa_cons (pv 2) pa_nil)) (nomark _)) (pw_or1 (pt_cmpR op_lt (pe_minD rfl (by rfl) T.min (pe_op op_cat (pv 5) (pv 6))) pe_int (nomark _)))))) (pss_one (ps_ret pe_bl)) pss_nil)
    (pss_one (ps_ret (pe_cmpR op_eq (pe_cal C__law_cost_of (hr.mono (by decide)) rfl (pa_cons (pv 0) (pa_cons (pv 4) pa_nil))) (pe_cal C__law_worth_of (hr.mono (by decide)) rfl (pa_cons (pv 0) (pa_cons (pv 1) (pa_cons (pv 2) (pa_cons (pv 5) (pa_cons (pv 6) pa_nil)))))) (nomark _))))))), ?_⟩
    refine seq_of fun U1 u1 => ?_
    walk_at "rd"
    refine ⟨_, SqL.of ht, rfl, _, _, rfl, _, _, rfl, _, _, rfl, rfl, ?_⟩
    rw [u1]; clear u1
    refine seq_of fun U1 u1 => ?_
    walk_at "rd"
    refine ⟨p, c, l, d, us, ss, cols, lim, cs, rfl, hp, hS, hc, hl, hd, O.sl, O.dl, Nat.le_trans O.cl (by decide), Nat.le_trans O.ll (by decide), O.ok, fun H1 g1 => ⟨_, rfl, ?_⟩⟩
    unfold chpB at q
    cases hD : dealB ss cols lim cs with
    | false =>
      rw [if_pos rfl]
      rw [hD, Bool.false_and] at q
      exact q H1 g1
    | true =>
      rw [if_neg (fun w => (nomatch w))]
      rw [hD, Bool.true_and] at q
      rw [u1]; clear u1
      refine seq_of fun U1 u1 => ?_
      walk_at "rd"
      have ho : offB ss cs = true := by
        unfold dealB at hD
        rw [Bool.and_eq_true] at hD
        exact hD.1
      obtain ⟨hlen, hin⟩ := offB_in ho
      have n1 := O.yl
      have n2 := O.zl
      refine ⟨_, .inl (SqL.of (g1 _ _ hy)), _, .inl (SqL.of (g1 _ _ hc)), ?_⟩
      rw [List.length_map, List.length_map]
      unfold priB at q
      by_cases e1 : ys.length = cols.length
      · rw [if_neg (fun w => w (by rw [e1]))]
        refine ⟨_, .inl (SqL.of (g1 _ _ hz)), _, .inl (SqL.of (g1 _ _ hl)), ?_⟩
        rw [List.length_map, List.length_map]
        by_cases e2 : zs.length = lim.length
        · rw [if_neg (fun w => w (by rw [e2]))]
          rw [decide_eq_true e1, decide_eq_true e2, Bool.true_and, Bool.true_and] at q
          refine ⟨_, g1 _ _ hy, _, g1 _ _ hz, small1000' (by rw [List.length_map, List.length_map]; omega), fun m hm => ?_⟩
          rw [← List.map_append]
          have g2 := g1.trans (same_new hm (.lst ((ys ++ zs).map V.int)))
          have em : upd H1 m (.lst ((ys ++ zs).map V.int)) m = some (.lst ((ys ++ zs).map V.int)) := upd_same
          generalize upd H1 m (.lst ((ys ++ zs).map V.int)) = H2 at g2 em ⊢
          have pb : (posB ys && posB zs) = posB (ys ++ zs) := by unfold posB; rw [List.all_append]
          rw [pb] at q
          have fin : posB (ys ++ zs) = true → U1 { nx := fun x H' => Q V.non H', rt := Q } [some (V.ref p), some (V.ref c), some (V.ref l), some (V.ref t), some (V.ref d), some (V.ref y), some (V.ref z)] H2 := by
            intro hb
            rw [hb, Bool.true_and] at q
            have PC : Pcs ss cols lim ys zs := ⟨O.ok, O.sl, e1.symm, e2.symm, Nat.le_trans O.cl (by decide), Nat.le_trans O.ll (by decide), (fun a ha => by have := O.cb a ha; omega), fun a ha => by have := O.lb a ha; omega⟩
            rw [u1]; clear u1
            walk_at "rd"
            refine ⟨p, d, us, ss, cs, rfl, g2 _ _ hp, hS.mono g2, g2 _ _ hd, hlen, O.sl, (fun s hs => ⟨(O.ok s hs).len, (O.ok s hs).nd⟩), hin, fun H3 g3 => ?_⟩
            have gA := g2.trans g3
            refine ⟨p, c, l, y, z, us, ss, cols, lim, ys, zs, rfl, gA _ _ hp, hS.mono gA, gA _ _ hc, gA _ _ hl, gA _ _ hy, gA _ _ hz, PC, fun H4 g4 => ?_⟩
            refine ⟨rfl, ?_⟩
            simp only [V.int.injEq]
            exact q H4 (gA.trans g4)
          refine ⟨ys ++ zs, SqL.of em, fun e => ?_, fun M hM hle => ?_⟩
          · rw [if_neg (by decide)]
            exact fin (by rw [e]; rfl)
          · by_cases z0 : M < 0
            · rw [if_pos z0]
              have hb : posB (ys ++ zs) = false := by
                cases h : posB (ys ++ zs) with
                | false => rfl
                | true =>
                  have := of_decide_eq_true (List.all_eq_true.mp h M hM)
                  omega
              rw [hb, Bool.false_and] at q
              exact q H2 g2
            · rw [if_neg z0]
              exact fin (List.all_eq_true.mpr fun a ha => decide_eq_true (by have := hle a ha; omega))
        · rw [if_pos (fun w => e2 (by omega))]
          rw [decide_eq_false e2, Bool.false_and, Bool.and_false, Bool.false_and] at q
          exact q H1 g1
      · rw [if_pos (fun w => e1 (by omega))]
        rw [decide_eq_false e1, Bool.false_and, Bool.false_and] at q
        exact q H1 g1
def sp__law_good (K : PySem.W.Frag) (C_Market : Addr) : Sp := fun vs H Q _ => ∃ (p c l t d y z : Addr) (us : List V) (ss : List Spt) (cols lim ys zs : List Int) (cs : List (Option Int)), vs = [.ref p, .ref c, .ref l, .ref t] ∧ H t = some (.lst [.ref d, .ref y, .ref z]) ∧ H p = some (.lst us) ∧ Spts H us ss ∧ H c = some (.lst (cols.map V.int)) ∧ H l = some (.lst (lim.map V.int)) ∧ H d = some (.lst (cs.map oV)) ∧ H y = some (.lst (ys.map V.int)) ∧ H z = some (.lst (zs.map V.int)) ∧ ChpOk ss cols lim cs ys zs ∧ ∀ H', Same H H' → Q (.bl true) H'
theorem sc__law_good : FnScope ["_law_spots_here", "_law_columns", "_law_limits", "_law_told", "_law_handed", "_law_found"] ["_law_spots_here", "_law_columns", "_law_limits", "_law_told"] (defScope s__law_good) := ⟨rfl, rfl, rfl, by decide +kernel, rfl, by decide +kernel, by decide +kernel⟩
theorem ok__law_good {C_Market : Addr} {f : Addr} {fd : FuncData} (F : Fun K "_law_good" "_law_good" s__law_good f fd) (T : Txt K mg C_Market) (C_is_cheapest : Cal P w K mg base "is_cheapest" ["spots", "columns", "caps", "dealt", "ys", "zs"] 3 (sp_is_cheapest K C_Market)) (C__law_copy : Cal P w K mg base "_law_copy" ["_law_spots_here"] 1 (sp__law_copy K C_Market)) (C__law_due : Cal P w K mg base "_law_due" ["_law_spots_here", "_law_columns", "_law_limits", "_law_told"] 3 (sp__law_due K C_Market)) : FnOk P w K mg base CX0 4 f fd ["_law_spots_here", "_law_columns", "_law_limits", "_law_told"] (sp__law_good K C_Market) := by
  refine F.ok sc__law_good (fun vs H Q E h => ?_) (fun cdv A outer s H vs Q E hr h => ?_)
  · obtain ⟨p, c, l, t, d, y, z, us, ss, cols, lim, ys, zs, cs, rfl, _⟩ := h
    rfl
  · obtain ⟨p, c, l, t, d, y, z, us, ss, cols, lim, ys, zs, cs, rfl, ht, hp, hS, hc, hl, hd, hy, hz, O, q⟩ := h
    refine ⟨_, (pss_cons (ps_set (i := 4) sc__law_good.nd rfl (Or.inl rfl) (pe_op op_cat (pe_lst (pa_cons (pe_cal C__law_copy (hr.mono (by decide)) rfl (pa_cons (pv 0) pa_nil)) (pa_cons (pe_callTy (call_listK (K := K) rfl) (by rfl) T.list PyProof.Rows.boot_list (pa_cons (pv 1) pa_nil)) (pa_cons (pe_callTy (call_listK (K := K) rfl) (by rfl) T.list PyProof.Rows.boot_list (pa_cons (pv 2) pa_nil)) pa_nil)))) (pe_comp (own := ["_law_one"]) (fnames := []) (fr := []) (N' := ["_law_one"]) ⟨rfl, rfl, rfl, rfl, rfl, rfl, rfl⟩ rfl (pi_list (pv 3)) (fun s0 H0 fp0 C0 => ⟨(pg_name (i := 0) (by show (["_law_one"] : List Str).Nodup; decide +kernel) rfl (Or.inl rfl)), pts_nil, (pe_callTy (call_listK (K := K) rfl) (by rfl) T.list PyProof.Rows.boot_list (pa_cons (pv 0) pa_nil))⟩))))
    (pss_cons (ps_set (i := 5) sc__law_good.nd rfl (Or.inl rfl) (pe_cal C_is_cheapest (hr.mono (by decide)) rfl (pa_cons (pe_ix ix_list (pv 4) pe_int (fun _ _ => rfl)) (pa_cons (pe_ix ix_list (pv 4) pe_int (fun _ _ => rfl)) (pa_cons (pe_ix ix_list (pv 4) pe_int (fun _ _ => rfl)) (pa_cons (pe_ix ix_list (pv 4) pe_int (fun _ _ => rfl)) (pa_cons (pe_ix ix_list (pv 4) pe_int (fun _ _ => rfl)) (pa_cons (pe_ix ix_list (pv 4) pe_int (fun _ _ => rfl)) pa_nil))))))))
    (pss_cons (ps_if (pt_cmpR (op_neD 4 hr) (pv 4) (pe_op op_cat (pe_lst (pa_cons (pv 0) (pa_cons (pv 1) (pa_cons (pv 2) pa_nil)))) (pv 3)) (nomark _)) (pss_one (ps_ret pe_bl)) pss_nil)
    (pss_one (ps_ret (pe_and (pe_callB call_isi (by rfl) T.isinstance PyProof.Rows.boot_isinstance (pa_cons (pv 5) (pa_cons (pe_bltn (v := .ty "bool") rfl T.bool PyProof.Rows.boot_bool rfl) pa_nil))) (pe_one (pe_cmpR op_eq (pv 5) (pe_cal C__law_due (hr.mono (by decide)) rfl (pa_cons (pv 0) (pa_cons (pv 1) (pa_cons (pv 2) (pa_cons (pv 3) pa_nil))))) (nomark _))))))))), ?_⟩
    refine seq_of fun U1 u1 => ?_
    walk_at "rd"
    refine ⟨p, us, ss, rfl, hp, hS, O.sl, fun rc us' H1 g1 hrc0 hrc hSc => ?_⟩
    refine ⟨_, .inl (SqL.of (g1 _ _ hc)), fun l1 hl1 => ?_⟩
    have g2 := same_new hl1 (.lst (cols.map V.int))
    refine ⟨_, .inl (SqL.of ((g1.trans g2) _ _ hl)), fun l2 hl2 => ?_⟩
    have g3 := same_new hl2 (.lst (lim.map V.int))
    refine ⟨by decide, fun p1 hp1 => ?_⟩
    have g4 := same_new hp1 (.lst [.ref rc, .ref l1, .ref l2])
    have gA := ((g1.trans g2).trans g3).trans g4
    have gB := (g2.trans g3).trans g4
    have e1 := (g3.trans g4) _ _ (upd_same (H := H1) (a := l1) (o := .lst (cols.map V.int)))
    have e2 := g4 _ _ (upd_same (H := upd H1 l1 (.lst (cols.map V.int))) (a := l2) (o := .lst (lim.map V.int)))
    have ep : upd (upd (upd H1 l1 (.lst (cols.map V.int))) l2 (.lst (lim.map V.int))) p1 (.lst [.ref rc, .ref l1, .ref l2]) p1 = some (.lst [.ref rc, .ref l1, .ref l2]) := upd_same
    have er := gB _ _ hrc
    have Sr := hSc.mono gB
    generalize upd (upd (upd H1 l1 (.lst (cols.map V.int))) l2 (.lst (lim.map V.int))) p1 (.lst [.ref rc, .ref l1, .ref l2]) = H2 at gA e1 e2 ep er Sr ⊢
    clear g1 g2 g3 g4 gB hrc hSc hl1 hl2 hp1
    refine ⟨⟨_, SqL.of (gA _ _ ht)⟩, fun D hD => for_listW (xs := [.ref d, .ref y, .ref z]) (fun i σ H' => ∃ (ns : List Addr) (v : Option V), CpI H2 D [cs.map oV, ys.map V.int, zs.map V.int] i H' ns ∧ σ = [v]) ⟨[], none, CpI.ini hD, rfl⟩ (fun j σ H' _ ⟨_, _, M, _⟩ => SqL.of (M.same _ _ (gA _ _ ht))) ?_ ?_⟩
    · rintro j v σ H' hv ⟨ns, w, M, rfl⟩
      have hj := (List.getElem?_eq_some_iff.mp hv).1
      have gM := gA.trans M.same
      have hrow : ∃ a xs, v = .ref a ∧ H' a = some (.lst xs) ∧ [cs.map oV, ys.map V.int, zs.map V.int][j]? = some xs := by
        match j, hj, hv with
        | 0, _, hv => cases hv; exact ⟨d, _, rfl, gM _ _ hd, rfl⟩
        | 1, _, hv => cases hv; exact ⟨y, _, rfl, gM _ _ hy, rfl⟩
        | 2, _, hv => cases hv; exact ⟨z, _, rfl, gM _ _ hz, rfl⟩
      obtain ⟨a, xs, rfl, ha, hx⟩ := hrow
      have hj : j < 3 := hj
      walk_at "rd"
      refine ⟨_, .inl (SqL.of ha), fun q1 hq1 => ?_⟩
      exact ⟨_, (same_new hq1 _) _ _ M.at_, small1000 (by rw [List.length_map, M.len]; omega), ns ++ [q1], M.step hD hq1 hx⟩
    rintro σ H3 ⟨ns, v0, M, rfl⟩
    obtain ⟨d', y', z', rfl⟩ := three M.len
    have e3 := M.pr 0 d' _ rfl rfl
    have e4 := M.pr 1 y' _ rfl rfl
    have e5 := M.pr 2 z' _ rfl rfl
    have eD := M.at_
    have gM := M.same
    walk_at "rd"
    refine ⟨_, gM _ _ ep, _, eD, small1000' (show 6 ≤ 1000 by decide), fun ph hph => ?_⟩
    have g4 := gM.trans (same_new hph (.lst ([.ref rc, .ref l1, .ref l2] ++ [d', y', z'].map V.ref)))
    have g34 := same_new hph (.lst ([.ref rc, .ref l1, .ref l2] ++ [d', y', z'].map V.ref))
    have eh : upd H3 ph (.lst ([.ref rc, .ref l1, .ref l2] ++ [d', y', z'].map V.ref)) ph = some (.lst [.ref rc, .ref l1, .ref l2, .ref d', .ref y', .ref z']) := upd_same
    generalize upd H3 ph (.lst ([.ref rc, .ref l1, .ref l2] ++ [d', y', z'].map V.ref)) = H4 at g4 g34 eh ⊢
    have e1 := g4 _ _ e1
    have e2 := g4 _ _ e2
    have er := g4 _ _ er
    have Sr := Sr.mono g4
    have e3 := g34 _ _ e3
    have e4 := g34 _ _ e4
    have e5 := g34 _ _ e5
    have gC := gA.trans g4
    clear M gM g34 g4 gA eD ep hph hD
    rw [u1]; clear u1
    refine seq_of fun U1 u1 => ?_
    walk_at "rd"
    refine ⟨_, SqL.of eh, _, rfl, _, SqL.of eh, _, rfl, _, SqL.of eh, _, rfl, _, SqL.of eh, _, rfl, _, SqL.of eh, _, rfl, _, SqL.of eh, _, rfl, rc, l1, l2, d', y', z', us', ss, cols, lim, ys, zs, cs, rfl, er, Sr, e1, e2, e3, e4, e5, O, fun H5 g5 => ?_⟩
    rw [u1]; clear u1
    refine seq_of fun U1 u1 => ?_
    walk_at "rd"
    refine ⟨by decide, fun p2 hp2 => ?_⟩
    have g6 := same_new hp2 (.lst [.ref p, .ref c, .ref l])
    have gD := (gC.trans g5).trans g6
    refine ⟨_, upd_same, _, gD _ _ ht, small1000' (show 6 ≤ 1000 by decide), fun p3 hp3 => ?_⟩
    have g7 := same_new hp3 (.lst ([.ref p, .ref c, .ref l] ++ [.ref d, .ref y, .ref z]))
    have gE := gD.trans g7
    have gF := (g5.trans g6).trans g7
    have e3' : upd (upd H5 p2 (.lst [.ref p, .ref c, .ref l])) p3 (.lst ([.ref p, .ref c, .ref l] ++ [.ref d, .ref y, .ref z])) p3 = some (.lst [.ref p, .ref c, .ref l, .ref d, .ref y, .ref z]) := upd_same
    generalize upd (upd H5 p2 (.lst [.ref p, .ref c, .ref l])) p3 (.lst ([.ref p, .ref c, .ref l] ++ [.ref d, .ref y, .ref z])) = H6 at gE gF e3' ⊢
    clear g5 g6 g7 gD
    have den1 : Den K H6 5 (.ref ph) (.lst [.lst (ss.map sD), .lst (cols.map DV.int), .lst (lim.map DV.int), .lst (cs.map oD), .lst (ys.map DV.int), .lst (zs.map DV.int)]) := ⟨_, SqL.of (gF _ _ eh), .cons (den_spts (SqL.of (gF _ _ er)) (Sr.mono gF)) (.cons (den_ints (SqL.of (gF _ _ e1))) (.cons (den_ints (SqL.of (gF _ _ e2))) (.cons (den_oD (SqL.of (gF _ _ e3))) (.cons (den_ints (SqL.of (gF _ _ e4))) (.cons (den_ints (SqL.of (gF _ _ e5))) .nil)))))⟩
    have den2 : Den K H6 5 (.ref p3) (.lst [.lst (ss.map sD), .lst (cols.map DV.int), .lst (lim.map DV.int), .lst (cs.map oD), .lst (ys.map DV.int), .lst (zs.map DV.int)]) := ⟨_, SqL.of e3', .cons (den_spts (SqL.of (gE _ _ hp)) (hS.mono gE)) (.cons (den_ints (SqL.of (gE _ _ hc))) (.cons (den_ints (SqL.of (gE _ _ hl))) (.cons (den_oD (SqL.of (gE _ _ hd))) (.cons (den_ints (SqL.of (gE _ _ hy))) (.cons (den_ints (SqL.of (gE _ _ hz))) .nil)))))⟩
    refine ⟨_, _, _, _, rfl, rfl, den1, den2, like_den 5 _ _ den1, ?_⟩
    rw [eqD_same]
    walk_at "rd"
    rw [u1]; clear u1
    walk_at "rd"
    exact ⟨p, c, l, t, d, y, z, us, ss, cols, lim, ys, zs, cs, rfl, gE _ _ ht, gE _ _ hp, hS.mono gE, gE _ _ hc, gE _ _ hl, gE _ _ hd, gE _ _ hy, gE _ _ hz, O, fun H7 g7 => ⟨rfl, by rw [decide_eq_true rfl]; exact q H7 (gE.trans g7)⟩⟩
def sp__law_spoilt (K : PySem.W.Frag) (C_Market : Addr) : Sp := fun vs H Q _ => ∃ (ce : Int) (p t d y z : Addr) (us : List V) (ss : List Spt) (ys zs : List Int) (cs : List (Option Int)) (H0 : Hp), vs = [.int ce, .ref p, .ref t] ∧ H t = some (.lst [.ref d, .ref y, .ref z]) ∧ H0 p = some (.lst us) ∧ Spts H0 us ss ∧ Same H0 H ∧ H0 d = none ∧ H0 y = none ∧ H0 z = none ∧ H d = some (.lst (cs.map oV)) ∧ H y = some (.lst (ys.map V.int)) ∧ H z = some (.lst (zs.map V.int)) ∧ y ≠ d ∧ z ≠ d ∧ y ≠ z ∧ t ≠ d ∧ ss.length ≤ 20 ∧ ss.length = cs.length ∧ ys.length ≤ 30 ∧ zs.length ≤ 30 ∧ (∀ s ∈ ss, s.fs.length ≤ 30 ∧ s.fs ≠ []) ∧ (∀ (i : Nat) s c, ss[i]? = some s → cs[i]? = some c → c ∈ s.fs.map (·.1)) ∧
  ∀ (H' : Hp) (cs' : List (Option Int)) (ys' zs' : List Int), SpT H d y z H' cs' ys' zs' → cs'.length ≤ cs.length → ys'.length ≤ ys.length + 1 → zs'.length ≤ zs.length + 1 → Q .non H'
theorem sc__law_spoilt : FnScope ["_law_cell", "_law_spots_here", "_law_told", "_law_dealt", "_law_ys", "_law_zs", "_law_many", "_law_way", "_law_number", "_law_some", "_law_at", "_law_cost_here", "_law_alike"] ["_law_cell", "_law_spots_here", "_law_told"] (defScope s__law_spoilt) := ⟨rfl, rfl, rfl, by decide +kernel, rfl, by decide +kernel, by decide +kernel⟩
theorem ok__law_spoilt {C_Market : Addr} {f : Addr} {fd : FuncData} (F : Fun K "_law_spoilt" "_law_spoilt" s__law_spoilt f fd) (T : Txt K mg C_Market)  : FnOk P w K mg base CX0 1 f fd ["_law_cell", "_law_spots_here", "_law_told"] (sp__law_spoilt K C_Market) := by
  refine F.ok sc__law_spoilt (fun vs H Q E h => ?_) (fun cdv A outer s H vs Q E hr h => ?_)
  · obtain ⟨ce, p, t, d, y, z, us, ss, ys, zs, cs, H0, rfl, _⟩ := h
    rfl
  · obtain ⟨ce, p, t, d, y, z, us, ss, ys, zs, cs, H0, rfl, ht, hp, hS, g0, hd0, hy0, hz0, hd, hy, hz, nyd, nzd, nyz, ntd, n1, hlen, n2, n3, hok, hin, q⟩ := h
    refine ⟨_, (pss_cons (ps_asg (pv 2) (pg_lst (n := 3) rfl (pgs_cons (pg_name (i := 3) sc__law_spoilt.nd rfl (Or.inr rfl)) (pgs_cons (pg_name (i := 4) sc__law_spoilt.nd rfl (Or.inl rfl)) (pgs_cons (pg_name (i := 5) sc__law_spoilt.nd rfl (Or.inl rfl)) pgs_nil)))))
    (pss_cons (ps_set (i := 6) sc__law_spoilt.nd rfl (Or.inl rfl) (pe_callB (call_lenK (K := K) rfl) (by rfl) T.len PySem.boot_len (pa_cons (pv 4) pa_nil)))
    (pss_cons (ps_set (i := 7) sc__law_spoilt.nd rfl (Or.inl rfl) (pe_op op_mod (pv 0) pe_int))
    (pss_cons (ps_set (i := 8) sc__law_spoilt.nd rfl (Or.inl rfl) (pe_op op_fdiv (pv 0) pe_int))
    (pss_cons (ps_set (i := 9) sc__law_spoilt.nd rfl (Or.inl rfl) (pe_ix ix_list (pe_lst (pa_cons (pv 4) (pa_cons (pv 5) pa_nil))) (pe_op op_mod (pv 8) pe_int) (fun _ _ => rfl)))
    (pss_cut (ps_if (pt_cmpR op_eq (pv 7) pe_int (nomark _)) (pss_one (ps_expr (pe_bm PySem.F.plainAttrs_list PySem.F.slot_list_insert PySem.F.type_list_insert mt_insert (pv 9) (pa_cons (pe_op op_mod (pe_op op_fdiv (pv 8) pe_int) (pe_op op_add (pe_callB (call_lenK (K := K) rfl) (by rfl) T.len PySem.boot_len (pa_cons (pv 9) pa_nil)) pe_int)) (pa_cons pe_int pa_nil))))) pss_nil)
    (pss_cut (ps_if (pt_cmpR (op_neD 1 hr) (pv 9) (pe_lst pa_nil) (nomark _)) (pss_cons (ps_set (i := 10) sc__law_spoilt.nd rfl (Or.inr rfl) (pe_op op_mod (pe_op op_fdiv (pv 8) pe_int) (pe_callB (call_lenK (K := K) rfl) (by rfl) T.len PySem.boot_len (pa_cons (pv 9) pa_nil))))
      (pss_cut (ps_if (pt_cmpR op_eq (pv 7) pe_int (nomark _)) (pss_one (ps_expr (pe_bm PySem.F.plainAttrs_list PySem.F.slot_list_pop PySem.F.type_list_pop mt_popAt (pv 9) (pa_cons (pv 10) pa_nil)))) pss_nil)
      (pss_cut (ps_if (pt_cmpR op_eq (pv 7) pe_int (nomark _)) (pss_one (ps_asg (pe_op op_add (pe_ix ix_list (pv 9) (pv 10) (fun _ _ => rfl)) pe_int) (pg_sub (pv 9) (pv 10) set_list))) pss_nil)
      (pss_cut (ps_if (pt_cmpR op_eq (pv 7) pe_int (nomark _)) (pss_one (ps_asg (pe_op op_sub (pe_ix ix_list (pv 9) (pv 10) (fun _ _ => rfl)) pe_int) (pg_sub (pv 9) (pv 10) set_list))) pss_nil)
      (pss_one (ps_if (pt_cmpR op_eq (pv 7) pe_int (nomark _)) (pss_one (ps_asg (pe_op op_sub (pe_un un_neg pe_int) (pe_ix ix_list (pv 9) (pv 10) (fun _ _ => rfl))) (pg_sub (pv 9) (pv 10) set_list))) pss_nil)))))) pss_nil)
    (pss_one (ps_if (pt_cmpR (op_neD 1 hr) (pv 3) (pe_lst pa_nil) (nomark _)) (pss_cons (ps_set (i := 10) sc__law_spoilt.nd rfl (Or.inr rfl) (pe_op op_mod (pe_op op_fdiv (pv 8) pe_int) (pe_callB (call_lenK (K := K) rfl) (by rfl) T.len PySem.boot_len (pa_cons (pv 3) pa_nil))))
      (pss_cut (ps_if (pt_cmpR op_eq (pv 7) pe_int (nomark _)) (pss_one (ps_asg (pe_op op_mod (pe_op op_fdiv (pv 8) pe_int) (pe_callB (call_max2 rfl) (by rfl) T.max PyProof.Rows.boot_max (pa_cons (pv 6) (pa_cons pe_int pa_nil)))) (pg_sub (pv 3) (pv 10) set_list))) pss_nil)
      (pss_cut (ps_if (pt_cmpR op_eq (pv 7) pe_int (nomark _)) (pss_cons (ps_set (i := 11) sc__law_spoilt.nd rfl (Or.inr rfl) (pe_ix ix_list (pe_comp (own := ["_law_column", "_law_cost_here"]) (fnames := ["_law_dealt", "_law_at"]) (fr := [3, 10]) (N' := ["_law_column", "_law_cost_here", "_law_dealt", "_law_at"]) ⟨rfl, rfl, rfl, rfl, rfl, rfl, rfl⟩ rfl (pi_list (pe_ix ix_tup (pe_ix ix_list (pv 1) (pv 10) (fun _ _ => rfl)) pe_int (fun _ _ => rfl))) (fun s0 H0 fp0 C0 => ⟨(pg_tupK (K := K) (n := 2) rfl rfl (pgs_cons (pg_name (i := 0) (by show (["_law_column", "_law_cost_here", "_law_dealt", "_law_at"] : List Str).Nodup; decide +kernel) rfl (Or.inl rfl)) (pgs_cons (pg_name (i := 1) (by show (["_law_column", "_law_cost_here", "_law_dealt", "_law_at"] : List Str).Nodup; decide +kernel) rfl (Or.inl rfl)) pgs_nil))), (pts_one (pt_cmpR op_eq (pv 0) (pe_ix (ix_listK (K := K) rfl) (pv 2) (pv 3) (fun _ _ => rfl)) (nomark _))), (pv 1)⟩)) pe_int (fun _ _ => rfl)))
        (pss_cons (ps_comp (i := 12) sc__law_spoilt.nd rfl rfl (own := ["_law_column", "_law_other"]) (fnames := ["_law_cost_here"]) (fr := [11]) (N' := ["_law_column", "_law_other", "_law_cost_here"]) ⟨rfl, rfl, rfl, rfl, rfl, rfl, rfl⟩ rfl (pi_list (pe_ix ix_tup (pe_ix ix_list (pv 1) (pv 10) (fun _ _ => rfl)) pe_int (fun _ _ => rfl))) (fun s0 H0 fp0 C0 => ⟨(pg_tupK (K := K) (n := 2) rfl rfl (pgs_cons (pg_name (i := 0) (by show (["_law_column", "_law_other", "_law_cost_here"] : List Str).Nodup; decide +kernel) rfl (Or.inl rfl)) (pgs_cons (pg_name (i := 1) (by show (["_law_column", "_law_other", "_law_cost_here"] : List Str).Nodup; decide +kernel) rfl (Or.inl rfl)) pgs_nil))), (pts_one (pt_cmpR op_eq (pv 1) (pv 2) (nomark _))), (pv 0)⟩))
        (pss_one (ps_asg (pe_ix ix_list (pv 12) (pe_op op_mod (pe_op op_fdiv (pv 8) pe_int) (pe_callB (call_lenK (K := K) rfl) (by rfl) T.len PySem.boot_len (pa_cons (pv 12) pa_nil))) (fun _ _ => rfl)) (pg_sub (pv 3) (pv 10) set_list))))) pss_nil)
      (pss_one (ps_if (pt_cmpR op_eq (pv 7) pe_int (nomark _)) (pss_one (ps_expr (pe_bm PySem.F.plainAttrs_list PySem.F.slot_list_pop PySem.F.type_list_pop mt_popAt (pv 3) (pa_cons (pv 10) pa_nil)))) pss_nil))))) pss_nil))))))))), ?_⟩
    refine seq_of fun U1 u1 => ?_
    walk_at "rd"
    refine ⟨_, SqL.of ht, rfl, _, _, rfl, _, _, rfl, _, _, rfl, rfl, ?_⟩
    rw [u1]; clear u1
    refine seq_of fun U1 u1 => ?_
    walk_at "rd"
    refine ⟨_, .inl (SqL.of hy), ?_⟩
    rw [u1]; clear u1
    refine seq_of fun U1 u1 => ?_
    walk_at "rd"
    refine ⟨by decide, ?_⟩
    rw [List.length_map]
    generalize ce % 8 = wy
    rw [u1]; clear u1
    refine seq_of fun U1 u1 => ?_
    walk_at "rd"
    refine ⟨⟨by decide, by decide⟩, ?_⟩
    generalize ce / 8 = nb
    rw [u1]; clear u1
    refine seq_of fun U1 u1 => ?_
    walk_at "rd"
    refine ⟨by decide, fun p1 hp1 => ⟨by decide, ?_⟩⟩
    have g1 := same_new hp1 (.lst [.ref y, .ref z])
    have ep1 : upd H p1 (.lst [.ref y, .ref z]) p1 = _ := upd_same
    generalize upd H p1 (.lst [.ref y, .ref z]) = H1 at g1 ep1 ⊢
    have S0 : SpT H d y z H1 cs ys zs := ⟨fun a o e _ _ _ => g1 _ _ e, g1 _ _ hd, g1 _ _ hy, g1 _ _ hz⟩
    have key : ∀ (sa oa : Addr) (xs os : List Int), sa ≠ d → oa ≠ d → sa ≠ oa → SpT H d sa oa H1 cs xs os → xs.length ≤ 30 → H0 sa = none → H0 oa = none → (∀ (H' : Hp) (cs' : List (Option Int)) (xs' os' : List Int), SpT H d sa oa H' cs' xs' os' → cs'.length ≤ cs.length → xs'.length ≤ xs.length + 1 → os'.length ≤ os.length + 1 → Q .non H') → U1 { nx := fun x H' => Q V.non H', rt := Q } [some (V.int ce), some (V.ref p), some (V.ref t), some (V.ref d), some (V.ref y), some (V.ref z), some (V.int ys.length), some (V.int wy), some (V.int nb), some (.ref sa), none, none, none] H1 := by
      clear S0 q hd hy hz hy0 hz0 nyd nzd nyz n2 n3
      intro sa oa xs os nsd nod nso S1 n2 hs0 ho0 q
      rw [u1]; clear u1
      refine cut_of (fun σ H2 => ∃ xs' : List Int, SpT H d sa oa H2 cs xs' os ∧ xs'.length ≤ xs.length + 1 ∧ (wy ≠ 0 → xs' = xs) ∧ σ = [some (V.int ce), some (V.ref p), some (V.ref t), some (V.ref d), some (V.ref y), some (V.ref z), some (V.int ys.length), some (V.int wy), some (V.int nb), some (.ref sa), none, none, none]) ?_ ?_
      · walk_at "rd"
        by_cases z : wy = 0
        · rw [if_pos z]
          have hlt := Int.emod_lt_of_pos (nb / 2) (b := (xs.length : Int) + 1) (by omega)
          have hge := Int.emod_nonneg (nb / 2) (b := (xs.length : Int) + 1) (by omega)
          refine ⟨.inl ⟨rfl, _, SqL.of S1.ey⟩, ⟨by decide, by decide⟩, _, .inl (SqL.of S1.ey), ?_⟩
          rw [List.length_map]
          refine ⟨by omega, _, S1.ey, hge, by rw [List.length_map]; omega, small1000 (by rw [List.length_map]; omega), xs.take (nb / 2 % ((xs.length : Int) + 1)).toNat ++ 0 :: xs.drop (nb / 2 % ((xs.length : Int) + 1)).toNat, ?_, ?_, fun w => absurd z w⟩
          · rw [← List.map_take, ← List.map_drop, show V.int 0 :: (xs.drop (nb / 2 % ((xs.length : Int) + 1)).toNat).map V.int = ((0 :: xs.drop (nb / 2 % ((xs.length : Int) + 1)).toNat : List Int)).map V.int from rfl, ← List.map_append]
            exact S1.putY nsd nso _
          · rw [List.length_append, List.length_cons, List.length_take, List.length_drop]
            omega
        · rw [if_neg z]
          exact ⟨xs, S1, Nat.le_succ _, fun _ => rfl⟩
      rintro σ H2 ⟨xs1, S2, hx1, hw1, rfl⟩
      refine cut_of (fun σ H3 => ∃ (xs' : List Int) (v10 : Option V), SpT H d sa oa H3 cs xs' os ∧ xs'.length ≤ xs.length + 1 ∧ σ = [some (V.int ce), some (V.ref p), some (V.ref t), some (V.ref d), some (V.ref y), some (V.ref z), some (V.int ys.length), some (V.int wy), some (V.int nb), some (.ref sa), v10, none, none]) ?_ ?_
      · walk_at "rd"
        refine ⟨Nat.zero_le _, fun p2 hp2 => ?_⟩
        have g2 := same_new hp2 (.lst [])
        have S2' := S2.mono g2
        refine ne_nil (den_ints (SqL.of S2'.ey)) upd_same ⟨_, rfl, ?_⟩
        generalize upd H2 p2 (.lst []) = H2' at S2' ⊢
        by_cases zx : xs1 = []
        · rw [if_neg (by rw [zx]; decide)]
          exact ⟨xs1, S2', hx1⟩
        rw [if_pos (by rw [decide_eq_false (fun w => zx (List.map_eq_nil_iff.mp w))]; rfl)]
        refine ⟨⟨by decide, by decide⟩, _, .inl (SqL.of S2'.ey), ?_⟩
        rw [List.length_map]
        have hpos : 0 < xs1.length := List.length_pos_iff.mpr zx
        obtain ⟨k, ek, hk⟩ := emod_nat (nb / 2) hpos
        rw [ek]
        refine ⟨by omega, ?_⟩
        clear ek hw1 g2 S2 zx
        refine cut_of (fun σ H4 => ∃ xs' : List Int, SpT H d sa oa H4 cs xs' os ∧ xs'.length ≤ xs.length + 1 ∧ (wy ≠ 1 → k < xs'.length) ∧ σ = [some (V.int ce), some (V.ref p), some (V.ref t), some (V.ref d), some (V.ref y), some (V.ref z), some (V.int ys.length), some (V.int wy), some (V.int nb), some (.ref sa), some (.int k), none, none]) ?_ ?_
        · walk_at "rd"
          by_cases z1 : wy = 1
          · rw [if_pos z1]
            refine ⟨.inl ⟨rfl, _, SqL.of S2'.ey⟩, _, S2'.ey, by omega, by omega, k, seqIndex_nat (by rw [List.length_map]; exact hk), .int xs1[k], by rw [List.getElem?_map, List.getElem?_eq_getElem hk]; rfl, ?_⟩
            rw [era_int]
            exact ⟨_, S2'.putY nsd nso _, Nat.le_trans (era_le _ _) hx1, fun w => absurd z1 w⟩
          · rw [if_neg z1]
            exact ⟨xs1, S2', hx1, fun _ => hk⟩
        rintro σ H4 ⟨xs3, S4, hx3, hk3, rfl⟩
        refine cut_of (fun σ H4 => ∃ xs' : List Int, SpT H d sa oa H4 cs xs' os ∧ xs'.length ≤ xs.length + 1 ∧ (wy ≠ 1 → k < xs'.length) ∧ σ = [some (V.int ce), some (V.ref p), some (V.ref t), some (V.ref d), some (V.ref y), some (V.ref z), some (V.int ys.length), some (V.int wy), some (V.int nb), some (.ref sa), some (.int k), none, none]) ?_ ?_
        · walk_at "rd"
          by_cases z1 : wy = 2
          · rw [if_pos z1]
            have hk4 := hk3 (by omega)
            refine ⟨_, SqL.of S4.ey, _, S4.at (K := K) hk4, _, rfl, _, S4.ey, k, by rw [List.length_map]; exact ixN_lt hk4, ?_⟩
            rw [set_ints]
            exact ⟨_, S4.putY nsd nso _, by rw [List.length_set]; exact hx3, by rw [List.length_set]; exact hk3⟩
          · rw [if_neg z1]
            exact ⟨xs3, S4, hx3, hk3⟩
        clear S4 hx3 hk3
        rintro σ H4 ⟨xs3, S4, hx3, hk3, rfl⟩
        refine cut_of (fun σ H4 => ∃ xs' : List Int, SpT H d sa oa H4 cs xs' os ∧ xs'.length ≤ xs.length + 1 ∧ (wy ≠ 1 → k < xs'.length) ∧ σ = [some (V.int ce), some (V.ref p), some (V.ref t), some (V.ref d), some (V.ref y), some (V.ref z), some (V.int ys.length), some (V.int wy), some (V.int nb), some (.ref sa), some (.int k), none, none]) ?_ ?_
        · walk_at "rd"
          by_cases z1 : wy = 3
          · rw [if_pos z1]
            have hk4 := hk3 (by omega)
            refine ⟨_, SqL.of S4.ey, _, S4.at (K := K) hk4, _, rfl, _, S4.ey, k, by rw [List.length_map]; exact ixN_lt hk4, ?_⟩
            rw [set_ints]
            exact ⟨_, S4.putY nsd nso _, by rw [List.length_set]; exact hx3, by rw [List.length_set]; exact hk3⟩
          · rw [if_neg z1]
            exact ⟨xs3, S4, hx3, hk3⟩
        clear S4 hx3 hk3
        rintro σ H4 ⟨xs3, S4, hx3, hk3, rfl⟩
        walk_at "rd"
        by_cases z1 : wy = 4
        · rw [if_pos z1]
          have hk4 := hk3 (by omega)
          refine ⟨_, SqL.of S4.ey, _, S4.at (K := K) hk4, _, rfl, _, S4.ey, k, by rw [List.length_map]; exact ixN_lt hk4, ?_⟩
          rw [set_ints]
          exact ⟨_, S4.putY nsd nso _, by rw [List.length_set]; exact hx3⟩
        · rw [if_neg z1]
          exact ⟨xs3, S4, hx3⟩
      rintro σ H3 ⟨xs2, v10, S3, hx2, rfl⟩
      walk_at "rd"
      refine ⟨Nat.zero_le _, fun p2 hp2 => ?_⟩
      have S3' := S3.mono (same_new hp2 (.lst []))
      refine ne_nil (den_oD (SqL.of S3'.ed)) upd_same ⟨_, rfl, ?_⟩
      generalize upd H3 p2 (.lst []) = H3' at S3' ⊢
      clear S3 hp2
      by_cases zx : cs = []
      · rw [if_neg (by rw [zx]; decide)]
        exact q H3' cs xs2 os S3' (Nat.le_refl _) hx2 (Nat.le_succ _)
      rw [if_pos (by rw [decide_eq_false (fun w => zx (List.map_eq_nil_iff.mp w))]; rfl)]
      refine ⟨⟨by decide, by decide⟩, _, .inl (SqL.of S3'.ed), ?_⟩
      rw [List.length_map]
      have hpos : 0 < cs.length := List.length_pos_iff.mpr zx
      obtain ⟨k, ek, hk⟩ := emod_nat (nb / 2) hpos
      rw [ek]
      refine ⟨by omega, ?_⟩
      clear ek zx
      refine cut_of (fun σ H4 => ∃ cs' : List (Option Int), SpT H d sa oa H4 cs' xs2 os ∧ cs'.length = cs.length ∧ (wy ≠ 5 → cs' = cs) ∧ σ = [some (V.int ce), some (V.ref p), some (V.ref t), some (V.ref d), some (V.ref y), some (V.ref z), some (V.int ys.length), some (V.int wy), some (V.int nb), some (.ref sa), some (.int k), none, none]) ?_ ?_
      · walk_at "rd"
        by_cases z1 : wy = 5
        · rw [if_pos z1]
          have hmx : (0 : Int) < if 1 > (ys.length : Int) then 1 else (ys.length : Int) := by split <;> omega
          refine ⟨⟨by decide, by decide⟩, hmx, _, S3'.ed, k, by rw [List.length_map]; exact ixN_lt hk, ?_⟩
          rw [show V.int (nb / 61 % if 1 > (ys.length : Int) then 1 else (ys.length : Int)) = oV (some (nb / 61 % if 1 > (ys.length : Int) then 1 else (ys.length : Int))) from rfl, map_set_oV]
          exact ⟨_, S3'.putD nsd nod _, List.length_set, fun w => absurd z1 w⟩
        · rw [if_neg z1]
          exact ⟨cs, S3', rfl, fun _ => rfl⟩
      rintro σ H4 ⟨cs4, S4, hc4, hw4, rfl⟩
      refine cut_of (fun σ H5 => ∃ (cs' : List (Option Int)) (v10 v11 v12 : Option V), SpT H d sa oa H5 cs' xs2 os ∧ cs'.length = cs.length ∧ σ = [some (V.int ce), some (V.ref p), some (V.ref t), some (V.ref d), some (V.ref y), some (V.ref z), some (V.int ys.length), some (V.int wy), some (V.int nb), some (.ref sa), some (.int k), v11, v12]) ?_ ?_
      · refine ifs_ofB fun A1 a1 => ?_
        walk_at "rd"
        by_cases z1 : wy = 6
        · rw [if_pos z1]
          rw [a1]; clear a1
          have hcs : cs4 = cs := hw4 (by omega)
          subst hcs
          have gB := S4.back g0 hd0 hs0 ho0
          have hks : k < ss.length := by omega
          have hsk := List.getElem?_eq_getElem hks
          have hck := List.getElem?_eq_getElem hk
          obtain ⟨t2, l2, ts2, a2, q1, q2, q3⟩ := (hS.mono gB).get hsk
          have hp4 := gB _ _ hp
          have htl := Paired.length q3
          obtain ⟨hfl, hfne⟩ := hok _ (List.mem_of_getElem? hsk)
          have hink := hin k _ _ hsk hck
          have hcv : (cs4.map oV)[k]? = some (oV cs4[k]) := by rw [List.getElem?_map, hck]; rfl
          generalize ss[k] = sk at q1 q2 q3 htl hfl hfne hink
          generalize cs4[k] = ck at hcv hink
          refine seq_of fun U3 u3 => ?_
          walk_at "rd"
          refine ⟨_, SqL.of hp4, _, atI_nat a2, t2, rfl, _, SqT.of q1, _, rfl, l2, rfl, ⟨_, SqL.of q2⟩, fun D hD => for_listW (xs := ts2) (fun j σ H6 => Same H4 H6 ∧ H6 D = some (.lst ((((sk.fs.take j).filter fun f => decide (f.1 = ck)).map (·.2)).map V.int)) ∧ ∃ v0 v1, σ = [v0, v1, some (.ref d), some (.int k)]) ⟨same_new hD _, upd_same, none, none, rfl⟩ (fun j σ H6 _ hh => SqL.of (hh.1 _ _ q2)) ?_ ?_⟩
          · rintro j v σ H6 hv ⟨g, e, v0, v1, rfl⟩
            obtain ⟨f, hf, t3, rfl, q4⟩ := Paired.get' q3 hv
            have hj := (List.getElem?_eq_some_iff.mp hf).1
            walk_at "rd"
            refine ⟨_, SqT.of (g _ _ q4), rfl, _, _, rfl, _, _, rfl, rfl, ?_⟩
            walk_at "rd"
            refine ⟨_, SqL.of (g _ _ S4.ed), _, atI_nat hcv, oV_scal _ _, ?_⟩
            have hfl2 := List.length_filter_le (fun f : Off => decide (f.1 = ck)) (sk.fs.take j)
            rw [List.length_take] at hfl2
            rw [take_one hf, filter_snoc]
            by_cases zc : f.1 = ck
            · rw [if_pos (by rw [zc]), if_pos (decide_eq_true zc)]
              exact ⟨_, e, small1000 (by rw [List.length_map, List.length_map]; omega), same_upd hD g _, by rw [upd_same, List.map_append, List.map_append]; rfl⟩
            · rw [if_neg (fun w => zc (oV_inj w)), if_neg (fun w => zc (of_decide_eq_true w)), List.append_nil]
              exact ⟨g, e⟩
          rintro σ H6 ⟨g6, e6, v0, v1, rfl⟩
          rw [htl, List.take_length] at e6
          walk_at "rd"
          obtain ⟨f0, hf0, ef0⟩ := List.mem_map.mp hink
          obtain ⟨w, fr, ew, hwm⟩ : ∃ (w : Int) (fr : List Int), ((sk.fs.filter fun f => decide (f.1 = ck)).map (·.2)) = w :: fr ∧ ∃ f1 ∈ sk.fs, f1.2 = w := by
            have hm : f0 ∈ sk.fs.filter fun f => decide (f.1 = ck) := List.mem_filter.mpr ⟨hf0, decide_eq_true ef0⟩
            cases e : sk.fs.filter fun f => decide (f.1 = ck) with
            | nil => rw [e] at hm; cases hm
            | cons f1 r =>
              have : f1 ∈ sk.fs.filter fun f => decide (f.1 = ck) := by rw [e]; exact List.mem_cons_self
              exact ⟨f1.2, r.map (·.2), rfl, f1, (List.mem_filter.mp this).1, rfl⟩
          rw [ew] at e6
          refine ⟨_, SqL.of e6, .int w, (show atI _ ((0 : Nat) : Int) = _ from atI_nat rfl), ?_⟩
          have S6 := S4.mono g6
          have gC := gB.trans g6
          have q16 := g6 _ _ q1
          have q26 := g6 _ _ q2
          have q36 : Offs H6 ts2 sk.fs := Offs.mono g6 q3
          rw [u3]; clear u3
          refine seq_of fun U3 u3 => ?_
          walk_at "rd"
          refine ⟨_, SqL.of (g6 _ _ hp4), _, atI_nat a2, t2, rfl, _, SqT.of q16, _, rfl, l2, rfl, ⟨_, SqL.of q26⟩, fun D2 hD2 => for_listW (xs := ts2) (fun j σ H7 => Same H6 H7 ∧ H7 D2 = some (.lst ((((sk.fs.take j).filter fun f => decide (f.2 = w)).map (·.1)).map oV)) ∧ ∃ v0 v1, σ = [v0, v1, some (.int w)]) ⟨same_new hD2 _, upd_same, none, none, rfl⟩ (fun j σ H7 _ hh => SqL.of (hh.1 _ _ q26)) ?_ ?_⟩
          · rintro j v σ H7 hv ⟨g, e, v0, v1, rfl⟩
            obtain ⟨f, hf, t3, rfl, q4⟩ := Paired.get' q36 hv
            have hj := (List.getElem?_eq_some_iff.mp hf).1
            walk_at "rd"
            refine ⟨_, SqT.of (g _ _ q4), rfl, _, _, rfl, _, _, rfl, rfl, ?_⟩
            walk_at "rd"
            have hfl2 := List.length_filter_le (fun f : Off => decide (f.2 = w)) (sk.fs.take j)
            rw [List.length_take] at hfl2
            rw [take_one hf, filter_snoc]
            by_cases zc : f.2 = w
            · rw [if_pos zc, if_pos (decide_eq_true zc)]
              exact ⟨_, e, small1000 (by rw [List.length_map, List.length_map]; omega), same_upd hD2 g _, by rw [upd_same, List.map_append, List.map_append]; rfl⟩
            · rw [if_neg zc, if_neg (fun w => zc (of_decide_eq_true w)), List.append_nil]
              exact ⟨g, e⟩
          rintro σ H7 ⟨g7, e7, v0, v1, rfl⟩
          rw [htl, List.take_length] at e7
          have hal : 0 < ((sk.fs.filter fun f => decide (f.2 = w)).map (·.1)).length := by
            obtain ⟨f1, h1, h2⟩ := hwm
            exact List.length_pos_iff.mpr fun z => by
              have hm : f1 ∈ sk.fs.filter fun f => decide (f.2 = w) := List.mem_filter.mpr ⟨h1, decide_eq_true h2⟩
              have := List.mem_map_of_mem (f := fun f : Off => f.1) hm
              rw [z] at this
              cases this
          generalize ((sk.fs.filter fun f => decide (f.2 = w)).map (·.1)) = al at e7 hal
          have S7 := S6.mono g7
          obtain ⟨m, em, hm⟩ := emod_nat (nb / 61) hal
          rw [u3]; clear u3
          walk_at "rd"
          refine ⟨⟨by decide, by decide⟩, _, .inl (SqL.of e7), ?_⟩
          rw [List.length_map, em]
          refine ⟨by omega, _, SqL.of e7, oV al[m], atI_nat (by rw [List.getElem?_map, List.getElem?_eq_getElem hm]; rfl), _, S7.ed, k, by rw [List.length_map]; exact ixN_lt hk, ?_⟩
          rw [map_set_oV]
          exact ⟨_, S7.putD nsd nod _, List.length_set⟩
        · rw [if_neg z1]
          exact ⟨cs4, S4, hc4⟩
      rintro σ H5 ⟨cs5, v10', v11, v12, S5, hc5, rfl⟩
      walk_at "rd"
      by_cases z1 : wy = 7
      · rw [if_pos z1]
        have hk5 : k < cs5.length := by omega
        refine ⟨.inl ⟨rfl, _, SqL.of S5.ed⟩, _, S5.ed, by omega, by omega, k, seqIndex_nat (by rw [List.length_map]; exact hk5), oV cs5[k], by rw [List.getElem?_map, List.getElem?_eq_getElem hk5]; rfl, ?_⟩
        rw [era_oV]
        exact q _ _ _ _ (S5.putD nsd nod _) (by have := era_le cs5 k; omega) hx2 (Nat.le_succ _)
      · rw [if_neg z1]
        exact q _ _ _ _ S5 (by omega) hx2 (Nat.le_succ _)
    rcases emod_two nb with e | e
    · refine ⟨_, SqL.of ep1, .ref y, by rw [e]; rfl, key y z ys zs nyd nzd nyz S0 n2 hy0 hz0 q⟩
    · refine ⟨_, SqL.of ep1, .ref z, by rw [e]; rfl, key z y zs ys nzd nyd nyz.symm S0.swap n3 hz0 hy0 fun H' cs' xs' os' h a b c => q H' cs' os' xs' h.swap a c b⟩
def sp_law (K : PySem.W.Frag) : Sp := fun vs H Q _ => ∃ (a : Addr) (ns : List Int), vs = [.ref a] ∧ SqL K H a (ns.map V.int) ∧ ns.length ≤ 63 ∧ ∀ H', Q (.bl true) H'
theorem sc_law : FnScope ["_law_script", "_law_spots_here", "_law_owners", "_law_many", "_law_cell", "_law_xs", "_law_dealt", "_law_got", "_law_busy", "_law_columns", "_law_limits", "_law_prices", "_law_told", "_law_found", "_law_first"] ["_law_script"] (defScope s_law) := ⟨rfl, rfl, rfl, by decide +kernel, rfl, by decide +kernel, by decide +kernel⟩
theorem ok_law {C_Market : Addr} {f : Addr} {fd : FuncData} (F : Fun K "law" "law" s_law f fd) (T : Txt K mg C_Market) (C__law_spots : Cal P w K mg base "_law_spots" ["_law_script", "_law_most"] 3 (sp__law_spots K C_Market)) (C__law_stream : Cal P w K mg base "_law_stream" ["_law_cell", "_law_many"] 1 (sp__law_stream K C_Market)) (C__law_picked : Cal P w K mg base "_law_picked" ["_law_spots_here", "_law_cell"] 2 (sp__law_picked K C_Market)) (C__law_counts : Cal P w K mg base "_law_counts" ["_law_spots_here", "_law_owners", "_law_many", "_law_dealt"] 1 (sp__law_counts K C_Market)) (C__law_cell_at : Cal P w K mg base "_law_cell_at" ["_law_script", "_law_k"] 1 (sp__law_cell_at K C_Market)) (C__law_limit : Cal P w K mg base "_law_limit" ["_law_busy", "_law_number"] 1 (sp__law_limit K C_Market)) (C_cheapest : Cal P w K mg base "cheapest" ["spots", "columns", "caps"] 4 (sp_cheapest K C_Market)) (C__law_good : Cal P w K mg base "_law_good" ["_law_spots_here", "_law_columns", "_law_limits", "_law_told"] 4 (sp__law_good K C_Market)) (C__law_spoilt : Cal P w K mg base "_law_spoilt" ["_law_cell", "_law_spots_here", "_law_told"] 1 (sp__law_spoilt K C_Market)) (C__law_copy : Cal P w K mg base "_law_copy" ["_law_spots_here"] 1 (sp__law_copy K C_Market)) : FnOk P w K mg base CX0 5 f fd ["_law_script"] (sp_law K) := by
  refine F.ok sc_law (fun vs H Q E h => ?_) (fun cdv A outer s H vs Q E hr h => ?_)
  · obtain ⟨a, ns, rfl, _⟩ := h
    rfl
  · obtain ⟨a, ns, rfl, hS, hn, k⟩ := h
    refine ⟨_, (pss_cons (ps_asg (pe_cal C__law_spots (hr.mono (by decide)) rfl (pa_cons (pv 0) (pa_cons pe_int pa_nil))) (pg_tup (n := 3) rfl (pgs_cons (pg_name (i := 1) sc_law.nd rfl (Or.inl rfl)) (pgs_cons (pg_name (i := 2) sc_law.nd rfl (Or.inr rfl)) (pgs_cons (pg_name (i := 3) sc_law.nd rfl (Or.inr rfl)) pgs_nil)))))
    (pss_cons (ps_set (i := 4) sc_law.nd rfl (Or.inl rfl) (pe_op op_mod (pe_cal C__law_cell_at (hr.mono (by decide)) rfl (pa_cons (pv 0) (pa_cons pe_int pa_nil))) (pe_op op_pow pe_int pe_int)))
    (pss_cons (ps_set (i := 5) sc_law.nd rfl (Or.inr rfl) (pe_cal C__law_stream (hr.mono (by decide)) rfl (pa_cons (pe_cal C__law_cell_at (hr.mono (by decide)) rfl (pa_cons (pv 0) (pa_cons pe_int pa_nil))) (pa_cons (pe_op op_mul pe_int (pe_op op_add (pv 2) (pv 3))) pa_nil))))
    (pss_cons (ps_set (i := 6) sc_law.nd rfl (Or.inl rfl) (pe_cal C__law_picked (hr.mono (by decide)) rfl (pa_cons (pv 1) (pa_cons (pv 4) pa_nil))))
    (pss_cons (ps_asg (pe_cal C__law_counts (hr.mono (by decide)) rfl (pa_cons (pv 1) (pa_cons (pv 2) (pa_cons (pv 3) (pa_cons (pv 6) pa_nil))))) (pg_tup (n := 2) rfl (pgs_cons (pg_name (i := 7) sc_law.nd rfl (Or.inr rfl)) (pgs_cons (pg_name (i := 8) sc_law.nd rfl (Or.inr rfl)) pgs_nil))))
    (pss_cons (ps_comp (i := 9) sc_law.nd rfl rfl (own := ["_law_k"]) (fnames := ["_law_xs", "_law_got"]) (fr := [5, 7]) (N' := ["_law_k", "_law_xs", "_law_got"]) ⟨rfl, rfl, rfl, rfl, rfl, rfl, rfl⟩ rfl (pi_range1 rfl T.range (pa_cons (pv 3) pa_nil)) (fun s0 H0 fp0 C0 => ⟨(pg_name (i := 0) (by show (["_law_k", "_law_xs", "_law_got"] : List Str).Nodup; decide +kernel) rfl (Or.inl rfl)), pts_nil, (pe_callB (call_max2 rfl) (by rfl) T.max PyProof.Rows.boot_max (pa_cons pe_int (pa_cons (pe_op op_sub (pe_ix (ix_listK (K := K) rfl) (pv 2) (pv 0) (fun _ _ => rfl)) (pe_op op_fdiv (pe_op op_mod (pe_ix (ix_listK (K := K) rfl) (pv 1) (pv 0) (fun _ _ => rfl)) pe_int) pe_int)) pa_nil)))⟩))
    (pss_cons (ps_comp (i := 10) sc_law.nd rfl rfl (own := ["_law_k"]) (fnames := ["_law_many", "_law_xs", "_law_busy"]) (fr := [3, 5, 8]) (N' := ["_law_k", "_law_many", "_law_xs", "_law_busy"]) ⟨rfl, rfl, rfl, rfl, rfl, rfl, rfl⟩ rfl (pi_range1 rfl T.range (pa_cons (pv 2) pa_nil)) (fun s0 H0 fp0 C0 => ⟨(pg_name (i := 0) (by show (["_law_k", "_law_many", "_law_xs", "_law_busy"] : List Str).Nodup; decide +kernel) rfl (Or.inl rfl)), pts_nil, (pe_cal C__law_limit (hr.mono (by decide)) rfl (pa_cons (pe_ix (ix_listK (K := K) rfl) (pv 3) (pv 0) (fun _ _ => rfl)) (pa_cons (pe_ix (ix_listK (K := K) rfl) (pv 2) (pe_op op_add (pv 1) (pv 0)) (fun _ _ => rfl)) pa_nil)))⟩))
    (pss_cut (ps_if (pt_cmpR op_eq (pe_op op_mod (pv 4) pe_int) pe_int (nomark _)) (pss_cons (ps_comp (i := 11) sc_law.nd rfl rfl (own := ["_law_k"]) (fnames := ["_law_owners", "_law_many", "_law_xs"]) (fr := [2, 3, 5]) (N' := ["_law_k", "_law_owners", "_law_many", "_law_xs"]) ⟨rfl, rfl, rfl, rfl, rfl, rfl, rfl⟩ rfl (pi_range1 rfl T.range (pa_cons (pe_op op_add (pv 2) (pv 3)) pa_nil)) (fun s0 H0 fp0 C0 => ⟨(pg_name (i := 0) (by show (["_law_k", "_law_owners", "_law_many", "_law_xs"] : List Str).Nodup; decide +kernel) rfl (Or.inl rfl)), pts_nil, (pe_op op_mod (pe_ix (ix_listK (K := K) rfl) (pv 3) (pe_op op_add (pe_op op_add (pv 1) (pv 2)) (pv 0)) (fun _ _ => rfl)) pe_int)⟩))
      (pss_one (ps_set (i := 12) sc_law.nd rfl (Or.inl rfl) (pe_lst (pa_cons (pv 6) (pa_cons (pe_slice sl_list (pv 11) po_none (po_some (pv 3))) (pa_cons (pe_slice sl_list (pv 11) (po_some (pv 3)) po_none) pa_nil))))))) (pss_cons (ps_set (i := 13) sc_law.nd rfl (Or.inl rfl) (pe_cal C_cheapest (hr.mono (by decide)) rfl (pa_cons (pe_cal C__law_copy (hr.mono (by decide)) rfl (pa_cons (pv 1) pa_nil)) (pa_cons (pe_callTy (call_listK (K := K) rfl) (by rfl) T.list PyProof.Rows.boot_list (pa_cons (pv 9) pa_nil)) (pa_cons (pe_callTy (call_listK (K := K) rfl) (by rfl) T.list PyProof.Rows.boot_list (pa_cons (pv 10) pa_nil)) pa_nil)))))
      (pss_one (ps_set (i := 12) sc_law.nd rfl (Or.inl rfl) (pe_lst (pa_cons (pe_callTy (call_listK (K := K) rfl) (by rfl) T.list PyProof.Rows.boot_list (pa_cons (pe_ix ix_tup (pv 13) pe_int (fun _ _ => rfl)) pa_nil)) (pa_cons (pe_callTy (call_listK (K := K) rfl) (by rfl) T.list PyProof.Rows.boot_list (pa_cons (pe_ix ix_tup (pv 13) pe_int (fun _ _ => rfl)) pa_nil)) (pa_cons (pe_callTy (call_listK (K := K) rfl) (by rfl) T.list PyProof.Rows.boot_list (pa_cons (pe_ix ix_tup (pv 13) pe_int (fun _ _ => rfl)) pa_nil)) pa_nil))))))))
    (pss_cons (ps_if (pt_not (pt_val (pe_cal C__law_good (hr.mono (by decide)) rfl (pa_cons (pv 1) (pa_cons (pv 9) (pa_cons (pv 10) (pa_cons (pv 12) pa_nil))))))) (pss_one (ps_ret pe_bl)) pss_nil)
    (pss_cons (ps_if (pt_not (pt_val (pe_cal C__law_good (hr.mono (by decide)) rfl (pa_cons (pe_lst pa_nil) (pa_cons (pe_comp (own := ["_law_k"]) (fnames := []) (fr := []) (N' := ["_law_k"]) ⟨rfl, rfl, rfl, rfl, rfl, rfl, rfl⟩ rfl (pi_range1 rfl T.range (pa_cons (pv 3) pa_nil)) (fun s0 H0 fp0 C0 => ⟨(pg_name (i := 0) (by show (["_law_k"] : List Str).Nodup; decide +kernel) rfl (Or.inl rfl)), pts_nil, pe_int⟩)) (pa_cons (pe_lst pa_nil) (pa_cons (pe_lst (pa_cons (pe_lst pa_nil) (pa_cons (pe_comp (own := ["_law_number"]) (fnames := []) (fr := []) (N' := ["_law_number"]) ⟨rfl, rfl, rfl, rfl, rfl, rfl, rfl⟩ rfl (pi_list (pe_slice sl_list (pv 5) po_none (po_some (pv 3)))) (fun s0 H0 fp0 C0 => ⟨(pg_name (i := 0) (by show (["_law_number"] : List Str).Nodup; decide +kernel) rfl (Or.inl rfl)), pts_nil, (pe_op op_mod (pv 0) pe_int)⟩)) (pa_cons (pe_lst pa_nil) pa_nil)))) pa_nil))))))) (pss_one (ps_ret pe_bl)) pss_nil)
    (pss_cons (ps_comp (i := 14) sc_law.nd rfl rfl (own := ["_law_one"]) (fnames := []) (fr := []) (N' := ["_law_one"]) ⟨rfl, rfl, rfl, rfl, rfl, rfl, rfl⟩ rfl (pi_list (pv 12)) (fun s0 H0 fp0 C0 => ⟨(pg_name (i := 0) (by show (["_law_one"] : List Str).Nodup; decide +kernel) rfl (Or.inl rfl)), pts_nil, (pe_callTy (call_listK (K := K) rfl) (by rfl) T.list PyProof.Rows.boot_list (pa_cons (pv 0) pa_nil))⟩))
    (pss_cons (ps_if (pt_cmpR op_gt (pe_op op_mod (pe_op op_fdiv (pv 4) pe_int) pe_int) pe_int (nomark _)) (pss_one (ps_expr (pe_cal C__law_spoilt (hr.mono (by decide)) rfl (pa_cons (pe_ix ix_list (pe_cal C__law_stream (hr.mono (by decide)) rfl (pa_cons (pv 4) (pa_cons pe_int pa_nil))) pe_int (fun _ _ => rfl)) (pa_cons (pv 1) (pa_cons (pv 12) pa_nil)))))) pss_nil)
    (pss_one (ps_ret (pe_and (pe_cal C__law_good (hr.mono (by decide)) rfl (pa_cons (pv 1) (pa_cons (pv 9) (pa_cons (pv 10) (pa_cons (pv 12) pa_nil))))) (pe_one (pe_cal C__law_good (hr.mono (by decide)) rfl (pa_cons (pv 1) (pa_cons (pv 9) (pa_cons (pv 10) (pa_cons (pv 14) pa_nil))))))))))))))))))))), ?_⟩
    refine seq_of fun U1 u1 => ?_
    walk_at "rd"
    refine ⟨a, ns, rfl, hS, hn, fun t p us ss O M H1 g1 ht hp hSp hsl hok O1 O4 M18 => ?_⟩
    walk_at "rd"
    refine ⟨_, SqT.of ht, rfl, _, _, rfl, _, _, rfl, _, _, rfl, rfl, ?_⟩
    rw [u1]; clear u1
    refine seq_of fun U1 u1 => ?_
    walk_at "rd"
    refine ⟨a, ns, _, rfl, g1.seq hS, by decide, fun c1 => ?_⟩
    walk_at "rd"
    refine ⟨⟨by decide, by decide, by decide⟩, by decide, ?_⟩
    generalize c1 % 10 ^ Int.toNat 12 = ce
    rw [u1]; clear u1
    refine seq_of fun U1 u1 => ?_
    walk_at "rd"
    refine ⟨a, ns, _, rfl, g1.seq hS, by decide, fun c4 => ⟨.inr ⟨by omega, by omega⟩, _, _, rfl, by omega, by omega, fun px xs hpx hxl _ => ?_⟩⟩
    have gx := same_new hpx (.lst (xs.map V.int))
    have ex : upd H1 px (.lst (xs.map V.int)) px = some (.lst (xs.map V.int)) := upd_same
    have hp1 := gx _ _ hp
    have hSp1 := hSp.mono gx
    have hpxH := hpx
    generalize upd H1 px (.lst (xs.map V.int)) = HX at gx ex hp1 hSp1 ⊢
    rw [u1]; clear u1
    refine seq_of fun U1 u1 => ?_
    walk_at "rd"
    refine ⟨p, us, ss, ce, rfl, hp1, hSp1, by omega, fun s hs => ⟨(hok s hs).ne, (hok s hs).len⟩, fun r cs H2 g2 hr0 hr hlen hin => ?_⟩
    rw [u1]; clear u1
    refine seq_of fun U1 u1 => ?_
    walk_at "rd"
    refine ⟨p, r, us, ss, cs, O, M, rfl, g2 _ _ hp1, hSp1.mono g2, hr, hlen, by omega, by omega, by omega, fun s hs => (hok s hs).own, fun t2 pg pb H3 g3 ht2 hg hb => ?_⟩
    walk_at "rd"
    refine ⟨_, SqT.of ht2, rfl, _, _, rfl, _, _, rfl, rfl, ?_⟩
    have g4 : Same H3 H3 := Same.refl _
    have ex := (g2.trans g3) _ _ ex
    rw [u1]; clear u1
    refine seq_of fun U1 u1 => ?_
    walk_at "rd"
    refine ⟨by omega, by omega, fun pc hpc => for_rangeW (fun i σ H' => ∃ cols : List Int, H' = upd H3 pc (.lst (cols.map V.int)) ∧ cols.length = i ∧ (∀ k, k < i → cols.getD k 0 ≤ gotN cs k) ∧ (∀ c ∈ cols, 0 ≤ c ∧ c ≤ 20) ∧ ∃ v0, σ = [v0, some (.ref px), some (.ref pg)]) ⟨[], rfl, rfl, (fun k hk => by omega), (fun c z => by cases z), none, rfl⟩ ?_ ?_⟩
    · rintro i σ H' hi ⟨cols, rfl, hcl, hcg, hcb, v0, rfl⟩
      rw [show (0 + (i : Int)) = i by omega]
      have gp := same_new hpc (.lst (cols.map V.int))
      obtain ⟨y, hy⟩ := item_of (ns := xs) (k := (i : Int)) (by omega) (by omega)
      have hgn := gotN_le cs i
      walk_at "rd"
      refine ⟨_, SqL.of (gp _ _ (g4 _ _ hg)), .int (gotN cs i), atI_nat (by rw [List.getElem?_map, il_get (by omega)]; rfl), _, SqL.of (gp _ _ ex), _, hy, _, rfl, by decide, ⟨by decide, by decide⟩, _, rfl, _, upd_same, small1000 (by rw [List.length_map]; omega), cols ++ [if gotN cs i - y % 5 / 2 > 0 then gotN cs i - y % 5 / 2 else 0], by rw [upd_upd, List.map_append]; rfl, by rw [List.length_append, hcl]; rfl, fun k' hk' => ?_, fun c hc => ?_⟩
      · by_cases z : k' < cols.length
        · rw [snoc_lt z]
          exact hcg k' (by omega)
        · rw [snoc_eq (by omega)]
          have : k' = i := by omega
          subst this
          split <;> omega
      · rcases List.mem_append.mp hc with z | z
        · exact hcb c z
        · rw [List.mem_singleton.mp z]
          split <;> omega
    rintro σ H5 ⟨cols, rfl, hcl, hcg, hcb, v0, rfl⟩
    rw [Int.toNat_natCast] at hcl hcg
    have g5 := (same_new hpc (.lst (cols.map V.int)))
    have ec : upd H3 pc (.lst (cols.map V.int)) pc = some (.lst (cols.map V.int)) := upd_same
    have ex5 := same_new hpc (.lst (cols.map V.int)) _ _ ex
    revert g5 ec ex5
    generalize upd H3 pc (.lst (cols.map V.int)) = H5
    intro g5 ec ex5
    rw [u1]; clear u1
    refine seq_of fun U1 u1 => ?_
    walk_at "rd"
    refine ⟨by omega, by omega, fun pl hpl => for_rangeW (fun i σ H' => ∃ lim : List Int, H' = upd H5 pl (.lst (lim.map V.int)) ∧ lim.length = i ∧ (∀ k, k < i → busyN ss cs k ≤ lim.getD k 0) ∧ (∀ c ∈ lim, 0 ≤ c ∧ c < 2 ^ 40) ∧ ∃ v0, σ = [v0, some (.int M), some (.ref px), some (.ref pb)]) ⟨[], rfl, rfl, (fun k hk => by omega), (fun c z => by cases z), none, rfl⟩ ?_ ?_⟩
    · rintro i σ H' hi ⟨lim, rfl, hll, hlb, hlc, v0, rfl⟩
      rw [show (0 + (i : Int)) = i by omega]
      have gp := same_new hpl (.lst (lim.map V.int))
      obtain ⟨y, hy⟩ := item_of (ns := xs) (k := (M : Int) + (i : Int)) (by omega) (by omega)
      have hbn := busyN_le ss cs i
      walk_at "rd"
      refine ⟨_, SqL.of (gp _ _ (g5 _ _ hb)), .int (busyN ss cs i), atI_nat (by rw [List.getElem?_map, il_get (by omega)]; rfl), _, SqL.of (gp _ _ ex5), _, hy, _, _, rfl, by omega, by omega, fun v hv1 hv2 => ⟨_, upd_same, small1000 (by rw [List.length_map]; omega), lim ++ [v], by rw [upd_upd, List.map_append]; rfl, by rw [List.length_append, hll]; rfl, fun k' hk' => ?_, fun c hc => ?_⟩⟩
      · by_cases z : k' < lim.length
        · rw [snoc_lt z]
          exact hlb k' (by omega)
        · rw [snoc_eq (by omega)]
          have : k' = i := by omega
          subst this
          exact hv1
      · rcases List.mem_append.mp hc with z | z
        · exact hlc c z
        · rw [List.mem_singleton.mp z]
          omega
    rintro σ H6 ⟨lim, rfl, hll, hlb, hlc, v0, rfl⟩
    rw [Int.toNat_natCast] at hll hlb
    have g6 := g5.trans (same_new hpl (.lst (lim.map V.int)))
    have el : upd H5 pl (.lst (lim.map V.int)) pl = some (.lst (lim.map V.int)) := upd_same
    have ec6 := same_new hpl (.lst (lim.map V.int)) _ _ ec
    have ex6 := same_new hpl (.lst (lim.map V.int)) _ _ ex5
    have npl : pc ≠ pl := ne_of_none ec hpl
    have npr : pc ≠ r := (ne_of_none (g4 _ _ (g3 _ _ hr)) hpc).symm
    have nlr : pl ≠ r := (ne_of_none (g5 _ _ (g3 _ _ hr)) hpl).symm
    have hpc1 : H1 pc = none := ((gx.trans g2).trans g3).free hpc
    have hpl1 : H1 pl = none := (((gx.trans g2).trans g3).trans g5).free hpl
    revert g6 el ec6 ex6
    generalize upd H5 pl (.lst (lim.map V.int)) = H6
    intro g6 el ec6 ex6
    have G := g3.trans g6
    have p8 := (g2.trans G) _ _ hp1
    have S8 := hSp1.mono (g2.trans G)
    have r8 := G _ _ hr
    have hok2 : ∀ s ∈ ss, SpOk cols.length lim.length s := fun s hs => by rw [hcl, hll]; exact hok s hs
    have hDB : dealB ss cols lim cs = true := by
      unfold dealB offB enB boB
      rw [decide_eq_true hlen.symm, all_true, all_true, all_true]
      · rfl
      · intro o ho
        unfold boAt
        exact decide_eq_true (hlb o (by omega))
      · intro k' hk'
        unfold enAt
        exact decide_eq_true (hcg k' (by omega))
      · intro i hi
        rw [offAt_of (List.getElem?_eq_getElem hi) (List.getElem?_eq_getElem (show i < cs.length by omega))]
        exact decide_eq_true (hin i _ _ (List.getElem?_eq_getElem hi) (List.getElem?_eq_getElem (show i < cs.length by omega)))
    have hO1 : lim.length = O := hll
    have hM1 : cols.length = M := hcl
    have OK : ∀ (cs' : List (Option Int)) (ys zs : List Int), cs'.length ≤ 40 → ys.length ≤ 60 → zs.length ≤ 60 → ChpOk ss cols lim cs' ys zs := fun cs' ys zs h1 h2 h3 => ⟨by omega, by omega, by omega, h1, h2, h3, hok2, hcb, hlc⟩
    have GH : Same H1 H6 := gx.trans (g2.trans G)
    have r1 : H1 r = none := gx.free hr0
    rw [u1]; clear u1
    refine cut_of (fun σ H7 => ∃ (t : Addr) (v11 v12 : Option V), Tld H1 H6 H7 r ss M O t ∧ σ = [some (.ref a), some (.ref p), some (.int O), some (.int M), some (.int ce), some (.ref px), some (.ref r), some (.ref pg), some (.ref pb), some (.ref pc), some (.ref pl), v11, some (.ref t), v12, none]) ?_ ?_
    · refine ifs_ofC fun A1 A2 a1 a2 => ?_
      walk_at "rd"
      refine ⟨by decide, ?_⟩
      by_cases zz : ce % 4 = 1
      · rw [if_pos zz]
        rw [a1]; clear a1 a2
        refine seq_of fun U2 u2 => ?_
        walk_at "rd"
        refine ⟨by omega, by omega, fun D hD => for_rangeW (fun i σ H' => ∃ ps : List Int, H' = upd H6 D (.lst (ps.map V.int)) ∧ ps.length = i ∧ ∃ v0, σ = [v0, some (.int O), some (.int M), some (.ref px)]) ⟨[], rfl, rfl, none, rfl⟩ ?_ ?_⟩
        · rintro i σ H' hi ⟨ps, rfl, hpl, v0, rfl⟩
          rw [show (0 + (i : Int)) = i by omega]
          have hi : i < O + M := by omega
          obtain ⟨y, hy⟩ := item_of (ns := xs) (k := (O : Int) + (M : Int) + (i : Int)) (by omega) (by omega)
          walk_at "rd"
          exact ⟨_, SqL.of (same_new hD _ _ _ ex6), _, hy, _, rfl, by decide, _, upd_same, small1000 (by rw [List.length_map]; omega), ps ++ [y % 7], by rw [upd_upd, List.map_append]; rfl, by rw [List.length_append, hpl]; rfl⟩
        rintro σ H7 ⟨ps, rfl, hpl, v0, rfl⟩
        have hpl : ps.length = M + O := by omega
        have g7 := same_new hD (.lst (ps.map V.int))
        have eD : upd H6 D (.lst (ps.map V.int)) D = _ := upd_same
        generalize upd H6 D (.lst (ps.map V.int)) = H7 at g7 eD ⊢
        rw [u2]; clear u2
        walk_at "rd"
        refine ⟨_, SqL.of eD, fun ay hay => ?_⟩
        rw [cut_take, ← List.map_take]
        have g8 := same_new hay (.lst ((ps.take M).map V.int))
        refine ⟨_, SqL.of (g8 _ _ eD), fun az haz => ?_⟩
        rw [cut_from, ← List.map_drop]
        have g9 := same_new haz (.lst ((ps.drop M).map V.int))
        refine ⟨by decide, fun t ht => ?_⟩
        have gt := same_new ht (.lst [.ref r, .ref ay, .ref az])
        have er7 := (((g7.trans g8).trans g9).trans gt) _ _ r8
        refine ⟨t, ⟨r, ay, az, cs, ps.take M, ps.drop M, ((g7.trans g8).trans g9).trans gt, upd_same, er7, (g9.trans gt) _ _ upd_same, gt _ _ upd_same, ?_, ?_, ?_, ?_, ?_, ?_, r1, g7.free hay, (g7.trans g8).free haz, .inl rfl, ((g7.trans g8).trans g9).free ht, hlen, by rw [List.length_take]; omega, by rw [List.length_drop]; omega, hin⟩, rfl⟩
        · exact (ne_of_none (g7 _ _ r8) hay).symm
        · exact (ne_of_none ((g7.trans g8) _ _ r8) haz).symm
        · exact ne_of_none upd_same haz
        · exact (ne_of_none (((g7.trans g8).trans g9) _ _ r8) ht).symm
        · exact (ne_of_none (g9 _ _ upd_same) ht).symm
        · exact (ne_of_none upd_same ht).symm
      · rw [if_neg zz]
        rw [a2]; clear a1 a2
        refine seq_of fun U2 u2 => ?_
        walk_at "rd"
        refine ⟨p, us, ss, rfl, p8, S8, by omega, fun rc us' H7 g7 hrc0 hrc hSc => ⟨_, .inl (SqL.of (g7 _ _ ec6)), fun l1 hl1 => ?_⟩⟩
        have q1 := same_new hl1 (.lst (cols.map V.int))
        refine ⟨_, .inl (SqL.of ((g7.trans q1) _ _ el)), fun l2 hl2 => ?_⟩
        have q2 := same_new hl2 (.lst (lim.map V.int))
        have DN := deal_net hok2 hDB
        refine ⟨rc, l1, l2, us', ss, cols, lim, rfl, (q1.trans q2) _ _ hrc, hSc.mono (q1.trans q2), q2 _ _ upd_same, upd_same, by omega, by omega, by omega, hok2, fun rt ad ay az d pr H8 g8 er fad fay faz ed ey ez GG _ => ?_, fun H8 g8 no => (no _ DN.1 DN.2).elim⟩
        have gA := ((g7.trans q1).trans q2).trans g8
        clear g7 q1 q2 g8 hrc0 hrc hSc hl1 hl2 DN fad fay faz
        rw [u2]; clear u2
        walk_at "rd"
        refine ⟨_, SqT.of er, _, rfl, ad, rfl, _, .inl (SqL.of ed), fun m1 hm1 => ?_⟩
        have q1 := same_new hm1 (.lst ((csOf cols.length ss.length d).map oV))
        refine ⟨_, SqT.of (q1 _ _ er), _, rfl, ay, rfl, _, .inl (SqL.of (q1 _ _ ey)), fun m2 hm2 => ?_⟩
        have q2 := same_new hm2 (.lst ((il cols.length pr).map V.int))
        refine ⟨_, SqT.of (q2 _ _ (q1 _ _ er)), _, rfl, az, rfl, _, .inl (SqL.of (q2 _ _ (q1 _ _ ez))), fun m3 hm3 => ?_⟩
        have q3 := same_new hm3 (.lst ((il lim.length fun o => pr (cols.length + o)).map V.int))
        refine ⟨by decide, fun t ht => ?_⟩
        have q4 := same_new ht (.lst [.ref m1, .ref m2, .ref m3])
        refine ⟨t, ⟨m1, m2, m3, _, _, _, (((gA.trans q1).trans q2).trans q3).trans q4, upd_same, ((q2.trans q3).trans q4) _ _ upd_same, (q3.trans q4) _ _ upd_same, q4 _ _ upd_same, ?_, ?_, ?_, ?_, ?_, ?_, (GH.trans gA).free hm1, (gA.trans q1).free hm2, ((gA.trans q1).trans q2).free hm3, .inr (gA.free hm1), (((gA.trans q1).trans q2).trans q3).free ht, (csOf_len _ _ _).symm, by rw [il_len]; exact hM1, by rw [il_len]; exact hO1, csOf_in hok2 GG⟩, rfl⟩
        · exact (ne_of_none upd_same hm2).symm
        · exact (ne_of_none (q2 _ _ upd_same) hm3).symm
        · exact ne_of_none upd_same hm3
        · exact (ne_of_none ((q2.trans q3) _ _ upd_same) ht).symm
        · exact (ne_of_none (q3 _ _ upd_same) ht).symm
        · exact (ne_of_none upd_same ht).symm
    rintro σ H7 ⟨t, v11, v12, ⟨d, y, z, cs', ys, zs, TL⟩, rfl⟩
    refine seq_of fun U1 u1 => ?_
    walk_at "rd"
    have gt := TL.same
    have tyl := TL.yl
    have tzl := TL.zl
    have tcl := TL.cl
    have hOK := OK cs' ys zs (by omega) (by omega) (by omega)
    refine ⟨p, pc, pl, t, d, y, z, us, ss, cols, lim, ys, zs, cs', rfl, TL.et, gt _ _ p8, S8.mono gt, gt _ _ ec6, gt _ _ el, TL.ed, TL.ey, TL.ez, hOK, fun H8 g8 => ⟨true, rfl, ?_⟩⟩
    rw [if_neg (fun w => (nomatch w))]
    rw [u1]; clear u1
    refine seq_of fun U1 u1 => ?_
    walk_at "rd"
    have gH8 := gt.trans g8
    refine ⟨Nat.zero_le _, fun n1 hn1 => ?_⟩
    have m1 := same_new hn1 (.lst [])
    refine ⟨by omega, by omega, fun D hD => for_rangeW (fun i σ H' => ∃ zz : List Int, H' = upd (upd H8 n1 (.lst [])) D (.lst (zz.map V.int)) ∧ zz.length = i ∧ (∀ w ∈ zz, w = 0) ∧ ∃ v0, σ = [v0]) ⟨[], rfl, rfl, (fun w hw => by cases hw), none, rfl⟩ ?_ ?_⟩
    · rintro i σ H' hi ⟨zz, rfl, hzl, hz0, v0, rfl⟩
      have hi : i < M := by omega
      walk_at "rd"
      refine ⟨_, upd_same, small1000 (by rw [List.length_map]; omega), zz ++ [0], by rw [upd_upd, List.map_append]; rfl, by rw [List.length_append, hzl]; rfl, fun w hw => ?_⟩
      rcases List.mem_append.mp hw with hw | hw
      · exact hz0 w hw
      · exact List.mem_singleton.mp hw
    rintro σ H9 ⟨zz, rfl, hzl, hz0, v0, rfl⟩
    rw [Int.toNat_natCast] at hzl
    have m2 := same_new hD (.lst (zz.map V.int))
    refine ⟨Nat.zero_le _, fun n2 hn2 => ?_⟩
    have m3 := same_new hn2 (.lst [])
    refine ⟨Nat.zero_le _, fun n3 hn3 => ?_⟩
    have m4 := same_new hn3 (.lst [])
    have gM := ((m1.trans m2).trans m3).trans m4
    refine ⟨_, SqL.of ((gH8.trans gM) _ _ ex6), fun n4 hn4 => ?_⟩
    rw [cut_take, ← List.map_take]
    have m5 := same_new hn4 (.lst ((xs.take M).map V.int))
    have e1 := (((m2.trans m3).trans m4).trans m5) _ _ (upd_same (H := H8) (a := n1) (o := .lst []))
    have e2 := ((m3.trans m4).trans m5) _ _ (upd_same (H := upd H8 n1 (.lst [])) (a := D) (o := .lst (zz.map V.int)))
    have e3 := (m4.trans m5) _ _ (upd_same (H := upd (upd H8 n1 (.lst [])) D (.lst (zz.map V.int))) (a := n2) (o := .lst []))
    have e4 := m5 _ _ (upd_same (H := upd (upd (upd H8 n1 (.lst [])) D (.lst (zz.map V.int))) n2 (.lst [])) (a := n3) (o := .lst []))
    have e5 : upd (upd (upd (upd (upd H8 n1 (.lst [])) D (.lst (zz.map V.int))) n2 (.lst [])) n3 (.lst [])) n4 (.lst ((xs.take M).map V.int)) n4 = _ := upd_same
    have gN := gM.trans m5
    generalize upd (upd (upd (upd (upd H8 n1 (.lst [])) D (.lst (zz.map V.int))) n2 (.lst [])) n3 (.lst [])) n4 (.lst ((xs.take M).map V.int)) = HB at e1 e2 e3 e4 e5 gN ⊢
    clear m1 m2 m3 m4 m5 gM hn1 hD hn2 hn3 hn4
    refine ⟨⟨_, SqL.of e5⟩, fun D2 hD2 => for_listW (xs := (xs.take M).map V.int) (fun i σ H' => ∃ ps : List Int, H' = upd HB D2 (.lst (ps.map V.int)) ∧ ps.length = i ∧ ∃ v0, σ = [v0]) ⟨[], rfl, rfl, none, rfl⟩ (fun i σ H' _ ⟨ps, e, _⟩ => by rw [e]; exact SqL.of (same_new hD2 _ _ _ e5)) ?_ ?_⟩
    · rintro i v σ H' hv ⟨ps, rfl, hpl, v0, rfl⟩
      obtain ⟨w, hw, rfl⟩ := map_item hv
      have hi := (List.getElem?_eq_some_iff.mp hw).1
      rw [List.length_take] at hi
      walk_at "rd"
      exact ⟨by decide, _, upd_same, small1000 (by rw [List.length_map]; omega), ps ++ [w % 3], by rw [upd_upd, List.map_append]; rfl, by rw [List.length_append, hpl]; rfl⟩
    rintro σ H9 ⟨ps, rfl, hpl, v0, rfl⟩
    rw [List.length_map, List.length_take] at hpl
    have m1 := same_new hD2 (.lst (ps.map V.int))
    refine ⟨Nat.zero_le _, fun n5 hn5 => ⟨by decide, fun n6 hn6 => ?_⟩⟩
    have m2 := same_new hn5 (.lst [])
    have m3 := same_new hn6 (.lst [.ref n3, .ref D2, .ref n5])
    have gO := (m1.trans m2).trans m3
    refine ⟨n1, D, n2, n6, n3, D2, n5, [], [], zz, [], ps, [], [], rfl, upd_same, gO _ _ e1, .nil, gO _ _ e2, gO _ _ e3, gO _ _ e4, (m2.trans m3) _ _ upd_same, m3 _ _ upd_same, ⟨by decide, by omega, by decide, by decide, by omega, by decide, (fun s hs => by cases hs), (fun w hw => by rw [hz0 w hw]; decide), fun w hw => by cases hw⟩, fun HC gC => ⟨true, rfl, ?_⟩⟩
    rw [if_neg (fun w => (nomatch w))]
    have gP := (gN.trans gO).trans gC
    clear m1 m2 m3 gO gN gC e1 e2 e3 e4 e5
    have gQ := gH8.trans gP
    have gR := g8.trans gP
    rw [u1]; clear u1
    refine seq_of fun U1 u1 => ?_
    walk_at "rd"
    refine ⟨⟨_, SqL.of (gR _ _ TL.et)⟩, fun D3 hD3 => for_listW (xs := [.ref d, .ref y, .ref z]) (fun i σ H' => ∃ (ns : List Addr) (v : Option V), CpI HC D3 [cs'.map oV, ys.map V.int, zs.map V.int] i H' ns ∧ σ = [v]) ⟨[], none, CpI.ini hD3, rfl⟩ (fun j σ H' _ ⟨_, _, M, _⟩ => SqL.of (M.same _ _ (gR _ _ TL.et))) ?_ ?_⟩
    · rintro j v σ H' hv ⟨ns, w, MM, rfl⟩
      have hj := (List.getElem?_eq_some_iff.mp hv).1
      have gM := gR.trans MM.same
      have hrow : ∃ a xs, v = .ref a ∧ H' a = some (.lst xs) ∧ [cs'.map oV, ys.map V.int, zs.map V.int][j]? = some xs := by
        match j, hj, hv with
        | 0, _, hv => cases hv; exact ⟨d, _, rfl, gM _ _ TL.ed, rfl⟩
        | 1, _, hv => cases hv; exact ⟨y, _, rfl, gM _ _ TL.ey, rfl⟩
        | 2, _, hv => cases hv; exact ⟨z, _, rfl, gM _ _ TL.ez, rfl⟩
      obtain ⟨a', xs', rfl, ha, hx⟩ := hrow
      have hj : j < 3 := hj
      walk_at "rd"
      refine ⟨_, .inl (SqL.of ha), fun q1 hq1 => ?_⟩
      exact ⟨_, (same_new hq1 _) _ _ MM.at_, small1000 (by rw [List.length_map, MM.len]; omega), ns ++ [q1], MM.step hD3 hq1 hx⟩
    rintro σ HD ⟨nn, v0, MM, rfl⟩
    obtain ⟨d', y', z', rfl⟩ := three MM.len
    have e3 := MM.pr 0 d' _ rfl rfl
    have e4 := MM.pr 1 y' _ rfl rfl
    have e5 := MM.pr 2 z' _ rfl rfl
    have eD := MM.at_
    have gM := MM.same
    have fr := MM.fr
    clear MM
    have gS := gR.trans gM
    have gT := gQ.trans gM
    rw [u1]; clear u1
    refine seq_of fun U1 u1 => ?_
    have fy1 : H1 y = none := GH.free TL.fy
    have fz1 : H1 z = none := GH.free TL.fz
    have gU := GH.trans gT
    have fin : ∀ (HF HE : Hp) (cs2 : List (Option Int)) (ys2 zs2 : List Int), Same HD HF → SpT HF d y z HE cs2 ys2 zs2 → cs2.length ≤ cs'.length → ys2.length ≤ ys.length + 1 → zs2.length ≤ zs.length + 1 → U1 { nx := fun x H' => Q V.non H', rt := Q } [some (V.ref a), some (V.ref p), some (V.int O), some (V.int M), some (V.int ce), some (V.ref px), some (V.ref r), some (V.ref pg), some (V.ref pb), some (V.ref pc), some (V.ref pl), v11, some (V.ref t), v12, some (V.ref D3)] HE := by
      intro HF HE cs2 ys2 zs2 gF S2 l1 l2 l3
      have s1 : Same H1 HE := S2.back (gU.trans gF) TL.fd fy1 fz1
      have k6 : ∀ b o, H6 b = some o → b ≠ r → HE b = some o := fun b o e n => S2.fr b o ((gT.trans gF) _ _ e) (fun w => by
        rcases TL.fr with h | h
        · exact n (w.trans h)
        · rw [w, h] at e; cases e) (fun w => by rw [w, TL.fy] at e; cases e) fun w => by rw [w, TL.fz] at e; cases e
      have kt : HE t = some (.lst [.ref d, .ref y, .ref z]) := S2.fr t _ ((gS.trans gF) _ _ TL.et) TL.ntd TL.nty TL.ntz
      have kn : ∀ b o, HD b = some o → HC b = none → HE b = some o := fun b o e n => S2.fr b o (gF _ _ e) (fun w => by rw [w, gR _ _ TL.ed] at n; cases n) (fun w => by rw [w, gR _ _ TL.ey] at n; cases n) fun w => by rw [w, gR _ _ TL.ez] at n; cases n
      have pc8 := k6 _ _ ec6 npr
      have pl8 := k6 _ _ el nlr
      have f3 := kn _ _ eD hD3
      have f4 := kn _ _ e3 (fr d' (by simp)).1
      have f5 := kn _ _ e4 (fr y' (by simp)).1
      have f6 := kn _ _ e5 (fr z' (by simp)).1
      rw [u1]; clear u1
      walk_at "rd"
      refine ⟨p, pc, pl, t, d, y, z, us, ss, cols, lim, ys2, zs2, cs2, rfl, kt, s1 _ _ hp, hSp.mono s1, pc8, pl8, S2.ed, S2.ey, S2.ez, OK _ _ _ (by omega) (by omega) (by omega), fun HG gG => ⟨true, rfl, ?_⟩⟩
      rw [if_pos rfl]
      exact ⟨p, pc, pl, D3, d', y', z', us, ss, cols, lim, ys, zs, cs', rfl, gG _ _ f3, gG _ _ (s1 _ _ hp), hSp.mono (s1.trans gG), gG _ _ pc8, gG _ _ pl8, gG _ _ f4, gG _ _ f5, gG _ _ f6, hOK, fun HH _ => k HH⟩
    walk_at "rd"
    refine ⟨⟨by decide, by decide⟩, by decide, ?_⟩
    by_cases zz5 : 0 < ce / 4 % 5
    · rw [if_pos zz5]
      refine ⟨_, _, rfl, by decide, by decide, fun pq ns1 hpq hn1 _ => ?_⟩
      have gF := same_new hpq (.lst (ns1.map V.int))
      obtain ⟨v, hv⟩ := item_of (ns := ns1) (k := 0) (by omega) (by omega)
      refine ⟨pq, rfl, _, SqL.of upd_same, _, hv, v, p, t, d, y, z, us, ss, ys, zs, cs', H1, rfl, gF _ _ (gS _ _ TL.et), hp, hSp, gU.trans gF, TL.fd, fy1, fz1, gF _ _ (gS _ _ TL.ed), gF _ _ (gS _ _ TL.ey), gF _ _ (gS _ _ TL.ez), TL.nyd, TL.nzd, TL.nyz, TL.ntd, by omega, TL.cl, by omega, by omega, (fun s hs => ⟨(hok s hs).len, (hok s hs).ne⟩), TL.inn, fun HE cs2 ys2 zs2 S2 l1 l2 l3 => ?_⟩
      exact fin _ HE cs2 ys2 zs2 gF S2 l1 l2 l3
    · rw [if_neg zz5]
      exact fin HD HD cs' ys zs (Same.refl _) ⟨fun a o e _ _ _ => e, gS _ _ TL.ed, gS _ _ TL.ey, gS _ _ TL.ez⟩ (Nat.le_refl _) (Nat.le_succ _) (Nat.le_succ _)
end
section
structure Pwb (P : Program) (w : World) (base : Heap) : Prop where
variable {P : Program} {w : World} {K : PySem.W.Frag} {mg : Str → Option Value} {base : Heap} {x qual : Str} {st : Stmt} {f : Addr} {fd : FuncData} {k : Nat} {sp : Sp} {ps : List Str} {C : Addr} {m : Str}
theorem len_1 {α : Type} {us : List α} (h : us.length = 1) : ∃ u0 : α, us = [u0] := match us, h with | [u0], _ => ⟨u0, rfl⟩
theorem bn1 {p0 : Str} (F : Fun K x qual st f fd) (h : ∀ (kV doc pm : Value) (an : Option Addr) (cdv ct u0 : Value), bindArgs (PySem.W.fnOf x qual (defArgs st) (defBody st) (defScope st) .none kV doc pm an cdv ct) ⟨[u0], []⟩ = pure [(p0, u0)] := by intros; rfl) : Binds K fd [p0] [] := F.binds fun a b c d e g us hl => by
  obtain ⟨u0, rfl⟩ := len_1 (us := us) hl
  exact h a b c d e g u0
theorem len_2 {α : Type} {us : List α} (h : us.length = 2) : ∃ u0 u1 : α, us = [u0, u1] := match us, h with | [u0, u1], _ => ⟨u0, u1, rfl⟩
theorem bn2 {p0 p1 : Str} (F : Fun K x qual st f fd) (h : ∀ (kV doc pm : Value) (an : Option Addr) (cdv ct u0 u1 : Value), bindArgs (PySem.W.fnOf x qual (defArgs st) (defBody st) (defScope st) .none kV doc pm an cdv ct) ⟨[u0, u1], []⟩ = pure [(p0, u0), (p1, u1)] := by intros; rfl) : Binds K fd [p0, p1] [] := F.binds fun a b c d e g us hl => by
  obtain ⟨u0, u1, rfl⟩ := len_2 (us := us) hl
  exact h a b c d e g u0 u1
theorem len_3 {α : Type} {us : List α} (h : us.length = 3) : ∃ u0 u1 u2 : α, us = [u0, u1, u2] := match us, h with | [u0, u1, u2], _ => ⟨u0, u1, u2, rfl⟩
theorem bn3 {p0 p1 p2 : Str} (F : Fun K x qual st f fd) (h : ∀ (kV doc pm : Value) (an : Option Addr) (cdv ct u0 u1 u2 : Value), bindArgs (PySem.W.fnOf x qual (defArgs st) (defBody st) (defScope st) .none kV doc pm an cdv ct) ⟨[u0, u1, u2], []⟩ = pure [(p0, u0), (p1, u1), (p2, u2)] := by intros; rfl) : Binds K fd [p0, p1, p2] [] := F.binds fun a b c d e g us hl => by
  obtain ⟨u0, u1, u2, rfl⟩ := len_3 (us := us) hl
  exact h a b c d e g u0 u1 u2
theorem len_4 {α : Type} {us : List α} (h : us.length = 4) : ∃ u0 u1 u2 u3 : α, us = [u0, u1, u2, u3] := match us, h with | [u0, u1, u2, u3], _ => ⟨u0, u1, u2, u3, rfl⟩
theorem bn4 {p0 p1 p2 p3 : Str} (F : Fun K x qual st f fd) (h : ∀ (kV doc pm : Value) (an : Option Addr) (cdv ct u0 u1 u2 u3 : Value), bindArgs (PySem.W.fnOf x qual (defArgs st) (defBody st) (defScope st) .none kV doc pm an cdv ct) ⟨[u0, u1, u2, u3], []⟩ = pure [(p0, u0), (p1, u1), (p2, u2), (p3, u3)] := by intros; rfl) : Binds K fd [p0, p1, p2, p3] [] := F.binds fun a b c d e g us hl => by
  obtain ⟨u0, u1, u2, u3, rfl⟩ := len_4 (us := us) hl
  exact h a b c d e g u0 u1 u2 u3
theorem len_5 {α : Type} {us : List α} (h : us.length = 5) : ∃ u0 u1 u2 u3 u4 : α, us = [u0, u1, u2, u3, u4] := match us, h with | [u0, u1, u2, u3, u4], _ => ⟨u0, u1, u2, u3, u4, rfl⟩
theorem bn5 {p0 p1 p2 p3 p4 : Str} (F : Fun K x qual st f fd) (h : ∀ (kV doc pm : Value) (an : Option Addr) (cdv ct u0 u1 u2 u3 u4 : Value), bindArgs (PySem.W.fnOf x qual (defArgs st) (defBody st) (defScope st) .none kV doc pm an cdv ct) ⟨[u0, u1, u2, u3, u4], []⟩ = pure [(p0, u0), (p1, u1), (p2, u2), (p3, u3), (p4, u4)] := by intros; rfl) : Binds K fd [p0, p1, p2, p3, p4] [] := F.binds fun a b c d e g us hl => by
  obtain ⟨u0, u1, u2, u3, u4, rfl⟩ := len_5 (us := us) hl
  exact h a b c d e g u0 u1 u2 u3 u4
theorem len_6 {α : Type} {us : List α} (h : us.length = 6) : ∃ u0 u1 u2 u3 u4 u5 : α, us = [u0, u1, u2, u3, u4, u5] := match us, h with | [u0, u1, u2, u3, u4, u5], _ => ⟨u0, u1, u2, u3, u4, u5, rfl⟩
theorem bn6 {p0 p1 p2 p3 p4 p5 : Str} (F : Fun K x qual st f fd) (h : ∀ (kV doc pm : Value) (an : Option Addr) (cdv ct u0 u1 u2 u3 u4 u5 : Value), bindArgs (PySem.W.fnOf x qual (defArgs st) (defBody st) (defScope st) .none kV doc pm an cdv ct) ⟨[u0, u1, u2, u3, u4, u5], []⟩ = pure [(p0, u0), (p1, u1), (p2, u2), (p3, u3), (p4, u4), (p5, u5)] := by intros; rfl) : Binds K fd [p0, p1, p2, p3, p4, p5] [] := F.binds fun a b c d e g us hl => by
  obtain ⟨u0, u1, u2, u3, u4, u5, rfl⟩ := len_6 (us := us) hl
  exact h a b c d e g u0 u1 u2 u3 u4 u5
theorem nC (Z : Pwb P w base) (o : FnOk P w K mg base CX0 k f fd ps sp) (b : Binds K fd ps []) (F : Fun K x qual st f fd) (a : mg x = some (.ref f)) : Cal P w K mg base x ps k sp := ⟨f, fd, o, b, F.kp, a⟩
theorem nI (Z : Pwb P w base) (o : FnOk P w K mg base CX0 k f fd ps sp) (b : Binds K fd ps []) (a : Mk K C f) (c : mg x = some (.ref C)) : CalI P w K mg base x C ps k sp := ⟨f, fd, o, b, a, c⟩
theorem nM (Z : Pwb P w base) (o : FnOk P w K mg base CX0 k f fd ps sp) (b : Binds K fd ps []) (a : Meth K C m f) (c : Cls K C) : CalM P w K mg base C m ps k sp := ⟨f, fd, o, b, a, c⟩
end
theorem all_mk {l : PySem.W.OpenLaw} {w : World} {K : PySem.W.Frag} {mg : Str → Option Value} {fa : Addr} (hfa : mg "law" = some (.ref fa))
    {C_Market : Addr}
    {f1 f2 f3 f4 f5 f6 f7 f8 f9 f10 f11 f12 f13 f14 f15 f16 f17 f18 f19 f20 f21 f22 f23 f24 f25 f26 f27 f28 f29 f30 f31 f32 f33 f34 f35 f36 f37 f38 : Addr}
    {d1 d2 d3 d4 d5 d6 d7 d8 d9 d10 d11 d12 d13 d14 d15 d16 d17 d18 d19 d20 d21 d22 d23 d24 d25 d26 d27 d28 d29 d30 d31 d32 d33 d34 d35 d36 d37 d38 : FuncData}
    (aC_Market : mg "Market" = some (.ref C_Market)) (cl_Market : Cls K C_Market) (f_needs_Market : PySem.W.findIn K (.ref C_Market) "needs" = some none) (f_prices_Market : PySem.W.findIn K (.ref C_Market) "prices" = some none) (f_counts_Market : PySem.W.findIn K (.ref C_Market) "counts" = some none) (f_bids_Market : PySem.W.findIn K (.ref C_Market) "bids" = some none) (f_costs_Market : PySem.W.findIn K (.ref C_Market) "costs" = some none) (f_dealt_Market : PySem.W.findIn K (.ref C_Market) "dealt" = some none)
    (f_paid_Market : PySem.W.findIn K (.ref C_Market) "paid" = some none) (a1 : mg "beyond_caps" = some (.ref f1)) (F1 : Fun K "beyond_caps" "beyond_caps" s_beyond_caps f1 d1) (a2 : mg "offers_of" = some (.ref f2)) (F2 : Fun K "offers_of" "offers_of" s_offers_of f2 d2) (a3 : Mk K C_Market f3) (F3 : Fun K "__init__" "Market.__init__" s_Market___init__ f3 d3) (a4 : Meth K C_Market "lacks" f4)
    (F4 : Fun K "lacks" "Market.lacks" s_Market_lacks f4 d4) (a5 : Meth K C_Market "can_spare" f5) (F5 : Fun K "can_spare" "Market.can_spare" s_Market_can_spare f5 d5) (a6 : mg "look_on" = some (.ref f6)) (F6 : Fun K "look_on" "look_on" s_look_on f6 d6) (a7 : mg "raise_prices" = some (.ref f7)) (F7 : Fun K "raise_prices" "raise_prices" s_raise_prices f7 d7) (a8 : Meth K C_Market "move" f8)
    (F8 : Fun K "move" "Market.move" s_Market_move f8 d8) (a9 : mg "follow" = some (.ref f9)) (F9 : Fun K "follow" "follow" s_follow f9 d9) (a10 : mg "is_supplied" = some (.ref f10)) (F10 : Fun K "is_supplied" "is_supplied" s_is_supplied f10 d10) (a11 : mg "cheapest" = some (.ref f11)) (F11 : Fun K "cheapest" "cheapest" s_cheapest f11 d11) (a12 : mg "cost_at" = some (.ref f12))
    (F12 : Fun K "cost_at" "cost_at" s_cost_at f12 d12) (a13 : mg "cost_of" = some (.ref f13)) (F13 : Fun K "cost_of" "cost_of" s_cost_of f13 d13) (a14 : mg "least_cost" = some (.ref f14)) (F14 : Fun K "least_cost" "least_cost" s_least_cost f14 d14) (a15 : mg "worth" = some (.ref f15)) (F15 : Fun K "worth" "worth" s_worth f15 d15) (a16 : mg "are_offered" = some (.ref f16))
    (F16 : Fun K "are_offered" "are_offered" s_are_offered f16 d16) (a17 : mg "is_enough" = some (.ref f17)) (F17 : Fun K "is_enough" "is_enough" s_is_enough f17 d17) (a18 : mg "is_borne" = some (.ref f18)) (F18 : Fun K "is_borne" "is_borne" s_is_borne f18 d18) (a19 : mg "is_dealing" = some (.ref f19)) (F19 : Fun K "is_dealing" "is_dealing" s_is_dealing f19 d19) (a20 : mg "are_prices" = some (.ref f20))
    (F20 : Fun K "are_prices" "are_prices" s_are_prices f20 d20) (a21 : mg "is_cheapest" = some (.ref f21)) (F21 : Fun K "is_cheapest" "is_cheapest" s_is_cheapest f21 d21) (a22 : mg "_law_cell_at" = some (.ref f22)) (F22 : Fun K "_law_cell_at" "_law_cell_at" s__law_cell_at f22 d22) (a23 : mg "_law_stream" = some (.ref f23)) (F23 : Fun K "_law_stream" "_law_stream" s__law_stream f23 d23) (a24 : mg "_law_cost" = some (.ref f24))
    (F24 : Fun K "_law_cost" "_law_cost" s__law_cost f24 d24) (a25 : mg "_law_spot" = some (.ref f25)) (F25 : Fun K "_law_spot" "_law_spot" s__law_spot f25 d25) (a26 : mg "_law_spots" = some (.ref f26)) (F26 : Fun K "_law_spots" "_law_spots" s__law_spots f26 d26) (a27 : mg "_law_picked" = some (.ref f27)) (F27 : Fun K "_law_picked" "_law_picked" s__law_picked f27 d27) (a28 : mg "_law_counts" = some (.ref f28))
    (F28 : Fun K "_law_counts" "_law_counts" s__law_counts f28 d28) (a29 : mg "_law_limit" = some (.ref f29)) (F29 : Fun K "_law_limit" "_law_limit" s__law_limit f29 d29) (a30 : mg "_law_copy" = some (.ref f30)) (F30 : Fun K "_law_copy" "_law_copy" s__law_copy f30 d30) (a31 : mg "_law_whole" = some (.ref f31)) (F31 : Fun K "_law_whole" "_law_whole" s__law_whole f31 d31) (a32 : mg "_law_dealing" = some (.ref f32))
    (F32 : Fun K "_law_dealing" "_law_dealing" s__law_dealing f32 d32) (a33 : mg "_law_cost_of" = some (.ref f33)) (F33 : Fun K "_law_cost_of" "_law_cost_of" s__law_cost_of f33 d33) (a34 : mg "_law_worth_of" = some (.ref f34)) (F34 : Fun K "_law_worth_of" "_law_worth_of" s__law_worth_of f34 d34) (a35 : mg "_law_due" = some (.ref f35)) (F35 : Fun K "_law_due" "_law_due" s__law_due f35 d35) (a36 : mg "_law_good" = some (.ref f36))
    (F36 : Fun K "_law_good" "_law_good" s__law_good f36 d36) (a37 : mg "_law_spoilt" = some (.ref f37)) (F37 : Fun K "_law_spoilt" "_law_spoilt" s__law_spoilt f37 d37) (a38 : mg "law" = some (.ref f38)) (F38 : Fun K "law" "law" s_law f38 d38) (z1 : mg "all" = none) (z2 : mg "bool" = none) (z3 : mg "dict" = none)
    (z4 : mg "enumerate" = none) (z5 : mg "int" = none) (z6 : mg "isinstance" = none) (z7 : mg "len" = none) (z8 : mg "list" = none) (z9 : mg "max" = none) (z10 : mg "min" = none) (z11 : mg "range" = none)
    (z12 : mg "sum" = none) (z13 : mg "zip" = none)
    : ∃ fd : FuncData, (∀ (s : Shared) (v : Value), BindsTo s fd ⟨[v], []⟩ [("_law_script", v)]) ∧ ∀ base : Heap, K.In base → base.Ns mainGlobals mg → FnOk l.prog w K mg base CX0 5 fa fd ["_law_script"] (sp_law K) := by
  have e := hfa.symm.trans a38
  cases e
  have T : Txt K mg C_Market := ⟨z1, z2, z3, z4, z5, z6, z7, z8, z9, z10, z11, z12, z13, cl_Market, f_needs_Market, f_prices_Market, f_counts_Market, f_bids_Market, f_costs_Market, f_dealt_Market, f_paid_Market⟩
  refine ⟨d38, fun s v => ?_, fun base _ _ => ?_⟩
  · obtain ⟨_, _, _, _, _, _, _, _, _, rfl, _, _⟩ := F38.ex
    exact .of_eq rfl
  have Z : Pwb l.prog w base := ⟨⟩
  have C_beyond_caps := nC Z (ok_beyond_caps F1 T) (bn2 F1) F1 a1
  have C_offers_of := nC Z (ok_offers_of F2 T) (bn2 F2) F2 a2
  have I_Market := nI Z (ok_Market___init__ F3 T C_beyond_caps C_offers_of) (bn4 F3) a3 aC_Market
  have M_Market_lacks := nM Z (ok_Market_lacks F4 T) (bn2 F4) a4 T.cl_Market
  have M_Market_can_spare := nM Z (ok_Market_can_spare F5 T) (bn2 F5) a5 T.cl_Market
  have C_look_on := nC Z (ok_look_on F6 T M_Market_can_spare) (bn5 F6) F6 a6
  have C_raise_prices := nC Z (ok_raise_prices F7 T) (bn3 F7) F7 a7
  have M_Market_move := nM Z (ok_Market_move F8 T) (bn3 F8) a8 T.cl_Market
  have C_follow := nC Z (ok_follow F9 T M_Market_move) (bn4 F9) F9 a9
  have C_is_supplied := nC Z (ok_is_supplied F10 T M_Market_can_spare C_look_on C_raise_prices C_follow) (bn2 F10) F10 a10
  have C_cheapest := nC Z (ok_cheapest F11 T I_Market M_Market_lacks C_is_supplied) (bn3 F11) F11 a11
  have C_cost_at := nC Z (ok_cost_at F12 T) (bn2 F12) F12 a12
  have C_cost_of := nC Z (ok_cost_of F13 T C_cost_at) (bn2 F13) F13 a13
  have C_least_cost := nC Z (ok_least_cost F14 T) (bn3 F14) F14 a14
  have C_worth := nC Z (ok_worth F15 T C_least_cost) (bn5 F15) F15 a15
  have C_are_offered := nC Z (ok_are_offered F16 T) (bn2 F16) F16 a16
  have C_is_enough := nC Z (ok_is_enough F17 T) (bn2 F17) F17 a17
  have C_is_borne := nC Z (ok_is_borne F18 T) (bn3 F18) F18 a18
  have C_is_dealing := nC Z (ok_is_dealing F19 T C_are_offered C_is_enough C_is_borne) (bn4 F19) F19 a19
  have C_are_prices := nC Z (ok_are_prices F20 T) (bn4 F20) F20 a20
  have C_is_cheapest := nC Z (ok_is_cheapest F21 T C_cost_of C_worth C_is_dealing C_are_prices) (bn6 F21) F21 a21
  have C__law_cell_at := nC Z (ok__law_cell_at F22 T) (bn2 F22) F22 a22
  have C__law_stream := nC Z (ok__law_stream F23 T) (bn2 F23) F23 a23
  have C__law_cost := nC Z (ok__law_cost F24 T) (bn2 F24) F24 a24
  have C__law_spot := nC Z (ok__law_spot F25 T C__law_stream C__law_cost) (bn4 F25) F25 a25
  have C__law_spots := nC Z (ok__law_spots F26 T C__law_cell_at C__law_stream C__law_spot) (bn2 F26) F26 a26
  have C__law_picked := nC Z (ok__law_picked F27 T C__law_stream) (bn2 F27) F27 a27
  have C__law_counts := nC Z (ok__law_counts F28 T) (bn4 F28) F28 a28
  have C__law_limit := nC Z (ok__law_limit F29 T) (bn2 F29) F29 a29
  have C__law_copy := nC Z (ok__law_copy F30 T) (bn1 F30) F30 a30
  have C__law_whole := nC Z (ok__law_whole F31 T) (bn1 F31) F31 a31
  have C__law_dealing := nC Z (ok__law_dealing F32 T C__law_counts C__law_whole) (bn4 F32) F32 a32
  have C__law_cost_of := nC Z (ok__law_cost_of F33 T) (bn2 F33) F33 a33
  have C__law_worth_of := nC Z (ok__law_worth_of F34 T) (bn5 F34) F34 a34
  have C__law_due := nC Z (ok__law_due F35 T C__law_dealing C__law_cost_of C__law_worth_of) (bn4 F35) F35 a35
  have C__law_good := nC Z (ok__law_good F36 T C_is_cheapest C__law_copy C__law_due) (bn4 F36) F36 a36
  have C__law_spoilt := nC Z (ok__law_spoilt F37 T) (bn3 F37) F37 a37
  exact ok_law F38 T C__law_spots C__law_stream C__law_picked C__law_counts C__law_cell_at C__law_limit C_cheapest C__law_good C__law_spoilt C__law_copy
theorem walk {l : PySem.W.OpenLaw} {q : Program} {loose : List Str} {XP : (Str → Option Value) → Heap → Prop} {YP : World → Heap → Prop} {d : DefRec} {K : Params → PySem.W.Frag} (hn : l.most = some 63) (hdf : d.params.defaults = [])
    (hY : ∀ (w : World) (h : Heap), YP w h → (K w.params).In h)
    (F : ∀ (w : World) (mg : Str → Option Value) (fa : Addr) (h : Heap), (K w.params).In h → h.Ns mainGlobals mg → mg d.name = some (.ref fa) →
      ∃ fd : FuncData, (∀ (s : Shared) (u : Value), BindsTo s fd ⟨[u], []⟩ [("_law_script", u)]) ∧ ∀ base : Heap, (K w.params).In base → base.Ns mainGlobals mg → FnOk l.prog w (K w.params) mg base CX0 5 fa fd ["_law_script"] (sp_law (K w.params))) :
    PySem.W.WalkO q loose XP YP l.row.toRowW d [] (fun f vs => PySem.call f vs) :=
  L2.walk_of (n := 63) (k := 5) (x := "_law_script") (CX := fun _ => CX0) (sp := fun w => sp_law (K w.params)) hn (by decide) hdf ⟨rfl, by decide, by decide⟩ hY F (fun _ _ a ns hl _ hS => ⟨a, ns, rfl, hS, hl, fun _ => rfl⟩) fun _ _ _ _ _ z => z
end My
open PySem PySem.W PyProof.Rows
set_option maxRecDepth 100000 in
set_option maxHeartbeats 0 in
theorem PySem.Challenge.cw_rotaward_k49_what_is_cheapest_holds : PySem.Challenge.rw_rotaward_k49_what_is_cheapest.Holds := by
  w_on; o_law; k_head; (case hw => w_witness2)
  k_fill
  refine My.walk (l := PySem.Challenge.rw_rotaward_k49_what_is_cheapest) rfl rfl (fun w h Y => PySem.W.kIn_of Y) ?F
  case F =>
    intro w mg fa h KX G hmg
    refine' My.all_mk hmg ?_ ?_ ?_ ?_ ?_ ?_ ?_ ?_ ?_ ?_ ?_ ?_ ?_ ?_ ?_ ?_ ?_ ?_ ?_ ?_ ?_ ?_ ?_ ?_ ?_ ?_ ?_ ?_ ?_ ?_ ?_ ?_ ?_ ?_ ?_ ?_ ?_ ?_ ?_ ?_ ?_ ?_ ?_ ?_ ?_ ?_ ?_ ?_ ?_ ?_ ?_ ?_ ?_ ?_ ?_ ?_ ?_ ?_ ?_ ?_ ?_ ?_ ?_ ?_ ?_ ?_ ?_ ?_ ?_ ?_ ?_ ?_ ?_ ?_ ?_ ?_ ?_ ?_ ?_ ?_ ?_ ?_ ?_ ?_ ?_ ?_ ?_ ?_ ?_ ?_ ?_ ?_ ?_ ?_ ?_ ?_ ?_ ?_
    all_goals first | (refine PySem.W.mg_of KX G ?_; k_is) | (refine' L2.fun_mk ?_ ?_ ?_ <;> first | k_is | skip) | (refine PySem.W.mg_none_of KX G ?_; k_is) | (refine' L2.Meth.mk ?_ ?_ ?_ <;> first | k_is | skip) | (refine' L2.Mk.mk ?_ ?_ ?_ ?_ <;> first | k_is | skip) | (refine L2.Cls.mk ?_ ?_ ?_ ?_ <;> k_is) | (exact ⟨_, PySem.W.mg_of KX G (by k_is)⟩) | k_exc | k_is | skip
