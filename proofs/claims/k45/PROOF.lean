import PyProof.Rows.All
import Wide.All
import OpenK.AllK
import Wide.FinOn
import Lean
import PyProof.EqAt
import PyProof.EqKinds
import PyProof.TupleCall
import PySem.Challenge.RW_rotaward_k45_what_is_a_right_pair
set_option compiler.extract_closed false
namespace PySem.W.Fast
def tw11668220277203892448:=0
def tw9471528318983604576:=0
def tw1071797528309558656:=0
def tw10663892214444800800:=0
def tw4176478191303438593:=0
def tw572352835639096993:=0
def tw18135593736579645634:=0
def tw2827501084536258818:=0
def tw7874601360778216930:=0
def tw4266870139277731394:=0
def tw5949185449759019618:=0
def tw13523092533353826082:=0
def tw10530748884436367683:=0
def tw11162420951006824771:=0
def tw9345509643631715747:=0
def tw364495149244603843:=0
def tw14159268000707646947:=0
def tw8039054600946589187:=0
def tw7025119071349967363:=0
def tw15966979655019767331:=0
def tw10508432738252989091:=0
def tw10306782314245195012:=0
def tw16941017554665063780:=0
def tw9271960291305873156:=0
def tw1853406575686620165:=0
def tw2771927488700100741:=0
def tw1145389956906739269:=0
def tw2837796611515028421:=0
def tw9897323576967456806:=0
def tw9601297380922234918:=0
def tw11229778159992652838:=0
def tw8245238104639245382:=0
def tw6307418969150126214:=0
def tw14519347297747065062:=0
def tw15539288704377014822:=0
def tw9909360514857463750:=0
def tw5291756686491264199:=0
def tw11000865879000757895:=0
def tw8171873608944742023:=0
def tw4848623523594306439:=0
def tw6921852067407340519:=0
def tw3593468890384596360:=0
def tw17610366117181427176:=0
def tw17077868302407237160:=0
def tw931207772920898280:=0
def tw16479577973527320905:=0
def tw7573228066901547465:=0
def tw14882483960587823593:=0
def tw3156251485561398761:=0
def tw5898341428006132233:=0
def tw1448974629105539625:=0
def tw6151381158285884041:=0
def tw13671510554786962506:=0
def tw3243457210734088394:=0
def tw15800148861110608170:=0
def tw2828460687529722282:=0
def tw17835069783653053066:=0
def tw2453680080030187146:=0
def tw7293868879239227467:=0
def tw1165628762367811787:=0
def tw17484869534575432971:=0
def tw16324727249650359595:=0
def tw7795515664073245995:=0
def tw16668618196987536811:=0
def tw8493784755523568075:=0
def tw12793091404185763723:=0
def tw8880104533191037996:=0
def tw1210306363691549580:=0
def tw7232950227103456301:=0
def tw8752864621880374349:=0
def tw8738167627687950733:=0
def tw1947520788105435661:=0
def tw6824866341935259373:=0
def tw15186055907454812941:=0
def tw18122940488377622285:=0
def tw2008850342650854189:=0
def tw9414712214096381773:=0
def tw15293733463038564398:=0
def tw10007113587655626990:=0
def tw14998021424920181070:=0
def tw9202558089961986382:=0
def tw12718533171655558702:=0
def tw7608935597333198:=0
def tw16253644016820262734:=0
def tw9330177356206155662:=0
def tw14912412690339839471:=0
def tw7326798674137349615:=0
def tw9540183513738020399:=0
def tw8781245123743908527:=0
def tw6057111977764258192:=0
def tw5299627396095137264:=0
def tw512369009948333584:=0
def tw14848369978515193392:=0
def tw2968111520886714032:=0
def tw9568814569250671472:=0
def tw18306985949542094768:=0
def tw8807110197802556785:=0
def tw14786022826433590961:=0
def tw12981211707277058769:=0
def tw18236935901005276017:=0
def tw7273349892795487089:=0
def tw13275371914665404305:=0
def tw7934753650545250257:=0
def tw14889452779793144178:=0
def tw14435559594711002738:=0
def tw8159279207619435539:=0
def tw12335415884481025331:=0
def tw489534311789937011:=0
def tw4420178606480405971:=0
def tw12688592406567447091:=0
def tw15263968501728364371:=0
def tw13085526880803096403:=0
def tw9710517434849491859:=0
def tw15300204832975167668:=0
def tw2523790474020028628:=0
def tw3223228869783546260:=0
def tw9856422266542923220:=0
def tw1586989967119299060:=0
def tw8051014383497169620:=0
def tw1980530648590864212:=0
def tw7617585037054880660:=0
def tw64257564938232788:=0
def tw17038157121076871349:=0
def tw14796575751204092309:=0
def tw2949316200484930229:=0
def tw4465889087792127765:=0
def tw9228837386384600214:=0
def tw11539423787600476438:=0
def tw17046164685017738774:=0
def tw5806254639954558550:=0
def tw11302230979275109014:=0
def tw2624972549368562422:=0
def tw3326650843505007606:=0
def tw14269311182320388439:=0
def tw5346226753880874519:=0
def tw14133716678027127319:=0
def tw9487877433065557719:=0
def tw11289515348834999031:=0
def tw8730398846569607159:=0
def tw11354581194560842808:=0
def tw1687483107534725304:=0
def tw1443623886366576888:=0
def tw2878709838549196248:=0
def tw4636318891391985112:=0
def tw4484743213922810360:=0
def tw3143423982167724728:=0
def tw8986342602043688728:=0
def tw18415515577125537624:=0
def tw12345696672291318680:=0
def tw6797615752880757720:=0
def tw2914693601083434073:=0
def tw17614228796747448825:=0
def tw13860408932698138329:=0
def tw2100924734412234617:=0
def tw6863649072749217882:=0
def tw9155772165379523930:=0
def tw8321920002982864474:=0
def tw6798310588381037178:=0
def tw3074090681513412346:=0
def tw1304495006888810266:=0
def tw8627039574961984346:=0
def tw2560321517336867547:=0
def tw11875712832247354107:=0
def tw13119130750996170555:=0
def tw9354696586460731420:=0
def tw5503993309532462652:=0
def tw15034886490930827996:=0
def tw13154056889873686524:=0
def tw3630430090757657725:=0
def tw4692298425146638621:=0
def tw2424370527656933725:=0
def tw4254045996861758941:=0
def tw14462076366414340765:=0
def tw13972574033229683421:=0
def tw3888254755687545629:=0
def tw10836856270233526173:=0
def tw16489869431566691422:=0
def tw6034998979113444478:=0
def tw15863950706006324606:=0
def tw5500377474428583518:=0
def tw7867797245324470046:=0
def tw13355564450159119326:=0
def tw5611312809847562271:=0
def tw4472572349040150879:=0
def tw12928391027220149631:=0
def tw9195060824449998495:=0
def tw9977109118671217631:=0
def tw1552934243120172324:=0
end PySem.W.Fast
set_option Elab.async false
set_option linter.all false
set_option maxRecDepth 100000
namespace L2
open PySem PySem.Spec PyProof.Rows
noncomputable abbrev Key := Sum Int Str
noncomputable def keyIs:Key → Value → Bool
 | .inl k,v => Value.isInt k v
 | .inr x,v => Value.isStrOf x v
noncomputable def keyH (w:World):Key → Int
 | .inl k => hashInt k
 | .inr x => hashStr w x
theorem keyIs_shape:∀ {k:Key} {v:Value},keyIs k v = true → (∃ i t,k = Sum.inl i ∧ v = Value.int i t) ∨ (∃ x t,k = Sum.inr x ∧ v = Value.str x t)
 | .inl i,v,h => by
  obtain ⟨t,e⟩ := Value.isInt_shape (k := i) (v := v) h
  exact .inl ⟨i,t,rfl,e⟩
 | .inr x,v,h => by
  obtain ⟨t,e⟩ := Value.isStrOf_shape (x := x) (v := v) h
  exact .inr ⟨x,t,rfl,e⟩
theorem keyIs_int (i:Int) (t:Tok):keyIs (.inl i) (.int i t) = true := by simp [keyIs,Value.isInt]
theorem keyIs_str (x:Str) (t:Tok):keyIs (.inr x) (.str x t) = true := by simp [keyIs,Value.isStrOf]
theorem key_ll (a b:Int):decide ((Sum.inl a:Key) = Sum.inl b) = (a == b) := by
 by_cases e:a = b
 ·subst e; simp
 ·have h:¬ (Sum.inl a:Key) = Sum.inl b := fun q => e (Sum.inl.inj q)
  rw [decide_eq_false h]
  exact (beq_eq_false_iff_ne.mpr e).symm
theorem key_rr (a b:Str):decide ((Sum.inr a:Key) = Sum.inr b) = decide (a = b) := by
 by_cases e:a = b
 ·subst e; simp
 ·have h:¬ (Sum.inr a:Key) = Sum.inr b := fun q => e (Sum.inr.inj q)
  rw [decide_eq_false h,decide_eq_false e]
theorem key_lr (a:Int) (b:Str):decide ((Sum.inl a:Key) = Sum.inr b) = false := decide_eq_false (fun q => nomatch q)
theorem key_rl (a:Str) (b:Int):decide ((Sum.inr a:Key) = Sum.inl b) = false := decide_eq_false (fun q => nomatch q)
noncomputable def mixKind (prog:Program) (w:World):PySem.KeyKind prog w Key where
 is := keyIs
 hash := keyH w
 inj := fun v a b ha hb => by
  rcases keyIs_shape ha with ⟨i,t,rfl,rfl⟩ | ⟨x,t,rfl,rfl⟩
  ·rcases keyIs_shape hb with ⟨j,u,rfl,e⟩ | ⟨y,u,rfl,e⟩
   ·injection e with e1 _; rw [e1]
   ·exact nomatch e
  ·rcases keyIs_shape hb with ⟨j,u,rfl,e⟩ | ⟨y,u,rfl,e⟩
   ·exact nomatch e
   ·injection e with e1 _; rw [e1]
 byValue := fun k v h => by
  rcases keyIs_shape h with ⟨i,t,rfl,rfl⟩ | ⟨x,t,rfl,rfl⟩ <;> rfl
 pyHash := fun hv h => by
  rcases keyIs_shape hv with ⟨i,t,rfl,rfl⟩ | ⟨x,t,rfl,rfl⟩
  ·exact wpAny_pyHash_int h
  ·exact wpAny_pyHash_str h
 eqBool := fun hu hv h => by
  rcases keyIs_shape hu with ⟨i,t,rfl,rfl⟩ | ⟨x,t,rfl,rfl⟩
  ·rcases keyIs_shape hv with ⟨j,u,rfl,rfl⟩ | ⟨y,u,rfl,rfl⟩
   ·rw [key_ll] at h; exact wpAny_eqBool_int h
   ·rw [key_lr] at h; exact SeqAt.EqAt.int_str i t y u _ _ _ _ h
  ·rcases keyIs_shape hv with ⟨j,u,rfl,rfl⟩ | ⟨y,u,rfl,rfl⟩
   ·rw [key_rl] at h; exact SeqAt.EqAt.str_int x t j u _ _ _ _ h
   ·rw [key_rr] at h; exact wpAny_eqBool_str h
 «strs» := fun k x t v h => by
  rcases keyIs_shape h with ⟨i,u,rfl,e⟩ | ⟨y,u,rfl,e⟩
  ·exact nomatch e
  ·injection e with e1 _
   subst e1
   cases v <;> rfl
theorem mixKind_int (prog:Program) (w:World) (i:Int) (t:Tok):(mixKind prog w).is (.inl i) (.int i t) = true := keyIs_int i t
theorem mixKind_str (prog:Program) (w:World) (x:Str) (t:Tok):(mixKind prog w).is (.inr x) (.str x t) = true := keyIs_str x t
end L2
namespace L2
open PySem PySem.Spec PyProof.Rows
inductive V where
 | non | bl (b:Bool) | int (i:Int) | str (x:Str) | byt (b:Array UInt8) | flt (b:UInt64) | ref (a:Addr) | ty (n:String)
 deriving DecidableEq
noncomputable def RelV:V → Value → Prop
 | .non,u => u = Value.none
 | .bl b,u => u = Value.bool b
 | .int i,u => ∃ t,u = Value.int i t
 | .str x,u => ∃ t,u = Value.str x t
 | .byt b,u => ∃ t,u = Value.bytes b t
 | .flt b,u => ∃ t,u = Value.float b t
 | .ref a,u => u = Value.ref a
 | .ty n,u => u = Value.type n
noncomputable abbrev Vals:List V → List Value → Prop := Paired RelV
theorem Vals.length {xs:List V} {us:List Value} (r:Vals xs us):xs.length = us.length := Paired.length r
theorem Vals.get:∀ {xs:List V} {us:List Value} {i:Nat} {x:V},Vals xs us → xs[i]? = some x → ∃ u,us[i]? = some u ∧ RelV x u
 | _,_,_,_,.nil,e => by simp at e
 | _,_,0,_,.cons r _,e => by simp at e; subst e; exact ⟨_,rfl,r⟩
 | _,_,i + 1,x,.cons _ t,e => by
  obtain ⟨u,h1,h2⟩ := Vals.get (i := i) (x := x) t (by simpa using e)
  exact ⟨u,by simpa using h1,h2⟩
theorem Vals.set {x:V} {u:Value} (r:RelV x u):∀ {xs:List V} {us:List Value} (i:Nat),Vals xs us → Vals (xs.set i x) (us.set i u)
 | _,_,_,.nil => .nil
 | _,_,0,.cons _ t => .cons r t
 | _,_,i + 1,.cons q t => .cons q (Vals.set r i t)
theorem Vals.append:∀ {xs ys:List V} {us ws:List Value},Vals xs us → Vals ys ws → Vals (xs ++ ys) (us ++ ws)
 | _,_,_,_,.nil,s => s
 | _,_,_,_,.cons r t,s => .cons r (Vals.append t s)
theorem Vals.take:∀ {xs:List V} {us:List Value} (n:Nat),Vals xs us → Vals (xs.take n) (us.take n)
 | _,_,0,_ => .nil
 | _,_,_ + 1,.nil => .nil
 | _,_,n + 1,.cons r t => .cons r (Vals.take n t)
theorem Vals.drop:∀ {xs:List V} {us:List Value} (n:Nat),Vals xs us → Vals (xs.drop n) (us.drop n)
 | _,_,0,r => r
 | _,_,_ + 1,.nil => .nil
 | _,_,n + 1,.cons _ t => Vals.drop n t
theorem Vals.none_of:∀ {xs:List V} {us:List Value} {i:Nat},Vals xs us → xs[i]? = none → us[i]? = none := fun {xs us i} r e => by
 have h1 := r.length
 have h2:xs.length ≤ i := List.getElem?_eq_none_iff.mp e
 exact List.getElem?_eq_none_iff.mpr (by omega)
noncomputable def RelO:Option V → Option Value → Prop
 | some v,some u => RelV v u
 | none,none => True
 | _,_ => False
noncomputable def KV {κ:Type}:List (κ × V) → List (κ × Value) → Prop := Paired fun (p:κ × V) (q:κ × Value) => p.1 = q.1 ∧ RelV p.2 q.2
noncomputable def kV:Key → V
 | .inl i => .int i
 | .inr x => .str x
inductive HO where
 /-- a list -/
 | lst (xs:List V)
 /-- a tuple (never changes) -/
 | tup (xs:List V)
 /-- a dict whose keys are ints and texts; one whose keys are tuples of ints and texts (the empty one is both) -/
 | dK (kvs:List (Key × V)) | dT (kvs:List (List Key × V))
 /-- a set of ints: its members,its size -/
 | set (S:Int → Bool) (n:Nat)
 /-- an instance of the class at C,its dict at dx,its attributes -/
 | ins (C dx:Addr) (fs:List (Str × V))
 /-- the dict of the instance at x -/
 | own (x:Addr)
 /-- the dict of an exception -/
 | xd (fs:List (Str × V))
 /-- a bound method,f of x -/
 | met (f x:Addr)
 /-- a range object lo,lo + 1,.. below hi -/
 | rng (lo hi:Int)
 /-- a thing that is known to the object (the script; a dict while a loop walks it): read,never written while it is so -/
 | frz (o:Obj) (u:HO)
 /-- a code object's table -/
 | tbl (ps:Array Value)
 /-- any other thing,by what is true of its one object (a def of one's own: SetO a S n := HO.ext fun h => ..) -/
 | ext (φ:Heap → Prop)
noncomputable abbrev Hp := Addr → Option HO
noncomputable def upd (H:Hp) (a:Addr) (o:HO):Hp := fun b => if b = a then some o else H b
theorem upd_same {H:Hp} {a:Addr} {o:HO}:upd H a o a = some o := by unfold upd; rw [if_pos rfl]
theorem upd_ne {H:Hp} {a b:Addr} {o:HO} (h:b ≠ a):upd H a o b = H b := by unfold upd; rw [if_neg h]
theorem upd_upd {H:Hp} {a:Addr} {o u:HO}:upd (upd H a o) a u = upd H a u := by
 funext b; unfold upd; split <;> rfl
theorem ne_of {H:Hp} {a b:Addr} {o u:HO} (h:H a = some o) (h':H b = some u) (d:o ≠ u):a ≠ b := by
 intro e; subst e; rw [h] at h'; exact d (Option.some.inj h')
theorem ne_of_none {H:Hp} {a b:Addr} {o:HO} (h:H a = some o) (h':H b = none):a ≠ b := by
 intro e; subst e; rw [h] at h'; cases h'
section
variable (P:Program) (w:World)
noncomputable def ObjOk (H:Hp) (h:Heap) (a:Addr):HO → Prop
 | .lst xs => xs.length ≤ sizeLine ∧ ∃ (its:List Value) (n:Nat),Vals xs its ∧ h.get? a = some { cls := .type "list",data := .seq its.toArray n }
 | .tup xs => xs.length ≤ sizeLine ∧ ∃ its:List Value,Vals xs its ∧ IsTup h a its.toArray
 | .dK kvs => kvs.length ≤ sizeLine ∧ (a == sysModules) = false ∧ ∃ vs,KV kvs vs ∧ h.DictOf (mixKind P w) a vs
 | .dT kvs => kvs.length ≤ sizeLine ∧ (a == sysModules) = false ∧ ∃ xs:List (List Key × Addr × Value),
   Paired (fun (p:List Key × V) (q:List Key × Addr × Value) => p.1 = q.1 ∧ H q.2.1 = some (.tup (p.1.map kV)) ∧ RelV p.2 q.2.2) kvs xs ∧
   ∃ o es ep,h.get? a = some o ∧ o.ExactDict ∧ o.data = .dict es ep ∧ es.toList = xs.map (entryOfKey (tupleKind (mixKind P w))) ∧ (xs.map (·.1)).Nodup
 | .set S n => h.SetOf (intKind P w) a S n
 | .ins C dx fs => H dx = some (.own a) ∧ fs.length ≤ 1000 ∧ dx ≠ a ∧ h.get? a = some (PySem.W.instObj C dx) ∧
   ∃ mA,h.Ns1 dx mA ∧ (∀ f,RelO (fs.lookup f) (mA f)) ∧ PySem.Within mA (fs.map (·.1))
 | .own _ => ∃ o,h.get? a = some o
 | .xd fs => ∃ mA,h.Ns1 a mA ∧ ∀ f,RelO (fs.lookup f) (mA f)
 | .rng lo hi => ∃ t u v,h.get? a = some { cls := .type "range",data := .fields #[.int lo t,.int hi u,.int 1 v] }
 | .frz o u => h.get? a = some o ∧ ObjOk H h a u
 | .tbl ps => h.get? a = some { cls := .none,data := .fields ps }
 | .met f x => h.get? a = some (PySem.W.methodObj (.ref f) (.ref x))
 | .ext φ => φ h ∧ (∃ o,h.get? a = some o) ∧ ∀ h1 h2:Heap,φ h1 → (∀ o,h1.get? a = some o → h2.get? a = some o) → φ h2
noncomputable def HOk (H:Hp) (h:Heap):Prop := ∀ a o,H a = some o → ObjOk P w H h a o
end
section
variable {P:Program} {w:World} {H H':Hp} {h h':Heap} {a:Addr} {o:HO}
theorem ObjOk.lt (x:ObjOk P w H h a o):a < h.objs.size := by
 cases o with
 | lst xs => obtain ⟨_,_,_,_,e⟩ := x; exact Heap.lt_size e
 | tup xs => obtain ⟨_,_,_,p⟩ := x; exact p.lt
 | dK kvs => obtain ⟨_,_,_,_,o,_,_,e,_⟩ := x; exact Heap.lt_size e
 | dT kvs => obtain ⟨_,_,_,_,o,_,_,e,_⟩ := x; exact Heap.lt_size e
 | set S n => obtain ⟨o,_,_,_,e,_⟩ := x; exact Heap.lt_size e
 | ins C dx fs => obtain ⟨_,_,_,e,_⟩ := x; exact Heap.lt_size e
 | own y => obtain ⟨_,e⟩ := x; exact Heap.lt_size e
 | xd fs => obtain ⟨_,⟨_,_,_,e,_⟩,_⟩ := x; exact Heap.lt_size e
 | rng lo hi => obtain ⟨_,_,_,e⟩ := x; exact Heap.lt_size e
 | frz ob u => obtain ⟨e,_⟩ := x; exact Heap.lt_size e
 | tbl ps => exact Heap.lt_size (show h.get? a = some _ from x)
 | met f y => exact Heap.lt_size (show h.get? a = some _ from x)
 | ext φ => obtain ⟨_,⟨_,e⟩,_⟩ := x; exact Heap.lt_size e
theorem Paired.mapP {α β:Type} {F G:α → β → Prop}:∀ {l₁:List α} {l₂:List β},Paired F l₁ l₂ → (∀ a b,F a b → G a b) → Paired G l₁ l₂
 | _,_,.nil,_ => .nil
 | _,_,.cons r t,f => .cons (f _ _ r) (Paired.mapP t f)
theorem ObjOk.stay (x:ObjOk P w H h a o) (k:∀ b u,(b = a ∨ H b = some (.own a)) → h.get? b = some u → h'.get? b = some u)
  (ho:∀ b,H b = some (.own a) → H' b = some (.own a)) (ht:∀ b xs,H b = some (.tup xs) → H' b = some (.tup xs)):ObjOk P w H' h' a o := by
 induction o with
 | lst xs => obtain ⟨z,its,n,r,e⟩ := x; exact ⟨z,its,n,r,k _ _ (.inl rfl) e⟩
 | tup xs => obtain ⟨z,its,r,ob,e,c⟩ := x; exact ⟨z,its,r,ob,k _ _ (.inl rfl) e,c⟩
 | dK kvs => obtain ⟨z,y,vs,r,ob,es,ep,e,c⟩ := x; exact ⟨z,y,vs,r,ob,es,ep,k _ _ (.inl rfl) e,c⟩
 | dT kvs =>
  obtain ⟨z,y,xs,r,ob,es,ep,e,c⟩ := x
  exact ⟨z,y,xs,Paired.mapP r fun p q z => ⟨z.1,ht _ _ z.2.1,z.2.2⟩,ob,es,ep,k _ _ (.inl rfl) e,c⟩
 | set S n => obtain ⟨ob,es,ep,t,e,c⟩ := x; exact ⟨ob,es,ep,t,k _ _ (.inl rfl) e,c⟩
 | ins C dx fs =>
  obtain ⟨d,z,ne,e,mA,⟨od,es,ep,e2,c⟩,r⟩ := x
  exact ⟨ho _ d,z,ne,k _ _ (.inl rfl) e,mA,⟨od,es,ep,k _ _ (.inr d) e2,c⟩,r⟩
 | own y => obtain ⟨ob,e⟩ := x; exact ⟨ob,k _ _ (.inl rfl) e⟩
 | xd fs => obtain ⟨mA,⟨od,es,ep,e,c⟩,r⟩ := x; exact ⟨mA,⟨od,es,ep,k _ _ (.inl rfl) e,c⟩,r⟩
 | rng lo hi => obtain ⟨t,u,v,e⟩ := x; exact ⟨t,u,v,k _ _ (.inl rfl) e⟩
 | frz ob u ih => obtain ⟨e,q⟩ := x; exact ⟨k _ _ (.inl rfl) e,ih q⟩
 | tbl ps =>
  have e:h.get? a = some { cls := .none,data := .fields ps } := x
  show h'.get? a = some { cls := .none,data := .fields ps }
  exact k a _ (.inl rfl) e
 | met f y =>
  have e:h.get? a = some (PySem.W.methodObj (.ref f) (.ref y)) := x
  show h'.get? a = some (PySem.W.methodObj (.ref f) (.ref y))
  exact k a _ (.inl rfl) e
 | ext φ => obtain ⟨p,⟨o,e⟩,st⟩ := x; exact ⟨st _ _ p fun o q => k _ _ (.inl rfl) q,⟨o,k _ _ (.inl rfl) e⟩,st⟩
theorem HOk.lt (x:HOk P w H h) (e:H a = some o):a < h.objs.size := (x a o e).lt
theorem HOk.fresh (x:HOk P w H h) (e:h.objs.size ≤ a):H a = none := by
 cases q:H a with
 | none => rfl
 | some u => exact absurd (Nat.lt_of_lt_of_le (x.lt q) e) (Nat.lt_irrefl _)
theorem HOk.kept (x:HOk P w H h) (k:∀ b u,h.get? b = some u → h'.get? b = some u):HOk P w H h' := fun a o e =>
 (x a o e).stay (fun b u _ q => k b u q) (fun _ q => q) fun _ _ q => q
theorem HOk.laid (x:HOk P w H h) (k:∀ b u,h.get? b = some u → h'.get? b = some u) (hp:h.objs.size ≤ a) (new:ObjOk P w (upd H a o) h' a o):HOk P w (upd H a o) h' := fun b u e => by
 have hn := x.fresh hp
 by_cases hb:b = a
 ·subst hb; rw [upd_same] at e; cases e; exact new
 ·rw [upd_ne hb] at e
  exact (x b u e).stay (fun c v _ q => k c v q) (fun c q => by rw [upd_ne (ne_of_none q hn)]; exact q) fun c xs q => by rw [upd_ne (ne_of_none q hn)]; exact q
end
noncomputable def Rd (H:Hp) (a:Addr) (u:HO):Prop := H a = some u ∨ ∃ o,H a = some (.frz o u)
theorem Rd.ok {P:Program} {w:World} {H:Hp} {h:Heap} {a:Addr} {u:HO} (r:Rd H a u) (x:HOk P w H h):ObjOk P w H h a u := by
 rcases r with r | ⟨o,r⟩
 ·exact x a u r
 ·obtain ⟨_,q⟩ := x a _ r
  exact q
noncomputable def Mut:Option HO → Prop
 | some (.lst _) => True
 | some (.dK _) => True
 | some (.dT _) => True
 | some (.set _ _) => True
 | some (.ins _ _ _) => True
 | some (.ext _) => True
 | _ => False
section
variable {P:Program} {w:World} {H:Hp} {h h':Heap} {x e:Addr} {o':HO}
theorem HOk.write (ok:HOk P w H h) (mu:Mut (H x)) (he:e = x ∨ H e = some (.own x)) (k:∀ b u,b ≠ e → h.get? b = some u → h'.get? b = some u) (heo:∃ u,h'.get? e = some u)
  (new:ObjOk P w (upd H x o') h' x o'):HOk P w (upd H x o') h' := fun b u q => by
 have nown:∀ c y,H c = some (.own y) → c ≠ x := fun c y r z => by subst z; rw [r] at mu; exact mu
 have ntup:∀ c xs,H c = some (.tup xs) → c ≠ x := fun c xs r z => by subst z; rw [r] at mu; exact mu
 by_cases hb:b = x
 ·subst hb; rw [upd_same] at q; cases q; exact new
 ·rw [upd_ne hb] at q
  by_cases hbe:b = e
  ·have q':H b = some (.own x) := by
    rcases he with z | z
    ·exact absurd (hbe.trans z) hb
    ·rw [hbe]; exact z
   rw [q] at q'; cases q'
   obtain ⟨v,hv⟩ := heo
   exact ⟨v,by rw [hbe]; exact hv⟩
  ·refine (ok b u q).stay (fun c v hc r => k c v ?_ r) (fun c r => by rw [upd_ne (nown c b r)]; exact r) fun c xs r => by rw [upd_ne (ntup c xs r)]; exact r
   rcases hc with rfl | hc
   ·exact hbe
   ·rintro rfl
    rcases he with z | z
    ·exact nown c b hc z
    ·rw [hc] at z; cases z; exact hb rfl
end
structure Un (fs ex:List Addr) (H H':Hp) (h h':Heap):Prop where
 keep:∀ b o,h.get? b = some o → H b = none → b ∉ fs → b ∉ ex → h'.get? b = some o
 slot:∀ b o,h.get? b = some o → H b = none → b ∈ fs → b ∉ ex → ∃ sl,h'.get? b = some { o with slots := sl }
 free:∀ b o,h.get? b = some o → H b = none → b ∉ ex → H' b = none
 there:∀ b o,h.get? b = some o → b ∉ ex → ∃ o',h'.get? b = some o'
 tups:∀ b xs,H b = some (.tup xs) → H' b = some (.tup xs)
 frzs:∀ b o u,H b = some (.frz o u) → H' b = some (.frz o u)
 tbls:∀ b ps,H b = some (.tbl ps) → ∃ more,H' b = some (.tbl (ps ++ more))
section
variable {fs fs' ex ex':List Addr} {H H1 H2:Hp} {h h1 h2 h':Heap} {a x e:Addr} {o:HO}
theorem Un.any (u:Un fs ex H H1 h h1) {b:Addr} {ob:Obj} (q:h.get? b = some ob) (n:H b = none) (hx:b ∉ ex):∃ sl,h1.get? b = some { ob with slots := sl } := by
 by_cases hb:b ∈ fs
 ·exact u.slot b ob q n hb hx
 ·exact ⟨ob.slots,u.keep b ob q n hb hx⟩
theorem Un.kept (k:∀ b u,h.get? b = some u → h'.get? b = some u):Un fs ex H H h h' :=
 ⟨fun b ob q _ _ _ => k b ob q,fun b ob q _ _ _ => ⟨ob.slots,k b ob q⟩,fun _ _ _ n _ => n,fun b ob q _ => ⟨ob,k b ob q⟩,fun _ _ q => q,fun _ _ _ q => q,fun _ ps q => ⟨#[],by rw [q]; simp⟩⟩
theorem Un.refl:Un fs ex H H h h := Un.kept fun _ _ q => q
theorem Un.laid (k:∀ b u,h.get? b = some u → h'.get? b = some u) (hp:h.objs.size ≤ a) (hn:H a = none):Un fs ex H (upd H a o) h h' where
 keep := fun b u q _ _ _ => k b u q
 slot := fun b u q _ _ _ => ⟨u.slots,k b u q⟩
 free := fun b u q n _ => by rw [upd_ne (Nat.ne_of_lt (Nat.lt_of_lt_of_le (Heap.lt_size q) hp))]; exact n
 there := fun b u q _ => ⟨u,k b u q⟩
 tups := fun b xs q => by rw [upd_ne (ne_of_none q hn)]; exact q
 frzs := fun b u xs q => by rw [upd_ne (ne_of_none q hn)]; exact q
 tbls := fun b ps q => ⟨#[],by rw [upd_ne (ne_of_none q hn),q]; simp⟩
theorem Un.write (mu:Mut (H x)) (he:e = x ∨ H e = some (.own x)) (k:∀ b u,b ≠ e → h.get? b = some u → h'.get? b = some u) (heo:∃ u,h'.get? e = some u):Un fs ex H (upd H x o) h h' := by
 have hx:∀ b,H b = none → b ≠ x := fun b n z => by subst z; rw [n] at mu; exact mu
 have hb:∀ b,H b = none → b ≠ e := fun b n z => by
  subst z
  rcases he with r | r
  ·exact hx b n r
  ·rw [n] at r; cases r
 have hm:∀ b u,H b = some u → ¬ Mut (some u) → b ≠ x := fun b u q nm z => by subst z; rw [q] at mu; exact nm mu
 refine ⟨fun b u q n _ _ => k b u (hb b n) q,fun b u q n _ _ => ⟨u.slots,k b u (hb b n) q⟩,fun b u q n _ => by rw [upd_ne (hx b n)]; exact n,fun b u q _ => ?_,
  fun b xs q => by rw [upd_ne (hm b _ q fun z => z)]; exact q,fun b u xs q => by rw [upd_ne (hm b _ q fun z => z)]; exact q,fun b ps q => ⟨#[],by rw [upd_ne (hm b _ q fun z => z),q]; simp⟩⟩
 by_cases hbe:b = e
 ·subst hbe; exact heo
 ·exact ⟨u,k b u hbe q⟩
end
noncomputable def trk (h:Heap) (H:Hp):List Addr := (List.range h.objs.size).filter fun a => (H a).isSome
noncomputable def hidT (h:Heap) (H:Hp):Heap := PySem.W.hideAll h (trk h H)
theorem hidT_size (h:Heap) (H:Hp):(hidT h H).objs.size = h.objs.size := PySem.W.hideAll_size _ _
theorem hidT_get {h:Heap} {H:Hp} {b:Addr} {o:Obj} (e:h.get? b = some o) (n:H b = none):(hidT h H).get? b = some o :=
 PySem.W.hideAll_get _ e fun hm => by
  have q:(H b).isSome = true := (List.mem_filter.mp hm).2
  rw [n] at q; simp at q
theorem of_hidT {h:Heap} {H:Hp} {b:Addr} {o:Obj} (e:(hidT h H).get? b = some o):h.get? b = some o ∧ H b = none := by
 have e':h.get? b = some o := PySem.W.of_hideAll (trk h H) e
 refine ⟨e',?_⟩
 cases q:H b with
 | none => rfl
 | some x =>
  have hm:b ∈ trk h H := List.mem_filter.mpr ⟨List.mem_range.mpr (Heap.lt_size e'),by simp [q]⟩
  have z:(hidT h H).get? b = none := PySem.W.hideAll_none (trk h H) hm
  rw [z] at e; cases e
noncomputable def allNews (g h:Heap) (L:Addr):List (Addr × Obj) := (List.range h.objs.size).filterMap fun a => if a = L ∨ (g.get? a).isSome = true then none else (h.get? a).map fun o => (a,o)
noncomputable def rest (g h:Heap) (L d:Addr):List (Addr × Obj) := (allNews g h L).filter fun p => decide (p.1 ≠ d)
end L2
namespace L2
open PySem PySem.Spec PyProof.Rows
structure Mod (K:PySem.W.Frag) (mg:Str → Option Value) (base:Heap):Prop where
 kin:K.In base
 glob:base.Ns mainGlobals mg
 blt:∃ mb,base.Ns builtinsNs mb ∧ ∀ x:Str,x ≠ "__name__" → mb x = bootBuiltins x
 nolimit:base.NoLimit
structure Cx where
 prog:Program
 w:World
 K:PySem.W.Frag
 mg:Str → Option Value
 base:Heap
 A:Around
 N:List Str
 s₀:Shared
 H₀:Hp
 env:Env
 outer:List Env
 stack:List Env
 ex:List Addr
 fn:Str → Bool
 calm:Bool
 pn:List (Addr × Obj)
 xe:Value → Shared → Prop
noncomputable def frs (l:List Env):List Addr := l.filterMap (·.frame)
noncomputable abbrev Cx.fs (X:Cx):List Addr := frs X.outer
noncomputable def Vis (sc:Scope) (x:Str):Prop := sc.names.lookup x = some .local ∨ sc.names.lookup x = some .cell ∨ sc.names.lookup x = some .free
noncomputable def Loc (sc:Scope) (x:Str):Prop := sc.names.lookup x = some .local ∨ sc.names.lookup x = some .cell
noncomputable def Look (env:Env) (h:Heap) (m:Str → Option Value) (x:Str) (u:Value):Prop :=
 (env.kindOf x = some .local ∧ m x = some u) ∨ ((env.kindOf x = some .cell ∨ env.kindOf x = some .free) ∧ ∃ c,env.cells.lookup x = some c ∧ h.IsCell c (some u))
structure Cx.Ok (X:Cx):Prop where
 mod:Mod X.K X.mg X.base
 kind:X.env.scope.kind = .function
 glob:X.env.globals = mainGlobals
 blt:X.env.builtins = builtinsNs
 above:X.s₀.heap.objs.size ≤ X.env.locals
 inj:∀ x y c,X.env.cells.lookup x = some c → X.env.cells.lookup y = some c → x = y
 has:∀ x,(X.env.kindOf x = some .cell ∨ X.env.kindOf x = some .free) → ∃ c,X.env.cells.lookup x = some c
 cab:∀ x c,X.fn x = true → X.env.cells.lookup x = some c → X.s₀.heap.objs.size ≤ c
 hd:X.calm = true → X.A.handled = none
 frames:X.A.frames = some X.stack
 stk:X.stack = X.outer ∨ (X.stack = X.env :: X.outer ∧ X.env.frame = some X.env.locals)
 exf:∀ b ∈ X.ex,b ≠ X.env.locals ∧ ∀ x c,X.env.cells.lookup x = some c → c ≠ b
 bs:∀ b o,X.base.get? b = some o → X.s₀.heap.get? b = some o ∧ X.H₀ b = none
 bsz:X.base.objs.size ≤ X.s₀.heap.objs.size
 noex:∀ b o,X.base.get? b = some o → b ∉ X.ex
 exfs:∀ b ∈ X.ex,b ∉ X.fs
 funs:X.s₀.heap.FunFrames X.base X.outer
 frf:∀ b ∈ X.fs,X.H₀ b = none
structure Inv (X:Cx) (pins:List (Addr × Obj)) (σ:List (Option V)) (H:Hp) (s:Shared):Prop where
 ok:X.Ok
 os:s.os = X.s₀.os
 bare:AllBare s.gens
 base:Un X.fs X.ex X.H₀ H X.s₀.heap s.heap
 loc:∃ m,s.heap.Ns X.env.locals m ∧ ∀ (i:Nat) (x:Str) (v:V),X.N[i]? = some x → σ[i]? = some (some v) → Vis X.env.scope x → ∃ u,RelV v u ∧ Look X.env s.heap m x u
 cell:∀ x c,X.env.cells.lookup x = some c → ∃ v,s.heap.IsCell c v
 free:H X.env.locals = none
 freeC:∀ x c,X.env.cells.lookup x = some c → H c = none
 pin:∀ p ∈ X.pn ++ pins,s.heap.get? p.1 = some p.2 ∧ H p.1 = none ∧ p.1 ≠ X.env.locals ∧ p.1 ∉ X.fs ∧ ∀ v,p.2.data ≠ .cell v
 hok:HOk X.prog X.w H s.heap
 len:σ.length = X.N.length
section
variable {X:Cx} {pins:List (Addr × Obj)} {σ:List (Option V)} {H H':Hp} {s:Shared} {h':Heap}
theorem Cx.Ok.nofr (ok:X.Ok) {b:Addr} {o:Obj} (e:X.base.get? b = some o):b ∉ X.fs := fun hb => by
 have := (ok.funs.mem hb).1
 rw [e] at this; cases this
theorem Inv.bs (I:Inv X pins σ H s):∀ b o,X.base.get? b = some o → s.heap.get? b = some o ∧ H b = none := fun b o e =>
 ⟨I.base.keep b o (I.ok.bs b o e).1 (I.ok.bs b o e).2 (I.ok.nofr e) (I.ok.noex b o e),I.base.free b o (I.ok.bs b o e).1 (I.ok.bs b o e).2 (I.ok.noex b o e)⟩
theorem Inv.bk (I:Inv X pins σ H s):∀ b o,X.base.get? b = some o → s.heap.get? b = some o := fun b o e => (I.bs b o e).1
theorem Inv.mod (I:Inv X pins σ H s):Mod X.K X.mg X.base := I.ok.mod
theorem Inv.kIn (I:Inv X pins σ H s):X.K.In s.heap := I.ok.mod.kin.keeps I.bk
theorem Inv.lt (I:Inv X pins σ H s):X.env.locals < s.heap.objs.size := let ⟨_,hn,_⟩ := I.loc; hn.lt
theorem Inv.sz (I:Inv X pins σ H s):X.s₀.heap.objs.size ≤ s.heap.objs.size := Nat.le_trans I.ok.above (Nat.le_of_lt I.lt)
theorem Inv.nofs (I:Inv X pins σ H s) {a:Addr} (h:s.heap.objs.size ≤ a):a ∉ X.fs := fun hb => by
 obtain ⟨_,o,ho,_⟩ := I.ok.funs.mem hb
 exact absurd (Nat.lt_of_lt_of_le (Heap.lt_size ho) (Nat.le_trans I.sz h)) (Nat.lt_irrefl _)
theorem Inv.cne (I:Inv X pins σ H s):∀ x c,X.env.cells.lookup x = some c → c ≠ X.env.locals := fun x c e z => by
 obtain ⟨v,o,ho,hd⟩ := I.cell x c e
 obtain ⟨m,⟨o',es,ep,ho',hd',_⟩,_⟩ := I.loc
 rw [z,ho'] at ho; cases ho; rw [hd'] at hd; cases hd
theorem Inv.funs (I:Inv X pins σ H s):s.heap.FunFrames X.base X.outer := by
 have all:∀ (l:List Env),(∀ b ∈ frs l,b ∈ X.fs) → X.s₀.heap.FunFrames X.base l → s.heap.FunFrames X.base l := by
  intro l
  induction l with
  | nil => intro _ _; trivial
  | cons env r ih =>
   intro hs hl
   obtain ⟨hk,⟨L,o,hf,hn,ho,hd⟩,hr⟩ := hl
   have hL:L ∈ X.fs := hs L (by unfold frs; rw [List.filterMap_cons,hf]; exact List.mem_cons_self)
   obtain ⟨sl,e⟩ := I.base.slot L o ho (I.ok.frf L hL) hL fun z => I.ok.exfs L z hL
   exact ⟨hk,⟨L,_,hf,hn,e,hd⟩,ih (fun b hb => hs b (by unfold frs; rw [List.filterMap_cons,hf]; exact List.mem_cons_of_mem _ hb)) hr⟩
 exact all X.outer (fun _ hb => hb) I.ok.funs
theorem Inv.stack (I:Inv X pins σ H s):s.heap.FunFrames X.base X.stack := by
 rcases I.ok.stk with e | ⟨e,hf⟩
 ·rw [e]; exact I.funs
 ·rw [e]
  obtain ⟨m,hn,_⟩ := I.loc
  refine .cons (by rw [I.ok.kind]; decide) hf hn ?_ I.funs
  exact Heap.get?_none_of_le (Nat.le_trans I.ok.bsz I.ok.above)
theorem Inv.stkSub (I:Inv X pins σ H s):∀ b ∈ frs X.stack,b ∈ X.env.locals :: X.fs := fun b hb => by
 rcases I.ok.stk with e | ⟨e,hf⟩
 ·rw [e] at hb; exact List.mem_cons_of_mem _ hb
 ·rw [e] at hb
  unfold frs at hb
  rw [List.filterMap_cons,hf] at hb
  exact hb
theorem Inv.stkFree (I:Inv X pins σ H s):∀ b ∈ frs X.stack,H b = none := fun b hb => by
 rcases List.mem_cons.mp (I.stkSub b hb) with e | hb
 ·rw [e]; exact I.free
 ·obtain ⟨_,o,ho,_⟩ := I.ok.funs.mem hb
  exact I.base.free b o ho (I.ok.frf b hb) fun z => I.ok.exfs b z hb
theorem Inv.step {g':Array GenState} {t':Nat} {d':Drawn} {ch:List Addr} (I:Inv X pins σ H s)
  (hch:∀ b ∈ ch,(b ∈ X.ex ∨ X.s₀.heap.objs.size ≤ b) ∧ b ≠ X.env.locals ∧ (∀ x c,X.env.cells.lookup x = some c → c ≠ b) ∧ ∀ p ∈ X.pn ++ pins,p.1 ≠ b)
  (keep:∀ b o,b ≠ X.env.locals → b ∉ X.fs → b ∉ ch → s.heap.get? b = some o → H b = none → h'.get? b = some o)
  (slot:∀ b o,b ≠ X.env.locals → b ∈ X.fs → b ∉ ch → s.heap.get? b = some o → H b = none → ∃ sl,h'.get? b = some { o with slots := sl }) (free:∀ b o,b ∉ ch → s.heap.get? b = some o → H b = none → H' b = none)
  (there:∀ b o,b ∉ ch → s.heap.get? b = some o → ∃ o',h'.get? b = some o')
  (tups:∀ b xs,H b = some (.tup xs) → H' b = some (.tup xs)) (frzs:∀ b o u,H b = some (.frz o u) → H' b = some (.frz o u)) (tbls:∀ b ps,H b = some (.tbl ps) → ∃ more,H' b = some (.tbl (ps ++ more)))
  (ns:∀ m,s.heap.Ns X.env.locals m → h'.Ns X.env.locals m) (hok:HOk X.prog X.w H' h') (hg:AllBare g') :
  Inv X pins σ H' { s with heap := h',gens := g',drawn := d',toks := t' } := by
 have neL:∀ b o,X.s₀.heap.get? b = some o → b ≠ X.env.locals := fun b o e => Nat.ne_of_lt (Nat.lt_of_lt_of_le (Heap.lt_size e) I.ok.above)
 have neC:∀ b o,X.s₀.heap.get? b = some o → b ∉ X.ex → b ∉ ch := fun b o e hx hb => by
  rcases (hch b hb).1 with z | z
  ·exact hx z
  ·exact absurd (Nat.lt_of_lt_of_le (Heap.lt_size e) z) (Nat.lt_irrefl _)
 have cellK:∀ x c,X.env.cells.lookup x = some c → ∀ v,s.heap.IsCell c v → h'.IsCell c v := fun x c e v ⟨o,ho,hd⟩ => by
  have nch:c ∉ ch := fun z => (hch c z).2.2.1 x c e rfl
  by_cases hc:c ∈ X.fs
  ·obtain ⟨sl,q⟩ := slot c o (I.cne x c e) hc nch ho (I.freeC x c e)
   exact ⟨_,q,hd⟩
  ·exact ⟨o,keep c o (I.cne x c e) hc nch ho (I.freeC x c e),hd⟩
 refine ⟨I.ok,I.os,hg,⟨fun b o e n hb hx => ?_,fun b o e n hb hx => ?_,fun b o e n hx => ?_,fun b o e hx => ?_,fun b xs e => tups b xs (I.base.tups b xs e),fun b o xs e => frzs b o xs (I.base.frzs b o xs e),fun b ps e => ?_⟩,?_,fun x c e => ?_,?_,fun x c e => ?_,fun p hp => ?_,hok,I.len⟩
 ·exact keep b o (neL b o e) hb (neC b o e hx) (I.base.keep b o e n hb hx) (I.base.free b o e n hx)
 ·obtain ⟨sl,e1⟩ := I.base.slot b o e n hb hx
  obtain ⟨sl',e2⟩ := slot b _ (neL b o e) hb (neC b o e hx) e1 (I.base.free b o e n hx)
  exact ⟨sl',e2⟩
 ·obtain ⟨o',e1⟩ := I.base.there b o e hx
  exact free b o' (neC b o e hx) e1 (I.base.free b o e n hx)
 ·obtain ⟨o',e1⟩ := I.base.there b o e hx
  exact there b o' (neC b o e hx) e1
 ·obtain ⟨m1,e1⟩ := I.base.tbls b ps e
  obtain ⟨m2,e2⟩ := tbls b _ e1
  exact ⟨m1 ++ m2,by rw [e2,Array.append_assoc]⟩
 ·obtain ⟨m,hn,hl⟩ := I.loc
  refine ⟨m,ns m hn,fun i x v e1 e2 e3 => ?_⟩
  obtain ⟨u,r,l⟩ := hl i x v e1 e2 e3
  refine ⟨u,r,?_⟩
  rcases l with l | ⟨k,c,e,z⟩
  ·exact .inl l
  ·exact .inr ⟨k,c,e,cellK x c e _ z⟩
 ·obtain ⟨v,z⟩ := I.cell x c e
  exact ⟨v,cellK x c e v z⟩
 ·obtain ⟨m,⟨o,_,_,ho,_⟩,_⟩ := I.loc
  exact free _ o (fun z => (hch _ z).2.1 rfl) ho I.free
 ·obtain ⟨v,o,ho,hd⟩ := I.cell x c e
  exact free c o (fun z => (hch c z).2.2.1 x c e rfl) ho (I.freeC x c e)
 ·obtain ⟨e,n,ne,nf,d⟩ := I.pin p hp
  have nch:p.1 ∉ ch := fun z => (hch p.1 z).2.2.2 p hp rfl
  exact ⟨keep p.1 p.2 ne nf nch e n,free p.1 p.2 nch e n,ne,nf,d⟩
theorem Inv.un {t':Nat} (I:Inv X pins σ H s) (u:Un X.fs [] H H' s.heap h') (hok:HOk X.prog X.w H' h'):Inv X pins σ H' { s with heap := h',toks := t' } := by
 obtain ⟨m,⟨o,es,ep,ho,r⟩,_⟩ := id I.loc
 obtain ⟨sl,hL⟩ := u.any ho I.free (by simp)
 exact I.step (g' := s.gens) (d' := s.drawn) (ch := []) (fun _ z => nomatch z) (fun b o _ hb _ e n => u.keep b o e n hb (by simp)) (fun b o _ hb _ e n => u.slot b o e n hb (by simp)) (fun b o _ e n => u.free b o e n (by simp)) (fun b o _ e => u.there b o e (by simp)) u.tups u.frzs u.tbls (fun m' hm => by
  obtain ⟨o',es',ep',ho',r'⟩ := hm
  rw [ho] at ho'; cases ho'
  exact ⟨_,es',ep',hL,r'⟩) hok I.bare
theorem Inv.call {g':Array GenState} {t':Nat} {d':Drawn} {ch:List Addr} (I:Inv X pins σ H s) (u:Un (frs X.stack) ch H H' s.heap h') (hok:HOk X.prog X.w H' h') (hg:AllBare g')
  (hch:∀ b ∈ ch,(b ∈ X.ex ∨ X.s₀.heap.objs.size ≤ b) ∧ b ≠ X.env.locals ∧ (∀ x c,X.env.cells.lookup x = some c → c ≠ b) ∧ ∀ p ∈ X.pn ++ pins,p.1 ≠ b) :
  Inv X pins σ H' { s with heap := h',gens := g',drawn := d',toks := t' } := by
 obtain ⟨m,⟨o,es,ep,ho,r⟩,_⟩ := id I.loc
 obtain ⟨sl,hL⟩ := u.any ho I.free fun z => (hch _ z).2.1 rfl
 exact I.step (ch := ch) hch (fun b o hL hb hc e n => u.keep b o e n (fun z => (List.mem_cons.mp (I.stkSub b z)).elim hL hb) hc) (fun b o _ _ hc e n => u.any e n hc) (fun b o hc e n => u.free b o e n hc) (fun b o hc e => u.there b o e hc) u.tups u.frzs u.tbls (fun m' hm => by
  obtain ⟨o',es',ep',ho',r'⟩ := hm
  rw [ho] at ho'; cases ho'
  exact ⟨_,es',ep',hL,r'⟩) hok hg
theorem Inv.turned {t':Nat} {it:Addr} (I:Inv X pins σ H s) (k:∀ b o,b ≠ it → s.heap.get? b = some o → h'.get? b = some o) (hn:H it = none) (hL:it ≠ X.env.locals)
  (h1:it ∈ X.ex ∨ X.s₀.heap.objs.size ≤ it) (h2:∀ x c,X.env.cells.lookup x = some c → c ≠ it) (h3:∀ p ∈ X.pn ++ pins,p.1 ≠ it):Inv X pins σ H { s with heap := h',toks := t' } := by
 have nit:∀ b u,H b = some u → b ≠ it := fun b u e z => by rw [z,hn] at e; cases e
 refine I.step (g' := s.gens) (d' := s.drawn) (ch := [it]) (fun b hb => ?_) (fun b o _ _ hc e _ => k b o (fun z => hc (by simp [z])) e) (fun b o _ _ hc e _ => ⟨o.slots,k b o (fun z => hc (by simp [z])) e⟩) (fun _ _ _ _ n => n)
  (fun b o hc e => ⟨o,k b o (fun z => hc (by simp [z])) e⟩) (fun _ _ e => e) (fun _ _ _ e => e) (fun b ps e => ⟨#[],by rw [e]; simp⟩) (fun m hm => ?_) (fun b u e => ?_) I.bare
 ·have e:b = it := by simpa using hb
  subst e
  exact ⟨h1,hL,h2,h3⟩
 ·obtain ⟨o,es,ep,ho,r⟩ := hm
  exact ⟨o,es,ep,k _ o (Ne.symm hL) ho,r⟩
 ·refine (I.hok b u e).stay (fun c v hc q => k c v ?_ q) (fun _ q => q) fun _ _ q => q
  rcases hc with z | z
  ·rw [z]; exact nit b u e
  ·exact nit c _ z
theorem Inv.tok (I:Inv X pins σ H s) (t:Nat):Inv X pins σ H { s with toks := t } := I.un (h' := s.heap) (t' := t) Un.refl I.hok
theorem Inv.kept {t':Nat} (I:Inv X pins σ H s) (k:∀ b u,s.heap.get? b = some u → h'.get? b = some u):Inv X pins σ H { s with heap := h',toks := t' } := I.un (Un.kept k) (I.hok.kept k)
theorem Inv.laid {a:Addr} {o:HO} {t':Nat} (I:Inv X pins σ H s) (k:∀ b u,s.heap.get? b = some u → h'.get? b = some u) (hp:s.heap.objs.size ≤ a) (new:ObjOk X.prog X.w (upd H a o) h' a o) :
  Inv X pins σ (upd H a o) { s with heap := h',toks := t' } := I.un (Un.laid k hp (I.hok.fresh hp)) (I.hok.laid k hp new)
theorem Inv.write {x e:Addr} {o:HO} {t':Nat} (I:Inv X pins σ H s) (mu:Mut (H x)) (he:e = x ∨ H e = some (.own x)) (k:∀ b u,b ≠ e → s.heap.get? b = some u → h'.get? b = some u) (heo:∃ u,h'.get? e = some u)
  (new:ObjOk X.prog X.w (upd H x o) h' x o):Inv X pins σ (upd H x o) { s with heap := h',toks := t' } := I.un (Un.write mu he k heo) (I.hok.write mu he k heo new)
theorem Inv.pins_of {pins':List (Addr × Obj)} (I:Inv X pins σ H s) (h:∀ p ∈ pins',s.heap.get? p.1 = some p.2 ∧ H p.1 = none ∧ p.1 ≠ X.env.locals ∧ p.1 ∉ X.fs ∧ ∀ v,p.2.data ≠ .cell v):Inv X pins' σ H s :=
 ⟨I.ok,I.os,I.bare,I.base,I.loc,I.cell,I.free,I.freeC,fun p hp => (List.mem_append.mp hp).elim (fun z => I.pin p (List.mem_append_left _ z)) (h p),I.hok,I.len⟩
theorem nodup_ix {N:List Str} (hN:N.Nodup) {i j:Nat} {x:Str} (a:N[i]? = some x) (b:N[j]? = some x):i = j := by
 obtain ⟨h1,e1⟩ := List.getElem?_eq_some_iff.mp a
 obtain ⟨h2,e2⟩ := List.getElem?_eq_some_iff.mp b
 exact (List.getElem_inj hN).mp (e1.trans e2.symm)
theorem store_ok2 {M:Model} {A:Around} {E:Value → Shared → Prop} {i:Nat} {x:Str} {v:V} {u:Value} {Q:Unit → Shared → Prop} (I:Inv X pins σ H s) (hN:X.N.Nodup) (hi:X.N[i]? = some x) (hx:Loc X.env.scope x) (r:RelV v u)
  (h:∀ s',Inv X pins (σ.set i (some v)) H s' → (∃ a,Heap.SameBut a s.heap s'.heap ∧ (a = X.env.locals ∨ X.env.cells.lookup x = some a)) → Q () s') (hf:X.fn x = true ∨ X.env.scope.names.lookup x = some .local := by first | exact .inl rfl | exact .inr rfl | assumption):wpAny M A (storeName X.env x u) Q E s := by
 obtain ⟨m,hn,hl⟩ := id I.loc
 have hcls:(X.env.scope.kind == .class || (X.env.scope.kind == .module && X.env.locals != X.env.globals)) = false := by rw [I.ok.kind]; rfl
 have hiσ:i < σ.length := by rw [I.len]; exact (List.getElem?_eq_some_iff.mp hi).1
 have cne := I.cne
 have tracked:∀ {a:Addr} {h':Heap},(∃ o,s.heap.get? a = some o ∧ H a = none) → Heap.SameBut a s.heap h' → HOk X.prog X.w H h' := fun {a h'} ha hs b ob e => by
  obtain ⟨_,_,hfree⟩ := ha
  refine (I.hok b ob e).stay (fun c w' hc q => (hs.2 c ?_).trans q) (fun _ q => q) fun _ _ q => q
  rintro rfl
  rcases hc with rfl | hc
  ·rw [hfree] at e; cases e
  ·rw [hfree] at hc; cases hc
 rcases hx with hk | hk
 ·refine wpAny_storeName_local hk hn (fun h' hn' hs => ?_) hcls
  obtain ⟨oL,_,_,hoL,_⟩ := id hn
  refine h _ ⟨I.ok,I.os,I.bare,⟨fun b o e n hb hx => ?_,fun b o e n hb hx => ?_,I.base.free,fun b o e hx => ?_,I.base.tups,I.base.frzs,I.base.tbls⟩,⟨_,hn',fun j y v' e1 e2 e3 => ?_⟩,fun y c e => ?_,I.free,I.freeC,fun p hp => ?_,tracked ⟨oL,hoL,I.free⟩ hs,by simpa using I.len⟩ ⟨_,hs,.inl rfl⟩
  ·exact (hs.2 b (Nat.ne_of_lt (Nat.lt_of_lt_of_le (Heap.lt_size e) I.ok.above))).trans (I.base.keep b o e n hb hx)
  ·obtain ⟨sl,e1⟩ := I.base.slot b o e n hb hx
   exact ⟨sl,(hs.2 b (Nat.ne_of_lt (Nat.lt_of_lt_of_le (Heap.lt_size e) I.ok.above))).trans e1⟩
  ·obtain ⟨o',e1⟩ := I.base.there b o e hx
   exact ⟨o',(hs.2 b (Nat.ne_of_lt (Nat.lt_of_lt_of_le (Heap.lt_size e) I.ok.above))).trans e1⟩
  ·by_cases hj:j = i
   ·subst hj
    rw [hi] at e1; cases e1
    rw [List.getElem?_set_self hiσ] at e2
    cases e2
    exact ⟨u,r,.inl ⟨hk,by simp⟩⟩
   ·rw [List.getElem?_set_ne (Ne.symm hj)] at e2
    obtain ⟨u',r',q⟩ := hl j y v' e1 e2 e3
    refine ⟨u',r',?_⟩
    rcases q with ⟨k,e⟩ | ⟨k,c,e,z⟩
    ·refine .inl ⟨k,?_⟩
     have:y ≠ x := fun e => hj (nodup_ix hN e1 (e ▸ hi))
     simp [this,e]
    ·exact .inr ⟨k,c,e,z.sameBut hs (cne y c e)⟩
  ·obtain ⟨w',z⟩ := I.cell y c e
   exact ⟨w',z.sameBut hs (cne y c e)⟩
  ·obtain ⟨e,n,ne,nf,d⟩ := I.pin p hp
   exact ⟨(hs.2 p.1 ne).trans e,n,ne,nf,d⟩
 ·have hfn:X.fn x = true := by
   rcases hf with z | z
   ·exact z
   ·rw [z] at hk; cases hk
  obtain ⟨c,hc⟩ := I.ok.has x (.inl hk)
  obtain ⟨w',z⟩ := I.cell x c hc
  refine wpAny_storeName_cell I.ok.kind hk hc z (fun h' hc' hs => ?_)
  obtain ⟨oc,hoc,hocd⟩ := id z
  refine h { s with heap := h' } ⟨I.ok,I.os,I.bare,⟨fun b o e n hb hx => ?_,fun b o e n hb hx => ?_,I.base.free,fun b o e hx => ?_,I.base.tups,I.base.frzs,I.base.tbls⟩,⟨m,hn.sameBut hs (Ne.symm (cne x c hc)),fun j y v' e1 e2 e3 => ?_⟩,fun y c' e => ?_,I.free,I.freeC,fun p hp => ?_,tracked ⟨oc,hoc,I.freeC x c hc⟩ hs,by simpa using I.len⟩ ⟨c,hs,.inr hc⟩
  ·exact (hs.2 b (Nat.ne_of_lt (Nat.lt_of_lt_of_le (Heap.lt_size e) (I.ok.cab x c hfn hc)))).trans (I.base.keep b o e n hb hx)
  ·obtain ⟨sl,e1⟩ := I.base.slot b o e n hb hx
   exact ⟨sl,(hs.2 b (Nat.ne_of_lt (Nat.lt_of_lt_of_le (Heap.lt_size e) (I.ok.cab x c hfn hc)))).trans e1⟩
  ·obtain ⟨o',e1⟩ := I.base.there b o e hx
   exact ⟨o',(hs.2 b (Nat.ne_of_lt (Nat.lt_of_lt_of_le (Heap.lt_size e) (I.ok.cab x c hfn hc)))).trans e1⟩
  ·by_cases hj:j = i
   ·subst hj
    rw [hi] at e1; cases e1
    rw [List.getElem?_set_self hiσ] at e2
    cases e2
    exact ⟨u,r,.inr ⟨.inl hk,c,hc,hc'⟩⟩
   ·rw [List.getElem?_set_ne (Ne.symm hj)] at e2
    obtain ⟨u',r',q⟩ := hl j y v' e1 e2 e3
    refine ⟨u',r',?_⟩
    rcases q with q | ⟨k,c',e,z'⟩
    ·exact .inl q
    ·refine .inr ⟨k,c',e,z'.sameBut hs ?_⟩
     rintro rfl
     exact hj (nodup_ix hN e1 (I.ok.inj _ _ _ e hc ▸ hi))
  ·by_cases hcc:c' = c
   ·subst hcc; exact ⟨_,hc'⟩
   ·obtain ⟨w2,z2⟩ := I.cell y c' e
    exact ⟨w2,z2.sameBut hs hcc⟩
  ·obtain ⟨e,n,ne,nf,d⟩ := I.pin p hp
   refine ⟨(hs.2 p.1 ?_).trans e,n,ne,nf,d⟩
   intro q
   rw [q,hoc] at e
   have q':oc = p.2 := Option.some.inj e
   exact d w' (by rw [← q']; exact hocd)
theorem store_ok {M:Model} {A:Around} {E:Value → Shared → Prop} {i:Nat} {x:Str} {v:V} {u:Value} {Q:Unit → Shared → Prop} (I:Inv X pins σ H s) (hN:X.N.Nodup) (hi:X.N[i]? = some x) (hx:Loc X.env.scope x) (r:RelV v u)
  (h:∀ s',Inv X pins (σ.set i (some v)) H s' → Q () s') (hf:X.fn x = true ∨ X.env.scope.names.lookup x = some .local := by first | exact .inl rfl | exact .inr rfl | assumption):wpAny M A (storeName X.env x u) Q E s :=
 store_ok2 I hN hi hx r (fun s' I' _ => h s' I') hf
theorem Inv.call' {s':Shared} {ch:List Addr} (I:Inv X pins σ H s) (ho:s'.os = s.os) (u:Un (frs X.stack) ch H H' s.heap s'.heap) (hok:HOk X.prog X.w H' s'.heap) (hg:AllBare s'.gens)
  (hch:∀ b ∈ ch,(b ∈ X.ex ∨ X.s₀.heap.objs.size ≤ b) ∧ b ≠ X.env.locals ∧ (∀ x c,X.env.cells.lookup x = some c → c ≠ b) ∧ ∀ p ∈ X.pn ++ pins,p.1 ≠ b):Inv X pins σ H' s' := by
 obtain ⟨h',g',d',t',o'⟩ := s'
 have e:o' = s.os := ho
 subst e
 exact I.call (g' := g') (t' := t') (d' := d') u hok hg hch
end
noncomputable abbrev XK := Value → Option Addr → Hp → Prop
noncomputable abbrev St := List (Option V)
noncomputable abbrev VK := V → Hp → Prop
noncomputable abbrev TE := St → Hp → VK → Prop
noncomputable abbrev TT := St → Hp → (Bool → Hp → Prop) → Prop
noncomputable abbrev TA := St → Hp → (List V → Hp → Prop) → Prop
structure Ends where
 nx:St → Hp → Prop
 rt:VK
 bk:St → Hp → Prop := fun _ _ => False
 ct:St → Hp → Prop := fun _ _ => False
noncomputable abbrev TS := Ends → St → Hp → Prop
noncomputable def EP (X:Cx) (pins:List (Addr × Obj)) (σ:St) (Q:VK) (u:Value) (s':Shared):Prop := ∃ v H',Inv X pins σ H' s' ∧ RelV v u ∧ Q v H'
noncomputable def TP (X:Cx) (pins:List (Addr × Obj)) (σ:St) (Q:Bool → Hp → Prop) (b:Bool) (s':Shared):Prop := ∃ H',Inv X pins σ H' s' ∧ Q b H'
noncomputable def AP (X:Cx) (pins:List (Addr × Obj)) (σ:St) (Q:List V → Hp → Prop) (us:List Value) (s':Shared):Prop := ∃ vs H',Inv X pins σ H' s' ∧ Vals vs us ∧ Q vs H'
noncomputable def SP (X:Cx) (pins:List (Addr × Obj)) (D:Ends) (f:Flow) (s':Shared):Prop :=
 match f with
 | .next => ∃ σ' H',Inv X pins σ' H' s' ∧ D.nx σ' H'
 | .brk => ∃ σ' H',Inv X pins σ' H' s' ∧ D.bk σ' H'
 | .cont => ∃ σ' H',Inv X pins σ' H' s' ∧ D.ct σ' H'
 | .ret u => ∃ v σ' H',Inv X pins σ' H' s' ∧ RelV v u ∧ D.rt v H'
noncomputable def PE (X:Cx) (e:Expr) (t:TE):Prop :=
 ∀ (pins:List (Addr × Obj)) (s:Shared) (σ:St) (H:Hp) (Q:VK),Inv X pins σ H s → t σ H Q → wpAny (model X.prog X.w) X.A (eval e X.env) (EP X pins σ Q) X.xe s
noncomputable def PT (X:Cx) (e:Expr) (t:TT):Prop :=
 ∀ (pins:List (Addr × Obj)) (s:Shared) (σ:St) (H:Hp) (Q:Bool → Hp → Prop),Inv X pins σ H s → t σ H Q → wpAny (model X.prog X.w) X.A (isTrue e X.env (eval e X.env)) (TP X pins σ Q) X.xe s
noncomputable def PW (X:Cx) (e:Expr) (t:TT):Prop :=
 ∀ (whole:Sem Value) (pins:List (Addr × Obj)) (s:Shared) (σ:St) (H:Hp) (Q:Bool → Hp → Prop),Inv X pins σ H s → t σ H Q → wpAny (model X.prog X.w) X.A (isTrue e X.env whole) (TP X pins σ Q) X.xe s
theorem PW.pt {X:Cx} {e:Expr} {t:TT} (h:PW X e t):PT X e t := h _
noncomputable def PA (X:Cx) (es:List Expr) (t:TA):Prop :=
 ∀ (pos:Pos) (pins:List (Addr × Obj)) (s:Shared) (σ:St) (H:Hp) (Q:List V → Hp → Prop),Inv X pins σ H s → t σ H Q → wpAny (model X.prog X.w) X.A (spliced (backTo pos (starEach es X.env))) (AP X pins σ Q) X.xe s
noncomputable def PS (X:Cx) (st:Stmt) (t:TS):Prop :=
 ∀ (pins:List (Addr × Obj)) (s:Shared) (σ:St) (H:Hp) (D:Ends),Inv X pins σ H s → t D σ H → wpAny (model X.prog X.w) X.A (exec st X.env) (SP X pins D) X.xe s
noncomputable def PSs (X:Cx) (st:List Stmt) (t:TS):Prop :=
 ∀ (pins:List (Addr × Obj)) (s:Shared) (σ:St) (H:Hp) (D:Ends),Inv X pins σ H s → t D σ H → wpAny (model X.prog X.w) X.A (execs st X.env) (SP X pins D) X.xe s
theorem thn {α:Type} {t:Sem α} {Q Q':α → Shared → Prop} {M:Model} {A:Around} {E:Value → Shared → Prop} {s:Shared} (h:wpAny M A t Q E s) (hQ:∀ a s,Q a s → Q' a s):wpAny M A t Q' E s := wpAny_mono h hQ fun _ _ x => x
end L2
namespace L2
open PySem PySem.Spec PyProof.Rows
section
variable {X:Cx}
theorem bin {a b:Expr} {ta tb:TE} (ha:PE X a ta) (hb:PE X b tb) {pins:List (Addr × Obj)} {s:Shared} {σ:St} {H:Hp} {R:V → V → Hp → Prop} (I:Inv X pins σ H s) (h:ta σ H fun x H1 => tb σ H1 fun y H2 => R x y H2)
  {α:Type} {Q:α → Shared → Prop} {f:Value → Value → Sem α}
  (hf:∀ v u s2 x y H2,Inv X pins σ H2 s2 → RelV x v → RelV y u → R x y H2 → wpAny (model X.prog X.w) X.A (f v u) Q X.xe s2) :
  wpAny (model X.prog X.w) X.A (eval a X.env) (fun v s₁ => wpAny (model X.prog X.w) X.A (eval b X.env) (fun u s₂ => wpAny (model X.prog X.w) X.A (f v u) Q X.xe s₂) X.xe s₁) X.xe s := by
 refine thn (ha pins s σ H _ I h) fun v s1 ⟨x,H1,I1,r1,q1⟩ => ?_
 refine thn (hb pins s1 σ H1 _ I1 q1) fun u s2 ⟨y,H2,I2,r2,q2⟩ => ?_
 exact hf v u s2 x y H2 I2 r1 r2 q2
noncomputable def tVar (i:Nat):TE := fun σ H Q => ∃ v,σ[i]? = some (some v) ∧ Q v H
noncomputable def tC (v:V):TE := fun _ H Q => Q v H
theorem pe_var {i:Nat} {x:Str} {pos:Pos} (hN:X.N[i]? = some x) (hv:Vis X.env.scope x) (hd:(x == ("__debug__":Str)) = false := by decide) (hcd:(x == ("__classdict__":Str)) = false := by decide):PE X (.Name x pos) (tVar i) := by
 intro pins s σ H Q I h
 obtain ⟨v,e,h⟩ := h
 obtain ⟨m,hn,hl⟩ := I.loc
 obtain ⟨u,r,l⟩ := hl i x v hN e hv
 have fin:EP X pins σ Q u s := ⟨v,H,I,r,h⟩
 rcases l with ⟨hk,hm⟩ | ⟨hk,c,hc,hcell⟩
 ·exact wpAny_Name (wpAny_loadName_local I.ok.kind hk hn hm fin) hd
 ·rcases hk with hk | hk
  ·exact wpAny_Name (wpAny_loadName_cell I.ok.kind hk hc hcell fin) hd
  ·exact wpAny_Name (wpAny_loadName_free I.ok.kind hk hc hcell fin hcd) hd
theorem pe_int {i j pos}:PE X (.Constant (.int i) j pos) (tC (.int i)) := fun _ _ _ H _ I h => wpAny_Constant_int ⟨.int i,H,I.tok _,⟨_,rfl⟩,h⟩
theorem pe_bl {b j pos}:PE X (.Constant (.bool b) j pos) (tC (.bl b)) := fun _ _ _ H _ I h => Constant_bool ⟨.bl b,H,I,rfl,h⟩
theorem pe_non {j pos}:PE X (.Constant .none j pos) (tC .non) := fun _ _ _ H _ I h => Constant_none ⟨.non,H,I,rfl,h⟩
noncomputable def Gl (X:Cx) (x:Str):Prop := X.env.kindOf x = some .globalImplicit
theorem ld_glob {E:Value → Shared → Prop} {pins:List (Addr × Obj)} {s:Shared} {σ:St} {H:Hp} {x:Str} {u:Value} {pos:Pos} {Q:Value → Shared → Prop} (I:Inv X pins σ H s) (hg:Gl X x) (hm:X.mg x = some u) (h:Q u s)
  (hd:(x == ("__debug__":Str)) = false := by decide):wpAny (model X.prog X.w) X.A (eval (.Name x pos) X.env) Q E s :=
 Calls.Name_function_global I.ok.kind hg (Calls.loadGlobal_global (by rw [I.ok.glob]; exact I.mod.glob.keeps I.bk) hm h) hd
theorem ld_blt {E:Value → Shared → Prop} {pins:List (Addr × Obj)} {s:Shared} {σ:St} {H:Hp} {x:Str} {u:Value} {pos:Pos} {Q:Value → Shared → Prop} (I:Inv X pins σ H s) (hg:Gl X x) (hm:X.mg x = none) (hv:bootBuiltins x = some u) (h:Q u s)
  (hn:x ≠ "__name__" := by decide) (hd:(x == ("__debug__":Str)) = false := by decide):wpAny (model X.prog X.w) X.A (eval (.Name x pos) X.env) Q E s := by
 obtain ⟨mb,h1,h2⟩ := I.mod.blt
 exact Calls.Name_function_global I.ok.kind hg (Calls.loadGlobal_builtin (by rw [I.ok.glob]; exact I.mod.glob.keeps I.bk) hm (by rw [I.ok.blt]; exact h1.keeps I.bk) ((h2 x hn).trans hv) h) hd
theorem pe_bltn {x:Str} {v:V} {u:Value} {pos:Pos} (hg:Gl X x) (hm:X.mg x = none) (hv:bootBuiltins x = some u) (r:RelV v u) (hn:x ≠ "__name__" := by decide) (hd:(x == ("__debug__":Str)) = false := by decide):PE X (.Name x pos) (tC v) :=
 fun _ _ _ H _ I h => ld_blt I hg hm hv ⟨v,H,I,r,h⟩ hn hd
variable {a b:Expr} {ta tb:TE} {pos:Pos}
noncomputable def PC (X:Cx) (op:CmpOp) (a b:Expr) (t:TE):Prop :=
 ∀ (pins:List (Addr × Obj)) (s:Shared) (σ:St) (H:Hp) (Q:VK),Inv X pins σ H s → t σ H Q →
  wpAny (model X.prog X.w) X.A (eval a X.env) (fun v s₁ => wpAny (model X.prog X.w) X.A (eval b X.env) (fun u s₂ => wpAny (model X.prog X.w) X.A (compareOp op v u) (EP X pins σ Q) X.xe s₂) X.xe s₁) X.xe s
theorem nobehind (b:Expr) {op:CmpOp} (h:op ≠ .In) (h2:op ≠ .NotIn):behindInMarks op b = false := by
 have e1:(op == CmpOp.In) = false := by cases op <;> first | rfl | exact absurd rfl h
 have e2:(op == CmpOp.NotIn) = false := by cases op <;> first | rfl | exact absurd rfl h2
 cases b <;> simp [behindInMarks,e1,e2]
noncomputable def tIsN (ta:TE):TE := fun σ H Q => ta σ H fun x H1 => Q (.bl (decide (x = .non))) H1
noncomputable def tNotN (ta:TE):TE := fun σ H Q => ta σ H fun x H1 => Q (.bl (!decide (x = .non))) H1
noncomputable def tB (t:TE):TT := fun σ H Q => t σ H fun x H1 => ∃ c,x = .bl c ∧ Q c H1
theorem pt_cmp {op:CmpOp} {t:TE} (h:PC X op a b t) (h1:behindInMarks op b = false := by first | exact nobehind _ (by decide) (by decide) | rfl):PT X (.Compare a [op] [b] pos) (tB t) := by
 intro pins s σ H Q I hw
 refine wpAny_isTrue_Compare1 (thn (h pins s σ H _ I hw) fun v s1 h1 => thn h1 fun u s2 h2 => thn h2 fun c s3 ⟨x,H1,I1,r1,q1⟩ => ?_) h1
 obtain ⟨d,rfl,q⟩ := q1
 cases r1
 exact wpAny_truthy_bool ⟨H1,I1,q⟩
theorem pt_val {e:Expr} {t:TE} (h:PE X e t) (he:∀ whole,isTrue e X.env whole = (do let v ← whole; standAt e.pos; holding [v] (truthy v)) := by intro _; rfl):PT X e (tB t) := by
 intro pins s σ H Q I hw
 refine isTrue_plain (thn (h pins s σ H _ I hw) fun v s1 ⟨x,H1,I1,r1,q1⟩ => ?_) (he _)
 obtain ⟨d,rfl,q⟩ := q1
 cases r1
 exact wpAny_truthy_bool ⟨H1,I1,q⟩
variable {tA tB':TT} {rest:List Expr}
noncomputable def tAnd (t u:TT):TT := fun σ H Q => t σ H fun c H1 => if c = true then u σ H1 Q else Q false H1
noncomputable def tOr (t u:TT):TT := fun σ H Q => t σ H fun c H1 => if c = true then Q true H1 else u σ H1 Q
noncomputable def tNot (t:TT):TT := fun σ H Q => t σ H fun c H1 => Q (!c) H1
theorem pw_and1 (ha:PT X a tA):PW X (.BoolOp .And [a] pos) tA := by
 intro wh pins s σ H Q I h
 refine isTrue_and (thn (ha pins s σ H Q I h) fun c s1 e => ?_)
 cases c with
 | true => exact isTrue_and_nil e
 | false => exact e
theorem pw_or1 (ha:PT X a tA):PW X (.BoolOp .Or [a] pos) tA := by
 intro wh pins s σ H Q I h
 refine isTrue_or (thn (ha pins s σ H Q I h) fun c s1 e => ?_)
 cases c with
 | false => exact isTrue_or_nil e
 | true => exact e
theorem pw_and (ha:PT X a tA) (hb:PW X (.BoolOp .And (b :: rest) pos) tB'):PW X (.BoolOp .And (a :: b :: rest) pos) (tAnd tA tB') := by
 intro wh pins s σ H Q I h
 refine isTrue_and (thn (ha pins s σ H _ I h) fun c s1 ⟨H1,I1,q1⟩ => ?_)
 cases c with
 | true => exact hb wh pins s1 σ H1 Q I1 q1
 | false => exact ⟨H1,I1,q1⟩
theorem pw_or (ha:PT X a tA) (hb:PW X (.BoolOp .Or (b :: rest) pos) tB'):PW X (.BoolOp .Or (a :: b :: rest) pos) (tOr tA tB') := by
 intro wh pins s σ H Q I h
 refine isTrue_or (thn (ha pins s σ H _ I h) fun c s1 ⟨H1,I1,q1⟩ => ?_)
 cases c with
 | true => exact ⟨H1,I1,q1⟩
 | false => exact hb wh pins s1 σ H1 Q I1 q1
theorem pt_not (ha:PT X a tA):PT X (.UnaryOp .Not a pos) (tNot tA) := by
 intro pins s σ H Q I h
 exact isTrue_not (ha pins s σ H (fun c H1 => Q (!c) H1) I h)
noncomputable def tAndV (ta tb:TE):TE := fun σ H Q => ta σ H fun x H1 => ∃ c,x = .bl c ∧ if c = true then tb σ H1 Q else Q (.bl false) H1
noncomputable def tOrV (ta tb:TE):TE := fun σ H Q => ta σ H fun x H1 => ∃ c,x = .bl c ∧ if c = true then Q (.bl true) H1 else tb σ H1 Q
noncomputable def tNotV (ta:TE):TE := fun σ H Q => ta σ H fun x H1 => ∃ c,x = .bl c ∧ Q (.bl (!c)) H1
theorem pe_one {op} {t:TE} (h:PE X a t):PE X (.BoolOp op [a] pos) t := fun pins s σ H Q I hw => BoolOp_one (h pins s σ H Q I hw)
theorem pe_and (ha:PE X a ta) (hb:PE X (.BoolOp .And (b :: rest) pos) tb):PE X (.BoolOp .And (a :: b :: rest) pos) (tAndV ta tb) := by
 intro pins s σ H Q I h
 refine BoolOp_and (thn (ha pins s σ H _ I h) fun v s1 ⟨x,H1,I1,r1,q1⟩ => ?_)
 obtain ⟨c,rfl,q1⟩ := q1
 cases r1
 refine wpAny_truthy_bool ?_
 cases c with
 | true => exact hb pins s1 σ H1 Q I1 q1
 | false => exact ⟨.bl false,H1,I1,rfl,q1⟩
theorem pe_or (ha:PE X a ta) (hb:PE X (.BoolOp .Or (b :: rest) pos) tb):PE X (.BoolOp .Or (a :: b :: rest) pos) (tOrV ta tb) := by
 intro pins s σ H Q I h
 refine BoolOp_or (thn (ha pins s σ H _ I h) fun v s1 ⟨x,H1,I1,r1,q1⟩ => ?_)
 obtain ⟨c,rfl,q1⟩ := q1
 cases r1
 refine wpAny_truthy_bool ?_
 cases c with
 | false => exact hb pins s1 σ H1 Q I1 q1
 | true => exact ⟨.bl true,H1,I1,rfl,q1⟩
theorem pe_not (ha:PE X a ta):PE X (.UnaryOp .Not a pos) (tNotV ta) := by
 intro pins s σ H Q I h
 refine UnaryOp_ (thn (ha pins s σ H _ I h) fun v s1 ⟨x,H1,I1,r1,q1⟩ => ?_)
 obtain ⟨c,rfl,q1⟩ := q1
 cases r1
 exact not_of (wpAny_truthy_bool ⟨.bl (!c),H1,I1,rfl,q1⟩)
noncomputable def tIf (t:TT) (ta tb:TE):TE := fun σ H Q => t σ H fun c H1 => if c = true then ta σ H1 Q else tb σ H1 Q
end
end L2
namespace L2
open PySem PySem.Spec PyProof.Rows
noncomputable def SqL (K:PySem.W.Frag) (H:Hp) (a:Addr) (xs:List V):Prop :=
 Rd H a (.lst xs) ∨
  ∃ (o:Obj) (its:Array Value) (n:Nat),K.lookup a = some o ∧ o.cls = .type "list" ∧ o.dict = none ∧ o.data = .seq its n ∧ its.size ≤ sizeLine ∧ Vals xs its.toList
noncomputable def SqT (K:PySem.W.Frag) (H:Hp) (a:Addr) (xs:List V):Prop :=
 Rd H a (.tup xs) ∨
  ∃ (o:Obj) (its:Array Value) (n:Nat),K.lookup a = some o ∧ o.cls = .type "tuple" ∧ o.data = .seq its n ∧ its.size ≤ sizeLine ∧ Vals xs its.toList
noncomputable def absV:Value → Option V
 | .none => some .non
 | .bool b => some (.bl b)
 | .int i _ => some (.int i)
 | .str x _ => some (.str x)
 | .bytes b _ => some (.byt b)
 | .float b _ => some (.flt b)
 | .ref a => some (.ref a)
 | .type n => some (.ty n)
 | _ => none
theorem RelV.abs {x:V} {u:Value} (r:RelV x u):absV u = some x := by
 cases x with
 | non => cases r; rfl
 | bl _ => cases r; rfl
 | int _ => obtain ⟨t,rfl⟩ := r; rfl
 | str _ => obtain ⟨t,rfl⟩ := r; rfl
 | byt _ => obtain ⟨t,rfl⟩ := r; rfl
 | flt _ => obtain ⟨t,rfl⟩ := r; rfl
 | ref _ => cases r; rfl
 | ty _ => cases r; rfl
theorem RelV.inj {x y:V} {u:Value} (r:RelV x u) (q:RelV y u):x = y := Option.some.inj (r.abs.symm.trans q.abs)
theorem Vals.inj:∀ {xs ys:List V} {us:List Value},Vals xs us → Vals ys us → xs = ys
 | _,_,_,.nil,.nil => rfl
 | _,_,_,.cons r t,.cons r' t' => by rw [r.inj r',Vals.inj t t']
section
variable {X:Cx} {pins:List (Addr × Obj)} {σ:St} {H:Hp} {s:Shared} {a:Addr} {xs ys:List V}
theorem SqL.of {K:PySem.W.Frag} (h:H a = some (.lst xs)):SqL K H a xs := .inl (.inl h)
theorem SqT.of {K:PySem.W.Frag} (h:H a = some (.tup xs)):SqT K H a xs := .inl (.inl h)
theorem Inv.list (I:Inv X pins σ H s) (h:SqL X.K H a xs):∃ its:List Value,Vals xs its ∧ PlainL s.heap a its.toArray ∧ xs.length ≤ sizeLine := by
 rcases h with h | ⟨o,its,n,hk,hc,hd,hs,hz,r⟩
 ·obtain ⟨z,its,n,r,e⟩ := h.ok I.hok
  exact ⟨its,r,⟨_,n,e,rfl,rfl,rfl⟩,z⟩
 ·refine ⟨its.toList,r,⟨o,n,I.kIn a o hk,hc,hd,by simpa using hs⟩,?_⟩
  have e := r.length
  simp only [Array.length_toList] at e
  omega
theorem Inv.tuple (I:Inv X pins σ H s) (h:SqT X.K H a xs):∃ its:List Value,Vals xs its ∧ IsTup s.heap a its.toArray ∧ xs.length ≤ sizeLine := by
 rcases h with h | ⟨o,its,n,hk,hc,hs,hz,r⟩
 ·obtain ⟨z,its,r,p⟩ := h.ok I.hok
  exact ⟨its,r,p,z⟩
 ·refine ⟨its.toList,r,⟨o,I.kIn a o hk,hc,n,by simpa using hs⟩,?_⟩
  have e := r.length
  simp only [Array.length_toList] at e
  omega
theorem Inv.list_inj (I:Inv X pins σ H s) (h:SqL X.K H a xs) (h':SqL X.K H a ys):xs = ys := by
 obtain ⟨its,r,⟨o,n,e,_,_,d⟩,_⟩ := I.list h
 obtain ⟨its',r',⟨o',n',e',_,_,d'⟩,_⟩ := I.list h'
 rw [e] at e'; cases e'
 rw [d] at d'
 injection d' with d1 _
 have:its = its' := by simpa using congrArg Array.toList d1
 subst this
 exact r.inj r'
theorem Inv.tuple_inj (I:Inv X pins σ H s) (h:SqT X.K H a xs) (h':SqT X.K H a ys):xs = ys := by
 obtain ⟨its,r,⟨o,e,_,n,d⟩,_⟩ := I.tuple h
 obtain ⟨its',r',⟨o',e',_,n',d'⟩,_⟩ := I.tuple h'
 rw [e] at e'; cases e'
 rw [d] at d'
 injection d' with d1 _
 have:its = its' := by simpa using congrArg Array.toList d1
 subst this
 exact r.inj r'
end
noncomputable abbrev Cx.wish (X:Cx) (E:Value → Shared → Prop):Cx := { X with xe := E }
noncomputable abbrev Cx.nox (X:Cx):Cx := X.wish fun _ _ => False
theorem Cx.Ok.wish {X:Cx} (ok:X.Ok) (E:Value → Shared → Prop):(X.wish E).Ok :=
 ⟨ok.mod,ok.kind,ok.glob,ok.blt,ok.above,ok.inj,ok.has,ok.cab,ok.hd,ok.frames,ok.stk,ok.exf,ok.bs,ok.bsz,ok.noex,ok.exfs,ok.funs,ok.frf⟩
theorem Cx.Ok.unwish {X:Cx} {E:Value → Shared → Prop} (ok:(X.wish E).Ok):X.Ok :=
 ⟨ok.mod,ok.kind,ok.glob,ok.blt,ok.above,ok.inj,ok.has,ok.cab,ok.hd,ok.frames,ok.stk,ok.exf,ok.bs,ok.bsz,ok.noex,ok.exfs,ok.funs,ok.frf⟩
section
variable {X:Cx} {pins:List (Addr × Obj)} {σ:St} {H:Hp} {s:Shared} {E:Value → Shared → Prop}
theorem Inv.wish (I:Inv X pins σ H s) (E:Value → Shared → Prop):Inv (X.wish E) pins σ H s := ⟨I.ok.wish E,I.os,I.bare,I.base,I.loc,I.cell,I.free,I.freeC,I.pin,I.hok,I.len⟩
theorem Inv.unwish (I:Inv (X.wish E) pins σ H s):Inv X pins σ H s := ⟨I.ok.unwish,I.os,I.bare,I.base,I.loc,I.cell,I.free,I.freeC,I.pin,I.hok,I.len⟩
theorem SP.unwish {D:Ends} {f:Flow} {s':Shared} (h:SP (X.wish E) pins D f s'):SP X pins D f s' := by
 cases f with
 | next => obtain ⟨σ',H',I,q⟩ := h; exact ⟨σ',H',I.unwish,q⟩
 | brk => obtain ⟨σ',H',I,q⟩ := h; exact ⟨σ',H',I.unwish,q⟩
 | cont => obtain ⟨σ',H',I,q⟩ := h; exact ⟨σ',H',I.unwish,q⟩
 | ret u => obtain ⟨v,σ',H',I,r,q⟩ := h; exact ⟨v,σ',H',I.unwish,r,q⟩
theorem PSs.nox {st:List Stmt} {t:TS} (h:PSs X.nox st t):PSs X st t := fun pins s σ H D I hw =>
 wpAny_mono (h pins s σ H D (I.wish _) hw) (fun _ _ q => q.unwish) fun _ _ z => False.elim z
end
section
variable {X:Cx} {st:Stmt} {rest:List Stmt} {t u:TS} {e:Expr} {te:TE} {pos:Pos}
noncomputable def tNext:TS := fun D σ H => D.nx σ H
noncomputable def tSeq (t u:TS):TS := fun D σ H => t { D with nx := u D } σ H
theorem pss_nil:PSs X [] tNext := fun _ _ σ H _ I h => wpAny_execs_nil ⟨σ,H,I,h⟩
theorem pss_cons (h1:PS X st t) (h2:PSs X rest u):PSs X (st :: rest) (tSeq t u) := by
 intro pins s σ H D I h
 refine wpAny_execs_cons (thn (h1 pins s σ H { D with nx := u D } I h) fun f s1 q => ?_)
 cases f with
 | next =>
  obtain ⟨σ',H',I',q⟩ := q
  exact h2 pins s1 σ' H' D I' q
 | ret v => exact q
 | brk => exact q
 | cont => exact q
theorem pss_one (h1:PS X st t):PSs X [st] t := by
 intro pins s σ H D I h
 refine wpAny_execs_cons (thn (h1 pins s σ H D I h) fun f s1 q => ?_)
 cases f with
 | next => exact wpAny_execs_nil q
 | ret v => exact q
 | brk => exact q
 | cont => exact q
theorem Inv.quiet {pins:List (Addr × Obj)} {σ:St} {H:Hp} {s:Shared} (I:Inv X pins σ H s):interactive X.env = false := by simp [interactive,I.ok.kind]
noncomputable def tDrop (te:TE):TS := fun D σ H => te σ H fun _ H1 => D.nx σ H1
theorem ps_expr (he:PE X e te) (hs:swapsWith e none pos.line X.env = pure false := by rfl):PS X (.Expr e pos) (tDrop te) := by
 intro pins s σ H D I h
 exact wpAny_Expr_any (thn (he pins s σ H _ I h) fun v s1 ⟨x,H1,I1,r1,q1⟩ => ⟨σ,H1,I1,q1⟩) I.quiet hs
noncomputable def tRet (te:TE):TS := fun D σ H => te σ H D.rt
theorem ps_ret (he:PE X e te):PS X (.Return (some e) pos) (tRet te) := by
 intro pins s σ H D I h
 exact wpAny_Return_some (thn (he pins s σ H _ I h) fun v s1 ⟨x,H1,I1,r1,q1⟩ => ⟨x,σ,H1,I1,r1,q1⟩)
noncomputable def tRetN:TS := fun D _ H => D.rt .non H
theorem ps_retN:PS X (.Return none pos) tRetN := fun _ _ σ H _ I h => wpAny_Return_none ⟨.non,σ,H,I,rfl,h⟩
noncomputable def tIfS (c:TT) (t u:TS):TS := fun D σ H => c σ H fun b H1 => if b = true then t D σ H1 else u D σ H1
theorem ps_if {c:Expr} {a b:List Stmt} {tc:TT} (hc:PT X c tc) (ha:PSs X a t) (hb:PSs X b u):PS X (.If c a b pos) (tIfS tc t u) := by
 intro pins s σ H D I h
 refine wpAny_If (thn (hc pins s σ H _ I h) fun d s1 ⟨H1,I1,q1⟩ => ?_)
 cases d with
 | true => exact ha pins s1 σ H1 D I1 q1
 | false => exact hb pins s1 σ H1 D I1 q1
end
noncomputable abbrev TG := V → St → Hp → (St → Hp → Prop) → Prop
noncomputable abbrev TGs := List V → St → Hp → (St → Hp → Prop) → Prop
noncomputable def PG (X:Cx) (target:Expr) (t:TG):Prop :=
 ∀ (pins:List (Addr × Obj)) (s:Shared) (σ:St) (H:Hp) (v:V) (u:Value) (Q:St → Hp → Prop),Inv X pins σ H s → RelV v u → t v σ H Q →
  wpAny (model X.prog X.w) X.A (assign target X.env u) (fun _ s' => ∃ σ' H',Inv X pins σ' H' s' ∧ Q σ' H') X.xe s
noncomputable def PGs (X:Cx) (ts:List Expr) (t:TGs):Prop :=
 ∀ (pins:List (Addr × Obj)) (s:Shared) (σ:St) (H:Hp) (vs:List V) (us:List Value) (Q:St → Hp → Prop),Inv X pins σ H s → Vals vs us → t vs σ H Q →
  wpAny (model X.prog X.w) X.A (assignInOrder ((assignEach ts X.env).map (·.2)) us) (fun _ s' => ∃ σ' H',Inv X pins σ' H' s' ∧ Q σ' H') X.xe s
noncomputable abbrev TSet := V → V → V → Hp → (Hp → Prop) → Prop
noncomputable def PSet (X:Cx) (t:TSet):Prop :=
 ∀ (pins:List (Addr × Obj)) (s:Shared) (σ:St) (H:Hp) (o i v:V) (ov iv u:Value) (Q:Hp → Prop),Inv X pins σ H s → RelV o ov → RelV i iv → RelV v u → t o i v H Q →
  wpAny (model X.prog X.w) X.A (setItem ov iv u) (fun _ s' => ∃ H',Inv X pins σ H' s' ∧ Q H') X.xe s
section
variable {X:Cx} {pos:Pos}
noncomputable def gName (i:Nat):TG := fun v σ H Q => Q (σ.set i (some v)) H
theorem pg_name {i:Nat} {x:Str} (hN:X.N.Nodup) (hi:X.N[i]? = some x) (hx:Loc X.env.scope x) (hf:X.fn x = true ∨ X.env.scope.names.lookup x = some .local := by first | exact .inl rfl | exact .inr rfl | assumption):PG X (.Name x pos) (gName i) := by
 intro pins s σ H v u Q I r h
 exact wpAny_assign_Name (store_ok I hN hi hx r (fun s' I' => ⟨_,H,I',h⟩) hf)
noncomputable def gNil:TGs := fun vs σ H Q => vs = [] ∧ Q σ H
noncomputable def gCons (t:TG) (u:TGs):TGs := fun vs σ H Q => ∃ v r,vs = v :: r ∧ t v σ H fun σ' H' => u r σ' H' Q
theorem pgs_nil:PGs X [] gNil := by
 intro pins s σ H vs us Q I r h
 obtain ⟨e,h⟩ := h
 subst e
 cases r
 exact assignInOrder_nil ⟨σ,H,I,h⟩
theorem pgs_cons {e:Expr} {es:List Expr} {t:TG} {u:TGs} (h1:PG X e t) (h2:PGs X es u)
  (hs:(assignEach (e :: es) X.env).map (·.2) = assign e X.env :: (assignEach es X.env).map (·.2) := by rfl):PGs X (e :: es) (gCons t u) := by
 intro pins s σ H vs us Q I r h
 obtain ⟨v,vr,e1,h⟩ := h
 subst e1
 cases r with
 | cons r rr =>
  rw [hs]
  refine assignInOrder_cons (thn (h1 pins s σ H _ _ _ I r h) fun _ s1 ⟨σ1,H1,I1,q1⟩ => ?_)
  exact h2 pins s1 σ1 H1 _ _ Q I1 rr q1
noncomputable def gTup (K:PySem.W.Frag) (n:Nat) (t:TGs):TG := fun v σ H Q => ∃ a xs,v = .ref a ∧ SqT K H a xs ∧ xs.length = n ∧ t xs σ H Q
theorem pg_tup {es:List Expr} {k:Nat} {t:TGs} {n:Nat} (hc:X.calm = true) (h:PGs X es t)
  (hn:(assignEach es X.env).length = n := by rfl) (hst:(assignEach es X.env).findIdx? (·.1) = none := by rfl):PG X (.Tuple es k pos) (gTup X.K n t) := by
 intro pins s σ H v u Q I r hw
 obtain ⟨a,xs,e1,hq,hl,hw⟩ := hw
 subst e1
 cases r
 obtain ⟨its,rv,ht,hz⟩ := I.tuple hq
 refine assign_Tuple_tuple (I.ok.hd hc) ht (by simp [hn,← hl,rv.length]) hst fun h' hx => ?_
 have I1:Inv X pins σ H { s with heap := h' } := I.kept (t' := s.toks) fun b o e => hx b o (Nat.ne_of_lt (Heap.lt_size e)) e
 exact h pins _ σ H xs _ Q I1 (by simpa using rv) hw
noncomputable def gSub (to ti:TE) (t:TSet):TG := fun v σ H Q => to σ H fun o H1 => ti σ H1 fun i H2 => t o i v H2 fun H3 => Q σ H3
theorem pg_sub {o i:Expr} {to ti:TE} {t:TSet} (ho:PE X o to) (hi:PE X i ti) (hs:PSet X t)
  (ha:∀ v,assign (.Subscript o i pos) X.env v = (do
   let ov ← holding [v] (eval o X.env)
   let iv ← holding [v,ov] (eval i X.env)
   standAt pos
   holding [v,ov,iv] (setItem ov iv v)
   release [v,ov,iv] []) := by intro _; rfl):PG X (.Subscript o i pos) (gSub to ti t) := by
 intro pins s σ H v u Q I r h
 rw [ha]
 refine wpAny_bind (wpAny_holding (thn (ho pins s σ H _ I h) fun ov s1 ⟨x,H1,I1,r1,q1⟩ => ?_))
 refine wpAny_bind (wpAny_holding (thn (hi pins s1 σ H1 _ I1 q1) fun iv s2 ⟨y,H2,I2,r2,q2⟩ => ?_))
 refine wpAny_bind (wpAny_standAt (wpAny_bind (wpAny_holding (thn (hs pins s2 σ H2 x y v ov iv u _ I2 r1 r2 r q2) fun _ s3 ⟨H3,I3,q3⟩ => ?_))))
 exact wpAny_release ⟨σ,H3,I3,q3⟩
noncomputable def tAsg (te:TE) (g:TG):TS := fun D σ H => te σ H fun x H1 => g x σ H1 D.nx
theorem ps_asg {tg e:Expr} {te:TE} {g:TG} (he:PE X e te) (hg:PG X tg g) (hs:swapsWithSole [tg] e pos.line X.env = pure false := by rfl) (hw:swappedStores [tg] e X.env = pure none := by rfl)
  (h1:(assignEach [tg] X.env).map (·.2) = [assign tg X.env] := by rfl):PS X (.Assign [tg] e pos) (tAsg te g) := by
 intro pins s σ H D I h
 refine wpAny_Assign_stores (thn (he pins s σ H _ I h) fun v s1 ⟨x,H1,I1,r1,q1⟩ => ?_) hs hw
 rw [h1]
 exact thn (hg pins s1 σ H1 x v _ I1 r1 q1) fun _ s2 q => q
theorem ps_set {i:Nat} {x:Str} {e:Expr} {te:TE} {pos':Pos} (hN:X.N.Nodup) (hi:X.N[i]? = some x) (hx:Loc X.env.scope x) (he:PE X e te) (hs:swapsWith e (some (.Name x pos')) pos.line X.env = pure false := by rfl) (hf:X.fn x = true ∨ X.env.scope.names.lookup x = some .local := by first | exact .inl rfl | exact .inr rfl | assumption) :
  PS X (.Assign [.Name x pos'] e pos) (tAsg te (gName i)) := by
 intro pins s σ H D I h
 refine wpAny_Assign_Name (thn (he pins s σ H _ I h) fun v s1 ⟨y,H1,I1,r1,q1⟩ => ?_) hs
 exact store_ok I1 hN hi hx r1 (fun s2 I2 => ⟨_,H1,I2,q1⟩) hf
end
section
variable {X:Cx} {pos:Pos}
noncomputable def tWhile (c:TT) (tb:TS):TS := fun D σ H => ∃ W:Nat → St → Hp → Prop,(∃ m,W m σ H) ∧ ∀ m σ H,W m σ H →
 c σ H fun b H1 => if b = true then ∃ N:St → Hp → Prop,(∀ σ' H',N σ' H' → ∃ m',m' < m ∧ W m' σ' H') ∧ tb { D with nx := N,ct := N,bk := D.nx } σ H1 else D.nx σ H1
theorem ps_while {c:Expr} {body:List Stmt} {tc:TT} {tb:TS} (hp:PassesOwn (model X.prog X.w) X.A X.env X.xe) (hc:PT X c tc) (hb:PSs X body tb):PS X (.While c body [] pos) (tWhile tc tb) := by
 intro pins s σ H D I h
 obtain ⟨W,⟨m0,w0⟩,turn⟩ := h
 refine wpAny_While (codeAny_whileLoop (fun n s' => ∃ σ' H',Inv X pins σ' H' s' ∧ W n σ' H') ?_ m0 ⟨σ,H,I,w0⟩)
 rintro n s1 ⟨σ1,H1,I1,w1⟩
 refine wpAny_passesOwn hp (thn (hc pins s1 σ1 H1 _ I1 (turn n σ1 H1 w1)) fun b s2 ⟨H2,I2,q2⟩ => ?_)
 cases b with
 | true =>
  obtain ⟨N,hN,q2⟩ := q2
  rw [if_pos rfl]
  refine wpAny_passesOwn hp (thn (hb pins s2 σ1 H2 _ I2 q2) fun f s3 q3 => ?_)
  cases f with
  | next =>
   obtain ⟨σ3,H3,I3,n3⟩ := q3
   obtain ⟨m',hm,w3⟩ := hN σ3 H3 n3
   exact ⟨m',hm,σ3,H3,I3,w3⟩
  | cont =>
   obtain ⟨σ3,H3,I3,n3⟩ := q3
   obtain ⟨m',hm,w3⟩ := hN σ3 H3 n3
   exact ⟨m',hm,σ3,H3,I3,w3⟩
  | brk => exact q3
  | ret v => exact q3
 | false =>
  rw [if_neg Bool.false_ne_true]
  exact wpAny_execs_nil ⟨σ1,H2,I2,q2⟩
end
structure It where
 go:Nat → Hp → Prop
 yld:Nat → Hp → V → Hp → Prop
 stop:Nat → Hp → Prop
noncomputable def FpOk (X:Cx) (pins:List (Addr × Obj)) (H:Hp) (b:Addr):Prop :=
 H b = none ∧ b ≠ X.env.locals ∧ b ∉ X.fs ∧ (b ∈ X.ex ∨ X.s₀.heap.objs.size ≤ b) ∧ (∀ x c,X.env.cells.lookup x = some c → c ≠ b) ∧ ∀ p ∈ X.pn ++ pins,p.1 ≠ b
theorem Inv.fpOk {X:Cx} {pins:List (Addr × Obj)} {σ:St} {H H':Hp} {s:Shared} {b:Addr} (I:Inv X pins σ H s) (hb:s.heap.objs.size ≤ b) (hn:H' b = none):FpOk X pins H' b := by
 refine ⟨hn,Nat.ne_of_gt (Nat.lt_of_lt_of_le I.lt hb),I.nofs hb,.inr (Nat.le_trans I.sz hb),fun x c e z => ?_,fun p hp z => ?_⟩
 ·obtain ⟨v,q⟩ := I.cell x c e
  exact absurd (Nat.lt_of_lt_of_le q.lt (by rw [z]; exact hb)) (Nat.lt_irrefl _)
 ·exact absurd (Nat.lt_of_lt_of_le (Heap.lt_size (I.pin p hp).1) (by rw [z]; exact hb)) (Nat.lt_irrefl _)
structure Turn (P:Program) (w:World) (K:PySem.W.Frag) (tg:Expr) (J:It) (fp:List Addr) (it:Addr) (tn:Nat → Heap → Prop):Prop where
 mem:it ∈ fp
 obj:∀ i h,tn i h → ∀ b ∈ fp,∃ o,h.get? b = some o ∧ ∀ v,o.data ≠ .cell v
 keep:∀ i h h',tn i h → (∀ b ∈ fp,∀ o,h.get? b = some o → h'.get? b = some o) → tn i h'
 item:∀ (X:Cx),X.prog = P → X.w = w → X.K = K → X.calm = true → ∀ (i:Nat) (pins:List (Addr × Obj)) (s:Shared) (σ:St) (H:Hp) (E:Value → Shared → Prop),Inv X pins σ H s → (∀ b ∈ fp,FpOk X pins H b) → tn i s.heap → J.go i H →
  wpAny (model P w) X.A (pyNext (.ref it)) (fun r s1 => ∃ u,r = some u ∧
   wpAny (model P w) X.A (letOwnedTupleGo tg (.ref it) u) (fun _ s2 => ∃ x H',Inv X pins σ H' s2 ∧ RelV x u ∧ J.yld i H x H' ∧ tn (i + 1) s2.heap ∧ ∀ b ∈ fp,H' b = none) E s1) E s
 done:∀ (X:Cx),X.prog = P → X.w = w → X.K = K → X.calm = true → ∀ (i:Nat) (pins:List (Addr × Obj)) (s:Shared) (σ:St) (H:Hp) (E:Value → Shared → Prop),Inv X pins σ H s → (∀ b ∈ fp,FpOk X pins H b) → tn i s.heap → J.stop i H →
  wpAny (model P w) X.A (pyNext (.ref it)) (fun r s1 => r = none ∧ Inv X pins σ H s1) E s
 self:∀ (A:Around) (i:Nat) (s:Shared) (Q:Value → Shared → Prop) (E:Value → Shared → Prop),tn i s.heap → Q (.ref it) s → wpAny (model P w) A (pyIter (.ref it)) Q E s
noncomputable abbrev TI := St → Hp → (It → Hp → Prop) → Prop
noncomputable def PIE (X:Cx) (pins:List (Addr × Obj)) (σ:St) (tg:Expr) (R:It → Hp → Prop) (itv:Value) (s2:Shared):Prop :=
 ∃ (it:Addr) (fp:List Addr) (tn:Nat → Heap → Prop) (J:It) (H':Hp),itv = .ref it ∧ Inv X pins σ H' s2 ∧ Turn X.prog X.w X.K tg J fp it tn ∧ tn 0 s2.heap ∧ (∀ b ∈ fp,FpOk X pins H' b) ∧ R J H'
noncomputable def PI (X:Cx) (tg iter:Expr) (wi:TI):Prop :=
 ∀ (pins:List (Addr × Obj)) (s:Shared) (σ:St) (H:Hp) (R:It → Hp → Prop),Inv X pins σ H s → wi σ H R →
  wpAny (model X.prog X.w) X.A (eval iter X.env) (fun v s1 => wpAny (model X.prog X.w) X.A (pyIter v) (PIE X pins σ tg R) X.xe s1) X.xe s
theorem go_of {M:Model} {A:Around} {E:Value → Shared → Prop} {s:Shared} {tg:Expr} {it:Addr} {u:Value} {o:Obj} {n:String} {vs:Array Value} {Q:Unit → Shared → Prop} (ho:s.heap.get? it = some o) (hc:o.cls = .type n) (hd:o.data = .fields vs)
    (hn:["enumerate","zip","dict_itemiterator","dict_reverseitemiterator","odict_iterator","itertools.zip_longest","itertools.pairwise"].contains n = false) (hQ:Q () s):wpAny M A (letOwnedTupleGo tg (.ref it) u) Q E s := by
  unfold letOwnedTupleGo
  cases tg <;> first
    | exact wpAny_pure hQ
    | (cases u <;> first
        | exact wpAny_pure hQ
        | (refine wpAny_bind (wpAny_load ho ?_)
           rw [hc,hd]
           show wpAny M A (if (["enumerate","zip","dict_itemiterator","dict_reverseitemiterator","odict_iterator","itertools.zip_longest","itertools.pairwise"].contains n && vs[0]? == some (rawInt _)) = true then _ else _) Q E s
           rw [if_neg (by intro h; rw [hn,Bool.false_and] at h; cases h)]
           exact wpAny_pure hQ))
noncomputable def Itl (K:PySem.W.Frag) (a:Addr):It :=
 ⟨fun i H => ∃ xs x,SqL K H a xs ∧ xs[i]? = some x,fun i H x H' => H' = H ∧ ∀ xs,SqL K H a xs → xs[i]? = some x,fun i H => ∃ xs,SqL K H a xs ∧ xs.length ≤ i⟩
noncomputable def Itt (K:PySem.W.Frag) (a:Addr):It :=
 ⟨fun i H => ∃ xs x,SqT K H a xs ∧ xs[i]? = some x,fun i H x H' => H' = H ∧ ∀ xs,SqT K H a xs → xs[i]? = some x,fun i H => ∃ xs,SqT K H a xs ∧ xs.length ≤ i⟩
noncomputable def Itr (lo:Int) (n:Nat):It := ⟨fun i _ => i < n,fun i H x H' => H' = H ∧ x = .int (lo + i),fun i _ => n ≤ i⟩
theorem turn_list {P:Program} {w:World} {K:PySem.W.Frag} {tg:Expr} (a it:Addr):Turn P w K tg (Itl K a) [it] it (fun i h => h.IsListIter it a i) where
 mem := by simp
 obj := fun i h st b hb => by
  have e:b = it := by simpa using hb
  subst e
  obtain ⟨o,e,c,d⟩ := st
  exact ⟨o,e,fun v z => by rw [d] at z; cases z⟩
 keep := fun i h h' st k => st.at fun o e => k it (by simp) o e
 item := by
  intro X hP hw hK hc i pins s σ H E I hf st hg
  subst hP hw hK
  obtain ⟨xs,x,hq,hx⟩ := hg
  obtain ⟨its,rv,p,hz⟩ := I.list hq
  obtain ⟨u,hu,ru⟩ := rv.get hx
  obtain ⟨f0,f1,f2,f3,f4,f5⟩ := hf it (by simp)
  refine wpAny_pyNext_list_item st p.isList (x := u) (by simpa using hu) fun h' st' sb => ?_
  have I1:Inv X pins σ H { s with heap := h' } := I.turned (t' := s.toks) (fun b o hb e => (sb.2 b hb).trans e) f0 f1 f3 f4 f5
  obtain ⟨o,e,c,d⟩ := id st'
  exact ⟨u,rfl,go_of (s := { s with heap := h' }) e c d (by decide) ⟨x,H,I1,ru,⟨rfl,fun ys hy => by rw [I.list_inj hy hq]; exact hx⟩,st',fun b hb => (hf b hb).1⟩⟩
 done := by
  intro X hP hw hK hc i pins s σ H E I hf st hg
  subst hP hw hK
  obtain ⟨xs,hq,hx⟩ := hg
  obtain ⟨its,rv,p,hz⟩ := I.list hq
  obtain ⟨f0,f1,f2,f3,f4,f5⟩ := hf it (by simp)
  have hl := rv.length
  exact wpAny_pyNext_list_end (I.ok.hd hc) st p.isList (by simp; omega) fun h' eb => ⟨rfl,I.turned (t' := s.toks) (fun b o hb e => eb b o hb e) f0 f1 f3 f4 f5⟩
 self := fun _ _ _ _ _ st h => wpAny_pyIter_listiter st h
theorem turn_range {P:Program} {w:World} {K:PySem.W.Frag} {tg:Expr} (it:Addr) (lo:Int) (n:Nat):Turn P w K tg (Itr lo n) [it] it (fun i h => IsRangeIter h it (lo + (i:Nat) * 1) ((n:Int) - (i:Nat)) 1) where
 mem := by simp
 obj := fun i h st b hb => by
  have e:b = it := by simpa using hb
  subst e
  exact ⟨_,st,fun v z => by
   have z':Data.fields _ = Data.cell v := z
   cases z'⟩
 keep := fun i h h' st k => k it (by simp) _ st
 item := by
  intro X hP hw hK hc i pins s σ H E I hf st hg
  subst hP hw hK
  obtain ⟨f0,f1,f2,f3,f4,f5⟩ := hf it (by simp)
  have W := Walks.range (prog := X.prog) (w := X.w) (I.ok.hd hc) it lo 1 n
  refine W.item i s _ _ hg st fun v h' tk hv st' kk => ?_
  obtain ⟨t,rfl⟩ := hv
  have I1:Inv X pins σ H { s with heap := h',toks := tk } := I.turned (fun b o hb e => kk b o (by simpa using hb) e) f0 f1 f3 f4 f5
  refine ⟨_,rfl,go_of (s := { s with heap := h',toks := tk }) (n := "range_iterator") st' rfl rfl (by decide) ⟨.int (lo + i),H,I1,⟨t,?_⟩,⟨rfl,rfl⟩,st',fun b hb => (hf b hb).1⟩⟩
  rw [Int.mul_one]
 done := by
  intro X hP hw hK hc i pins s σ H E I hf st hg
  subst hP hw hK
  obtain ⟨f0,f1,f2,f3,f4,f5⟩ := hf it (by simp)
  exact wpAny_pyNext_range_end (I.ok.hd hc) st (by have:n ≤ i := hg; omega) fun h' eb => ⟨rfl,I.turned (t' := s.toks) (fun b o hb e => eb b o hb e) f0 f1 f3 f4 f5⟩
 self := fun _ _ _ _ _ st h => wpAny_pyIter_rangeiter st h
end L2
namespace L2
open PySem PySem.Spec PyProof.Rows
section
variable {X:Cx} {tg:Expr}
noncomputable def iList (K:PySem.W.Frag) (tl:TE):TI := fun σ H R => tl σ H fun x H1 => ∃ a,x = .ref a ∧ (∃ xs,SqL K H1 a xs) ∧ R (Itl K a) H1
noncomputable def iTup (K:PySem.W.Frag) (tl:TE):TI := fun σ H R => tl σ H fun x H1 => ∃ a,x = .ref a ∧ (∃ xs,SqT K H1 a xs) ∧ R (Itt K a) H1
theorem pi_list {l:Expr} {tl:TE} (hl:PE X l tl):PI X tg l (iList X.K tl) := by
 intro pins s σ H R I h
 refine thn (hl pins s σ H _ I h) fun v s1 ⟨x,H1,I1,r1,q1⟩ => ?_
 obtain ⟨a,e,⟨xs,hq⟩,q⟩ := q1
 subst e
 cases r1
 obtain ⟨its,rv,p,hz⟩ := I1.list hq
 refine wpAny_pyIter_list p.isList ?_
 refine ⟨s1.heap.objs.size,[s1.heap.objs.size],_,_,H1,rfl,I1.kept (t' := s1.toks) fun b o e => Heap.get?_push_of_some _ e,turn_list a _,⟨_,Heap.get?_push_size _ rfl,rfl,rfl⟩,fun b hb => ?_,q⟩
 have e:b = s1.heap.objs.size := by simpa using hb
 subst e
 exact I1.fpOk (Nat.le_refl _) (I1.hok.fresh (Nat.le_refl _))
theorem range_it {pins:List (Addr × Obj)} {σ:St} {H:Hp} {s:Shared} {R:It → Hp → Prop} {E:Value → Shared → Prop} {lo hi:Int} {t u v:Tok} {tk:Nat} (I:Inv X pins σ H s) (h1:-(2 ^ 62) ≤ lo) (h2:lo < 2 ^ 62) (h3:-(2 ^ 62) ≤ hi) (h4:hi < 2 ^ 62)
  (q:R (Itr lo (hi - lo).toNat) H):wpAny (model X.prog X.w) X.A (pyIter (.ref s.heap.objs.size)) (PIE X pins σ tg R) E { s with heap := s.heap.push { cls := .type "range",data := .fields #[.int lo t,.int hi u,.int 1 v] },toks := tk } := by
 refine wpAny_pyIter_range (IsRange.new ..) (small_one h1 h2 h3 h4) ?_
 have I1:Inv X pins σ H { s with heap := s.heap.push { cls := .type "range",data := .fields #[.int lo t,.int hi u,.int 1 v] },toks := tk } := I.kept fun b o e => Heap.get?_push_of_some _ e
 refine ⟨(s.heap.push { cls := .type "range",data := .fields #[.int lo t,.int hi u,.int 1 v] }).objs.size,[(s.heap.push { cls := .type "range",data := .fields #[.int lo t,.int hi u,.int 1 v] }).objs.size],_,_,H,rfl,
  I1.kept (t' := tk) fun b o e => Heap.get?_push_of_some _ e,turn_range _ lo (hi - lo).toNat,?_,fun b hb => ?_,q⟩
 ·have e1:lo + ((0:Nat):Int) * 1 = lo := by simp
  have e2:(((hi - lo).toNat:Nat):Int) - ((0:Nat):Int) = Builtin.Range.rangeSize lo hi 1 := by rw [rangeSize_one]; split <;> omega
  show IsRangeIter _ _ (lo + ((0:Nat):Int) * 1) ((((hi - lo).toNat:Nat):Int) - ((0:Nat):Int)) 1
  rw [e1,e2]
  exact Heap.get?_push_size _ rfl
 ·have e:b = (s.heap.push { cls := .type "range",data := .fields #[.int lo t,.int hi u,.int 1 v] }).objs.size := by simpa using hb
  subst e
  exact I1.fpOk (Nat.le_refl _) (I1.hok.fresh (Nat.le_refl _))
noncomputable def iRng1 (ta:TA):TI := fun σ H R => ta σ H fun vs H1 => ∃ j:Int,vs = [.int j] ∧ -(2 ^ 62) ≤ j ∧ j < 2 ^ 62 ∧ R (Itr 0 j.toNat) H1
noncomputable def iRng2 (ta:TA):TI := fun σ H R => ta σ H fun vs H1 => ∃ i j:Int,vs = [.int i,.int j] ∧ (-(2 ^ 62) ≤ i ∧ i < 2 ^ 62 ∧ -(2 ^ 62) ≤ j ∧ j < 2 ^ 62) ∧ R (Itr i (j - i).toNat) H1
theorem pi_range1 {a:Expr} {ta:TA} {p pos:Pos} (hg:Gl X "range") (hm:X.mg "range" = none) (ha:PA X [a] ta) (hs:starEach [a] X.env = [(false,eval a X.env)] := by rfl):PI X tg (.Call (.Name "range" p) [a] [] pos) (iRng1 ta) := by
 intro pins s σ H R I h
 refine Call_ (ld_blt I hg hm boot_range (PyProof.Rows.callWith_type1 (thn (ha pos pins s σ H _ I h) fun us s1 ⟨vs,H1,I1,r1,q1⟩ => ?_) hs rfl))
 obtain ⟨j,e,q1,q2,q⟩ := q1
 subst e
 cases r1 with
 | cons r rr =>
  cases rr
  obtain ⟨t,rfl⟩ := r
  exact call_range_1 (range_it I1 (by omega) (by omega) q1 q2 (by simpa using q))
noncomputable def tFor (wi:TI) (g:TG) (tb:TS):TS := fun D σ H => wi σ H fun J H1 => ∃ W:Nat → Nat → St → Hp → Prop,(∃ m,W 0 m σ H1) ∧ ∀ i m σ H,W i m σ H →
 (J.stop i H ∧ D.nx σ H) ∨ (J.go i H ∧ ∃ N:St → Hp → Prop,(∀ σ' H',N σ' H' → ∃ m',m' < m ∧ W (i + 1) m' σ' H') ∧ ∀ x H',J.yld i H x H' → g x σ H' fun σ2 H2 => tb { D with nx := N,ct := N,bk := D.nx } σ2 H2)
noncomputable def pinsAt (fp:List Addr) (h:Heap):List (Addr × Obj) := fp.filterMap fun b => (h.get? b).map fun o => (b,o)
theorem mem_pinsAt {fp:List Addr} {h:Heap} {b:Addr} {o:Obj} (hb:b ∈ fp) (e:h.get? b = some o):(b,o) ∈ pinsAt fp h := List.mem_filterMap.mpr ⟨b,hb,by rw [e]; rfl⟩
theorem of_pinsAt {fp:List Addr} {h:Heap} {p:Addr × Obj} (hp:p ∈ pinsAt fp h):p.1 ∈ fp ∧ h.get? p.1 = some p.2 := by
 obtain ⟨b,hb,e⟩ := List.mem_filterMap.mp hp
 cases q:h.get? b with
 | none => rw [q] at e; cases e
 | some o =>
  rw [q] at e
  have e':(b,o) = p := Option.some.inj e
  subst e'
  exact ⟨hb,q⟩
theorem Inv.pinned {pins:List (Addr × Obj)} {σ:St} {H:Hp} {s:Shared} {fp:List Addr} (I:Inv X pins σ H s) (hf:∀ b ∈ fp,FpOk X pins H b) (ho:∀ b ∈ fp,∃ o,s.heap.get? b = some o ∧ ∀ v,o.data ≠ .cell v):Inv X (pins ++ pinsAt fp s.heap) σ H s :=
 I.pins_of fun p hp => (List.mem_append.mp hp).elim (fun z => I.pin p (List.mem_append_right _ z)) fun z => by
  obtain ⟨hb,e⟩ := of_pinsAt z
  obtain ⟨f0,f1,f2,_⟩ := hf p.1 hb
  obtain ⟨o,e',d⟩ := ho p.1 hb
  rw [e] at e'; cases e'
  exact ⟨e,f0,f1,f2,d⟩
theorem Inv.unpinned {pins pl:List (Addr × Obj)} {σ:St} {H:Hp} {s:Shared} (I:Inv X (pins ++ pl) σ H s):Inv X pins σ H s := I.pins_of fun p hp => I.pin p (List.mem_append_right _ (List.mem_append_left _ hp))
theorem ps_for {iter:Expr} {body:List Stmt} {wi:TI} {g:TG} {tb:TS} {pos:Pos} (hp:PassesOwn (model X.prog X.w) X.A X.env X.xe) (hc:X.calm = true) (hi:PI X tg iter wi) (hg:PG X tg g) (hb:PSs X body tb)
  (hs:∀ x,foldedSetIterable iter X.env x = pure x := by intro _; rfl):PS X (.For tg iter body [] pos) (tFor wi g tb) := by
 intro pins s σ H D I h
 refine wpAny_For (thn (hi pins s σ H _ I h) fun v s1 h1 => thn h1 fun itv s2 h2 => ?_) hs
 obtain ⟨it,fp,tn,J,H2,e,I2,T,st2,f2,W,⟨m0,w0⟩,turn⟩ := h2
 subst e
 have stat:∀ {H':Hp},(∀ b ∈ fp,H' b = none) → ∀ b ∈ fp,FpOk X pins H' b := fun hn b hb => ⟨hn b hb,(f2 b hb).2⟩
 refine codeAny_forLoop_any (fun n s' => ∃ i σ' H',Inv X pins σ' H' s' ∧ tn i s'.heap ∧ (∀ b ∈ fp,H' b = none) ∧ W i n σ' H') ?_ m0 ⟨0,σ,H2,I2,st2,fun b hb => (f2 b hb).1,w0⟩
 rintro n s3 ⟨i,σ3,H3,I3,st3,fr3,w3⟩
 rcases turn i n σ3 H3 w3 with ⟨stop,qn⟩ | ⟨go,N,hN,step⟩
 ·refine wpAny_passesOwn hp (thn (T.done X rfl rfl rfl hc i pins s3 σ3 H3 X.xe I3 (stat fr3) st3 stop) fun r s4 ⟨hr,I4⟩ => ?_)
  subst hr
  exact wpAny_execs_nil ⟨σ3,H3,I4,qn⟩
 ·refine wpAny_passesOwn hp (thn (T.item X rfl rfl rfl hc i pins s3 σ3 H3 X.xe I3 (stat fr3) st3 go) fun r s4 ⟨u,hr,h4⟩ => ?_)
  subst hr
  refine wpAny_passesOwn hp (thn h4 fun _ s5 ⟨x,H5,I5,r5,y5,st5,fr5⟩ => ?_)
  have I5' := I5.pinned (stat fr5) (T.obj _ _ st5)
  refine wpAny_passesOwn hp (thn (hg _ s5 σ3 H5 x u _ I5' r5 (step x H5 y5)) fun _ s6 ⟨σ6,H6,I6,q6⟩ => ?_)
  refine wpAny_passesOwn hp (thn (hb _ s6 σ6 H6 _ I6 q6) fun f s7 q7 => ?_)
  have again:∀ {σ7:St} {H7:Hp},Inv X (pins ++ pinsAt fp s5.heap) σ7 H7 s7 → N σ7 H7 → ∃ m,m < n ∧ ∃ i σ' H',Inv X pins σ' H' s7 ∧ tn i s7.heap ∧ (∀ b ∈ fp,H' b = none) ∧ W i m σ' H' := fun {σ7 H7} I7 n7 => by
   obtain ⟨m',hm,w7⟩ := hN σ7 H7 n7
   refine ⟨m',hm,i + 1,σ7,H7,I7.unpinned,T.keep _ _ _ st5 fun b hb o e => (I7.pin (b,o) (List.mem_append_right _ (List.mem_append_right _ (mem_pinsAt hb e)))).1,fun b hb => ?_,w7⟩
   obtain ⟨o,e,d⟩ := T.obj _ _ st5 b hb
   exact (I7.pin (b,o) (List.mem_append_right _ (List.mem_append_right _ (mem_pinsAt hb e)))).2.1
  cases f with
  | next => obtain ⟨σ7,H7,I7,n7⟩ := q7; exact again I7 n7
  | cont => obtain ⟨σ7,H7,I7,n7⟩ := q7; exact again I7 n7
  | brk => obtain ⟨σ7,H7,I7,q7⟩ := q7; exact ⟨σ7,H7,I7.unpinned,q7⟩
  | ret v => obtain ⟨x7,σ7,H7,I7,r7,q7⟩ := q7; exact ⟨x7,σ7,H7,I7.unpinned,r7,q7⟩
end
end L2
namespace L2
open PySem PySem.Spec PyProof.Rows
noncomputable abbrev R2 := V → V → Hp → VK → Prop
noncomputable def OpR (X:Cx) (f:Value → Value → Sem Value) (r:R2):Prop :=
 ∀ (pins:List (Addr × Obj)) (s:Shared) (σ:St) (H:Hp) (x y:V) (v u:Value) (Q:VK),Inv X pins σ H s → RelV x v → RelV y u → r x y H Q →
  wpAny (model X.prog X.w) X.A (f v u) (EP X pins σ Q) X.xe s
noncomputable def UnR (X:Cx) (f:Value → Sem Value) (r:V → Hp → VK → Prop):Prop :=
 ∀ (pins:List (Addr × Obj)) (s:Shared) (σ:St) (H:Hp) (x:V) (v:Value) (Q:VK),Inv X pins σ H s → RelV x v → r x H Q →
  wpAny (model X.prog X.w) X.A (f v) (EP X pins σ Q) X.xe s
noncomputable def CallR (X:Cx) (f:Value) (r:List V → Hp → VK → Prop):Prop :=
 ∀ (pins:List (Addr × Obj)) (s:Shared) (σ:St) (H:Hp) (xs:List V) (us:List Value) (Q:VK),Inv X pins σ H s → Vals xs us → r xs H Q →
  wpAny (model X.prog X.w) X.A (call f us) (EP X pins σ Q) X.xe s
noncomputable def TruR (X:Cx) (r:V → Hp → (Bool → Hp → Prop) → Prop):Prop :=
 ∀ (pins:List (Addr × Obj)) (s:Shared) (σ:St) (H:Hp) (x:V) (v:Value) (Q:Bool → Hp → Prop),Inv X pins σ H s → RelV x v → r x H Q →
  wpAny (model X.prog X.w) X.A (truthy v) (TP X pins σ Q) X.xe s
noncomputable def tOp (r:R2) (ta tb:TE):TE := fun σ H Q => ta σ H fun x H1 => tb σ H1 fun y H2 => r x y H2 Q
noncomputable def tUn (r:V → Hp → VK → Prop) (ta:TE):TE := fun σ H Q => ta σ H fun x H1 => r x H1 Q
noncomputable def rI (C:Int → Int → Prop) (g:Int → Int → V):R2 := fun x y H Q => ∃ i j,x = .int i ∧ y = .int j ∧ C i j ∧ Q (g i j) H
noncomputable def rI0 (g:Int → Int → V):R2 := fun x y H Q => ∃ i j,x = .int i ∧ y = .int j ∧ Q (g i j) H
noncomputable def rU (g:Int → V):V → Hp → VK → Prop := fun x H Q => ∃ i,x = .int i ∧ Q (g i) H
section
variable {X:Cx} {a b c:Expr} {ta tb tc:TE} {pos:Pos}
theorem binT (ha:PE X a ta) (hb:PE X b tb) {pins:List (Addr × Obj)} {s:Shared} {σ:St} {H:Hp} {R:V → V → Hp → Prop} (I:Inv X pins σ H s)
  (h:ta σ H fun x H1 => tb σ H1 fun y H2 => R x y H2) {Q:Value → Shared → Prop} {f:Value → Value → Sem Value}
  (hf:∀ v u s2 x y H2,Inv X pins σ H2 s2 → RelV x v → RelV y u → R x y H2 → wpAny (model X.prog X.w) X.A (f v u) Q X.xe s2) :
  wpAny (model X.prog X.w) X.A (eval a X.env) (fun v s₁ => wpAny (model X.prog X.w) X.A (eval b X.env) (fun u s₂ => wpAny (model X.prog X.w) X.A (f v u) Q X.xe s₂) X.xe s₁) X.xe s := by
 refine thn (ha pins s σ H _ I h) fun v s1 ⟨x,H1,I1,r1,q1⟩ => ?_
 refine thn (hb pins s1 σ H1 _ I1 q1) fun u s2 ⟨y,H2,I2,r2,q2⟩ => ?_
 exact hf v u s2 x y H2 I2 r1 r2 q2
theorem pe_op {op:Operator} {r:R2} (ho:OpR X (binaryOp op) r) (ha:PE X a ta) (hb:PE X b tb):PE X (.BinOp a op b pos) (tOp r ta tb) := by
 intro pins s σ H Q I h
 exact wpAny_BinOp (binT ha hb I h fun v u s2 x y H2 I2 rx ry q => ho pins s2 σ H2 x y v u Q I2 rx ry q)
theorem pe_un {op:UnaryOp} {r:V → Hp → VK → Prop} (ho:UnR X (unaryOp op) r) (ha:PE X a ta):PE X (.UnaryOp op a pos) (tUn r ta) := by
 intro pins s σ H Q I h
 exact UnaryOp_ (thn (ha pins s σ H _ I h) fun v s1 ⟨x,H1,I1,r1,q1⟩ => ho pins s1 σ H1 x v Q I1 r1 q1)
theorem opI {f:Value → Value → Sem Value} {C:Int → Int → Prop} {g:Int → Int → Int}
  (rule:∀ (i j:Int) (t u:Tok) (s:Shared) (Q:Value → Shared → Prop) (E:Value → Shared → Prop),C i j → Q (.int (g i j) s.toks) { s with toks := s.toks + 1 } → wpAny (model X.prog X.w) X.A (f (.int i t) (.int j u)) Q E s) :
  OpR X f (rI C fun i j => .int (g i j)) := by
 intro pins s σ H x y v u Q I rx ry h
 obtain ⟨i,j,rfl,rfl,hc,q⟩ := h
 obtain ⟨t,rfl⟩ := rx
 obtain ⟨t',rfl⟩ := ry
 exact rule i j t t' s _ _ hc ⟨.int (g i j),H,I.tok _,⟨_,rfl⟩,q⟩
theorem opI0 {f:Value → Value → Sem Value} {g:Int → Int → Int}
  (rule:∀ (i j:Int) (t u:Tok) (s:Shared) (Q:Value → Shared → Prop) (E:Value → Shared → Prop),Q (.int (g i j) s.toks) { s with toks := s.toks + 1 } → wpAny (model X.prog X.w) X.A (f (.int i t) (.int j u)) Q E s) :
  OpR X f (rI0 fun i j => .int (g i j)) := by
 intro pins s σ H x y v u Q I rx ry h
 obtain ⟨i,j,rfl,rfl,q⟩ := h
 obtain ⟨t,rfl⟩ := rx
 obtain ⟨t',rfl⟩ := ry
 exact rule i j t t' s _ _ ⟨.int (g i j),H,I.tok _,⟨_,rfl⟩,q⟩
theorem opB0 {f:Value → Value → Sem Value} {g:Int → Int → Bool}
  (rule:∀ (i j:Int) (t u:Tok) (s:Shared) (Q:Value → Shared → Prop) (E:Value → Shared → Prop),Q (.bool (g i j)) s → wpAny (model X.prog X.w) X.A (f (.int i t) (.int j u)) Q E s) :
  OpR X f (rI0 fun i j => .bl (g i j)) := by
 intro pins s σ H x y v u Q I rx ry h
 obtain ⟨i,j,rfl,rfl,q⟩ := h
 obtain ⟨t,rfl⟩ := rx
 obtain ⟨t',rfl⟩ := ry
 exact rule i j t t' s _ _ ⟨.bl (g i j),H,I,rfl,q⟩
noncomputable def CDiv (i j:Int):Prop := 0 < j ∧ j < 1073741824
noncomputable def CPow (i j:Int):Prop := 0 ≤ j ∧ j ≤ 1000000 ∧ i.natAbs < 2 ^ 64
noncomputable def CMul (i j:Int):Prop := (-(2 ^ 64) < i ∧ i < 2 ^ 64) ∨ (-(2 ^ 64) < j ∧ j < 2 ^ 64)
theorem CMul.ok {i j:Int} (h:CMul i j):IntMulOk i j := by
 rcases h with ⟨h1,h2⟩ | ⟨h1,h2⟩
 ·exact .of_left (intBits_le_64 h1 h2)
 ·exact .of_right (intBits_le_64 h1 h2)
theorem two_pow_nn (k:Nat):(0:Int) ≤ 2 ^ k := by
 rw [two_pow_cast]
 exact Int.natCast_nonneg _
theorem op_add:OpR X (binaryOp .Add) (rI0 fun i j => .int (i + j)) := opI0 fun _ _ _ _ _ _ _ q => add_int q
theorem op_sub:OpR X (binaryOp .Sub) (rI0 fun i j => .int (i - j)) := opI0 fun _ _ _ _ _ _ _ q => sub_int q
theorem op_mul:OpR X (binaryOp .Mult) (rI CMul fun i j => .int (i * j)) := opI fun _ _ _ _ _ _ _ hc q => mul_int q hc.ok
theorem op_fdiv:OpR X (binaryOp .FloorDiv) (rI CDiv fun i j => .int (i / j)) := opI fun i j _ _ _ _ _ hc q => by
 have h1:(0:Int) < j := hc.1
 have h2:j < 1073741824 := hc.2
 exact floordiv_int (by omega) (by rw [Int.fdiv_eq_ediv_of_nonneg i (by omega)]; exact q) (.inl (PyProof.noPylong_small (by omega)))
theorem op_mod:OpR X (binaryOp .Mod) (rI (fun _ j => 0 < j) fun i j => .int (i % j)) := opI fun i j _ _ _ _ _ hc q => by
 have h1:(0:Int) < j := hc
 exact mod_int' (by omega) (by rw [Int.fmod_eq_emod_of_nonneg i (by omega)]; exact q)
theorem op_pow:OpR X (binaryOp .Pow) (rI CPow fun i j => .int (i ^ j.toNat)) := opI fun _ _ _ _ _ _ _ hc q => pow_int_small hc.1 hc.2.1 hc.2.2 q
theorem op_shr:OpR X (binaryOp .RShift) (rI (fun _ j => 0 ≤ j) fun i j => .int (i / 2 ^ j.toNat)) := opI fun i j _ _ _ _ _ hc q =>
 rshift_int hc (by rw [Int.fdiv_eq_ediv_of_nonneg i (two_pow_nn _)]; exact q)
theorem op_and:OpR X (binaryOp .BitAnd) (rI0 fun i j => .int (Builtin.bitAnd i j)) := opI0 fun _ _ _ _ _ _ _ q => and_int q
theorem unI {f:Value → Sem Value} {g:Int → Int}
  (rule:∀ (i:Int) (t:Tok) (s:Shared) (Q:Value → Shared → Prop) (E:Value → Shared → Prop),Q (.int (g i) s.toks) { s with toks := s.toks + 1 } → wpAny (model X.prog X.w) X.A (f (.int i t)) Q E s) :
  UnR X f (rU fun i => .int (g i)) := by
 intro pins s σ H x v Q I rx h
 obtain ⟨i,rfl,q⟩ := h
 obtain ⟨t,rfl⟩ := rx
 exact rule i t s _ _ ⟨.int (g i),H,I.tok _,⟨_,rfl⟩,q⟩
theorem un_neg:UnR X (unaryOp .USub) (rU fun i => .int (-i)) := unI fun _ _ _ _ _ q => neg_int q
end
noncomputable def scal:V → V → Bool
 | .non,.non => true | .non,.int _ => true | .int _,.non => true | .non,.bl _ => true | .bl _,.non => true | .non,.str _ => true | .str _,.non => true
 | .int _,.int _ => true | .bl _,.bl _ => true | .str _,.str _ => true | .byt _,.byt _ => true
 | .int _,.str _ => true | .str _,.int _ => true | .bl _,.str _ => true | .str _,.bl _ => true
 | _,_ => false
noncomputable def rEq:R2 := fun x y H Q => scal x y = true ∧ Q (.bl (decide (x = y))) H
noncomputable def rNe:R2 := fun x y H Q => scal x y = true ∧ Q (.bl (!decide (x = y))) H
theorem dec_int {i j:Int}:decide (V.int i = V.int j) = (i == j) := by
 rw [Bool.eq_iff_iff]
 simp
theorem dec_bl {i j:Bool}:decide (V.bl i = V.bl j) = (i == j) := by
 rw [Bool.eq_iff_iff]
 simp
theorem dec_str {i j:Str}:decide (V.str i = V.str j) = (i == j) := by
 rw [Bool.eq_iff_iff]
 simp
theorem dec_byt {i j:Array UInt8}:decide (V.byt i = V.byt j) = (i.toList == j.toList) := by
 rw [Bool.eq_iff_iff]
 cases i
 cases j
 simp
section
variable {X:Cx} {a b c:Expr} {ta tb tc:TE} {pos:Pos}
theorem fin_bl {pins:List (Addr × Obj)} {σ:St} {H:Hp} {s:Shared} {Q:VK} {k k':Bool} (I:Inv X pins σ H s) (q:Q (.bl k) H) (e:k = k'):EP X pins σ Q (.bool k') s := by
 subst e
 exact ⟨.bl k,H,I,rfl,q⟩
theorem op_eq:OpR X (compareOp .Eq) rEq := by
 intro pins s σ H x y v u Q I rx ry h
 obtain ⟨hs,q⟩ := h
 cases x with
 | non =>
  cases rx
  cases y with
  | non => cases ry; exact PySem.EqNone.eq_none_none (fin_bl I q (by simp))
  | bl j => cases ry; exact PySem.EqNone.eq_none_bool (fin_bl I q (by simp))
  | int j => obtain ⟨t',rfl⟩ := ry; exact PySem.EqNone.eq_none_int (fin_bl I q (by simp))
  | str j => obtain ⟨t',rfl⟩ := ry; exact PySem.EqNone.eq_none_str (fin_bl I q (by simp))
  | _ => exact absurd (show false = true from hs) Bool.false_ne_true
 | bl i =>
  cases rx
  cases y with
  | non => cases ry; exact PySem.EqNone.eq_bool_none (fin_bl I q (by simp))
  | bl j => cases ry; exact eq_bool (fin_bl I q dec_bl)
  | str j => obtain ⟨t',rfl⟩ := ry; exact PySem.EqMixed.eq_bool_str (fin_bl I q (by simp))
  | _ => exact absurd (show false = true from hs) Bool.false_ne_true
 | int i =>
  obtain ⟨t,rfl⟩ := rx
  cases y with
  | non => cases ry; exact PySem.EqNone.eq_int_none (fin_bl I q (by simp))
  | int j => obtain ⟨t',rfl⟩ := ry; exact eq_int (fin_bl I q dec_int)
  | str j => obtain ⟨t',rfl⟩ := ry; exact PySem.EqMixed.eq_int_str (fin_bl I q (by simp))
  | _ => exact absurd (show false = true from hs) Bool.false_ne_true
 | str i =>
  obtain ⟨t,rfl⟩ := rx
  cases y with
  | non => cases ry; exact PySem.EqNone.eq_str_none (fin_bl I q (by simp))
  | bl j => cases ry; exact PySem.EqMixed.eq_str_bool (fin_bl I q (by simp))
  | int j => obtain ⟨t',rfl⟩ := ry; exact PySem.EqMixed.eq_str_int (fin_bl I q (by simp))
  | str j => obtain ⟨t',rfl⟩ := ry; exact eq_str (fin_bl I q dec_str)
  | _ => exact absurd (show false = true from hs) Bool.false_ne_true
 | byt i =>
  obtain ⟨t,rfl⟩ := rx
  cases y with
  | byt j => obtain ⟨t',rfl⟩ := ry; exact PySem.W.eq_bytes (fin_bl I q dec_byt)
  | _ => exact absurd (show false = true from hs) Bool.false_ne_true
 | _ => cases y <;> exact absurd (show false = true from hs) Bool.false_ne_true
theorem op_ne:OpR X (compareOp .NotEq) rNe := by
 intro pins s σ H x y v u Q I rx ry h
 obtain ⟨hs,q⟩ := h
 cases x with
 | non =>
  cases rx
  cases y with
  | non => cases ry; exact PySem.EqNone.ne_none_none (fin_bl I q (by simp))
  | bl j => cases ry; exact PySem.EqNone.ne_none_bool (fin_bl I q (by simp))
  | int j => obtain ⟨t',rfl⟩ := ry; exact PySem.EqNone.ne_none_int (fin_bl I q (by simp))
  | str j => obtain ⟨t',rfl⟩ := ry; exact PySem.EqNone.ne_none_str (fin_bl I q (by simp))
  | _ => exact absurd (show false = true from hs) Bool.false_ne_true
 | bl i =>
  cases rx
  cases y with
  | non => cases ry; exact PySem.EqNone.ne_bool_none (fin_bl I q (by simp))
  | bl j => cases ry; exact ne_bool (fin_bl I q (congrArg not dec_bl))
  | str j => obtain ⟨t',rfl⟩ := ry; exact PySem.EqMixed.ne_bool_str (fin_bl I q (by simp))
  | _ => exact absurd (show false = true from hs) Bool.false_ne_true
 | int i =>
  obtain ⟨t,rfl⟩ := rx
  cases y with
  | non => cases ry; exact PySem.EqNone.ne_int_none (fin_bl I q (by simp))
  | int j => obtain ⟨t',rfl⟩ := ry; exact ne_int (fin_bl I q (congrArg not dec_int))
  | str j => obtain ⟨t',rfl⟩ := ry; exact PySem.EqMixed.ne_int_str (fin_bl I q (by simp))
  | _ => exact absurd (show false = true from hs) Bool.false_ne_true
 | str i =>
  obtain ⟨t,rfl⟩ := rx
  cases y with
  | non => cases ry; exact PySem.EqNone.ne_str_none (fin_bl I q (by simp))
  | bl j => cases ry; exact PySem.EqMixed.ne_str_bool (fin_bl I q (by simp))
  | int j => obtain ⟨t',rfl⟩ := ry; exact PySem.EqMixed.ne_str_int (fin_bl I q (by simp))
  | str j => obtain ⟨t',rfl⟩ := ry; exact ne_str (fin_bl I q (congrArg not dec_str))
  | _ => exact absurd (show false = true from hs) Bool.false_ne_true
 | byt i =>
  obtain ⟨t,rfl⟩ := rx
  cases y with
  | byt j => obtain ⟨t',rfl⟩ := ry; exact PySem.W.ne_bytes (fin_bl I q (congrArg not dec_byt))
  | _ => exact absurd (show false = true from hs) Bool.false_ne_true
 | _ => cases y <;> exact absurd (show false = true from hs) Bool.false_ne_true
theorem op_lt:OpR X (compareOp .Lt) (rI0 fun i j => .bl (decide (i < j))) := opB0 fun _ _ _ _ _ _ _ q => lt_int q
theorem op_le:OpR X (compareOp .LtE) (rI0 fun i j => .bl (decide (i ≤ j))) := opB0 fun _ _ _ _ _ _ _ q => le_int q
theorem op_gt:OpR X (compareOp .Gt) (rI0 fun i j => .bl (decide (j < i))) := opB0 fun _ _ _ _ _ _ _ q => gt_int q
theorem op_ge:OpR X (compareOp .GtE) (rI0 fun i j => .bl (decide (j ≤ i))) := opB0 fun _ _ _ _ _ _ _ q => ge_int q
theorem op_isN:OpR X (compareOp .Is) (fun x y H Q => y = .non ∧ Q (.bl (decide (x = .non))) H) := by
 intro pins s σ H x y v u Q I rx ry h
 obtain ⟨rfl,q⟩ := h
 cases ry
 refine is_none_gen (fin_bl I q ?_)
 cases x <;> first
  | (cases rx; rfl)
  | (obtain ⟨t,rfl⟩ := rx; rfl)
theorem op_notN:OpR X (compareOp .IsNot) (fun x y H Q => y = .non ∧ Q (.bl (!decide (x = .non))) H) := by
 intro pins s σ H x y v u Q I rx ry h
 obtain ⟨rfl,q⟩ := h
 cases ry
 refine isnot_none_gen (fin_bl I q ?_)
 cases x <;> first
  | (cases rx; rfl)
  | (obtain ⟨t,rfl⟩ := rx; rfl)
theorem nomark (b:Expr) {op:CmpOp} (h:op ≠ .In := by decide) (h2:op ≠ .NotIn := by decide):behindInMarks op b = false := by
 have e1:(op == CmpOp.In) = false := by cases op <;> first | rfl | exact absurd rfl h
 have e2:(op == CmpOp.NotIn) = false := by cases op <;> first | rfl | exact absurd rfl h2
 cases b <;> simp [behindInMarks,e1,e2]
theorem pe_cmpR {op:CmpOp} {r:R2} (ho:OpR X (compareOp op) r) (ha:PE X a ta) (hb:PE X b tb) (hm:behindInMarks op b = false):PE X (.Compare a [op] [b] pos) (tOp r ta tb) := by
 intro pins s σ H Q I h
 exact wpAny_Compare1 (binT ha hb I h fun v u s2 x y H2 I2 rx ry q => ho pins s2 σ H2 x y v u Q I2 rx ry q) hm
noncomputable def tTest (t:TE):TT := fun σ H Q => t σ H fun x H' => ∃ k,x = .bl k ∧ Q k H'
theorem pt_cmpR {op:CmpOp} {r:R2} (ho:OpR X (compareOp op) r) (ha:PE X a ta) (hb:PE X b tb) (hm:behindInMarks op b = false):PT X (.Compare a [op] [b] pos) (tTest (tOp r ta tb)) := by
 intro pins s σ H Q I h
 refine wpAny_isTrue_Compare1 (thn (ha pins s σ H _ I h) fun v s1 ⟨x,H1,I1,r1,q1⟩ => thn (hb pins s1 σ H1 _ I1 q1) fun u s2 ⟨y,H2,I2,r2,q2⟩ =>
  thn (ho pins s2 σ H2 x y v u _ I2 r1 r2 q2) fun c s3 ⟨z,H3,I3,r3,k,e,q3⟩ => ?_) hm
 subst e
 cases r3
 exact wpAny_truthy_bool ⟨H3,I3,q3⟩
noncomputable def tChain (r r':R2) (ta tb tc:TE):TE := fun σ H Q => ta σ H fun x H1 => tb σ H1 fun y H2 => r x y H2 fun z H3 => ∃ k,z = .bl k ∧
 (if k = true then tc σ H3 fun w' H4 => r' y w' H4 Q else Q (.bl false) H3)
noncomputable def TruV (K:PySem.W.Frag) (x:V) (H:Hp) (k:Bool):Prop :=
 match x with
 | .non => k = false
 | .bl b => k = b
 | .int i => k = (i != 0)
 | .str y => y.length ≤ sizeLine ∧ k = ((y.length:Int) != 0)
 | .byt y => y.size ≤ sizeLine ∧ k = ((y.size:Int) != 0)
 | .ref p => (∃ xs,SqL K H p xs ∧ k = !xs.isEmpty) ∨ (∃ xs,SqT K H p xs ∧ k = !xs.isEmpty) ∨ ∃ kvs,H p = some (.dK kvs) ∧ k = !kvs.isEmpty
 | _ => False
theorem isEmpty_kv {κ:Type} {kvs:List (κ × V)} {vs:List (κ × Value)} (r:KV kvs vs):(!vs.isEmpty) = !kvs.isEmpty := by
 cases r <;> rfl
theorem isEmpty_of {xs:List V} {its:List Value} (r:Vals xs its):(!its.toArray.isEmpty) = !xs.isEmpty := by
 cases r <;> simp
theorem line63:(sizeLine:Nat) < 2 ^ 63 := by rw [sizeLine_eq]; decide
theorem tru_ok:TruR X (fun x H Q => ∃ k,TruV X.K x H k ∧ Q k H) := by
 intro pins s σ H x v Q I rx h
 obtain ⟨k,e,q⟩ := h
 have hl := line63
 have hs:sizeLine = 16777216 := sizeLine_eq
 cases x with
 | non =>
  cases rx
  have e':k = false := e
  subst e'
  exact truthy_none ⟨H,I,q⟩
 | bl b =>
  cases rx
  have e':k = b := e
  subst e'
  exact wpAny_truthy_bool ⟨H,I,q⟩
 | int i =>
  obtain ⟨t,rfl⟩ := rx
  have e':k = (i != 0) := e
  subst e'
  exact PySem.P.truthy_int ⟨H,I,q⟩
 | str y =>
  obtain ⟨t,rfl⟩ := rx
  obtain ⟨hy,e'⟩:y.length ≤ sizeLine ∧ k = ((y.length:Int) != 0) := e
  subst e'
  exact PySem.P.truthy_str (by omega) ⟨H,I.tok _,q⟩
 | byt y =>
  obtain ⟨t,rfl⟩ := rx
  obtain ⟨hy,e'⟩:y.size ≤ sizeLine ∧ k = ((y.size:Int) != 0) := e
  subst e'
  exact PySem.W.truthy_bytes (by omega) ⟨H,I.tok _,q⟩
 | ref p =>
  cases rx
  have e':(∃ xs,SqL X.K H p xs ∧ k = !xs.isEmpty) ∨ (∃ xs,SqT X.K H p xs ∧ k = !xs.isEmpty) ∨ ∃ kvs,H p = some (.dK kvs) ∧ k = !kvs.isEmpty := e
  rcases e' with ⟨xs,hx,e'⟩ | ⟨xs,hx,e'⟩ | ⟨kvs,hx,e'⟩
  ·subst e'
   obtain ⟨its,r,pl,hz⟩ := I.list hx
   have hlen := r.length
   exact wpAny_truthy_list pl.isList (by simp only [List.size_toArray]; omega) ⟨H,I.tok _,by rw [isEmpty_of r]; exact q⟩
  ·subst e'
   obtain ⟨its,r,pl,hz⟩ := I.tuple hx
   have hlen := r.length
   exact truthy_tuple pl (by simp only [List.size_toArray]; omega) ⟨H,I.tok _,by rw [isEmpty_of r]; exact q⟩
  ·subst e'
   obtain ⟨hz,hS,vs,r,m⟩:kvs.length ≤ sizeLine ∧ (p == sysModules) = false ∧ ∃ vs,KV kvs vs ∧ s.heap.DictOf (mixKind X.prog X.w) p vs := I.hok p _ hx
   have hlen:kvs.length = vs.length := Paired.length r
   exact wpAny_truthy_dict hS m (by omega) ⟨H,I.tok _,by rw [isEmpty_kv r]; exact q⟩
 | _ => exact (show False from e).elim
theorem pt_truth (ha:PE X a ta) (he:∀ whole,isTrue a X.env whole = (do let v ← whole; standAt a.pos; holding [v] (truthy v))) :
  PT X a (fun σ H Q => ta σ H fun x H' => ∃ k,TruV X.K x H' k ∧ Q k H') := by
 intro pins s σ H Q I h
 exact isTrue_plain (thn (ha pins s σ H _ I h) fun v s1 ⟨x,H1,I1,r1,q1⟩ => tru_ok pins s1 σ H1 x v Q I1 r1 q1) (he _)
theorem vals1 {x:V} {us:List Value} (r:Vals [x] us):∃ u,us = [u] ∧ RelV x u := by
 cases r with
 | cons r1 r2 => cases r2; exact ⟨_,rfl,r1⟩
theorem vals2 {x y:V} {us:List Value} (r:Vals [x,y] us):∃ u w',us = [u,w'] ∧ RelV x u ∧ RelV y w' := by
 cases r with
 | cons r1 r2 =>
  cases r2 with
  | cons r3 r4 => cases r4; exact ⟨_,_,rfl,r1,r3⟩
theorem call_max2 (hc:X.calm = true):CallR X (.builtin "max") (fun xs H Q => ∃ i j,xs = [.int i,.int j] ∧ Q (.int (if j > i then j else i)) H) := by
 intro pins s σ H xs us Q I r h
 obtain ⟨i,j,rfl,q⟩ := h
 obtain ⟨u,w',rfl,⟨t,rfl⟩,⟨t',rfl⟩⟩ := vals2 r
 refine max_two_ints (I.ok.hd hc) fun h' tk k => ⟨_,H,I.kept k,?_,q⟩
 by_cases hj:j > i
 ·rw [if_pos hj,if_pos hj]; exact ⟨_,rfl⟩
 ·rw [if_neg hj,if_neg hj]; exact ⟨_,rfl⟩
theorem call_min2 (hc:X.calm = true):CallR X (.builtin "min") (fun xs H Q => ∃ i j,xs = [.int i,.int j] ∧ Q (.int (if j < i then j else i)) H) := by
 intro pins s σ H xs us Q I r h
 obtain ⟨i,j,rfl,q⟩ := h
 obtain ⟨u,w',rfl,⟨t,rfl⟩,⟨t',rfl⟩⟩ := vals2 r
 refine min_two_ints (I.ok.hd hc) fun h' tk k => ⟨_,H,I.kept k,?_,q⟩
 by_cases hj:j < i
 ·rw [if_pos hj,if_pos hj]; exact ⟨_,rfl⟩
 ·rw [if_neg hj,if_neg hj]; exact ⟨_,rfl⟩
theorem call_int1:CallR X (.type "int") (fun xs H Q => (∃ i,xs = [.int i] ∧ Q (.int i) H) ∨ ∃ k,xs = [.bl k] ∧ Q (.int (if k then 1 else 0)) H) := by
 intro pins s σ H xs us Q I r h
 rcases h with ⟨i,rfl,q⟩ | ⟨k,rfl,q⟩
 ·obtain ⟨u,rfl,t,rfl⟩ := vals1 r
  exact call_int_int ⟨.int i,H,I,⟨_,rfl⟩,q⟩
 ·obtain ⟨u,rfl,r1⟩ := vals1 r
  cases r1
  exact call_int_bool ⟨.int (if k then 1 else 0),H,I.tok _,⟨_,rfl⟩,q⟩
end
end L2
namespace L2
open PySem PySem.Spec PyProof.Rows
structure ObjM (h:Heap) (x dx C:Addr) (mA:Str → Option Value):Prop where
 obj:h.get? x = some (PySem.W.instObj C dx)
 ns:h.Ns1 dx mA
 ne:dx ≠ x
theorem lookIn_ns {h:Heap} {dx:Addr} {mA:Str → Option Value} (n:h.Ns1 dx mA):∃ od,h.get? dx = some od ∧ ∀ name,PySem.W.lookIn name od = some (mA name) := by
 obtain ⟨o,es,ep,ho,hd,hk,_,hm⟩ := n
 refine ⟨o,ho,fun name => ?_⟩
 have e := hm name
 unfold nsFind findBy at e
 rw [← Array.find?_toList] at e
 unfold PySem.W.lookIn
 rw [hd]
 dsimp only
 split
 ·rename_i y q
  rw [q] at e
  exact congrArg some e
 ·rename_i q
  rw [q] at e
  have a:es.toList.any (·.refKey) = false := by
   rw [List.any_eq_false]
   intro y hy
   obtain ⟨z,t,hkey⟩ := hk y (Array.mem_toList_iff.mp hy)
   simp [DictEntry.refKey,hkey]
  have a':¬ es.toList.any (·.refKey) = true := by rw [a]; exact Bool.false_ne_true
  rw [if_neg a']
  exact congrArg some e
theorem ObjM.look {h:Heap} {x dx C:Addr} {mA:Str → Option Value} (I:ObjM h x dx C mA):∃ od,PySem.W.InstAt h x (PySem.W.instObj C dx) C (some od) ∧ ∀ name,PySem.W.lookIn name od = some (mA name) :=
 let ⟨od,ho,hl⟩ := lookIn_ns I.ns
 ⟨od,⟨I.obj,rfl,rfl,ho⟩,hl⟩
section
variable {prog:Program} {w:World} {A:Around} {E:Value → Shared → Prop} {s:Shared} {K:PySem.W.Frag} {x dx C f:Addr} {mA:Str → Option Value} {name:Str} {v:Value}
theorem get_map {expr:Bool} {Q:Value → Shared → Prop} (X:K.In s.heap) (I:ObjM s.heap x dx C mA) (hg:PySem.W.plainGet K C name = true) (hh:PySem.W.hasDictIn K C = true)
  (ha:PySem.W.findIn K (.ref C) name = some none) (hv:mA name = some v) (hv':PySem.W.handedIn v = true) (h:Q v { s with toks := s.toks + 1 }) :
  wpAny (model prog w) A (getAttr (.ref x) name expr) Q E s := by
 obtain ⟨od,J,hl⟩ := I.look
 exact PySem.W.get_value X J (PySem.W.plainGet_of hg).1 (PySem.W.findObj_own hh ha rfl (by rw [hl,hv])) hv' h
theorem get_meth {pl:Sem Bool} {Q:Value × List Value → Shared → Prop} (X:K.In s.heap) (I:ObjM s.heap x dx C mA) (hg:PySem.W.plainGet K C name = true)
  (hf:PySem.W.findIn K (.ref C) name = some (some (.ref f))) (ht:PySem.W.isFn K (.ref f) = true) (hv:mA name = none) (h:Q (.ref f,[.ref x]) s) :
  wpAny (model prog w) A (getMethod (.ref x) name pl) Q E s := by
 obtain ⟨od,J,hl⟩ := I.look
 exact PySem.W.method_fn X J (PySem.W.plainGet_of hg).1 (PySem.W.plainGet_of hg).2 hf (beq_iff_eq.mp ht) (by show (PySem.W.lookIn name od).map (·.isSome) = some false; rw [hl,hv]; rfl) h
theorem set_map {ns:List Str} {Q:Unit → Shared → Prop} (X:K.In s.heap) (I:ObjM s.heap x dx C mA)
  (hs:PySem.W.findIn K (.ref C) "__setattr__" = some (some (.builtin "object.__setattr__"))) (hp:PySem.W.plainOver K C = true) (ht:PySem.W.takerIn K C name = some none) (hh:PySem.W.hasDictIn K C = true)
  (hw:PySem.Within mA ns) (hsz:ns.length ≤ sizeLine)
  (h:∀ h',ObjM h' x dx C (fun y => if y = name then some v else mA y) → Heap.SameBut dx s.heap h' → Q () { s with heap := h',toks := s.toks + 2 }) :
  wpAny (model prog w) A (setAttr (.ref x) name v) Q E s := by
 obtain ⟨od,J,hl⟩ := I.look
 refine PySem.W.set_plain X J hs (PySem.W.osa_open (s := { s with toks := s.toks + 1 }) (r := none) X J hp ht fun b => ?_)
 obtain ⟨cd,hc,hd'⟩ := PySem.W.any_some hh
 have hx:s.heap.get? x = some ⟨.ref C,some dx,.plain,#[]⟩ := I.obj
 refine wpAny_bind (wpAny_pure (wpAny_bind (wpAny_bind (wpAny_loadPart hx (wpAny_bind (PySem.W.Looks.here (s := { s with toks := s.toks + 1 }) (PySem.W.looks_clsIn X hc) ?_))))))
 rw [hd']
 refine wpAny_pure (a := some dx) (wpAny_bind (wpAny_pure (wpAny_bind ?_)))
 refine wpAny_nsSet1 (s := { s with toks := s.toks + 1 }) I.ns fun h' hn2 hs2 => ?_
 obtain ⟨oD,esD,epD,hoD,hdD,hcD⟩ := hn2.count (PySem.Within.cons name v hw)
 refine wpAny_bind (wpAny_lookBehind hoD (by rw [hdD]; exact pastItsLine_dict (Nat.le_trans hcD (by rw [List.length_cons]; omega))) ?_)
 exact wpAny_pure (h _ ⟨(hs2.2 _ (Ne.symm I.ne)).trans I.obj,hn2,I.ne⟩ hs2)
theorem make_map {R:Result → Shared → Prop} {vs:List Value} {kw:List (Str × Value)} (X:K.In s.heap) (hm:PySem.W.makesIn K C = true)
  (hi:PySem.W.findIn K (.ref C) "__init__" = some (some (.ref f))) (hf:PySem.W.typeIn K (.ref f) = some (.type "function"))
  (h:codeAny (model prog w) (A.under (.builtin "type.__call__" ⟨.ref C :: vs,kw⟩)) (.call (.ref f) ⟨.ref (s.heap.objs.size + 1) :: vs,kw⟩) (PySem.W.InitBack (s.heap.objs.size + 1) R)
   { s with heap := (s.heap.push PySem.W.emptyDict).push (PySem.W.instObj C s.heap.objs.size) }) :
  codeAny (model prog w) A (.call (.ref C) ⟨vs,kw⟩) R s := by
 obtain ⟨hh,g,d,t,os⟩ := s
 exact PySem.W.make_core (PySem.W.makes_of X hm) (PySem.W.looks_findIn X hi) (fun self => PySem.W.bind_fn X self hf) (.inl rfl) h
end
noncomputable def putF (f:Str) (v:V):List (Str × V) → List (Str × V)
 | [] => [(f,v)]
 | (g,x) :: r => if g = f then (g,v) :: r else (g,x) :: putF f v r
theorem lookup_putF (f g:Str) (v:V):∀ fs:List (Str × V),(putF f v fs).lookup g = if g = f then some v else fs.lookup g
 | [] => by
  show List.lookup g [(f,v)] = _
  by_cases h:g = f
  ·have hb:(g == f) = true := beq_iff_eq.mpr h
   simp only [List.lookup,hb,if_pos h]
  ·have hb:(g == f) = false := beq_eq_false_iff_ne.mpr h
   simp only [List.lookup,hb,if_neg h]
 | (k,x) :: r => by
  have ih := lookup_putF f g v r
  rw [show putF f v ((k,x) :: r) = (if k = f then (k,v) :: r else (k,x) :: putF f v r) from rfl]
  by_cases hk:k = f
  ·rw [if_pos hk]
   by_cases h:g = k
   ·have hb:(g == k) = true := beq_iff_eq.mpr h
    simp only [List.lookup,hb,if_pos (h.trans hk)]
   ·have hb:(g == k) = false := beq_eq_false_iff_ne.mpr h
    simp only [List.lookup,hb,if_neg (fun e:g = f => h (e.trans hk.symm))]
  ·rw [if_neg hk]
   by_cases h:g = k
   ·have hb:(g == k) = true := beq_iff_eq.mpr h
    simp only [List.lookup,hb,if_neg (fun e:g = f => hk (h.symm.trans e))]
   ·have hb:(g == k) = false := beq_eq_false_iff_ne.mpr h
    simp only [List.lookup,hb]
    exact ih
theorem keys_putF (f:Str) (v:V):∀ fs:List (Str × V),f ∈ (putF f v fs).map (·.1) ∧ ∀ g,g ∈ fs.map (·.1) → g ∈ (putF f v fs).map (·.1)
 | [] => ⟨by simp [putF],fun g h => by simp at h⟩
 | (k,x) :: r => by
  obtain ⟨i1,i2⟩ := keys_putF f v r
  rw [show putF f v ((k,x) :: r) = (if k = f then (k,v) :: r else (k,x) :: putF f v r) from rfl]
  by_cases hk:k = f
  ·rw [if_pos hk]
   subst hk
   exact ⟨by simp,fun g h => by simpa using h⟩
  ·rw [if_neg hk]
   refine ⟨?_,fun g h => ?_⟩
   ·rw [List.map_cons]
    exact List.mem_cons_of_mem _ i1
   ·rw [List.map_cons] at h ⊢
    rcases List.mem_cons.mp h with e | e
    ·exact List.mem_cons.mpr (.inl e)
    ·exact List.mem_cons_of_mem _ (i2 g e)
theorem length_putF (f:Str) (v:V):∀ fs:List (Str × V),(putF f v fs).length ≤ fs.length + 1
 | [] => by simp [putF]
 | (k,x) :: r => by
  have ih := length_putF f v r
  rw [show putF f v ((k,x) :: r) = (if k = f then (k,v) :: r else (k,x) :: putF f v r) from rfl]
  by_cases hk:k = f
  ·rw [if_pos hk,List.length_cons,List.length_cons]; omega
  ·rw [if_neg hk,List.length_cons,List.length_cons]; omega
theorem RelO.some_of {v:V} {o:Option Value} (r:RelO (some v) o):∃ u,o = some u ∧ RelV v u := by
 cases o with
 | none => exact (show False from r).elim
 | some u => exact ⟨u,rfl,r⟩
theorem RelO.none_of {o:Option Value} (r:RelO none o):o = none := by
 cases o with
 | none => rfl
 | some u => exact (show False from r).elim
theorem handed_of {v:V} {u:Value} (r:RelV v u):PySem.W.handedIn u = true := by
 cases v with
 | non => cases (show u = Value.none from r); rfl
 | bl b => cases (show u = Value.bool b from r); rfl
 | int i => obtain ⟨t,e⟩ := (show ∃ t,u = Value.int i t from r); cases e; rfl
 | str x => obtain ⟨t,e⟩ := (show ∃ t,u = Value.str x t from r); cases e; rfl
 | byt b => obtain ⟨t,e⟩ := (show ∃ t,u = Value.bytes b t from r); cases e; rfl
 | flt b => obtain ⟨t,e⟩ := (show ∃ t,u = Value.float b t from r); cases e; rfl
 | ref a => cases (show u = Value.ref a from r); rfl
 | ty n => cases (show u = Value.type n from r); rfl
section
variable {P:Program} {w:World} {H H':Hp} {h h':Heap} {a C dx:Addr} {fs fs':List (Str × V)}
theorem ins_get (hok:HOk P w H h) (e:H a = some (.ins C dx fs)):∃ mA,ObjM h a dx C mA ∧ (∀ f,RelO (fs.lookup f) (mA f)) ∧ PySem.Within mA (fs.map (·.1)) ∧ fs.length ≤ 1000 ∧ H dx = some (.own a) := by
 obtain ⟨d,z,ne,ob,mA,n,r,q⟩ := (show ObjOk P w H h a (.ins C dx fs) from hok a _ e)
 exact ⟨mA,⟨ob,n,ne⟩,r,q,z,d⟩
end
structure Cls (K:PySem.W.Frag) (C:Addr):Prop where
 pg:PySem.W.plainGet K C Str.empty = true
 hd:PySem.W.hasDictIn K C = true
 po:PySem.W.plainOver K C = true
 sa:PySem.W.findIn K (.ref C) "__setattr__" = some (some (.builtin "object.__setattr__"))
theorem Cls.get {K:PySem.W.Frag} {C:Addr} (c:Cls K C) (f:Str):PySem.W.plainGet K C f = true := c.pg
noncomputable def NoAttr (K:PySem.W.Frag) (C:Addr) (f:Str):Prop := PySem.W.findIn K (.ref C) f = some none
theorem NoAttr.taker {K:PySem.W.Frag} {C:Addr} {f:Str} (n:NoAttr K C f):PySem.W.takerIn K C f = some none := by
 unfold PySem.W.takerIn
 rw [show PySem.W.findIn K (.ref C) f = some none from n]
 rfl
structure Meth (K:PySem.W.Frag) (C:Addr) (m:Str) (f:Addr):Prop where
 at_:PySem.W.findIn K (.ref C) m = some (some (.ref f))
 fn:PySem.W.isFn K (.ref f) = true
 kp:PySem.W.keepIn K (.ref f) = true
section
variable {X:Cx} {pins:List (Addr × Obj)} {σ:St} {H:Hp} {s:Shared} {a C dx:Addr} {fs:List (Str × V)} {f:Str} {v:V} {A:Around} {E:Value → Shared → Prop}
theorem getattr_ok {b:Bool} {Q:Value → Shared → Prop} (I:Inv X pins σ H s) (e:H a = some (.ins C dx fs)) (c:Cls X.K C) (n:NoAttr X.K C f) (l:fs.lookup f = some v)
  (h:∀ u s',Inv X pins σ H s' → RelV v u → Q u s'):wpAny (model X.prog X.w) A (getAttr (.ref a) f b) Q E s := by
 obtain ⟨mA,O,r,_,_,_⟩ := ins_get I.hok e
 obtain ⟨u,hu,ru⟩ := RelO.some_of (v := v) (o := mA f) (by rw [← l]; exact r f)
 exact get_map I.kIn O (c.get f) c.hd n hu (handed_of ru) (h u _ (I.tok _) ru)
theorem getmeth_ok {m:Str} {g:Addr} {pl:Sem Bool} {Q:Value × List Value → Shared → Prop} (I:Inv X pins σ H s) (e:H a = some (.ins C dx fs)) (c:Cls X.K C) (k:Meth X.K C m g) (l:fs.lookup m = none)
  (h:Q (.ref g,[.ref a]) s):wpAny (model X.prog X.w) A (getMethod (.ref a) m pl) Q E s := by
 obtain ⟨mA,O,r,_,_,_⟩ := ins_get I.hok e
 have hn:mA m = none := RelO.none_of (by rw [← l]; exact r m)
 exact get_meth I.kIn O (c.get m) k.at_ k.fn hn h
theorem setattr_ok {y:V} {u:Value} {Q:Unit → Shared → Prop} (I:Inv X pins σ H s) (e:H a = some (.ins C dx fs)) (c:Cls X.K C) (n:NoAttr X.K C f) (hl:fs.length < 1000) (ry:RelV y u)
  (h:∀ s',Inv X pins σ (upd H a (.ins C dx (putF f y fs))) s' → Q () s'):wpAny (model X.prog X.w) A (setAttr (.ref a) f u) Q E s := by
 obtain ⟨mA,O,r,wi,_,ho⟩ := ins_get I.hok e
 have hz:(fs.map (·.1)).length ≤ sizeLine := by rw [List.length_map,sizeLine_eq]; omega
 refine set_map I.kIn O c.sa c.po n.taker c.hd wi hz fun h' O' sb => h _ ?_
 have hd:∃ o,h'.get? dx = some o := let ⟨o,_,_,e',_⟩ := O'.ns; ⟨o,e'⟩
 refine I.write (x := a) (e := dx) (by rw [e]; exact True.intro) (.inr ho) (fun b q hb z => (sb.2 b hb).trans z) hd ?_
 refine ⟨by rw [upd_ne O.ne]; exact ho,?_,O.ne,O'.obj,_,O'.ns,fun g => ?_,fun g hg => ?_⟩
 ·have := length_putF f y fs; omega
 ·show RelO ((putF f y fs).lookup g) (if g = f then some u else mA g)
  rw [lookup_putF]
  by_cases q:g = f
  ·rw [if_pos q,if_pos q]; exact ry
  ·rw [if_neg q,if_neg q]; exact r g
 ·by_cases q:g = f
  ·rw [q]; exact (keys_putF f y fs).1
  ·refine (keys_putF f y fs).2 g (wi g fun z => hg ?_)
   show (if g = f then some u else mA g) = none
   rw [if_neg q]; exact z
theorem Inv.made (I:Inv X pins σ H s):Inv X pins σ (upd (upd H s.heap.objs.size (.own (s.heap.objs.size + 1))) (s.heap.objs.size + 1) (.ins C s.heap.objs.size []))
  { s with heap := (s.heap.push PySem.W.emptyDict).push (PySem.W.instObj C s.heap.objs.size) } := by
 have e1:(s.heap.push PySem.W.emptyDict).get? s.heap.objs.size = some PySem.W.emptyDict := Heap.get?_push_size s.heap rfl
 have e2:((s.heap.push PySem.W.emptyDict).push (PySem.W.instObj C s.heap.objs.size)).get? (s.heap.objs.size + 1) = some (PySem.W.instObj C s.heap.objs.size) := by
  have := Heap.get?_push_size (s.heap.push PySem.W.emptyDict) (o := PySem.W.instObj C s.heap.objs.size) rfl
  rwa [Heap.size_push] at this
 have e3:(s.heap.push PySem.W.emptyDict).Ns s.heap.objs.size (fun _ => none) := ⟨PySem.W.emptyDict,#[],_,e1,rfl,(fun e he => absurd he (by simp)),fun _ => rfl⟩
 have I1 := I.laid (a := s.heap.objs.size) (o := .own (s.heap.objs.size + 1)) (h' := s.heap.push PySem.W.emptyDict) (t' := s.toks) (fun b u q => Heap.get?_push_of_some _ q) (Nat.le_refl _) ⟨_,e1⟩
 refine I1.laid (a := s.heap.objs.size + 1) (o := .ins C s.heap.objs.size []) (t' := s.toks) (fun b u q => Heap.get?_push_of_some _ q) (Nat.le_of_eq (Heap.size_push _ _)) ?_
 have ne:s.heap.objs.size ≠ s.heap.objs.size + 1 := Nat.ne_of_lt (Nat.lt_succ_self _)
 refine ⟨by rw [upd_ne ne,upd_same],Nat.zero_le _,ne,e2,fun _ => none,(Heap.Ns1.of_empty e3).at fun o q => Heap.get?_push_of_some _ q,fun _ => True.intro,fun y hy => absurd rfl hy⟩
theorem attr_of {prog:Program} {w:World} {env:Env} {e:Expr} {f:Str} {pos:Pos} {s:Shared} {Q:Value → Shared → Prop} (hb:attributeBase e f env (eval e env) = eval e env)
  (h:wpAny (model prog w) A (eval e env) (fun o s₁ => wpAny (model prog w) A (getAttr o f true) Q E s₁) E s):wpAny (model prog w) A (eval (.Attribute e f pos) env) Q E s :=
 Attribute_any_ h (by rw [arm_eval_Attribute,hb])
end
noncomputable def tFld (K:PySem.W.Frag) (ta:TE) (f:Str):TE := fun σ H Q => ta σ H fun x H1 => ∃ a C dx fs v,x = .ref a ∧ H1 a = some (.ins C dx fs) ∧ Cls K C ∧ NoAttr K C f ∧ fs.lookup f = some v ∧ Q v H1
noncomputable def sFld (K:PySem.W.Frag) (ta tv:TE) (f:Str):TS := fun D σ H => tv σ H fun y H1 => ta σ H1 fun x H2 => ∃ a C dx fs,x = .ref a ∧ H2 a = some (.ins C dx fs) ∧ Cls K C ∧ NoAttr K C f ∧ fs.length < 1000 ∧
 D.nx σ (upd H2 a (.ins C dx (putF f y fs)))
section
variable {X:Cx} {o e value:Expr} {f:Str} {pos pos' tpos:Pos} {ta tv:TE}
theorem pe_fld (he:PE X e ta) (hb:attributeBase e f X.env (eval e X.env) = eval e X.env):PE X (.Attribute e f pos) (tFld X.K ta f) := by
 intro pins s σ H Q I h
 refine attr_of hb (thn (he pins s σ H _ I h) fun u s1 ⟨x,H1,I1,rx,a,C,dx,fs,v,ex,ea,c,n,l,q⟩ => ?_)
 subst ex
 obtain rfl:u = Value.ref a := rx
 exact getattr_ok I1 ea c n l fun u' s2 I2 ru => ⟨v,H1,I2,ru,q⟩
theorem ps_fld (ha:PE X o ta) (hv:PE X value tv) (hs:swapsWith value (some (.Attribute o f pos')) pos.line X.env = pure false):PS X (.Assign [.Attribute o f pos'] value pos) (sFld X.K ta tv f) := by
 intro pins s σ H D I h
 refine plainObj_wpAny_Assign_Attribute (thn (hv pins s σ H _ I h) fun u s1 ⟨y,H1,I1,ry,q⟩ => thn (ha pins s1 σ H1 _ I1 q) fun ov s2 ⟨x,H2,I2,rx,a,C,dx,fs,ex,ea,c,n,l,q2⟩ => ?_) hs
 subst ex
 obtain rfl:ov = Value.ref a := rx
 exact setattr_ok I2 ea c n l ry fun s3 I3 => ⟨σ,_,I3,q2⟩
theorem methcall_of {pl:Sem Bool} {m:Str} {apos:Pos} {args:List Expr} {pins:List (Addr × Obj)} {s:Shared} {σ:St} {H:Hp} {Q:Value → Shared → Prop} {te:TE} (he:PE X e te) (I:Inv X pins σ H s)
  (h:te σ H fun x H1 => ∃ a C dx fs g,x = .ref a ∧ H1 a = some (.ins C dx fs) ∧ Cls X.K C ∧ Meth X.K C m g ∧ fs.lookup m = none ∧
   ∀ s1,Inv X pins σ H1 s1 → wpAny (model X.prog X.w) X.A (callWith pos (.ref g) [.ref a] (backTo pos (starEach args X.env)) (backToKw pos (keywordEach [] X.env))) Q X.xe s1)
  (ht:eval (.Call (.Attribute e m apos) args [] pos) X.env = (do
   let ov ← eval e X.env
   standAt apos.atName
   let (f,first) ← holding [ov] (getMethod ov m pl)
   callWith pos f first (backTo pos (starEach args X.env)) (backToKw pos (keywordEach [] X.env)))) :
  wpAny (model X.prog X.w) X.A (eval (.Call (.Attribute e m apos) args [] pos) X.env) Q X.xe s := by
 refine PySem.W.methodCall_KW (pl := pl) (thn (he pins s σ H _ I h) fun u s1 ⟨x,H1,I1,rx,a,C,dx,fs,g,ex,ea,c,k,l,q⟩ => ?_) ht
 subst ex
 obtain rfl:u = Value.ref a := rx
 exact getmeth_ok I1 ea c k l (q s1 I1)
end
section
variable {X:Cx} {pins:List (Addr × Obj)} {σ:St} {H:Hp} {s:Shared} {A:Around} {E:Value → Shared → Prop} {Q:Value → Shared → Prop} {c:Value} {b:Bool}
inductive TyOf (K:PySem.W.Frag) (H:Hp):V → Value → Prop where
 | non:TyOf K H .non (.type "NoneType")
 | bl (x:Bool):TyOf K H (.bl x) (.type "bool")
 | int (i:Int):TyOf K H (.int i) (.type "int")
 | str (x:Str):TyOf K H (.str x) (.type "str")
 | flt (x:UInt64):TyOf K H (.flt x) (.type "float")
 | lst {a:Addr} {xs:List V} (e:H a = some (.lst xs)):TyOf K H (.ref a) (.type "list")
 | frz {a:Addr} {o:Obj} {xs:List V} (e:H a = some (.frz o (.lst xs))):TyOf K H (.ref a) (.type "list")
 | tup {a:Addr} {xs:List V} (e:H a = some (.tup xs)):TyOf K H (.ref a) (.type "tuple")
 | dK {a:Addr} {kvs:List (Key × V)} (e:H a = some (.dK kvs)):TyOf K H (.ref a) (.type "dict")
 | dT {a:Addr} {kvs:List (List Key × V)} (e:H a = some (.dT kvs)):TyOf K H (.ref a) (.type "dict")
 | ins {a C dx:Addr} {fs:List (Str × V)} (e:H a = some (.ins C dx fs)) (cl:Cls K C) (ha:PySem.W.findIn K (.ref C) "__class__" = some (some (.builtin "object.__class__")))
   (hn:PySem.W.specialIn K (.builtin "object.__class__") "__get__" = some (some (.builtin "getset_descriptor.__get__"))) (htk:PySem.W.takesIn K (.builtin "object.__class__") = some true)
   (hm:PySem.W.mroIn K C (.type "object") = some true):TyOf K H (.ref a) (.ref C)
theorem isinst_ok {x:V} {u t:Value} (I:Inv X pins σ H s) (rx:RelV x u) (ty:TyOf X.K H x t) (e:PySem.W.kitOne X.K t c = some b) (h:∀ tk,Q (.bool b) { s with toks := tk }) :
  wpAny (model X.prog X.w) A (call (.builtin "isinstance") [u,c]) Q E s := by
 cases ty with
 | non => cases (show u = Value.none from rx); exact PySem.W.kia_one PySem.W.kitx_none I.kIn True.intro e (fun z => nomatch z) h
 | bl y => cases (show u = Value.bool y from rx); exact PySem.W.kia_one PySem.W.kitx_bool I.kIn True.intro e (fun z => nomatch z) h
 | int i => obtain ⟨t,q⟩ := (show ∃ t,u = Value.int i t from rx); cases q; exact PySem.W.kia_one PySem.W.kitx_int I.kIn True.intro e (fun z => nomatch z) h
 | str y => obtain ⟨t,q⟩ := (show ∃ t,u = Value.str y t from rx); cases q; exact PySem.W.kia_one PySem.W.kitx_str I.kIn True.intro e (fun z => nomatch z) h
 | flt y => obtain ⟨t,q⟩ := (show ∃ t,u = Value.float y t from rx); cases q; exact PySem.W.kia_one PySem.W.kitx_float I.kIn True.intro e (fun z => nomatch z) h
 | @lst a xs ea =>
  cases (show u = Value.ref a from rx)
  obtain ⟨_,_,n,_,h1⟩ := (show ObjOk X.prog X.w H s.heap a (.lst xs) from I.hok a _ ea)
  exact PySem.W.kia_one PySem.W.kitx_list I.kIn ⟨_,h1,rfl⟩ e (fun z => nomatch z) h
 | @frz a ob xs ea =>
  cases (show u = Value.ref a from rx)
  obtain ⟨_,_,_,n,_,h1⟩ := (show ObjOk X.prog X.w H s.heap a (.frz ob (.lst xs)) from I.hok a _ ea)
  exact PySem.W.kia_one PySem.W.kitx_list I.kIn ⟨_,h1,rfl⟩ e (fun z => nomatch z) h
 | @tup a xs ea =>
  cases (show u = Value.ref a from rx)
  obtain ⟨_,_,_,p⟩ := (show ObjOk X.prog X.w H s.heap a (.tup xs) from I.hok a _ ea)
  obtain ⟨o,h1,h2,_⟩ := p
  exact PySem.W.kia_one PySem.W.kitx_tuple I.kIn ⟨o,h1,h2⟩ e (fun z => nomatch z) h
 | @dK a kvs ea =>
  cases (show u = Value.ref a from rx)
  obtain ⟨_,_,vs,_,p⟩ := (show ObjOk X.prog X.w H s.heap a (.dK kvs) from I.hok a _ ea)
  obtain ⟨o,es,ep,h1,h2,_⟩ := p
  exact PySem.W.kia_one PySem.W.kitx_dict I.kIn ⟨o,h1,h2.1⟩ e (fun z => nomatch z) h
 | @dT a kvs ea =>
  cases (show u = Value.ref a from rx)
  obtain ⟨_,_,xs,_,o,es,ep,h1,h2,_⟩ := (show ObjOk X.prog X.w H s.heap a (.dT kvs) from I.hok a _ ea)
  exact PySem.W.kia_one PySem.W.kitx_dict I.kIn ⟨o,h1,h2.1⟩ e (fun z => nomatch z) h
 | @ins a C dx fs ea cl ha hn htk hm =>
  cases (show u = Value.ref a from rx)
  obtain ⟨mA,O,_⟩ := ins_get I.hok ea
  obtain ⟨od,J,_⟩ := O.look
  exact PySem.W.kia_one (PySem.W.kitx_own (cl.get _) cl.hd ha hn htk hm) I.kIn J e (fun z => nomatch z) h
end
end L2
namespace L2
open PySem PySem.Spec PyProof.Rows
structure Room (k:Nat) (A:Around):Prop where
 hd:A.handled = none
 dp:A.depth + 3 * k + 5 < recursionLimit
 un:A.units + 16 * k + 200 < cLine
theorem Room.mono {j k:Nat} {A:Around} (r:Room k A) (h:j ≤ k):Room j A := ⟨r.hd,by have := r.dp; omega,by have := r.un; omega⟩
theorem Room.deeper {k:Nat} {A:Around} (r:Room (k + 1) A) (env:Env):Room k (A.deeper env) :=
 ⟨r.hd,by have := r.dp; show A.depth + 1 + 3 * k + 5 < _; omega,by have := r.un; show A.units + 3 + 16 * k + 200 < _; omega⟩
theorem make_depth {A:Around} {C:Addr} {us:List Value} {kw:List (Str × Value)}:(A.under (.builtin "type.__call__" ⟨.ref C :: us,kw⟩)).depth = A.depth + 1 := by
 first | rfl | simp [Around.under,Code.weight,Code.isCreation,Code.isGuard,Code.isCaller,Code.frames,Code.isFrame,guardIds]
theorem make_units {A:Around} {C:Addr} {us:List Value} {kw:List (Str × Value)}:(A.under (.builtin "type.__call__" ⟨.ref C :: us,kw⟩)).units = A.units + 1 := by
 first | rfl | simp [Around.under,Code.cUnits,Code.frames,Code.isFrame]
theorem Room.make {k:Nat} {A:Around} (r:Room (k + 1) A) (C:Addr) (us:List Value) (kw:List (Str × Value)):Room k (A.under (.builtin "type.__call__" ⟨.ref C :: us,kw⟩)) :=
 ⟨r.hd,by have := r.dp; rw [make_depth]; omega,by have := r.un; rw [make_units]; omega⟩
theorem Room.depth {k:Nat} {A:Around} (r:Room k A):A.depth < recursionLimit := by have := r.dp; omega
theorem Room.units {k:Nat} {A:Around} (r:Room k A):A.units + 64 < cLine := by have := r.un; omega
noncomputable def tNil:TA := fun _ H Q => Q [] H
noncomputable def tCons (ta:TE) (tr:TA):TA := fun σ H Q => ta σ H fun x H1 => tr σ H1 fun xs H2 => Q (x :: xs) H2
section
variable {X:Cx} {e:Expr} {es:List Expr} {te:TE} {t:TA} {pos:Pos}
theorem pa_nil:PA X [] tNil := fun _ _ _ _ H Q I h => Calls.spliced_nil ⟨[],H,I,.nil,h⟩
theorem pa_cons (ha:PE X e te) (hr:PA X es t) (hs:starEach (e :: es) X.env = (false,eval e X.env) :: starEach es X.env := by rfl):PA X (e :: es) (tCons te t) := by
 intro pos pins s σ H Q I h
 rw [hs]
 show wpAny _ _ (spliced ((false,eval e X.env) :: backTo pos (starEach es X.env))) _ _ s
 refine Calls.spliced_cons (thn (ha pins s σ H _ I h) fun u s1 ⟨x,H1,I1,r1,q1⟩ => ?_)
 exact thn (hr pos pins s1 σ H1 _ I1 q1) fun us s2 ⟨xs,H2,I2,r2,q2⟩ => ⟨x :: xs,H2,I2,.cons r1 r2,q2⟩
noncomputable def tTup (t:TA):TE := fun σ H Q => t σ H fun xs H1 => xs.length ≤ sizeLine ∧ ∀ p,H1 p = none → Q (.ref p) (upd H1 p (.tup xs))
noncomputable def tLst (t:TA):TE := fun σ H Q => t σ H fun xs H1 => xs.length ≤ sizeLine ∧ ∀ p,H1 p = none → Q (.ref p) (upd H1 p (.lst xs))
theorem pe_tup {x1} (h:PA X es t):PE X (.Tuple es x1 pos) (tTup t) := by
 intro pins s σ H Q I hq
 refine wpAny_Tuple_spliced (thn (h pos pins s σ H _ I hq) fun us s1 ⟨xs,H1,I1,r,z,q⟩ => ⟨by rw [← r.length]; exact z,?_⟩)
 have hf:H1 s1.heap.objs.size = none := I1.hok.fresh (Nat.le_refl _)
 refine ⟨.ref s1.heap.objs.size,upd H1 s1.heap.objs.size (.tup xs),I1.laid (t' := s1.toks) (fun b u e => Heap.get?_push_of_some _ e) (Nat.le_refl _) ?_,rfl,q _ hf⟩
 exact ⟨z,us,r,⟨_,Heap.get?_push_size _ rfl,rfl,_,rfl⟩⟩
theorem pe_lst (h:PA X es t):PE X (.List es pos) (tLst t) := by
 intro pins s σ H Q I hq
 refine wpAny_List_spliced (thn (h pos pins s σ H _ I hq) fun us s1 ⟨xs,H1,I1,r,z,q⟩ => ⟨by rw [← r.length]; exact z,?_⟩)
 have hf:H1 s1.heap.objs.size = none := I1.hok.fresh (Nat.le_refl _)
 refine ⟨.ref s1.heap.objs.size,upd H1 s1.heap.objs.size (.lst xs),I1.laid (t' := s1.toks) (fun b u e => Heap.get?_push_of_some _ e) (Nat.le_refl _) ?_,rfl,q _ hf⟩
 exact ⟨z,us,0,r,Heap.get?_push_size _ rfl⟩
end
noncomputable abbrev Sp := List V → Hp → VK → XK → Prop
noncomputable abbrev CXT := List Env → Hp → Shared → XK → Value → Shared → Prop
structure Env0 (P:Program) (w:World) (K:PySem.W.Frag) (mg:Str → Option Value) (base:Heap) (A:Around) (outer:List Env) (s:Shared) (H:Hp):Prop where
 frames:A.frames = some outer
 mod:Mod K mg base
 bs:∀ b o,base.get? b = some o → s.heap.get? b = some o ∧ H b = none
 bsz:base.objs.size ≤ s.heap.objs.size
 funs:s.heap.FunFrames base outer
 frf:∀ b ∈ frs outer,H b = none
 hok:HOk P w H s.heap
 bare:AllBare s.gens
noncomputable def CE (outer:List Env) (P:Program) (w:World) (H:Hp) (s:Shared) (Q:VK) (u:Value) (s':Shared):Prop :=
 ∃ v H',s'.os = s.os ∧ AllBare s'.gens ∧ Un (frs outer) [] H H' s.heap s'.heap ∧ HOk P w H' s'.heap ∧ RelV v u ∧ Q v H'
noncomputable def CR (CX:CXT) (outer:List Env) (P:Program) (w:World) (H:Hp) (s:Shared) (Q:VK) (E:XK) (r:Result) (s':Shared):Prop :=
 match r with
 | .ok (.ret u) => CE outer P w H s Q u s'
 | .ok _ => False
 | .error e => CX outer H s E e s'
structure FnOk (P:Program) (w:World) (K:PySem.W.Frag) (mg:Str → Option Value) (base:Heap) (CX:CXT) (k:Nat) (f:Addr) (fd:FuncData) (ps:List Str) (sp:Sp):Prop where
 len:∀ vs H Q E,sp vs H Q E → vs.length = ps.length
 run:∀ (A:Around) (outer:List Env) (s:Shared) (H:Hp) (args:Args) (us:List Value) (vs:List V) (Q:VK) (E:XK),Room k A → Env0 P w K mg base A outer s H → BindsTo s fd args (ps.zip us) → Vals vs us → sp vs H Q E →
  codeAny (model P w) A (.call (.ref f) args) (CR CX outer P w H s Q E) s
theorem Env0.make {P:Program} {w:World} {K:PySem.W.Frag} {mg:Str → Option Value} {base:Heap} {A:Around} {outer:List Env} {s:Shared} {H:Hp} (e:Env0 P w K mg base A outer s H) (C:Addr) (us:List Value) (kw:List (Str × Value)) :
  Env0 P w K mg base (A.under (.builtin "type.__call__" ⟨.ref C :: us,kw⟩)) outer s H := ⟨by first | exact e.frames | (simpa [Around.under,Code.envs,Code.isFrame,pushEnvs] using e.frames),e.mod,e.bs,e.bsz,e.funs,e.frf,e.hok,e.bare⟩
section
variable {X:Cx} {pins:List (Addr × Obj)} {σ:St} {H:Hp} {s s':Shared}
theorem Inv.env0 (I:Inv X pins σ H s):Env0 X.prog X.w X.K X.mg X.base X.A X.stack s H :=
 ⟨I.ok.frames,I.ok.mod,I.bs,Nat.le_trans I.ok.bsz I.sz,I.stack,I.stkFree,I.hok,I.bare⟩
theorem Inv.after {Q:VK} {u:Value} (I:Inv X pins σ H s) (h:CE X.stack X.prog X.w H s Q u s'):EP X pins σ Q u s' := by
 obtain ⟨v,H',os,bare,un,hok,r,q⟩ := h
 obtain ⟨hh,g,d,t,os'⟩ := s'
 obtain rfl:os' = s.os := os
 exact ⟨v,H',I.call (h' := hh) (g' := g) (d' := d) (t' := t) (ch := []) un hok bare (fun b z => absurd z (by simp)),r,q⟩
end
noncomputable def tCall (sp:Sp) (dvs:List V) (E:XK) (t:TA):TE := fun σ H Q => t σ H fun vs H1 => sp (vs ++ dvs) H1 Q E
noncomputable def tMeth (C:Addr) (m:Str) (sp:Sp) (dvs:List V) (E:XK) (ta:TE) (t:TA):TE := fun σ H Q => ta σ H fun x H1 => ∃ a dx fs,x = .ref a ∧ H1 a = some (.ins C dx fs) ∧ fs.lookup m = none ∧
 t σ H1 fun vs H2 => sp (x :: (vs ++ dvs)) H2 Q E
noncomputable def tMake (C:Addr) (sp:Sp) (dvs:List V) (E:XK) (t:TA):TE := fun σ H Q => t σ H fun vs H1 => ∀ x dx,H1 x = none → H1 dx = none → dx ≠ x →
 sp (.ref x :: (vs ++ dvs)) (upd (upd H1 dx (.own x)) x (.ins C dx [])) (fun v H2 => v = .non ∧ Q (.ref x) H2) E
noncomputable def Binds (K:PySem.W.Frag) (fd:FuncData) (ps:List Str) (ds:List Value):Prop :=
 ∀ (s:Shared) (us:List Value),K.In s.heap → (us ++ ds).length = ps.length → BindsTo s fd ⟨us,[]⟩ (ps.zip (us ++ ds))
theorem Binds.all {K:PySem.W.Frag} {fd:FuncData} {ps:List Str} (h:∀ us:List Value,us.length = ps.length → bindArgs fd ⟨us,[]⟩ = pure (ps.zip us)):Binds K fd ps [] := fun s us _ hl => by
 rw [List.append_nil] at hl ⊢
 exact .of_eq (h us hl)
noncomputable def Passes (CX:CXT) (X:Cx) (E:XK):Prop := ∀ (pins:List (Addr × Obj)) (σ:St) (H:Hp) (s:Shared) (e:Value) (s':Shared),Inv X pins σ H s → CX X.stack H s E e s' → X.xe e s'
section
variable {X:Cx} {CX:CXT} {k:Nat} {f C:Addr} {fd:FuncData} {ps:List Str} {sp:Sp} {dvs:List V} {ds:List Value} {E:XK} {x m:Str} {p pos apos:Pos} {e o:Expr} {es:List Expr} {ta:TE} {t:TA}
theorem run_fn {pins:List (Addr × Obj)} {σ:St} {H:Hp} {s:Shared} {Q:VK} {us:List Value} {vs:List V} (F:FnOk X.prog X.w X.K X.mg X.base CX k f fd ps sp) (hr:Room k X.A) (hb:Binds X.K fd ps ds) (hd:Vals dvs ds) (hx:Passes CX X E)
  (I:Inv X pins σ H s) (r:Vals vs us) (h:sp (vs ++ dvs) H Q E):wpAny (model X.prog X.w) X.A (call (.ref f) us) (EP X pins σ Q) X.xe s := by
 have r2:Vals (vs ++ dvs) (us ++ ds) := r.append hd
 have hl:(us ++ ds).length = ps.length := by rw [← r2.length]; exact F.len _ _ _ _ h
 refine wpAny_call (codeAny_mono (F.run X.A X.stack s H ⟨us,[]⟩ (us ++ ds) (vs ++ dvs) Q E hr I.env0 (hb s us I.kIn hl) r2 h) fun r s' hq => ?_)
 cases r with
 | error e => exact hx pins σ H s e s' I hq
 | ok fl =>
  cases fl with
  | ret u => exact I.after hq
  | next => exact False.elim hq
  | brk => exact False.elim hq
  | cont => exact False.elim hq
theorem pe_call (F:FnOk X.prog X.w X.K X.mg X.base CX k f fd ps sp) (hr:Room k X.A) (hg:Gl X x) (hm:X.mg x = some (.ref f)) (hk:PySem.W.keepIn X.K (.ref f) = true) (hb:Binds X.K fd ps ds) (hd:Vals dvs ds) (hx:Passes CX X E)
  (ha:PA X (e :: es) t) (hdb:(x == ("__debug__":Str)) = false := by decide) (he:starEach (e :: es) X.env = (false,eval e X.env) :: starEach es X.env := by rfl) (hpl:(backTo pos (starEach es X.env)).any (·.1) = false := by rfl) :
  PE X (.Call (.Name x p) (e :: es) [] pos) (tCall sp dvs E t) := by
 intro pins s σ H Q I h
 refine wpAny_Call_Name_kw (ld_glob I hg hm ?_ hdb)
 refine PySem.W.callWith_K (h₀ := X.base) I.ok.mod.kin hk (thn (ha pos pins s σ H _ I h) fun us s1 ⟨vs,H1,I1,r,q⟩ => ⟨I1.kIn,?_⟩) he hpl
 exact run_fn F hr hb hd hx I1 r q
theorem pe_meth {pl:Sem Bool} (he:PE X o ta) (c:Cls X.K C) (hm:Meth X.K C m f) (F:FnOk X.prog X.w X.K X.mg X.base CX k f fd ps sp) (hr:Room k X.A) (hb:Binds X.K fd ps ds) (hd:Vals dvs ds) (hx:Passes CX X E) (ha:PA X (e :: es) t)
  (hst:starEach (e :: es) X.env = (false,eval e X.env) :: starEach es X.env := by rfl) (hpl:(backTo pos (starEach es X.env)).any (·.1) = false := by rfl)
  (ht:eval (.Call (.Attribute o m apos) (e :: es) [] pos) X.env = (do
   let ov ← eval o X.env
   standAt apos.atName
   let (f,first) ← holding [ov] (getMethod ov m pl)
   callWith pos f first (backTo pos (starEach (e :: es) X.env)) (backToKw pos (keywordEach [] X.env))) := by rfl) :
  PE X (.Call (.Attribute o m apos) (e :: es) [] pos) (tMeth C m sp dvs E ta t) := by
 intro pins s σ H Q I h
 refine PySem.W.methodCall_KW (pl := pl) (thn (he pins s σ H _ I h) fun u s1 ⟨x,H1,I1,rx,a,dx,fs,ex,ea,l,q⟩ => ?_) ht
 subst ex
 obtain rfl:u = Value.ref a := rx
 refine getmeth_ok I1 ea c hm l ?_
 refine PySem.W.callWith_K (first := [.ref a]) (h₀ := X.base) I.ok.mod.kin hm.kp (thn (ha pos pins s1 σ H1 _ I1 q) fun us s2 ⟨vs,H2,I2,r,q2⟩ => ⟨I2.kIn,?_⟩) hst hpl
 exact run_fn (us := .ref a :: us) (vs := .ref a :: vs) F hr hb hd hx I2 (.cons rfl r) q2
structure Mk (K:PySem.W.Frag) (C f:Addr):Prop where
 makes:PySem.W.makesIn K C = true
 init:PySem.W.findIn K (.ref C) "__init__" = some (some (.ref f))
 fn:PySem.W.isFn K (.ref f) = true
 kp:PySem.W.keepIn K (.ref C) = true
theorem run_make {pins:List (Addr × Obj)} {σ:St} {H:Hp} {s:Shared} {Q:VK} {us:List Value} {vs:List V} (M:Mk X.K C f) (F:FnOk X.prog X.w X.K X.mg X.base CX k f fd ps sp) (hr:Room (k + 1) X.A) (hb:Binds X.K fd ps ds) (hd:Vals dvs ds)
  (hx:Passes CX X E) (I:Inv X pins σ H s) (r:Vals vs us)
  (h:∀ x dx,H x = none → H dx = none → dx ≠ x → sp (.ref x :: (vs ++ dvs)) (upd (upd H dx (.own x)) x (.ins C dx [])) (fun v H2 => v = .non ∧ Q (.ref x) H2) E) :
  wpAny (model X.prog X.w) X.A (call (.ref C) us) (EP X pins σ Q) X.xe s := by
 have hq := h (s.heap.objs.size + 1) s.heap.objs.size (I.hok.fresh (Nat.le_succ _)) (I.hok.fresh (Nat.le_refl _)) (Nat.ne_of_lt (Nat.lt_succ_self _))
 have I2 := Inv.made (C := C) I
 have r2:Vals (V.ref (s.heap.objs.size + 1) :: (vs ++ dvs)) (Value.ref (s.heap.objs.size + 1) :: (us ++ ds)) := .cons rfl (r.append hd)
 have hl:(Value.ref (s.heap.objs.size + 1) :: us ++ ds).length = ps.length := by
  have e := r2.length
  rw [F.len _ _ _ _ hq] at e
  exact e.symm
 refine wpAny_call (make_map (f := f) I.kIn M.makes M.init (beq_iff_eq.mp M.fn) (codeAny_mono (F.run _ X.stack _ _ ⟨Value.ref (s.heap.objs.size + 1) :: us,[]⟩ (Value.ref (s.heap.objs.size + 1) :: (us ++ ds)) _ _ E (hr.make C us [])
  (I2.env0.make C us []) (hb _ (Value.ref (s.heap.objs.size + 1) :: us) I2.kIn hl) r2 hq) fun r s' hq' => ?_))
 cases r with
 | error e => exact hx pins σ _ _ e s' I2 hq'
 | ok fl =>
  cases fl with
  | ret u =>
   obtain ⟨v,H',I3,rv,ev,q3⟩ := I2.after hq'
   subst ev
   exact ⟨rv,⟨V.ref (s.heap.objs.size + 1),H',I3,rfl,q3⟩⟩
  | next => exact False.elim hq'
  | brk => exact False.elim hq'
  | cont => exact False.elim hq'
theorem pe_make (M:Mk X.K C f) (F:FnOk X.prog X.w X.K X.mg X.base CX k f fd ps sp) (hr:Room (k + 1) X.A) (hg:Gl X x) (hm:X.mg x = some (.ref C)) (hb:Binds X.K fd ps ds) (hd:Vals dvs ds) (hx:Passes CX X E)
  (ha:PA X (e :: es) t) (hdb:(x == ("__debug__":Str)) = false := by decide) (he:starEach (e :: es) X.env = (false,eval e X.env) :: starEach es X.env := by rfl) (hpl:(backTo pos (starEach es X.env)).any (·.1) = false := by rfl) :
  PE X (.Call (.Name x p) (e :: es) [] pos) (tMake C sp dvs E t) := by
 intro pins s σ H Q I h
 refine wpAny_Call_Name_kw (ld_glob I hg hm ?_ hdb)
 refine PySem.W.callWith_K (h₀ := X.base) I.ok.mod.kin M.kp (thn (ha pos pins s σ H _ I h) fun us s1 ⟨vs,H1,I1,r,q⟩ => ⟨I1.kIn,?_⟩) he hpl
 exact run_make M F hr hb hd hx I1 r q
end
section
variable {X:Cx} {CX:CXT} {k:Nat} {f C:Addr} {fd:FuncData} {ps ks:List Str} {sp:Sp} {E:XK} {x m:Str} {p pos apos kpos:Pos} {e o:Expr} {es:List Expr} {kws:List Keyword} {te ta:TE} {t tk:TA} {nm:Option Str}
variable {g:List Value → List Value → List Value} {gV:List V → List V → List V}
end
structure FnScope (N P:List Str) (sc:Scope):Prop where
 kind:sc.kind = .function
 co:sc.isCoroutine = false
 gen:sc.isGenerator = false
 nd:N.Nodup
 pre:N.take P.length = P
 par:∀ x ∈ P,sc.names.lookup x = some .local ∨ sc.names.lookup x = some .cell
 nofree:∀ y ∈ sc.names,y.2 ≠ .free
theorem bindL_out {kindOf:Str → Option NameKind} {x:Str}:∀ {binds:List (Str × Value)} {m:Str → Option Value},(∀ v,(x,v) ∉ binds) → bindL kindOf binds m x = m x
 | [],_,_ => rfl
 | (n,v) :: r,m,h => by
  unfold bindL
  rw [bindL_out fun w hw => h w (List.mem_cons_of_mem _ hw)]
  split
  ·have:x ≠ n := by rintro rfl; exact h v List.mem_cons_self
   simp [this]
  ·rfl
theorem bindC_out {kindOf:Str → Option NameKind} {x:Str}:∀ {binds:List (Str × Value)} {m:Str → Option Value},(∀ v,(x,v) ∉ binds) → bindC kindOf binds m x = m x
 | [],_,_ => rfl
 | (n,v) :: r,m,h => by
  unfold bindC
  rw [bindC_out fun w hw => h w (List.mem_cons_of_mem _ hw)]
  split
  ·rfl
  ·have:x ≠ n := by rintro rfl; exact h v List.mem_cons_self
   simp [this]
theorem bindL_get {kindOf:Str → Option NameKind} {x:Str} {v:Value}:∀ {P:List Str} {vs:List Value} {i:Nat} {m:Str → Option Value},P.Nodup → P[i]? = some x → vs[i]? = some v → kindOf x = some .local →
  bindL kindOf (P.zip vs) m x = some v
 | [],_,_,_,_,h,_,_ => by simp at h
 | _ :: _,[],_,_,_,_,h,_ => by simp at h
 | p :: P,w :: vs,0,m,nd,h1,h2,hk => by
  simp at h1 h2; subst h1; subst h2
  show bindL kindOf ((p,w) :: P.zip vs) m p = _
  unfold bindL
  rw [bindL_out fun v hv => (List.nodup_cons.mp nd).1 (List.of_mem_zip hv).1,if_pos hk]
  simp
 | p :: P,w :: vs,i + 1,m,nd,h1,h2,hk => by
  show bindL kindOf ((p,w) :: P.zip vs) m x = _
  unfold bindL
  exact bindL_get (i := i) (List.nodup_cons.mp nd).2 (by simpa using h1) (by simpa using h2) hk
theorem bindC_get {kindOf:Str → Option NameKind} {x:Str} {v:Value}:∀ {P:List Str} {vs:List Value} {i:Nat} {m:Str → Option Value},P.Nodup → P[i]? = some x → vs[i]? = some v → kindOf x ≠ some .local →
  bindC kindOf (P.zip vs) m x = some v
 | [],_,_,_,_,h,_,_ => by simp at h
 | _ :: _,[],_,_,_,_,h,_ => by simp at h
 | p :: P,w :: vs,0,m,nd,h1,h2,hk => by
  simp at h1 h2; subst h1; subst h2
  show bindC kindOf ((p,w) :: P.zip vs) m p = _
  unfold bindC
  rw [bindC_out fun v hv => (List.nodup_cons.mp nd).1 (List.of_mem_zip hv).1,if_neg hk]
  simp
 | p :: P,w :: vs,i + 1,m,nd,h1,h2,hk => by
  show bindC kindOf ((p,w) :: P.zip vs) m x = _
  unfold bindC
  exact bindC_get (i := i) (List.nodup_cons.mp nd).2 (by simpa using h1) (by simpa using h2) hk
noncomputable def start (N:List Str) (vs:List V):St := vs.map some ++ List.replicate (N.length - vs.length) none
noncomputable def cxOf (CX:CXT) (P:Program) (w:World) (K:PySem.W.Frag) (mg:Str → Option Value) (base:Heap) (N:List Str) (qual:Str) (scope:Scope) (f:Addr) (cd:Value) (A:Around) (outer:List Env) (s:Shared) (H:Hp) (E:XK):Cx where
 prog := P
 w := w
 K := K
 mg := mg
 base := base
 A := A.deeper (envOfC qual scope s.heap.objs.size f cd)
 N := N
 s₀ := s
 H₀ := H
 env := envOfC qual scope s.heap.objs.size f cd
 outer := outer
 stack := envOfC qual scope s.heap.objs.size f cd :: outer
 ex := []
 calm := true
 fn := fun _ => true
 pn := []
 xe := fun e s' => wpAny (model P w) (A.deeper (envOfC qual scope s.heap.objs.size f cd)) (leaving (envOfC qual scope s.heap.objs.size f cd) e) (fun _ s'' => CX outer H s E e s'') (fun e' s'' => CX outer H s E e' s'') s'
theorem cell_has {sc:Scope} {n:Nat} {x:Str} (h:sc.names.lookup x = some .cell):∃ c,(cellsFrom n sc.names []).lookup x = some c := by
 have q := PySem.W.cellsFrom_some sc.names n [] (.inl h)
 exact Option.isSome_iff_exists.mp q
theorem inv_start {CX:CXT} {P:Program} {w:World} {K:PySem.W.Frag} {mg:Str → Option Value} {base:Heap} {N ps:List Str} {qual:Str} {scope:Scope} {f:Addr} {cd:Value} {A:Around} {outer:List Env} {s s1:Shared} {H:Hp} {E:XK} {us:List Value} {vs:List V}
  (S:FnScope N ps scope) (hd:A.handled = none) (e0:Env0 P w K mg base A outer s H) (hl:vs.length = ps.length) (r:Vals vs us)
  (x:InCallC s s.heap.objs.size (bindL (envOfC qual scope s.heap.objs.size f cd).kindOf (ps.zip us) fun _ => none) (cellsFrom (s.heap.objs.size + 1) scope.names []) (bindC (envOfC qual scope s.heap.objs.size f cd).kindOf (ps.zip us) fun _ => none) s1) :
  Inv (cxOf CX P w K mg base N qual scope f cd A outer s H E) [] (start N vs) H s1 := by
 have hpl:ps.length ≤ N.length := by have := congrArg List.length S.pre; rw [List.length_take] at this; omega
 obtain ⟨h1,tk,rfl,hk⟩ := x.done
 have noA:∀ b:Addr,b ∉ (cxOf CX P w K mg base N qual scope f cd A outer s H E).ex := fun b z => absurd (show b ∈ ([]:List Addr) from z) (by simp)
 refine ⟨⟨e0.mod,S.kind,rfl,rfl,Nat.le_refl _,fun y z c h1 h2 => ?_,fun y hy => ?_,fun y c _ h => ?_,fun _ => hd,Around.frames_deeper e0.frames,.inr ⟨rfl,rfl⟩,fun b z => absurd z (noA b),e0.bs,e0.bsz,fun b _ _ => noA b,fun b z => absurd z (noA b),e0.funs,e0.frf⟩,
  rfl,e0.bare,Un.kept hk,⟨_,x.toInCall.ns,fun i y v h1 h2 h3 => ?_⟩,fun y c h => ⟨_,x.cell y c h⟩,e0.hok.fresh (Nat.le_refl _),fun y c h => ?_,fun p hp => absurd (show p ∈ ([]:List (Addr × Obj)) from hp) (by simp),e0.hok.kept hk,?_⟩
 ·exact name_of_addr x.apart (PySem.mem_of_lookup h1) (PySem.mem_of_lookup h2)
 ·have hy:scope.names.lookup y = some .cell ∨ scope.names.lookup y = some .free := hy
  rcases hy with hy | hy
  ·exact cell_has hy
  ·exact absurd rfl (S.nofree _ (PySem.mem_of_lookup hy))
 ·exact Nat.le_of_lt (x.above y c (PySem.mem_of_lookup h))
 ·have hi:i < vs.length := by
   unfold start at h2
   by_cases hi:i < vs.length
   ·exact hi
   ·rw [List.getElem?_append_right (by simpa using hi)] at h2
    rw [List.getElem?_replicate] at h2
    split at h2 <;> cases h2
  have ha:vs[i]? = some v := by
   unfold start at h2
   rw [List.getElem?_append_left (by simpa using hi),List.getElem?_map] at h2
   cases e:vs[i]? with
   | none => rw [e] at h2; cases h2
   | some a => rw [e] at h2; cases h2; rfl
  obtain ⟨u,hu,rv⟩ := r.get ha
  have hp:ps[i]? = some y := by
   rw [← S.pre,List.getElem?_take_of_lt (by omega)]; exact h1
  have ndP:ps.Nodup := by rw [← S.pre]; exact S.nd.sublist (List.take_sublist _ _)
  refine ⟨u,rv,?_⟩
  rcases S.par y (List.mem_of_getElem? hp) with k | k
  ·exact .inl ⟨k,bindL_get ndP hp hu k⟩
  ·obtain ⟨c,e⟩ := cell_has (n := s.heap.objs.size + 1) k
   refine .inr ⟨.inl k,c,e,?_⟩
   have q := x.cell y c e
   rw [bindC_get ndP hp hu (by show scope.names.lookup y ≠ _; rw [k]; decide)] at q
   exact q
 ·exact e0.hok.fresh (Nat.le_of_lt (x.above y c (PySem.mem_of_lookup h)))
 ·unfold start
  show _ = N.length
  rw [List.length_append,List.length_map,List.length_replicate]
  omega
theorem fn_of {CX:CXT} {P:Program} {w:World} {K:PySem.W.Frag} {mg:Str → Option Value} {base:Heap} {k:Nat} {f:Addr} {name qual:Str} {params:Arguments} {body:List Stmt} {scope:Scope} {dV kV doc pm cdv ct oc:Value} {an od:Option Addr}
  {osl:Array (Option Value)} {N ps:List Str} {sp:Sp} (lk:K.lookup f = some ⟨oc,od,.func (PySem.W.fnOf name qual params body scope dV kV doc pm an cdv ct),osl⟩) (hcd:PySem.W.codeIn K cdv qual = true) (S:FnScope N ps scope)
  (len:∀ vs H Q E,sp vs H Q E → vs.length = ps.length)
  (hbody:∀ (A:Around) (outer:List Env) (s:Shared) (H:Hp) (vs:List V) (Q:VK) (E:XK),Room k (A.deeper (envOfC qual scope s.heap.objs.size f cdv)) → sp vs H Q E →
   ∃ t,PSs (cxOf CX P w K mg base N qual scope f cdv A outer s H E) body t ∧ t { nx := fun _ H' => Q .non H',rt := Q } (start N vs) H) :
  FnOk P w K mg base CX (k + 1) f (PySem.W.fnOf name qual params body scope dV kV doc pm an cdv ct) ps sp := by
 refine ⟨len,fun A outer s H args us vs Q E hr e0 hb r hsp => ?_⟩
 have hl := len _ _ _ _ hsp
 have KX:K.In s.heap := e0.mod.kin.keeps fun b o e => (e0.bs b o e).1
 have lim:s.heap.NoLimit := e0.mod.nolimit.keeps fun b o e => (e0.bs b o e).1
 have hkind:∀ y ∈ ps.zip us,scope.names.lookup y.1 = some .local ∨ (scope.names.lookup y.1 = some .cell ∧ ((cellsFrom (s.heap.objs.size + 1) scope.names []).lookup y.1).isSome = true) := fun ⟨n,v⟩ hy => by
  rcases S.par n (List.of_mem_zip hy).1 with q | q
  ·exact .inl q
  ·exact .inr ⟨q,PySem.W.cellsFrom_some _ _ _ (.inl q)⟩
 refine codeAny_call_function hr.depth (KX _ _ lk) rfl S.co S.gen rfl (PySem.W.codeRec_of KX hcd) (hb _ _ _ _ ?_)
 refine wpAny_newFunctionEnv_cells S.kind hkind fun env he s1 x => ?_
 subst he
 refine ⟨lim.keeps x.toInCall.keep,codeAny_func ?_⟩
 obtain ⟨t,ht,hq⟩ := hbody A outer s H vs Q E (hr.deeper _) hsp
 have I:Inv (cxOf CX P w K mg base N qual scope f cdv A outer s H E) [] (start N vs) H s1 := inv_start S hr.hd e0 hl r x
 refine wpAny_mono (ht [] s1 (start N vs) H _ I hq) (fun fl s' hs => ?_) fun e s' hs => hs
 have fin:∀ {σ':St} {H':Hp} {v:V} {u:Value},Inv (cxOf CX P w K mg base N qual scope f cdv A outer s H E) [] σ' H' s' → RelV v u → Q v H' → CE outer P w H s Q u s' :=
  fun {σ' H' v u} J rv q => ⟨v,H',J.os,J.bare,J.base,J.hok,rv,q⟩
 cases fl with
 | ret u =>
  obtain ⟨v,σ',H',J,rv,q⟩ := hs
  exact fin J rv q
 | next =>
  obtain ⟨σ',H',J,q⟩ := hs
  exact fin (v := V.non) (u := Value.none) J rfl q
 | brk =>
  obtain ⟨_,_,_,q⟩ := hs
  exact False.elim q
 | cont =>
  obtain ⟨_,_,_,q⟩ := hs
  exact False.elim q
end L2
namespace L2
open PySem PySem.Spec PyProof.Rows
section
variable {X:Cx} {x:Str} {p pos:Pos} {e:Expr} {es:List Expr} {t:TA} {id T:String} {r:List V → Hp → VK → Prop}
noncomputable def tCB (r:List V → Hp → VK → Prop) (t:TA):TE := fun σ H Q => t σ H fun vs H1 => r vs H1 Q
theorem pe_callB (hc:CallR X (.builtin id) r) (hg:Gl X x) (hm:X.mg x = none) (hv:bootBuiltins x = some (.builtin id)) (ha:PA X (e :: es) t) (hn:x ≠ "__name__" := by decide) (hdb:(x == ("__debug__":Str)) = false := by decide)
  (he:starEach (e :: es) X.env = (false,eval e X.env) :: starEach es X.env := by rfl) (hpl:(backTo pos (starEach es X.env)).any (·.1) = false := by rfl):PE X (.Call (.Name x p) (e :: es) [] pos) (tCB r t) := by
 intro pins s σ H Q I h
 refine wpAny_Call_Name_kw (ld_blt I hg hm hv ?_ hn hdb)
 exact PyProof.Rows.callWith_builtin1 (thn (ha pos pins s σ H _ I h) fun us s1 ⟨vs,H1,I1,r1,q1⟩ => hc pins s1 σ H1 vs us Q I1 r1 q1) he hpl
theorem pe_callTy (hc:CallR X (.type T) r) (hg:Gl X x) (hm:X.mg x = none) (hv:bootBuiltins x = some (.type T)) (ha:PA X (e :: es) t) (hn:x ≠ "__name__" := by decide) (hdb:(x == ("__debug__":Str)) = false := by decide)
  (he:starEach (e :: es) X.env = (false,eval e X.env) :: starEach es X.env := by rfl) (hpl:(backTo pos (starEach es X.env)).any (·.1) = false := by rfl):PE X (.Call (.Name x p) (e :: es) [] pos) (tCB r t) := by
 intro pins s σ H Q I h
 refine wpAny_Call_Name_kw (ld_blt I hg hm hv ?_ hn hdb)
 exact PyProof.Rows.callWith_type1 (thn (ha pos pins s σ H _ I h) fun us s1 ⟨vs,H1,I1,r1,q1⟩ => hc pins s1 σ H1 vs us Q I1 r1 q1) he hpl
end
end L2
namespace HT
open PySem PyProof.Rows
section
open PySem.SeqAt
open PySem.AutoSeq1 (wpAny_loadPart')
open PySem.MeetsSeq PySem.MeetsSeq2 PySem.MeetsSeq3
end
section
variable {prog:Program} {w:World} {A:Around} {E:Value → Shared → Prop} {s:Shared}
noncomputable def sIx (n d:Nat):Option Int → Nat
 | none => d
 | some v => if v < 0 then (v + (n:Int)).toNat else min v.toNat n
theorem sIx_none (n d:Nat):sIx n d none = d := rfl
theorem sIx_nat (n d k:Nat):sIx n d (some (k:Int)) = min k n := by
 show (if (k:Int) < 0 then ((k:Int) + (n:Int)).toNat else min (k:Int).toNat n) = min k n
 rw [if_neg (by omega),Int.toNat_natCast]
end
end HT
namespace L2
open PySem PySem.Spec PyProof.Rows
noncomputable abbrev TO := St → Hp → (Option Int → Hp → Prop) → Prop
noncomputable def PO (X:Cx) (e:Option Expr) (t:TO):Prop :=
 ∀ (pins:List (Addr × Obj)) (s:Shared) (σ:St) (H:Hp) (Q:Option Int → Hp → Prop),Inv X pins σ H s → t σ H Q →
  wpAny (model X.prog X.w) X.A (evalPart e X.env) (fun u s' => ∃ o H',Inv X pins σ H' s' ∧ IsPart u o ∧ Q o H') X.xe s
noncomputable def tNoPart:TO := fun _ H Q => Q none H
noncomputable def tPart (t:TE):TO := fun σ H Q => t σ H fun x H1 => ∃ i,x = .int i ∧ Q (some i) H1
section
variable {X:Cx} {e:Expr} {te:TE} {lo hi:Option Expr} {tl th:TO} {pos p2:Pos}
theorem po_none:PO X none tNoPart := by
 intro pins s σ H Q I h
 rw [evalPart_none]
 exact wpAny_pure ⟨none,H,I,.none,h⟩
theorem po_some (h:PE X e te):PO X (some e) (tPart te) := by
 intro pins s σ H Q I hw
 rw [evalPart_some]
 refine thn (h pins s σ H _ I hw) fun u s1 ⟨x,H1,I1,r1,q1⟩ => ?_
 obtain ⟨i,rfl,q⟩ := q1
 obtain ⟨t,rfl⟩ := r1
 exact ⟨some i,H1,I1,.int i t,q⟩
noncomputable def SlR (X:Cx) (r:V → Option Int → Option Int → Hp → VK → Prop):Prop :=
 ∀ (pins:List (Addr × Obj)) (s:Shared) (σ:St) (H:Hp) (x:V) (v vl vu:Value) (lo hi:Option Int) (sl:Addr) (Q:VK),Inv X pins σ H s → RelV x v → s.heap.IsSliceOf sl vl vu .none → IsPart vl lo → IsPart vu hi → r x lo hi H Q →
  ∃ T id,typeLookup (.type T) "__getitem__" = pure (some (.builtin id)) ∧ s.TypeIs v T ∧ wpAny (model X.prog X.w) X.A (getItem v (.ref sl)) (EP X pins σ Q) X.xe s
noncomputable def tSl (r:V → Option Int → Option Int → Hp → VK → Prop) (te:TE) (tl th:TO):TE := fun σ H Q => te σ H fun x H1 => tl σ H1 fun l H2 => th σ H2 fun u H3 => r x l u H3 Q
theorem pe_slice {r:V → Option Int → Option Int → Hp → VK → Prop} (hr:SlR X r) (he:PE X e te) (hl:PO X lo tl) (hu:PO X hi th):PE X (.Subscript e (.Slice lo hi none p2) pos) (tSl r te tl th) := by
 intro pins s σ H Q I h
 refine Subscript_ (thn (he pins s σ H _ I h) fun v s1 ⟨x,H1,I1,r1,q1⟩ => ?_)
 refine wpAny_Slice (thn (hl pins s1 σ H1 _ I1 q1) fun vl s2 ⟨l,H2,I2,pl,q2⟩ => thn (hu pins s2 σ H2 _ I2 q2) fun vu s3 ⟨u,H3,I3,pu,q3⟩ => ?_)
 rw [evalPart_none]
 refine wpAny_pure ?_
 have I4:Inv X pins σ H3 { s3 with heap := s3.heap.push { cls := .type "slice",data := .fields #[vl,vu,.none] } } := I3.kept (t' := s3.toks) fun b ob q => Heap.get?_push_of_some _ q
 obtain ⟨T,id,hT,ht,hg⟩ := hr pins { s3 with heap := s3.heap.push { cls := .type "slice",data := .fields #[vl,vu,.none] } } σ H3 x v vl vu l u s3.heap.objs.size Q I4 r1 (Heap.IsSliceOf.new ..) pl pu q3
 show wpAny (model X.prog X.w) X.A (subscriptTail e (.Slice lo hi none p2) v (.ref s3.heap.objs.size)) (EP X pins σ Q) X.xe { s3 with heap := s3.heap.push { cls := .type "slice",data := .fields #[vl,vu,.none] } }
 exact tail_any (ops := [.ref s3.heap.objs.size,v]) ht hT hg (by with_unfolding_all rfl)
noncomputable def cutV (xs:List V) (lo hi:Option Int):List V := (xs.drop (HT.sIx xs.length 0 lo)).take (HT.sIx xs.length xs.length hi - HT.sIx xs.length 0 lo)
theorem cutV_length (xs:List V) (lo hi:Option Int):(cutV xs lo hi).length ≤ xs.length := by
 unfold cutV
 rw [List.length_take,List.length_drop]
 omega
end
end L2
namespace L2
open PySem PySem.Spec PyProof.Rows
noncomputable def ixN (n:Nat) (i:Int):Option Nat := if 0 ≤ i then (if i < n then some i.toNat else none) else if -(n:Int) ≤ i then some (i + n).toNat else none
noncomputable def atI {α:Type} (xs:List α) (i:Int):Option α := (ixN xs.length i).bind fun j => xs[j]?
theorem ixN_seq {n:Nat} {i:Int} {j:Nat} (h:ixN n i = some j):seqIndex? i n = some j ∧ j < n ∧ -(n:Int) ≤ i ∧ i < n := by
 unfold ixN at h
 by_cases h0:0 ≤ i
 ·rw [if_pos h0] at h
  by_cases h1:i < n
  ·rw [if_pos h1] at h
   have e:i.toNat = j := Option.some.inj h
   exact ⟨by rw [seqIndex_of h0 h1,e],by omega,by omega,h1⟩
  ·rw [if_neg h1] at h; cases h
 ·rw [if_neg h0] at h
  by_cases h1:-(n:Int) ≤ i
  ·rw [if_pos h1] at h
   have e:(i + n).toNat = j := Option.some.inj h
   exact ⟨by rw [seqIndex_neg (by omega) h1,e],by omega,h1,by omega⟩
  ·rw [if_neg h1] at h; cases h
theorem atI_get {α:Type} {xs:List α} {i:Int} {v:α} (h:atI xs i = some v):∃ j,seqIndex? i xs.length = some j ∧ xs[j]? = some v ∧ j < xs.length ∧ -(xs.length:Int) ≤ i ∧ i < xs.length := by
 unfold atI at h
 cases e:ixN xs.length i with
 | none => rw [e] at h; cases h
 | some j =>
  rw [e] at h
  obtain ⟨h1,h2,h3,h4⟩ := ixN_seq e
  exact ⟨j,h1,h,h2,h3,h4⟩
theorem atI_nat {α:Type} {xs:List α} {j:Nat} {v:α} (h:xs[j]? = some v):atI xs (j:Int) = some v := by
 have hj:j < xs.length := (List.getElem?_eq_some_iff.mp h).1
 have e:ixN xs.length (j:Int) = some j := by
  unfold ixN
  rw [if_pos (by omega),if_pos (by omega)]; simp
 unfold atI; rw [e]; exact h
noncomputable def PlainIx (b:Expr):Prop := ∀ o i,subscripted b false o i = operate [o,i] (getItem o i)
noncomputable def IxR (X:Cx) (r:R2):Prop :=
 ∀ (value slice:Expr) (pins:List (Addr × Obj)) (s:Shared) (σ:St) (H:Hp) (x y:V) (v u:Value) (Q:VK),Inv X pins σ H s → RelV x v → RelV y u → r x y H Q →
  subscripted slice false v u = operate [v,u] (getItem v u) → wpAny (model X.prog X.w) X.A (subscriptTail value slice v u) (EP X pins σ Q) X.xe s
noncomputable def MtR (X:Cx) (id:String) (r:V → List V → Hp → VK → Prop):Prop :=
 ∀ (pins:List (Addr × Obj)) (s:Shared) (σ:St) (H:Hp) (x:V) (xs:List V) (v:Value) (us:List Value) (Q:VK),Inv X pins σ H s → RelV x v → Vals xs us → r x xs H Q →
  wpAny (model X.prog X.w) X.A (call (.builtin id) (v :: us)) (EP X pins σ Q) X.xe s
section
variable {X:Cx} {a b:Expr} {ta tb:TE} {pos:Pos}
theorem pe_ix {r:R2} (hr:IxR X r) (ha:PE X a ta) (hb:PE X b tb) (hs:PlainIx b):PE X (.Subscript a b pos) (tOp r ta tb) := by
 intro pins s σ H Q I h
 exact Subscript_ (binT ha hb I h fun v u s2 x y H2 I2 rx ry q => hr a b pins s2 σ H2 x y v u Q I2 rx ry q (hs _ _))
noncomputable def rIxL (K:PySem.W.Frag):R2 := fun x y H Q => ∃ p xs i v,x = .ref p ∧ y = .int i ∧ SqL K H p xs ∧ atI xs i = some v ∧ Q v H
noncomputable def rIxT (K:PySem.W.Frag):R2 := fun x y H Q => ∃ p xs i v,x = .ref p ∧ y = .int i ∧ SqT K H p xs ∧ atI xs i = some v ∧ Q v H
theorem ix_list:IxR X (rIxL X.K) := by
 intro value slice pins s σ H x y v u Q I rx ry h hs
 obtain ⟨p,xs,i,z,rfl,rfl,hq,he,q⟩ := h
 cases rx
 obtain ⟨t,rfl⟩ := ry
 obtain ⟨its,r,pl,hz⟩ := I.list hq
 obtain ⟨j,h1,h2,h3,h4,h5⟩ := atI_get he
 obtain ⟨w,ew,rw'⟩ := r.get h2
 have hl := r.length
 have hn := line63
 have fin:EP X pins σ Q w s := ⟨z,H,I,rw',q⟩
 by_cases h0:0 ≤ i
 ·have hj:i.toNat = j := by
   rw [seqIndex_of h0 h5] at h1
   exact Option.some.inj h1
  exact item_listR pl.isList h0 (by omega) (by rw [hj]; simpa using ew) fin hs
 ·have hj:(i + (its.toArray.size:Int)).toNat = j := by
   rw [seqIndex_neg (by omega) h4] at h1
   rw [List.size_toArray,← hl]
   exact Option.some.inj h1
  exact subscriptTail_builtinR (x := w) pl.isList.typeIs slot_list_getitem.lookup
   (wpAny_getItem_list_neg (Q := fun r s' => r = w ∧ EP X pins σ Q r s') pl.isList (by omega) (by rw [List.size_toArray] <;> omega) (by omega) (by rw [hj]; simpa using ew) ⟨rfl,fin⟩) hs
theorem ix_tup:IxR X (rIxT X.K) := by
 intro value slice pins s σ H x y v u Q I rx ry h hs
 obtain ⟨p,xs,i,z,rfl,rfl,hq,he,q⟩ := h
 cases rx
 obtain ⟨t,rfl⟩ := ry
 obtain ⟨its,r,pl,hz⟩ := I.tuple hq
 obtain ⟨j,h1,h2,h3,h4,h5⟩ := atI_get he
 obtain ⟨w,ew,rw'⟩ := r.get h2
 have hl := r.length
 have hn := line63
 have fin:EP X pins σ Q w s := ⟨z,H,I,rw',q⟩
 exact subscriptTail_builtinR (x := w) pl.typeIs slot_tuple_getitem.lookup
  (getItem_tuple (j := j) (Q := fun r s' => r = w ∧ EP X pins σ Q r s') pl (by omega) (by omega) (by rw [List.size_toArray,← hl]; exact h1) (by simpa using ew) ⟨rfl,fin⟩) hs
theorem mapSeq_set (its:List Value) (n j:Nat) (u:Value):Obj.mapSeq (·.setIfInBounds j u) { cls := .type "list",data := .seq its.toArray n } = { cls := .type "list",data := .seq (its.set j u).toArray n } := by
 simp [Obj.mapSeq]
theorem Inv.lst {pins:List (Addr × Obj)} {σ:St} {H:Hp} {s:Shared} {p:Addr} {xs:List V} (I:Inv X pins σ H s) (h:H p = some (.lst xs)) :
  ∃ (its:List Value) (n:Nat),Vals xs its ∧ s.heap.get? p = some { cls := .type "list",data := .seq its.toArray n } ∧ xs.length ≤ sizeLine := by
 obtain ⟨z,its,n,r,e⟩ := I.hok p _ h
 exact ⟨its,n,r,e,z⟩
theorem Inv.lstUpd {pins:List (Addr × Obj)} {σ:St} {H:Hp} {s:Shared} {p:Addr} {xs ys:List V} {its its':List Value} {n n':Nat} {f:Obj → Obj} (I:Inv X pins σ H s) (h:H p = some (.lst xs))
  (ho:s.heap.get? p = some { cls := .type "list",data := .seq its.toArray n }) (hf:f { cls := .type "list",data := .seq its.toArray n } = { cls := .type "list",data := .seq its'.toArray n' }) (r:Vals ys its') (hz:ys.length ≤ sizeLine) (t:Nat) :
  Inv X pins σ (upd H p (.lst ys)) { s with heap := s.heap.update p f,toks := t } := by
 have e:(s.heap.update p f).get? p = some { cls := .type "list",data := .seq its'.toArray n' } := by
  rw [Heap.get?_update_self f ho (by rw [hf] <;> rfl),hf]
 refine I.write (x := p) (e := p) (by rw [h]; trivial) (.inl rfl) (fun b u hb q => (Heap.get?_update_other _ _ (Ne.symm hb)).trans q) ⟨_,e⟩ ?_
 exact ⟨hz,its',n',r,e⟩
noncomputable def rSetL:V → V → V → Hp → (Hp → Prop) → Prop := fun o i v H Q => ∃ p xs k j,o = .ref p ∧ i = .int k ∧ H p = some (.lst xs) ∧ ixN xs.length k = some j ∧ Q (upd H p (.lst (xs.set j v)))
theorem set_list:PSet X rSetL := by
 intro pins s σ H o i v ov iv u Q I ro ri rv h
 obtain ⟨p,xs,k,j,rfl,rfl,hp,hj,q⟩ := h
 cases ro
 obtain ⟨t,rfl⟩ := ri
 obtain ⟨its,n,r,ho,hz⟩ := I.lst hp
 obtain ⟨h1,h2,h3,h4⟩ := ixN_seq hj
 have hl := r.length
 have hn := line63
 have I':Inv X pins σ (upd H p (.lst (xs.set j v))) { s with heap := s.heap.update p (Obj.mapSeq (·.setIfInBounds j u)) } :=
  I.lstUpd hp ho (mapSeq_set its n j u) (r.set rv j) (by rw [List.length_set]; exact hz) s.toks
 by_cases h0:0 ≤ k
 ·have hk:k.toNat = j := by
   rw [seqIndex_of h0 h4] at h1
   exact Option.some.inj h1
  exact PySem.W.ki_setAt ho h0 (by omega) (by rw [List.size_toArray,← hl]; exact h4) (by rw [hk]; exact ⟨_,I',q⟩)
 ·have hk:(k + (its.toArray.size:Int)).toNat = j := by
   rw [seqIndex_neg (by omega) h3] at h1
   rw [List.size_toArray,← hl]
   exact Option.some.inj h1
  exact PySem.W.ki_setBack ho (by omega) (by rw [List.size_toArray,← hl]; exact h3) (by omega) (by rw [hk]; exact ⟨_,I',q⟩)
theorem slice_bounds (lo hi:Option Int) (n:Nat):(sliceBounds lo hi none n).1 = ((HT.sIx n 0 lo:Nat):Int) ∧ (sliceBounds lo hi none n).2.1 = ((HT.sIx n n hi:Nat):Int) ∧ (sliceBounds lo hi none n).2.2 = 1 := by
 refine ⟨?_,?_,rfl⟩
 ·cases lo with
  | none => simp [sliceBounds,HT.sIx]
  | some i =>
   simp only [sliceBounds,HT.sIx,Option.getD_none,show (1:Int) > 0 by decide,if_true]
   by_cases h:i < 0
   ·simp only [h,if_true] <;> omega
   ·simp only [h,if_false] <;> omega
 ·cases hi with
  | none => simp [sliceBounds,HT.sIx]
  | some i =>
   simp only [sliceBounds,HT.sIx,Option.getD_none,show (1:Int) > 0 by decide,if_true]
   by_cases h:i < 0
   ·simp only [h,if_true] <;> omega
   ·simp only [h,if_false] <;> omega
theorem slicePick_cut (its:List Value) (lo hi:Option Int):slicePick its.toArray lo hi none = ((its.drop (HT.sIx its.length 0 lo)).take (HT.sIx its.length its.length hi - HT.sIx its.length 0 lo)).toArray := by
 obtain ⟨h1,h2,h3⟩ := slice_bounds lo hi its.toArray.size
 unfold slicePick
 rw [h1,h2,h3]
 simp only [sliceRange_one,pick_run,List.size_toArray] <;> rfl
noncomputable def rSlL (K:PySem.W.Frag):V → Option Int → Option Int → Hp → VK → Prop := fun x lo hi H Q => ∃ a xs,x = .ref a ∧ SqL K H a xs ∧ ∀ p,H p = none → Q (.ref p) (upd H p (.lst (cutV xs lo hi)))
theorem sl_list:SlR X (rSlL X.K) := by
 intro pins s σ H x v vl vu lo hi sl Q I rx hs pl pu h
 obtain ⟨a,xs,rfl,hx,q⟩ := h
 cases rx
 obtain ⟨its,r,ht,hz⟩ := I.list hx
 have hlen := r.length
 refine ⟨"list",_,slot_list_getitem.lookup,ht.isList.typeIs,?_⟩
 refine wpAny_getItem_list_slice ht.isList hs pl pu .none (by simp) ?_ (by rw [List.size_toArray] <;> omega)
 rw [slicePick_cut,← hlen]
 refine ⟨.ref s.heap.objs.size,_,I.laid (t' := s.toks) (o := .lst (cutV xs lo hi)) (fun b ob q => Heap.get?_push_of_some _ q) (Nat.le_refl _) ?_,rfl,q _ (I.hok.fresh (Nat.le_refl _))⟩
 exact ⟨Nat.le_trans (cutV_length xs lo hi) hz,_,0,(r.drop (HT.sIx xs.length 0 lo)).take (HT.sIx xs.length xs.length hi - HT.sIx xs.length 0 lo),Heap.get?_push_size _ rfl⟩
noncomputable def flatV:V → Bool
 | .non => true
 | .bl _ => true
 | .int _ => true
 | .str _ => true
 | _ => false
noncomputable def eqV:V → V → Bool
 | .non,.non => true
 | .bl a,.bl b => a == b
 | .bl a,.int b => (if a then 1 else 0) == b
 | .int a,.bl b => a == (if b then 1 else 0)
 | .int a,.int b => a == b
 | .str a,.str b => a == b
 | _,_ => false
theorem eqAt_V {A:Around} {s:Shared} {y x:V} {u v:Value} (ry:RelV y u) (rx:RelV x v) (fy:flatV y = true) (fx:flatV x = true):SeqAt.EqAt A s u v (eqV y x) := by
 cases y with
 | non =>
  cases ry
  cases x with
  | non => cases rx; exact SeqAt.EqAt.same _
  | bl b => cases rx; exact SeqAt.EqAt.none_bool b
  | int b => obtain ⟨t,rfl⟩ := rx; exact SeqAt.EqAt.none_int b t
  | str b => obtain ⟨t,rfl⟩ := rx; exact SeqAt.EqAt.none_str b t
  | _ => exact absurd (show false = true from fx) Bool.false_ne_true
 | bl a =>
  cases ry
  cases x with
  | non => cases rx; exact SeqAt.EqAt.bool_none a
  | bl b => cases rx; exact SeqAt.EqAt.bool_bool a b
  | int b => obtain ⟨t,rfl⟩ := rx; exact SeqAt.EqAt.bool_int a b t
  | str b => obtain ⟨t,rfl⟩ := rx; exact SeqAt.EqAt.bool_str a b t
  | _ => exact absurd (show false = true from fx) Bool.false_ne_true
 | int a =>
  obtain ⟨t',rfl⟩ := ry
  cases x with
  | non => cases rx; exact SeqAt.EqAt.int_none a t'
  | bl b => cases rx; exact SeqAt.EqAt.int_bool a t' b
  | int b => obtain ⟨t,rfl⟩ := rx; exact SeqAt.EqAt.int_int a t' b t
  | str b => obtain ⟨t,rfl⟩ := rx; exact SeqAt.EqAt.int_str a t' b t
  | _ => exact absurd (show false = true from fx) Bool.false_ne_true
 | str a =>
  obtain ⟨t',rfl⟩ := ry
  cases x with
  | non => cases rx; exact SeqAt.EqAt.str_none a t'
  | bl b => cases rx; exact SeqAt.EqAt.str_bool a t' b
  | int b => obtain ⟨t,rfl⟩ := rx; exact SeqAt.EqAt.str_int a t' b t
  | str b => obtain ⟨t,rfl⟩ := rx; exact SeqAt.EqAt.str_str a t' b t
  | _ => exact absurd (show false = true from fx) Bool.false_ne_true
 | _ => exact absurd (show false = true from fy) Bool.false_ne_true
noncomputable def eqU (x:V) (u:Value):Bool := match u with
 | .none => eqV .non x
 | .bool b => eqV (.bl b) x
 | .int i _ => eqV (.int i) x
 | .str z _ => eqV (.str z) x
 | _ => false
theorem eqU_of {x y:V} {u:Value} (r:RelV y u) (f:flatV y = true):eqU x u = eqV y x := by
 cases y with
 | non => cases r; rfl
 | bl b => cases r; rfl
 | int i => obtain ⟨t,rfl⟩ := r; rfl
 | str z => obtain ⟨t,rfl⟩ := r; rfl
 | _ => exact absurd (show false = true from f) Bool.false_ne_true
theorem any_eqU {x:V}:∀ {xs:List V} {us:List Value},Vals xs us → xs.all flatV = true → us.any (eqU x) = xs.any fun y => eqV y x
 | _,_,.nil,_ => rfl
 | y :: xs,u :: us,.cons r t,f => by
  rw [List.all_cons,Bool.and_eq_true] at f
  rw [List.any_cons,List.any_cons,eqU_of r f.1,any_eqU t f.2]
theorem mem_eqAt {A:Around} {s:Shared} {x:V} {v:Value} (rx:RelV x v) (fx:flatV x = true):∀ {xs:List V} {us:List Value},Vals xs us → xs.all flatV = true → ∀ u ∈ us,SeqAt.EqAt A s u v (eqU x u)
 | _,_,.nil,_ => fun u hu => by cases hu
 | y :: xs,u :: us,.cons r t,f => fun u' hu => by
  rw [List.all_cons,Bool.and_eq_true] at f
  rcases List.mem_cons.mp hu with rfl | hu
  ·rw [eqU_of r f.1]; exact eqAt_V r rx f.1 fx
  ·exact mem_eqAt rx fx t f.2 u' hu
noncomputable def inV (x:V) (xs:List V):Bool := xs.any fun y => eqV y x
noncomputable def rIn (K:PySem.W.Frag) (neg:Bool):R2 := fun x y H Q => ∃ p xs,y = .ref p ∧ (SqL K H p xs ∨ SqT K H p xs) ∧ flatV x = true ∧ xs.all flatV = true ∧ Q (.bl (if neg then !inV x xs else inV x xs)) H
theorem op_in_seq:OpR X (compareOp .In) (rIn X.K false) := by
 intro pins s σ H x y v u Q I rx ry h
 obtain ⟨p,xs,rfl,hq,fx,fs,q⟩ := h
 cases ry
 rcases hq with hq | hq
 ·obtain ⟨its,r,pl,hz⟩ := I.list hq
  refine SeqAt.in_listAt (eqU x) pl.isList (fun w hw => mem_eqAt rx fx r fs w (by simpa using hw)) ⟨.bl _,H,I,rfl,?_⟩
  rw [show its.toArray.any (eqU x) = its.any (eqU x) by simp,any_eqU r fs]
  exact q
 ·obtain ⟨its,r,pl,hz⟩ := I.tuple hq
  refine SeqAt.in_tupleAt (eqU x) pl (fun w hw => mem_eqAt rx fx r fs w (by simpa using hw)) ⟨.bl _,H,I,rfl,?_⟩
  rw [show its.toArray.any (eqU x) = its.any (eqU x) by simp,any_eqU r fs]
  exact q
theorem op_notIn_seq:OpR X (compareOp .NotIn) (rIn X.K true) := by
 intro pins s σ H x y v u Q I rx ry h
 obtain ⟨p,xs,rfl,hq,fx,fs,q⟩ := h
 cases ry
 rcases hq with hq | hq
 ·obtain ⟨its,r,pl,hz⟩ := I.list hq
  refine SeqAt.notIn_listAt (eqU x) pl.isList (fun w hw => mem_eqAt rx fx r fs w (by simpa using hw)) ⟨.bl _,H,I,rfl,?_⟩
  rw [show its.toArray.any (eqU x) = its.any (eqU x) by simp,any_eqU r fs]
  exact q
 ·obtain ⟨its,r,pl,hz⟩ := I.tuple hq
  refine SeqAt.notIn_tupleAt (eqU x) pl (fun w hw => mem_eqAt rx fx r fs w (by simpa using hw)) ⟨.bl _,H,I,rfl,?_⟩
  rw [show its.toArray.any (eqU x) = its.any (eqU x) by simp,any_eqU r fs]
  exact q
theorem call_len_seq:CallR X (.builtin "len") (fun xs H Q => ∃ p ys,xs = [.ref p] ∧ (SqL X.K H p ys ∨ SqT X.K H p ys) ∧ Q (.int ys.length) H) := by
 intro pins s σ H xs us Q I r h
 obtain ⟨p,ys,rfl,hq,q⟩ := h
 obtain ⟨u,rfl,rx⟩ := vals1 r
 cases rx
 have hn := line63
 rcases hq with hq | hq
 ·obtain ⟨its,r',pl,hz⟩ := I.list hq
  have hlen := r'.length
  exact Calls.call_len_list pl.isList (by simp only [List.size_toArray] <;> omega) ⟨.int ys.length,H,I.tok _,⟨s.toks + 1,by rw [List.size_toArray,hlen]⟩,q⟩
 ·obtain ⟨its,r',pl,hz⟩ := I.tuple hq
  have hlen := r'.length
  exact len_tuple pl (by simp only [List.size_toArray] <;> omega) ⟨.int ys.length,H,I.tok _,⟨s.toks + 1,by rw [List.size_toArray,hlen]⟩,q⟩
theorem call_list_of:CallR X (.type "list") (fun xs H Q => ∃ p ys,xs = [.ref p] ∧ (SqL X.K H p ys ∨ SqT X.K H p ys) ∧ ∀ l,H l = none → Q (.ref l) (upd H l (.lst ys))) := by
 intro pins s σ H xs us Q I r h
 obtain ⟨p,ys,rfl,hq,q⟩ := h
 obtain ⟨u,rfl,rx⟩ := vals1 r
 cases rx
 have fin:∀ (its:List Value),Vals ys its → ys.length ≤ sizeLine → ∀ (h':Heap) (c':Nat),(∀ b o',s.heap.get? b = some o' → h'.get? b = some o') →
   h'.get? s.heap.objs.size = some { cls := .type "list",dict := none,data := .seq its.toArray c',slots := #[] } → EP X pins σ Q (.ref s.heap.objs.size) { s with heap := h' } := fun its r' hz h' c' kp e =>
  ⟨.ref s.heap.objs.size,_,I.laid (t' := s.toks) kp (Nat.le_refl _) (show ObjOk X.prog X.w _ h' _ (.lst ys) from ⟨hz,its,c',r',e⟩),rfl,q _ (I.hok.fresh (Nat.le_refl _))⟩
 rcases hq with hq | hq
 ·obtain ⟨its,r',pl,hz⟩ := I.list hq
  have hlen := r'.length
  obtain ⟨o,ho,hc,n,hd⟩ := pl.isList
  exact call_list_seq p (.inl rfl) ho hc hd (fun h' c' kp e => fin its r' hz h' c' kp e) (by simp only [List.size_toArray] <;> omega)
 ·obtain ⟨its,r',pl,hz⟩ := I.tuple hq
  have hlen := r'.length
  obtain ⟨o,ho,hc,n,hd⟩ := pl
  exact call_list_seq p (.inr rfl) ho hc hd (fun h' c' kp e => fin its r' hz h' c' kp e) (by simp only [List.size_toArray] <;> omega)
noncomputable def tyV (K:PySem.W.Frag) (T:String) (x:V) (H:Hp):Prop := match x with
 | .str _ => T = "str"
 | .int _ => T = "int"
 | .ref p => (T = "list" ∧ ∃ xs,SqL K H p xs) ∨ (T = "tuple" ∧ ∃ o,K.lookup p = some o ∧ o.cls = .type "tuple" ∧ o.dict = none) ∨
   (T = "dict" ∧ ((∃ kvs,H p = some (.dK kvs)) ∨ ∃ kvs,H p = some (.dT kvs))) ∨ (T = "set" ∧ ∃ S n,H p = some (.set S n))
 | _ => False
theorem tyV_is {pins:List (Addr × Obj)} {σ:St} {H:Hp} {s:Shared} {T:String} {x:V} {v:Value} (I:Inv X pins σ H s) (r:RelV x v) (ty:tyV X.K T x H) :
  s.TypeIs v T ∧ ∀ a,v = .ref a → ∃ ob,s.heap.get? a = some ob ∧ ob.dict = none := by
 cases x with
 | str z =>
  obtain ⟨t,rfl⟩ := r
  cases (show T = "str" from ty)
  exact ⟨typeIs_str s z t,fun _ e => nomatch e⟩
 | int i =>
  obtain ⟨t,rfl⟩ := r
  cases (show T = "int" from ty)
  exact ⟨typeIs_int s i t,fun _ e => nomatch e⟩
 | ref p =>
  cases r
  rcases ty with ⟨rfl,xs,hq⟩ | ⟨rfl,o,hk,hc,hd⟩ | ⟨rfl,hk⟩ | ⟨rfl,S,n,hk⟩
  ·obtain ⟨its,_,pl,_⟩ := I.list hq
   refine ⟨pl.isList.typeIs,fun a e => ?_⟩
   cases e
   obtain ⟨o,n,e,c,hd,_⟩ := pl
   exact ⟨o,e,hd⟩
  ·refine ⟨⟨o,I.kIn p o hk,hc⟩,fun a e => ?_⟩
   cases e
   exact ⟨o,I.kIn _ o hk,hd⟩
  ·have z:∃ o,s.heap.get? p = some o ∧ o.ExactDict := by
    rcases hk with ⟨kvs,hk⟩ | ⟨kvs,hk⟩
    ·obtain ⟨_,_,_,_,o,_,_,e,ex,_⟩ := I.hok p _ hk
     exact ⟨o,e,ex⟩
    ·obtain ⟨_,_,_,_,o,_,_,e,ex,_⟩ := I.hok p _ hk
     exact ⟨o,e,ex⟩
   obtain ⟨o,e,ex⟩ := z
   refine ⟨⟨o,e,ex.1⟩,fun a e2 => ?_⟩
   cases e2
   exact ⟨o,e,ex.2.1⟩
  ·obtain ⟨o,_,_,_,e,ex,_⟩ := I.hok p _ hk
   refine ⟨⟨o,e,ex.1⟩,fun a e2 => ?_⟩
   cases e2
   exact ⟨o,e,ex.2.1⟩
 | _ => exact False.elim ty
noncomputable def tBM0 (K:PySem.W.Frag) (T:String) (r:V → List V → Hp → VK → Prop) (to:TE):TE := fun σ H Q => to σ H fun x H1 => tyV K T x H1 ∧ r x [] H1 Q
noncomputable def tBM (K:PySem.W.Frag) (T:String) (r:V → List V → Hp → VK → Prop) (to:TE) (t:TA):TE := fun σ H Q => to σ H fun x H1 => tyV K T x H1 ∧ t σ H1 fun xs H2 => r x xs H2 Q
variable {o e:Expr} {es:List Expr} {to:TE} {t:TA} {name:Str} {apos cpos:Pos} {T id:String} {r:V → List V → Hp → VK → Prop}
theorem pe_bm0 (pa:PlainAttrs T) (slot:Slot T name id) (hty:typeOf (.builtin id) = pure (.type "method_descriptor")) (hm:MtR X id r) (ho:PE X o to)
  (hbase:attributeBase o name X.env (eval o X.env) = eval o X.env := by rfl) (hline:(apos.endLine == cpos.line) = true := by rfl):PE X (.Call (.Attribute o name apos) [] [] cpos) (tBM0 X.K T r to) := by
 intro pins s σ H Q I h
 refine wpAny_Call_method0_late hbase hline (thn (ho pins s σ H _ I h) fun v s1 ⟨x,H1,I1,r1,ty,q1⟩ => ?_)
 obtain ⟨h1,h2⟩ := tyV_is I1 r1 ty
 exact ⟨T,id,pa,slot,hty,h1,h2,Calls.callWith_builtin rfl (PySem.evalArgs_none (hm pins s1 σ H1 x [] v [] Q I1 r1 .nil q1))⟩
theorem pe_bm (pa:PlainAttrs T) (slot:Slot T name id) (hty:typeOf (.builtin id) = pure (.type "method_descriptor")) (hm:MtR X id r) (ho:PE X o to) (ha:PA X (e :: es) t)
  (hbase:attributeBase o name X.env (eval o X.env) = eval o X.env := by rfl)
  (hfew:((backTo cpos (starEach (e :: es) X.env)).all (fun x => !x.1) && (backToKw cpos (keywordEach [] X.env)).all (fun x => x.1.isSome)
   && decide ((e :: es).length + ([]:List Keyword).length + (if ([]:List Keyword).isEmpty then 0 else 1) < 30)) = true := by rfl)
  (hline:(apos.endLine == cpos.line) = true := by rfl) (hs:starEach (e :: es) X.env = (false,eval e X.env) :: starEach es X.env := by rfl) (hplain:(backTo cpos (starEach es X.env)).any (·.1) = false := by rfl) :
  PE X (.Call (.Attribute o name apos) (e :: es) [] cpos) (tBM X.K T r to t) := by
 intro pins s σ H Q I h
 refine wpAny_Call_method_late hbase hfew hline rfl (thn (ho pins s σ H _ I h) fun v s1 ⟨x,H1,I1,r1,ty,q1⟩ => ?_)
 obtain ⟨h1,h2⟩ := tyV_is I1 r1 ty
 refine ⟨T,id,pa,slot,hty,h1,h2,?_⟩
 have hA := ha cpos pins s1 σ H1 _ I1 q1
 rw [hs] at hA ⊢
 refine Calls.callWith_builtin (by show (false || (backTo cpos (starEach es X.env)).any (·.1)) = false; rw [hplain] <;> rfl) (Calls.evalArgs_plain ?_)
 exact thn hA fun us s2 ⟨vs,H2,I2,r2,q2⟩ => hm pins s2 σ H2 x vs v us Q I2 r1 r2 q2
/- xs.append(e),list.index on a module's tuple .. are MtR facts of 06m -/
end
end L2
namespace L2
open PySem PySem.Spec PyProof.Rows
noncomputable def MtM (X:Cx) (id:String) (r:V → List V → Hp → VK → Prop):Prop :=
 ∀ (pins:List (Addr × Obj)) (s:Shared) (σ:St) (H:Hp) (x:V) (xs:List V) (v:Value) (us:List Value) (Q:VK),Inv X pins σ H s → RelV x v → Vals xs us → r x xs H Q →
  wpAny (model X.prog X.w) X.A (call (.builtin id) (v :: us)) (EP X pins σ Q) X.xe s
theorem Vals.one:∀ {x:V} {us:List Value},Vals [x] us → ∃ u,us = [u] ∧ RelV x u
 | _,_,.cons r .nil => ⟨_,rfl,r⟩
theorem Vals.two:∀ {x y:V} {us:List Value},Vals [x,y] us → ∃ u v,us = [u,v] ∧ RelV x u ∧ RelV y v
 | _,_,_,.cons r (.cons q .nil) => ⟨_,_,rfl,r,q⟩
theorem Vals.zero:∀ {us:List Value},Vals [] us → us = []
 | _,.nil => rfl
theorem Vals.dropLast {xs:List V} {us:List Value} (h:Vals xs us):Vals xs.dropLast us.dropLast := by
 induction h with
 | nil => exact .nil
 | cons r t ih =>
  cases t with
  | nil => exact .nil
  | cons q t' => exact .cons r ih
theorem Vals.eraseIdx:∀ {xs:List V} {us:List Value} (i:Nat),Vals xs us → Vals (xs.eraseIdx i) (us.eraseIdx i)
 | _,_,_,.nil => .nil
 | _,_,0,.cons _ t => t
 | _,_,i + 1,.cons r t => .cons r (Vals.eraseIdx i t)
theorem Vals.reverse {xs:List V} {us:List Value} (h:Vals xs us):Vals xs.reverse us.reverse := by
 induction h with
 | nil => exact .nil
 | cons r t ih => rw [List.reverse_cons,List.reverse_cons]; exact Vals.append ih (.cons r .nil)
theorem Vals.rep {xs:List V} {us:List Value} (h:Vals xs us):∀ k:Nat,Vals (List.replicate k xs).flatten (List.replicate k us).flatten
 | 0 => .nil
 | k + 1 => by
  rw [List.replicate_succ,List.replicate_succ,List.flatten_cons,List.flatten_cons]
  exact Vals.append h (Vals.rep h k)
theorem erase_last {α:Type} (l:List α):l.eraseIdx (l.length - 1) = l.dropLast := by
 induction l with
 | nil => rfl
 | cons a r ih =>
  cases r with
  | nil => rfl
  | cons b r =>
   have e:(a :: b :: r).length - 1 = ((b :: r).length - 1) + 1 := by
    have h1:(a :: b :: r).length = r.length + 2 := rfl
    have h2:(b :: r).length = r.length + 1 := rfl
    omega
   rw [e,List.eraseIdx_cons_succ,ih]
   all_goals rfl
theorem len_erase {α:Type}:∀ (l:List α) (i:Nat),(l.eraseIdx i).length ≤ l.length
 | [],_ => Nat.le_refl _
 | _ :: _,0 => Nat.le_succ _
 | _ :: r,i + 1 => Nat.succ_le_succ (len_erase r i)
theorem foldl_rep (its:List Value):∀ (k:Nat) (acc:List Value),
  List.foldl (fun x1 x2 => x1 ++ x2) acc.toArray (List.replicate k its.toArray) = (acc ++ (List.replicate k its).flatten).toArray
 | 0,acc => by simp
 | k + 1,acc => by
  have e:acc.toArray ++ its.toArray = (acc ++ its).toArray := by simp
  have e2:(acc ++ its) ++ (List.replicate k its).flatten = acc ++ (List.replicate (k + 1) its).flatten := by
   rw [List.replicate_succ,List.flatten_cons,List.append_assoc]
  rw [← e2,← foldl_rep its k (acc ++ its),← e,List.replicate_succ,List.foldl_cons]
section
variable {X:Cx} {pins:List (Addr × Obj)} {σ:St} {H:Hp} {s:Shared} {l b:Addr} {xs ys zs:List V}
theorem Inv.lset {its its':List Value} {n:Nat} {f:Array Value → Array Value} {t':Nat} (I:Inv X pins σ H s) (hH:H l = some (.lst xs))
  (e:s.heap.get? l = some { cls := .type "list",data := .seq its.toArray n }) (hf:f its.toArray = its'.toArray) (hv:Vals ys its') (hz:ys.length ≤ sizeLine) :
  Inv X pins σ (upd H l (.lst ys)) { s with heap := s.heap.update l (Obj.mapSeq f),toks := t' } := by
 have q := PySem.IsL.update e f
 rw [hf] at q
 refine I.write (x := l) (e := l) (by rw [hH]; exact trivial) (.inl rfl) (fun b' u hb hu => (Heap.get?_update_other s.heap (Obj.mapSeq f) (Ne.symm hb)).trans hu) ⟨_,q⟩ ?_
 exact ⟨hz,its',_,hv,q⟩
theorem Inv.lnew {its:List Value} {t':Nat} (I:Inv X pins σ H s) (hv:Vals ys its) (hz:ys.length ≤ sizeLine) :
  Inv X pins σ (upd H s.heap.objs.size (.lst ys)) { s with heap := s.heap.push { cls := .type "list",data := .seq its.toArray },toks := t' } :=
 I.laid (fun _ _ q => Heap.get?_push_of_some _ q) (Nat.le_refl _) ⟨hz,its,0,hv,Heap.get?_push_size _ rfl⟩
theorem Inv.fresh (I:Inv X pins σ H s):H s.heap.objs.size = none := I.hok.fresh (Nat.le_refl _)
theorem Inv.lstM (I:Inv X pins σ H s) (hH:H l = some (.lst xs)):xs.length ≤ sizeLine ∧ ∃ (its:List Value) (n:Nat),Vals xs its ∧ xs.length = its.length ∧ s.heap.get? l = some { cls := .type "list",data := .seq its.toArray n } := by
 obtain ⟨z,its,n,r,e⟩ := I.hok l _ hH
 exact ⟨z,its,n,r,r.length,e⟩
theorem notLongL {n:Nat} (h:n ≤ sizeLine):Builtin.List.listTooLong n = false := by
 unfold Builtin.List.listTooLong
 exact decide_eq_false (by omega)
end
section
variable {X:Cx}
noncomputable def rAppend:V → List V → Hp → VK → Prop := fun x vs H Q => ∃ l xs y,x = .ref l ∧ vs = [y] ∧ H l = some (.lst xs) ∧ xs.length < sizeLine ∧ Q .non (upd H l (.lst (xs ++ [y])))
theorem mt_append:MtM X "list.append" rAppend := by
 intro pins s σ H x vs v us Q I rx rv h
 obtain ⟨l,xs,y,rfl,rfl,hH,hz,q⟩ := h
 cases rx
 obtain ⟨u,rfl,ru⟩ := rv.one
 obtain ⟨z,its,n,r,hl,e⟩ := I.lstM hH
 refine call_meets F.slot_list_append ⟨_,e,rfl⟩ F.entry_list_append (F.args_list_append_2 _ _) (PySem.list_append l its.toArray n u (by rw [List.size_toArray]; omega)) ⟨e,?_⟩
 refine ⟨.non,_,I.lset (its' := its ++ [u]) hH e (by simp) (r.append (.cons ru .nil)) ?_,rfl,q⟩
 rw [List.length_append,List.length_singleton]
 omega
noncomputable def rExtend:V → List V → Hp → VK → Prop := fun x vs H Q => ∃ l b xs zs,x = .ref l ∧ vs = [.ref b] ∧ H l = some (.lst xs) ∧ H b = some (.lst zs) ∧ xs.length + zs.length ≤ sizeLine ∧ Q .non (upd H l (.lst (xs ++ zs)))
theorem mt_extend:MtM X "list.extend" rExtend := by
 intro pins s σ H x vs v us Q I rx rv h
 obtain ⟨l,b,xs,zs,rfl,rfl,hH,hB,hz,q⟩ := h
 cases rx
 obtain ⟨u,rfl,ru⟩ := rv.one
 cases ru
 obtain ⟨z,its,n,r,hl,e⟩ := I.lstM hH
 obtain ⟨z2,its2,n2,r2,hl2,e2⟩ := I.lstM hB
 have hsz:its.toArray.size + its2.toArray.size ≤ sizeLine := by rw [List.size_toArray,List.size_toArray]; omega
 have hlong:¬ (!its.toArray.isEmpty && Builtin.List.listTooLong (its.toArray.size + its2.toArray.size)) = true := by
  rw [notLongL hsz,Bool.and_false]
  exact Bool.false_ne_true
 refine call_meets F.slot_list_extend ⟨_,e,rfl⟩ F.entry_list_extend (F.args_list_extend_2 _ _)
  (AutoSeq1.list_extend_list_list_0 l its.toArray n b its2.toArray n2 hlong (by rw [List.size_toArray]; omega) (by omega)) ⟨e,e2,?_⟩
 refine ⟨.non,_,I.lset (its' := its ++ its2) hH e (by simp) (r.append r2) ?_,rfl,q⟩
 rw [List.length_append]
 omega
noncomputable def rPop:V → List V → Hp → VK → Prop := fun x vs H Q => ∃ l xs y,x = .ref l ∧ vs = [] ∧ H l = some (.lst xs) ∧ xs[xs.length - 1]? = some y ∧ Q y (upd H l (.lst xs.dropLast))
theorem mt_pop:MtM X "list.pop" rPop := by
 intro pins s σ H x vs v us Q I rx rv h
 obtain ⟨l,xs,y,rfl,rfl,hH,hy,q⟩ := h
 cases rx
 have hus := rv.zero
 subst hus
 obtain ⟨z,its,n,r,hl,e⟩ := I.lstM hH
 obtain ⟨u,hu,ru⟩ := r.get hy
 have hy':its.toArray[its.toArray.size - 1]? = some u := by
  show its.toArray[its.length - 1]? = some u
  rw [← Array.getElem?_toList,← hl]
  exact hu
 refine call_meets F.slot_list_pop ⟨_,e,rfl⟩ F.entry_list_pop (F.args_list_pop_1 _) (MeetsSeq.list_pop_last l its.toArray n u hy' (by rw [List.size_toArray]; omega)) ⟨e,?_⟩
 refine ⟨y,_,I.lset (its' := its.dropLast) hH e ?_ r.dropLast ?_,ru,q⟩
 ·show its.toArray.eraseIdxIfInBounds (its.toArray.size - 1) = its.dropLast.toArray
  rw [List.size_toArray,List.eraseIdxIfInBounds_toArray,erase_last]
 ·rw [List.length_dropLast]
  omega
noncomputable def rPopAt:V → List V → Hp → VK → Prop := fun x vs H Q => ∃ l xs i k y,x = .ref l ∧ vs = [.int i] ∧ H l = some (.lst xs) ∧ -(2 ^ 63) ≤ i ∧ i < 2 ^ 63 ∧ seqIndex? i xs.length = some k ∧ xs[k]? = some y ∧ Q y (upd H l (.lst (xs.eraseIdx k)))
theorem mt_popAt:MtM X "list.pop" rPopAt := by
 intro pins s σ H x vs v us Q I rx rv h
 obtain ⟨l,xs,i,k,y,rfl,rfl,hH,h1,h2,hk,hy,q⟩ := h
 cases rx
 obtain ⟨u,rfl,ru⟩ := rv.one
 obtain ⟨t,rfl⟩ := ru
 obtain ⟨z,its,n,r,hl,e⟩ := I.lstM hH
 obtain ⟨w,hw,rw'⟩ := r.get hy
 refine call_meets F.slot_list_pop ⟨_,e,rfl⟩ F.entry_list_pop (F.args_list_pop_2 _ _)
  (MeetsSeq.list_pop_at l its.toArray n i t k w (fitsIndex_both h1 h2) (by rw [List.size_toArray,← hl]; exact hk) (by rw [← Array.getElem?_toList]; exact hw) (by rw [List.size_toArray]; omega)) ⟨e,?_⟩
 refine ⟨y,_,I.lset (its' := its.eraseIdx k) hH e ?_ (r.eraseIdx k) ?_,rw',q⟩
 ·show its.toArray.eraseIdxIfInBounds k = (its.eraseIdx k).toArray
  rw [List.eraseIdxIfInBounds_toArray]
 ·have := len_erase xs k
  omega
noncomputable def rClear:V → List V → Hp → VK → Prop := fun x vs H Q => ∃ l xs,x = .ref l ∧ vs = [] ∧ H l = some (.lst xs) ∧ Q .non (upd H l (.lst []))
theorem mt_clear:MtM X "list.clear" rClear := by
 intro pins s σ H x vs v us Q I rx rv h
 obtain ⟨l,xs,rfl,rfl,hH,q⟩ := h
 cases rx
 have hus := rv.zero
 subst hus
 obtain ⟨z,its,n,r,hl,e⟩ := I.lstM hH
 refine call_meets F.slot_list_clear ⟨_,e,rfl⟩ F.entry_list_clear (F.args_list_clear_1 _) (AutoSeq1.list_clear_list_0 l its.toArray n (by rw [List.size_toArray]; omega)) ⟨e,?_⟩
 exact ⟨.non,_,I.lset (its' := []) (ys := []) hH e rfl .nil (Nat.zero_le _),rfl,q⟩
noncomputable def rCat:R2 := fun x y H Q => ∃ l b xs zs,x = .ref l ∧ y = .ref b ∧ H l = some (.lst xs) ∧ H b = some (.lst zs) ∧ xs.length + zs.length ≤ sizeLine ∧ ∀ p,H p = none → Q (.ref p) (upd H p (.lst (xs ++ zs)))
theorem op_cat:OpR X (binaryOp .Add) rCat := by
 intro pins s σ H x y v u Q I rx ry h
 obtain ⟨l,b,xs,zs,rfl,rfl,hH,hB,hz,q⟩ := h
 cases rx
 cases ry
 obtain ⟨z,its,n,r,hl,e⟩ := I.lstM hH
 obtain ⟨z2,its2,n2,r2,hl2,e2⟩ := I.lstM hB
 refine PySem.P.add_list e e2 ?_ (by rw [List.size_toArray,List.size_toArray]; omega)
 have ea:its.toArray ++ its2.toArray = (its ++ its2).toArray := by simp
 rw [ea]
 exact ⟨.ref _,_,I.lnew (t' := s.toks) (r.append r2) (by rw [List.length_append]; omega),rfl,q _ I.fresh⟩
noncomputable def rRep:R2 := fun x y H Q => ∃ l k xs,x = .ref l ∧ y = .int k ∧ H l = some (.lst xs) ∧ -(2 ^ 63) ≤ k ∧ k < 2 ^ 63 ∧ xs.length * k.toNat ≤ sizeLine ∧
 ∀ p,H p = none → Q (.ref p) (upd H p (.lst (List.replicate k.toNat xs).flatten))
theorem len_rep {α:Type} (xs:List α) (k:Nat):(List.replicate k xs).flatten.length = k * xs.length := by
 induction k with
 | zero => simp
 | succ k ih => rw [List.replicate_succ,List.flatten_cons,List.length_append,ih,Nat.succ_mul,Nat.add_comm]
theorem op_rep:OpR X (binaryOp .Mult) rRep := by
 intro pins s σ H x y v u Q I rx ry h
 obtain ⟨l,k,xs,rfl,rfl,hH,h1,h2,hz,q⟩ := h
 cases rx
 obtain ⟨t,rfl⟩ := ry
 obtain ⟨z,its,n,r,hl,e⟩ := I.lstM hH
 have hlen:its.toArray.size * k.toNat ≤ sizeLine := by rw [List.size_toArray,← hl]; exact hz
 have hcap:¬ its.toArray.size * k.toNat > (2 ^ 63 - 1) / 8 := by
  have:(sizeLine:Nat) ≤ (2 ^ 63 - 1) / 8 := by decide
  omega
 have hfit:¬ (!Builtin.List.listFitsIndex k) = true := by
  rw [fitsIndex_both h1 h2]
  exact Bool.false_ne_true
 have hlong:¬ Builtin.List.listTooLong (its.toArray.size * k.toNat) = true := by
  rw [notLongL hlen]
  exact Bool.false_ne_true
 have hnew:List.foldl (fun x1 x2 => x1 ++ x2) #[] (List.replicate (if its.toArray.isEmpty = true then 0 else k.toNat) its.toArray) = (List.replicate k.toNat its).flatten.toArray := by
  have f0:∀ m:Nat,List.foldl (fun x1 x2 => x1 ++ x2) #[] (List.replicate m its.toArray) = (List.replicate m its).flatten.toArray := fun m => by
   have := foldl_rep its m []
   rw [List.nil_append] at this
   exact this
  rw [f0]
  cases its with
  | nil => simp
  | cons a r' => rw [if_neg (by simp)]
 refine wpAny_binaryOp_repeat_ref (T := "list") (U := "int") (by decide) ⟨_,e,rfl⟩ (fun s' => typeIs_int s' k t) noFill_list_mul F.fills_int_mul F.slot_int_rmul repeat_list F.slot_int_index.lookup
  (call_meets F.slot_int_rmul (typeIs_int s k t) F.entry_int_rmul (F.args_int_rmul_2 _ _) (int___rmul___int_list k t l its.toArray n)
   ⟨e,rfl,⟨_,e,rfl⟩,call_meets F.slot_list_mul ⟨_,e,rfl⟩ F.entry_list_mul (F.args_list_mul_2 _ _) (AutoListH.list___mul___list_int_3 l its.toArray n k t hfit hcap hlong) ⟨e,?_⟩⟩)
 rw [hnew]
 exact ⟨.ref _,_,I.lnew (t' := s.toks) (r.rep k.toNat) (by rw [len_rep,Nat.mul_comm]; exact hz),rfl,q _ I.fresh⟩
end
section
variable {prog:Program} {w:World} {A:Around} {E:Value → Shared → Prop} {s:Shared}
end
section
variable {X:Cx}
end
end L2
namespace Att
open PySem PySem.W PySem.Calls PyProof.Rows
theorem ints_of_wellAll {P:Params} {h:Heap}:∀ (ns:List Int) (vs:List Value),WellAll P h vs (ns.map WData.int) → IntsAre vs ns := by
 intro ns
 induction ns with
 | nil =>
  intro vs w
  rw [List.map_nil] at w
  cases w
  exact .nil
 | cons n ns ih =>
  intro vs w
  rw [List.map_cons] at w
  cases w with
  | cons a b =>
   cases a
   exact .cons _ _ (ih _ b)
theorem script_of {l:OpenLaw} {n:Nat} (hn:l.most = some n) {P:Params} {h:Heap} {args:List WData} {vals:List Value}
  (hpre:l.row.toRowW.claim.pre args = true) (hwl:WellAll P h vals args) :
  ∃ a vs ns,vals = [Value.ref a] ∧ args = [WData.list (ns.map WData.int)] ∧ h.get? a = some { cls := .type "list",data := .seq vs.toArray } ∧ IntsAre vs ns ∧ ns.length ≤ n := by
 have hsh:WShape.hasAll [] args [.list .int] = true := (pre_splitW hpre).1
 have hc:l.pre.holds [] { args := args } = true := (pre_splitW hpre).2
 obtain ⟨d,r,rfl,h1,h2⟩ := hasAllW_cons hsh
 obtain rfl := hasAllW_nil h2
 obtain ⟨xs,rfl,h3⟩ := hasW_list h1
 obtain ⟨ns,rfl⟩ := items_int h3
 have hlen:ns.length ≤ n := by
  unfold OpenLaw.pre at hc
  have h4:(WTm.not (.lt (.lit (.int (n:Int))) (.len (.arg 0)))).holds [] { args := [.list (ns.map .int)] } = true := by
   have h4 := (holds_andW hc).1
   rw [hn] at h4
   exact h4
  have h5 := condW_of h4 (w_not (w_lt w_lit (w_len_list (w_arg rfl))))
  rw [List.length_map] at h5
  refine Nat.le_of_not_lt fun q => ?_
  have q':(n:Int) < ((ns.length:Nat):Int) := by omega
  first
   | (rw [decide_eq_true q'] at h5; exact absurd h5 (by decide))
   | (simp at h5; omega)
 cases hwl with
 | cons w1 w2 =>
  cases w2
  cases w1 with
  | list ho hall => exact ⟨_,_,ns,rfl,rfl,ho,ints_of_wellAll ns _ hall,hlen⟩
theorem post_true (l:OpenLaw) (args:List WData):l.row.toRowW.claim.post args (.bool true) args = true :=
 postW_of (r := l.row.toRowW) (X := (true == true))
  (show WShape.has [] (.bool true) .bool = true by first | rfl | decide | simp [WShape.has,WShape.arms,WShape.armsAll])
  (show (WTm.eq .res (.lit (.bool true))).value [] { args := args,res := some (.bool true),after := args } = some (.bool (true == true)) from w_eq_bool (w_res rfl) w_lit) rfl
theorem attach_call {l:OpenLaw} {n:Nat} {q:Program} {loose:List Str} {XP:(Str → Option Value) → Heap → Prop} {YP:World → Heap → Prop} {d:DefRec}
  (hn:l.most = some n) (hdf:d.params.defaults = [])
  (call:∀ (w:World) (s₀ s₁:Shared) (mg mb:Str → Option Value) (fa:Addr) (o:Obj) (pm cd doc:Value) (a:Addr) (vs:List Value) (ns:List Int),
   Ground q loose [] XP w s₀ mg mb s₁.heap → YP w s₁.heap →
   s₁.heap.get? fa = some o → o.data = .func (docDef d.name d.params d.body d.scope pm cd doc) → s₁.heap.CodeRec cd d.name → mg d.name = some (.ref fa) →
   s₁.heap.get? a = some { cls := .type "list",data := .seq vs.toArray } → IntsAre vs ns → ns.length ≤ n → s₁.gens = #[] →
   codeAny (model l.prog w) callerA (.call (.ref fa) ⟨[.ref a],[]⟩) (fun r s' => r = .ok (.ret (.bool true)) ∧ OldK s₁.heap s'.heap ∧ s'.os = s₁.os ∧ AllBare s'.gens) s₁) :
  WalkO q loose XP YP l.row.toRowW d [] (fun f vs => PySem.call f vs) := by
 intro w s₀ s₁ mg mb G Y fa o pm cd doc dV kV ho hd hcd hD hmg hg args vals as hpre hlay hrd hwl hlo
 obtain rfl:dV = .none := Dflts.none hD hdf
 obtain rfl:kV = .none := Dflts.noKw hD
 obtain ⟨a,vs,ns,rfl,rfl,hobj,hints,hlen⟩ := script_of hn hpre hwl
 refine enter_call (codeAny_mono (call w s₀ s₁ mg mb fa o pm cd doc a vs ns G Y ho (fd_plain hd) hcd hmg hobj hints hlen hg) fun r s' hq => ?_)
 obtain ⟨rfl,h2,h3,h4⟩ := hq
 exact ⟨.inl ⟨.bool true,.bool true,[],rfl,fun _ => rfl,.bool true,post_true l _,fun _ => ⟨List.Pairwise.nil,fun _ hm => (nomatch hm)⟩⟩,h2,h3,h4⟩
section
variable {prog:Program} {w:World} {A:Around} {E:Value → Shared → Prop} {s:Shared} {K:Frag}
end
end Att
namespace L2
open PySem PySem.Spec PyProof.Rows
theorem vals_ints:∀ {vs:List Value} {ns:List Int},IntsAre vs ns → Vals (ns.map V.int) vs
 | _,_,.nil => .nil
 | _,_,.cons n t h => .cons ⟨t,rfl⟩ (vals_ints h)
noncomputable def Only (H:Hp):Prop := ∀ b,H b = none ∨ ∃ o xs,H b = some (.frz o (.lst xs))
theorem law_call {P:Program} {w:World} {K:PySem.W.Frag} {mg mb:Str → Option Value} {CX:CXT} {k:Nat} {fa a:Addr} {fd:FuncData} {x:Str} {sp:Sp} {s₁:Shared} {vs:List Value} {ns:List Int}
  (KX:K.In s₁.heap) (hns:s₁.heap.Ns mainGlobals mg) (hb:s₁.heap.Ns builtinsNs mb) (hbb:∀ x:Str,x ≠ "__name__" → mb x = bootBuiltins x) (hlim:s₁.heap.NoLimit) (hg:s₁.gens = #[])
  (ha:s₁.heap.get? a = some { cls := .type "list",data := .seq vs.toArray }) (hi:IntsAre vs ns) (hl:ns.length ≤ sizeLine) (hr:Room k callerA)
  (F:∀ base:Heap,K.In base → base.Ns mainGlobals mg → FnOk P w K mg base CX k fa fd [x] sp) (hbind:∀ (s:Shared) (u:Value),BindsTo s fd ⟨[u],[]⟩ [(x,u)])
  (hsp:∀ H:Hp,Only H → SqL K H a (ns.map V.int) → sp [.ref a] H (fun v _ => v = .bl true) fun _ _ _ => False)
  (hCX:∀ H e s',CX [] H s₁ (fun _ _ _ => False) e s' → False) :
  codeAny (model P w) callerA (.call (.ref fa) ⟨[.ref a],[]⟩) (fun r s' => r = .ok (.ret (.bool true)) ∧ OldK s₁.heap s'.heap ∧ s'.os = s₁.os ∧ AllBare s'.gens) s₁ := by
 have rv := vals_ints hi
 have lenV := hi.length
 have core:∀ H:Hp,Only H → SqL K H a (ns.map V.int) → HOk P w H s₁.heap → (∀ b,H b ≠ none → b = a) → (H a ≠ none → K.lookup a = none) →
   codeAny (model P w) callerA (.call (.ref fa) ⟨[.ref a],[]⟩) (fun r s' => r = .ok (.ret (.bool true)) ∧ OldK s₁.heap s'.heap ∧ s'.os = s₁.os ∧ AllBare s'.gens) s₁ := by
  intro H hO hS hok hA hK
  have base_of:∀ {b:Addr} {o:Obj},s₁.heap.get? b = some o → H b = none → (hidT s₁.heap H).get? b = some o := fun e n => hidT_get e n
  have noA:∀ {b:Addr} {o:Obj} {es:Array DictEntry} {ep:Nat},s₁.heap.get? b = some o → o.data = .dict es ep → H b = none := fun {b o es ep} e d => by
   cases q:H b with
   | none => rfl
   | some u =>
    have e':b = a := hA b (by rw [q]; simp)
    subst e'
    rw [ha] at e; cases e
    have d':Data.seq vs.toArray _ = Data.dict es ep := d
    cases d'
  have nsK:∀ {b:Addr} {m:Str → Option Value},s₁.heap.Ns b m → (hidT s₁.heap H).Ns b m := fun {b m} ⟨o,es,ep,e,d,r⟩ => ⟨o,es,ep,base_of e (noA e d),d,r⟩
  have hKb:K.In (hidT s₁.heap H) := fun b o e => base_of (KX b o e) (by
   cases q:H b with
   | none => rfl
   | some u =>
    have e':b = a := hA b (by rw [q]; simp)
    subst e'
    rw [hK (by rw [q]; simp)] at e; cases e)
  have hM:Mod K mg (hidT s₁.heap H) := ⟨hKb,nsK hns,⟨mb,nsK hb,hbb⟩,let ⟨mc,h1,h2⟩ := hlim; ⟨mc,nsK h1,h2⟩⟩
  have e0:Env0 P w K mg (hidT s₁.heap H) callerA [] s₁ H := ⟨rfl,hM,fun b o e => of_hidT e,Nat.le_of_eq (hidT_size _ _),trivial,fun b hb => absurd (show b ∈ ([]:List Addr) from hb) (by simp),hok,.of_eq hg⟩
  refine codeAny_mono ((F _ hKb (nsK hns)).run callerA [] s₁ H ⟨[.ref a],[]⟩ [.ref a] [.ref a] _ _ hr e0 (hbind s₁ (.ref a)) (.cons rfl .nil) (hsp H hO hS)) fun r s' h => ?_
  cases r with
  | error e => exact (hCX H e s' h).elim
  | ok fl =>
   cases fl with
   | next => exact False.elim h
   | brk => exact False.elim h
   | cont => exact False.elim h
   | ret u =>
    obtain ⟨v,H',os,bare,un,hok',r',q⟩ := h
    have q':v = .bl true := q
    subst q'
    obtain rfl:u = Value.bool true := r'
    refine ⟨rfl,OldK.of_keep fun b o e => ?_,os,bare⟩
    cases q:H b with
    | none => exact un.keep b o e q (by intro z; exact absurd (show b ∈ ([]:List Addr) from z) (by simp)) (by simp)
    | some u =>
     rcases hO b with z | ⟨ob,xs,z⟩
     ·rw [q] at z; cases z
     ·have z2 := un.frzs b ob _ z
      obtain ⟨e1,_⟩ := hok b _ z
      obtain ⟨e2,_⟩ := hok' b _ z2
      rw [e] at e1; cases e1
      exact e2
 cases hk:K.lookup a with
 | some o =>
  have e := KX a o hk
  rw [ha] at e
  cases e
  refine core (fun _ => none) (fun _ => .inl rfl) (.inr ⟨_,vs.toArray,_,hk,rfl,rfl,rfl,by rw [List.size_toArray,lenV]; exact hl,by simpa using rv⟩) (fun b u z => by have z':(none:Option HO) = some u := z; cases z') (fun b z => absurd rfl z) fun z => absurd rfl z
 | none =>
  refine core (fun b => if b = a then some (.frz { cls := .type "list",data := .seq vs.toArray } (.lst (ns.map V.int))) else none) (fun b => ?_) (.inl (.inr ⟨{ cls := .type "list",data := .seq vs.toArray },if_pos rfl⟩)) (fun b u z => ?_) (fun b z => ?_) fun _ => hk
  ·by_cases hb:b = a
   ·exact .inr ⟨_,_,if_pos hb⟩
   ·exact .inl (if_neg hb)
  ·by_cases hb:b = a
   ·have z' := (if_pos hb).symm.trans z
    cases z'
    subst hb
    exact ⟨ha,by rw [List.length_map]; exact hl,vs,_,rv,ha⟩
   ·have z' := (if_neg hb).symm.trans z
    cases z'
  ·by_cases hb:b = a
   ·exact hb
   ·exact absurd (if_neg hb) z
end L2
namespace L2
open PySem PySem.Spec PyProof.Rows
theorem walk_of {l:PySem.W.OpenLaw} {n k:Nat} {q:Program} {loose:List Str} {XP:(Str → Option Value) → Heap → Prop} {YP:World → Heap → Prop} {d:DefRec} {K:Params → PySem.W.Frag} {CX:World → CXT} {sp:World → Sp} {x:Str}
  (hn:l.most = some n) (hn2:n ≤ sizeLine) (hdf:d.params.defaults = []) (hr:Room k callerA)
  (hY:∀ (w:World) (h:Heap),YP w h → (K w.params).In h)
  (F:∀ (w:World) (mg:Str → Option Value) (fa:Addr) (h:Heap),(K w.params).In h → h.Ns mainGlobals mg → mg d.name = some (.ref fa) →
   ∃ fd:FuncData,(∀ (s:Shared) (u:Value),BindsTo s fd ⟨[u],[]⟩ [(x,u)]) ∧
    ∀ base:Heap,(K w.params).In base → base.Ns mainGlobals mg → FnOk l.prog w (K w.params) mg base (CX w) k fa fd [x] (sp w))
  (hsp:∀ (w:World) (H:Hp) (a:Addr) (ns:List Int),ns.length ≤ n → Only H → SqL (K w.params) H a (ns.map V.int) → sp w [.ref a] H (fun v _ => v = .bl true) fun _ _ _ => False)
  (hCX:∀ (w:World) (H:Hp) (s:Shared) (e:Value) (s':Shared),CX w [] H s (fun _ _ _ => False) e s' → False) :
  PySem.W.WalkO q loose XP YP l.row.toRowW d [] (fun f vs => PySem.call f vs) := by
 refine Att.attach_call hn hdf fun w s₀ s₁ mg mb fa o pm cd doc a vs ns G Y ho hd hcd hmg hobj hints hlen hg => ?_
 have KX := hY w _ Y
 obtain ⟨fd,hb,hF⟩ := F w mg fa _ KX G.T.g hmg
 exact law_call KX G.T.g G.T.b G.T.builtins G.T.nolimit hg hobj hints (Nat.le_trans hlen hn2) hr hF hb (fun H hO hS => hsp w H a ns hlen hO hS) fun H e s' => hCX w H s₁ e s'
end L2
/- THE LAST THEOREM (shape; LID,My.* are yours):
  My.Adr: a structure of the addresses that your layer names (classes,functions); My.Txt K t: a structure (Prop) of the equations over K;
  My.txt_mk:{K} {implicit addresses ..} (e1:nsIn K mainGlobals "law" = some (some (.ref f))) (e2:K.lookup f = some ⟨oc,od,.func (fnOf "law" "law" params body scope dV kV doc pm an cdv ct),sl⟩) (e3:codeIn K cdv "law" = true) ..:∃ t,My.Txt K t
(the tactic k_is has no namespace: write k_is) -/
namespace L2
open PySem PySem.Spec PyProof.Rows
noncomputable def inClass (s:Stmt) (j:Nat):Stmt := match s with
 | .ClassDef _ _ _ body _ _ _ _ _ _ _ => body.getD j (.Pass ⟨0,0,0,0⟩)
 | _ => .Pass ⟨0,0,0,0⟩
noncomputable def defArgs (s:Stmt):Arguments := match s with
 | .FunctionDef _ a _ _ _ _ _ _ _ _ => a
 | _ => { posonlyargs := [],args := [],vararg := none,kwonlyargs := [],kw_defaults := [],kwarg := none,defaults := [] }
noncomputable def defBody (s:Stmt):List Stmt := match s with
 | .FunctionDef _ _ b _ _ _ _ _ _ _ => b
 | _ => []
noncomputable def defScope (s:Stmt):Scope := match s with
 | .FunctionDef _ _ _ _ _ _ sc _ _ _ => sc
 | _ => { kind := .function,names := [],isGenerator := false,isCoroutine := false }
noncomputable abbrev CX0:CXT := fun _ _ _ _ _ _ => False
noncomputable abbrev E0:XK := fun _ _ _ => False
theorem pass0 {X:Cx}:Passes CX0 X E0 := fun _ _ _ _ _ _ _ h => h.elim
structure Fun (K:PySem.W.Frag) (x qual:Str) (st:Stmt) (f:Addr) (fd:FuncData):Prop where
 ex:∃ (oc:Value) (od:Option Addr) (kV doc pm:Value) (an:Option Addr) (cdv ct:Value) (osl:Array (Option Value)),
  fd = PySem.W.fnOf x qual (defArgs st) (defBody st) (defScope st) .none kV doc pm an cdv ct ∧ K.lookup f = some ⟨oc,od,.func fd,osl⟩ ∧ PySem.W.codeIn K cdv qual = true
 kp:PySem.W.keepIn K (.ref f) = true
section
variable {P:Program} {w:World} {K:PySem.W.Frag} {mg:Str → Option Value} {base:Heap}
theorem Fun.ok {x qual:Str} {st:Stmt} {f:Addr} {fd:FuncData} {N ps:List Str} {k:Nat} {sp:Sp} (F:Fun K x qual st f fd) (S:FnScope N ps (defScope st)) (len:∀ vs H Q E,sp vs H Q E → vs.length = ps.length)
  (hbody:∀ (cdv:Value) (A:Around) (outer:List Env) (s:Shared) (H:Hp) (vs:List V) (Q:VK) (E:XK),Room k (A.deeper (envOfC qual (defScope st) s.heap.objs.size f cdv)) → sp vs H Q E →
   ∃ t,PSs (cxOf CX0 P w K mg base N qual (defScope st) f cdv A outer s H E).nox (defBody st) t ∧ t { nx := fun _ H' => Q .non H',rt := Q } (start N vs) H):FnOk P w K mg base CX0 (k + 1) f fd ps sp := by
 obtain ⟨oc,od,kV,doc,pm,an,cdv,ct,osl,rfl,lk,hcd⟩ := F.ex
 refine fn_of lk hcd S len fun A outer s H vs Q E hr hsp => ?_
 obtain ⟨t,h,q⟩ := hbody cdv A outer s H vs Q E hr hsp
 exact ⟨t,h.nox,q⟩
theorem Fun.binds {x qual:Str} {st:Stmt} {f:Addr} {fd:FuncData} {ps:List Str} (F:Fun K x qual st f fd)
  (h:∀ (kV doc pm:Value) (an:Option Addr) (cdv ct:Value) (us:List Value),us.length = ps.length → bindArgs (PySem.W.fnOf x qual (defArgs st) (defBody st) (defScope st) .none kV doc pm an cdv ct) ⟨us,[]⟩ = pure (ps.zip us)):Binds K fd ps [] := by
 obtain ⟨oc,od,kV,doc,pm,an,cdv,ct,osl,rfl,lk,hcd⟩ := F.ex
 exact .all (h kV doc pm an cdv ct)
theorem fun_mk {x qual:Str} {st:Stmt} {f:Addr} {oc:Value} {od an:Option Addr} {osl:Array (Option Value)} {kV doc pm cdv ct:Value} (l:K.lookup f = some ⟨oc,od,.func (PySem.W.fnOf x qual (defArgs st) (defBody st) (defScope st) .none kV doc pm an cdv ct),osl⟩)
  (c:PySem.W.codeIn K cdv qual = true) (k:PySem.W.keepIn K (.ref f) = true):Fun K x qual st f (PySem.W.fnOf x qual (defArgs st) (defBody st) (defScope st) .none kV doc pm an cdv ct) := ⟨⟨oc,od,kV,doc,pm,an,cdv,ct,osl,rfl,l,c⟩,k⟩
end
theorem hu_of {A:Around} {k:Nat} (hr:Room k A):A.units + 1 < cLine := Nat.lt_of_le_of_lt (Nat.add_le_add_left (by decide:1 ≤ 64) _) hr.units
theorem small1000 {n:Nat} (h:n ≤ 1000):n < sizeLine := Nat.lt_of_le_of_lt h (by decide)
section
variable {X:Cx}
theorem pv (i:Nat) {x:Str} {pos:Pos} (hN:X.N[i]? = some x := by rfl) (hv:Vis X.env.scope x := by first | exact Or.inl rfl | exact Or.inr (Or.inl rfl) | exact Or.inr (Or.inr rfl)) (hd:(x == ("__debug__":Str)) = false := by decide)
  (hcd:(x == ("__classdict__":Str)) = false := by decide):PE X (.Name x pos) (tVar i) := pe_var hN hv hd hcd
end
noncomputable def Same (H H':Hp):Prop := ∀ b o,H b = some o → H' b = some o
theorem Same.refl (H:Hp):Same H H := fun _ _ h => h
theorem Same.trans {H H1 H2:Hp} (a:Same H H1) (b:Same H1 H2):Same H H2 := fun c o h => b c o (a c o h)
theorem Same.free {H H':Hp} (e:Same H H') {l:Addr} (h:H' l = Option.none):H l = Option.none := by
 cases q:H l with
 | none => rfl
 | some o =>
  rw [e l o q] at h
  cases h
theorem Same.seq {K:PySem.W.Frag} {H H':Hp} {a:Addr} {xs:List V} (e:Same H H') (h:SqL K H a xs):SqL K H' a xs := by
 rcases h with (h | ⟨o,h⟩) | h
 ·exact .inl (.inl (e _ _ h))
 ·exact .inl (.inr ⟨o,e _ _ h⟩)
 ·exact .inr h
end L2
set_option maxHeartbeats 4000000
namespace L2
open PySem PySem.Spec PyProof.Rows
structure Cal (P:Program) (w:World) (K:PySem.W.Frag) (mg:Str → Option Value) (base:Heap) (x:Str) (ps:List Str) (k:Nat) (sp:Sp):Prop where
 ex:∃ (f:Addr) (fd:FuncData),FnOk P w K mg base CX0 k f fd ps sp ∧ Binds K fd ps [] ∧ PySem.W.keepIn K (.ref f) = true ∧ mg x = some (.ref f)
theorem pe_cal {X:Cx} {x:Str} {ps:List Str} {k:Nat} {sp:Sp} {e:Expr} {es:List Expr} {t:TA} {p pos:Pos} (C:Cal X.prog X.w X.K X.mg X.base x ps k sp) (hr:Room k X.A) (hg:Gl X x) (ha:PA X (e :: es) t)
  (hdb:(x == ("__debug__":Str)) = false := by decide) (he:starEach (e :: es) X.env = (false,eval e X.env) :: starEach es X.env := by rfl) (hpl:(backTo pos (starEach es X.env)).any (·.1) = false := by rfl) :
  PE X (.Call (.Name x p) (e :: es) [] pos) (tCall sp [] E0 t) := by
 obtain ⟨f,fd,F,b,hk,hm⟩ := C.ex
 exact pe_call F hr hg hm hk b .nil pass0 ha hdb he hpl
noncomputable def subN (n T:String):Bool := n == T || (n == "bool" && T == "int")
noncomputable def tyN (H:Hp) (x:V) (n:String):Prop := match x with
 | .bl _ => n = "bool"
 | .int _ => n = "int"
 | .str _ => n = "str"
 | .ref a => (n = "list" ∧ ∃ xs,H a = some (.lst xs)) ∨ (n = "tuple" ∧ ∃ xs,H a = some (.tup xs))
 | _ => False
theorem tyN_int {H:Hp} {i:Int} {n:String}:tyN H (.int i) n = (n = "int") := rfl
theorem tyN_bl {H:Hp} {i:Bool} {n:String}:tyN H (.bl i) n = (n = "bool") := rfl
theorem tyN_str {H:Hp} {i:Str} {n:String}:tyN H (.str i) n = (n = "str") := rfl
theorem tyN_ref {H:Hp} {a:Addr} {n:String}:tyN H (.ref a) n = ((n = "list" ∧ ∃ xs,H a = some (.lst xs)) ∨ (n = "tuple" ∧ ∃ xs,H a = some (.tup xs))) := rfl
noncomputable def okT (T:String):Prop := T = "int" ∨ T = "bool" ∨ T = "str" ∨ T = "list" ∨ T = "tuple"
theorem kit_sub {K:PySem.W.Frag} {n T:String} (hn:okT n) (hT:okT T):PySem.W.kitOne K (.type n) (.type T) = some (subN n T) := by
 rcases hn with rfl | rfl | rfl | rfl | rfl <;> rcases hT with rfl | rfl | rfl | rfl | rfl <;> rfl
theorem tyN_of {K:PySem.W.Frag} {H:Hp} {x:V} {n:String} (h:tyN H x n):TyOf K H x (.type n) ∧ okT n := by
 cases x with
 | bl b => cases (show n = "bool" from h); exact ⟨.bl b,by simp [okT]⟩
 | int i => cases (show n = "int" from h); exact ⟨.int i,by simp [okT]⟩
 | str i => cases (show n = "str" from h); exact ⟨.str i,by simp [okT]⟩
 | ref a =>
  rcases (show (n = "list" ∧ ∃ xs,H a = some (.lst xs)) ∨ (n = "tuple" ∧ ∃ xs,H a = some (.tup xs)) from h) with ⟨rfl,xs,e⟩ | ⟨rfl,xs,e⟩
  ·exact ⟨.lst e,by simp [okT]⟩
  ·exact ⟨.tup e,by simp [okT]⟩
 | _ => exact False.elim h
theorem okT_int:okT "int" := by simp [okT]
theorem okT_bool:okT "bool" := by simp [okT]
theorem okT_str:okT "str" := by simp [okT]
theorem okT_list:okT "list" := by simp [okT]
theorem okT_tuple:okT "tuple" := by simp [okT]
theorem subN_ii:subN "int" "int" = true := rfl
theorem subN_ib:subN "int" "bool" = false := rfl
theorem subN_bb:subN "bool" "bool" = true := rfl
theorem subN_bi:subN "bool" "int" = true := rfl
theorem subN_ss:subN "str" "str" = true := rfl
theorem subN_ll:subN "list" "list" = true := rfl
theorem subN_tt:subN "tuple" "tuple" = true := rfl
noncomputable def rIsi:List V → Hp → VK → Prop := fun xs H Q => ∃ x T n,xs = [x,.ty T] ∧ okT T ∧ tyN H x n ∧ Q (.bl (subN n T)) H
theorem call_isi {X:Cx}:CallR X (.builtin "isinstance") rIsi := by
 intro pins s σ H xs us Q I r h
 obtain ⟨x,T,n,rfl,hT,ty,q⟩ := h
 obtain ⟨u,u',rfl,rx,rT⟩ := vals2 r
 obtain rfl:u' = Value.type T := rT
 obtain ⟨ty',hn⟩ := tyN_of (K := X.K) ty
 exact isinst_ok I rx ty' (kit_sub hn hT) fun tk => ⟨.bl _,H,I.tok _,rfl,q⟩
theorem scal_ii {i j:Int}:scal (.int i) (.int j) = true := rfl
theorem scal_bb {i j:Bool}:scal (.bl i) (.bl j) = true := rfl
theorem scal_ss {i j:Str}:scal (.str i) (.str j) = true := rfl
theorem tEqI' {i j:Int}:decide (V.int i = V.int j) = decide (i = j) := by
 by_cases h:i = j
 ·subst h; simp
 ·have:¬ V.int i = V.int j := fun e => h (V.int.inj e)
  simp [h,this]
noncomputable def tCut (t u:TS):TS := fun D σ H => ∃ R:St → Hp → Prop,t { D with nx := R } σ H ∧ ∀ σ' H',R σ' H' → u D σ' H'
theorem pss_cut {X:Cx} {st:Stmt} {rest:List Stmt} {t u:TS} (h1:PS X st t) (h2:PSs X rest u):PSs X (st :: rest) (tCut t u) := by
 intro pins s σ H D I h
 obtain ⟨R,ha,hb⟩ := h
 refine wpAny_execs_cons (thn (h1 pins s σ H { D with nx := R } I ha) fun f s1 q => ?_)
 cases f with
 | next =>
  obtain ⟨σ',H',I',q⟩ := q
  exact h2 pins s1 σ' H' D I' (hb σ' H' q)
 | ret v => exact q
 | brk => exact q
 | cont => exact q
theorem cut_of {t u:TS} {D:Ends} {σ:St} {H:Hp} (R:St → Hp → Prop) (h1:t { D with nx := R } σ H) (h2:∀ σ' H',R σ' H' → u D σ' H'):tCut t u D σ H := ⟨R,h1,h2⟩
theorem for_rangeW {lo:Int} {n:Nat} {σ:St} {H:Hp} {DN:St → Hp → Prop} {B:(St → Hp → Prop) → V → St → Hp → Prop} (Pv:Nat → St → Hp → Prop) (h0:Pv 0 σ H)
  (hs:∀ i σ H,i < n → Pv i σ H → B (Pv (i + 1)) (.int (lo + i)) σ H) (hd:∀ σ H,Pv n σ H → DN σ H) :
  ∃ W:Nat → Nat → St → Hp → Prop,(∃ m,W 0 m σ H) ∧ ∀ i m σ H,W i m σ H →
   ((Itr lo n).stop i H ∧ DN σ H) ∨ ((Itr lo n).go i H ∧ ∃ N:St → Hp → Prop,(∀ σ' H',N σ' H' → ∃ m',m' < m ∧ W (i + 1) m' σ' H') ∧ ∀ x H',(Itr lo n).yld i H x H' → B N x σ H') := by
 refine ⟨fun i m σ H => m = n - i ∧ i ≤ n ∧ Pv i σ H,⟨n,by simp,Nat.zero_le _,h0⟩,?_⟩
 rintro i m σ H ⟨rfl,hi,p⟩
 by_cases hlt:i < n
 ·refine .inr ⟨hlt,Pv (i + 1),fun σ' H' p' => ⟨n - (i + 1),by omega,rfl,hlt,p'⟩,fun x H' y => ?_⟩
  obtain ⟨e,y⟩ := y
  subst e y
  exact hs i σ _ hlt p
 ·have e:i = n := by lia
  subst e
  exact .inl ⟨Nat.le_refl _,hd σ H p⟩
theorem for_listW {K:PySem.W.Frag} {a:Addr} {xs:List V} {σ:St} {H:Hp} {DN:St → Hp → Prop} {B:(St → Hp → Prop) → V → St → Hp → Prop} (Pv:Nat → St → Hp → Prop) (h0:Pv 0 σ H)
  (hl:∀ i σ H,i ≤ xs.length → Pv i σ H → SqL K H a xs)
  (hs:∀ i x σ H,xs[i]? = some x → Pv i σ H → B (Pv (i + 1)) x σ H) (hd:∀ σ H,Pv xs.length σ H → DN σ H) :
  ∃ W:Nat → Nat → St → Hp → Prop,(∃ m,W 0 m σ H) ∧ ∀ i m σ H,W i m σ H →
   ((Itl K a).stop i H ∧ DN σ H) ∨ ((Itl K a).go i H ∧ ∃ N:St → Hp → Prop,(∀ σ' H',N σ' H' → ∃ m',m' < m ∧ W (i + 1) m' σ' H') ∧ ∀ x H',(Itl K a).yld i H x H' → B N x σ H') := by
 refine ⟨fun i m σ H => m = xs.length - i ∧ i ≤ xs.length ∧ Pv i σ H,⟨xs.length,by simp,Nat.zero_le _,h0⟩,?_⟩
 rintro i m σ H ⟨rfl,hi,p⟩
 have q := hl i σ H hi p
 by_cases hlt:i < xs.length
 ·refine .inr ⟨⟨xs,xs[i],q,by simp [hlt]⟩,Pv (i + 1),fun σ' H' p' => ⟨xs.length - (i + 1),by omega,rfl,hlt,p'⟩,fun x H' y => ?_⟩
  obtain ⟨e,y⟩ := y
  subst e
  exact hs i x σ _ (y xs q) p
 ·have e:i = xs.length := by lia
  subst e
  exact .inl ⟨⟨xs,q,Nat.le_refl _⟩,hd σ H p⟩
end L2
namespace L2
open PySem PySem.Spec PyProof.Rows
noncomputable def clStep (env:Env) (cs:List (Str × Addr)) (y:Str × NameKind):List (Str × Addr) := if y.2 == .free then (y.1,(env.cells.lookup y.1).getD 0) :: cs else cs
noncomputable def clOf (names:List (Str × NameKind)) (env:Env):List (Str × Addr) := names.foldl (clStep env) []
theorem closure_go {env:Env}:∀ (names:List (Str × NameKind)) (acc:List (Str × Addr)),(∀ y ∈ names,y.2 = .free → ∃ c,env.cells.lookup y.1 = some c) →
  (forIn names acc fun (x:Str × NameKind) (cs:List (Str × Addr)) => if (x.2 == NameKind.free) = true then (do let a ← cellOf env x.1; pure (ForInStep.yield ((x.1,a) :: cs))) else (pure (ForInStep.yield cs):Sem (ForInStep (List (Str × Addr))))) = pure (names.foldl (clStep env) acc)
 | [],_,_ => rfl
 | y :: r,acc,h => by
  have ih := closure_go (env := env) r
  rw [List.forIn_cons]
  by_cases hk:y.2 = .free
  ·obtain ⟨c,hc⟩ := h y List.mem_cons_self hk
   have hb:(y.2 == NameKind.free) = true := by rw [hk]; rfl
   have e:cellOf env y.1 = pure c := by unfold cellOf; rw [hc]
   rw [if_pos hb,e]
   show (forIn r ((y.1,c) :: acc) _:Sem _) = _
   rw [ih _ fun z hz => h z (List.mem_cons_of_mem _ hz),List.foldl_cons]
   show _ = pure (r.foldl (clStep env) (if (y.2 == NameKind.free) = true then (y.1,(env.cells.lookup y.1).getD 0) :: acc else acc))
   rw [if_pos hb,hc]; rfl
  ·have hb:¬ (y.2 == NameKind.free) = true := by simpa using hk
   rw [if_neg hb]
   show (forIn r acc _:Sem _) = _
   rw [ih _ fun z hz => h z (List.mem_cons_of_mem _ hz),List.foldl_cons]
   show _ = pure (r.foldl (clStep env) (if (y.2 == NameKind.free) = true then (y.1,(env.cells.lookup y.1).getD 0) :: acc else acc))
   rw [if_neg hb]
theorem closure_is {scope:Scope} {env:Env} (h:∀ y ∈ scope.names,y.2 = .free → ∃ c,env.cells.lookup y.1 = some c):closureFor scope env = pure (clOf scope.names env) := by
 have e := closure_go scope.names [] h
 unfold closureFor clOf
 refine Eq.trans ?_ (congrArg (fun t => t >>= fun (r:List (Str × Addr)) => (pure r:Sem (List (Str × Addr)))) e)
 rfl
theorem mem_cl {env:Env}:∀ {names:List (Str × NameKind)} {acc:List (Str × Addr)} {p:Str × Addr},p ∈ names.foldl (clStep env) acc → p ∈ acc ∨ ((p.1,NameKind.free) ∈ names ∧ p.2 = (env.cells.lookup p.1).getD 0)
 | [],_,_,h => .inl h
 | y :: r,acc,p,h => by
  rw [List.foldl_cons] at h
  rcases mem_cl h with h | ⟨h,e⟩
  ·unfold clStep at h
   split at h
   ·rename_i hk
    rcases List.mem_cons.mp h with rfl | h
    ·have:y.2 = .free := by simpa using hk
     exact .inr ⟨by rw [← this]; exact List.mem_cons_self,rfl⟩
    ·exact .inl h
   ·exact .inl h
  ·exact .inr ⟨List.mem_cons_of_mem _ h,e⟩
theorem cl_mem {env:Env} {x:Str}:∀ {names:List (Str × NameKind)} {acc:List (Str × Addr)},((∃ c,(x,c) ∈ acc) ∨ (x,NameKind.free) ∈ names) → ∃ c,(x,c) ∈ names.foldl (clStep env) acc
 | [],_,h => by
  rcases h with h | h
  ·exact h
  ·cases h
 | y :: r,acc,h => by
  rw [List.foldl_cons]
  refine cl_mem ?_
  rcases h with ⟨c,h⟩ | h
  ·refine .inl ⟨c,?_⟩
   unfold clStep
   split
   ·exact List.mem_cons_of_mem _ h
   ·exact h
  ·rcases List.mem_cons.mp h with rfl | h
   ·refine .inl ⟨(env.cells.lookup x).getD 0,?_⟩
    unfold clStep
    exact List.mem_cons_self
   ·exact .inr h
theorem lookup_some_of_mem {x:Str} {c:Addr}:∀ {l:List (Str × Addr)},(x,c) ∈ l → ∃ c',l.lookup x = some c'
 | [],h => by cases h
 | (y,d) :: r,h => by
  rw [List.lookup_cons]
  by_cases e:x == y
  ·rw [e]; exact ⟨d,rfl⟩
  ·have e':(x == y) = false := by simpa using e
   rw [e']
   rcases List.mem_cons.mp h with z | z
   ·cases z; simp at e
   ·exact lookup_some_of_mem z
noncomputable def Cx.comp (X:Cx) (scope:Scope) (N':List Str) (s₀:Shared) (H₀:Hp) (fp:List Addr) (C:Addr):Cx where
 prog := X.prog
 w := X.w
 K := X.K
 mg := X.mg
 base := X.base
 A := X.A
 N := N'
 s₀ := s₀
 H₀ := H₀
 env := compEnvC scope (clOf scope.names X.env) C X.env
 outer := X.stack
 stack := X.stack
 ex := fp
 fn := fun _ => false
 calm := X.calm
 pn := []
 xe := fun _ _ => False
structure CompSc (X:Cx) (scope:Scope) (N' own fnames:List Str) (fr:List Nat):Prop where
 kind:scope.kind = .function
 nocell:(scope.names.all fun y => y.2 != .cell) = true
 free:(scope.names.all fun y => y.2 != .free || X.env.kindOf y.1 == some .cell) = true
 loc:(scope.names.all fun y => y.2 != .local || scope.names.lookup y.1 == some .local) = true
 fn:(fnames.all fun x => X.env.kindOf x == some .cell && (relabel scope X.env).names.lookup x == some .cell) = true
 N:N' = own ++ fnames
 fr:fr.map (fun j => X.N[j]?) = fnames.map some
noncomputable def compSt (k:Nat) (fr:List Nat) (σ:St):St := List.replicate k none ++ fr.map fun j => (σ[j]?).getD none
noncomputable def PTs (X:Cx) (ifs:List Expr) (t:TT):Prop :=
 ∀ (pins:List (Addr × Obj)) (s:Shared) (σ:St) (H:Hp) (Q:Bool → Hp → Prop),Inv X pins σ H s → t σ H Q →
  wpAny (model X.prog X.w) X.A (forIn ifs true fun c r => if r = true then do let ok ← isTrue c X.env (eval c X.env); pure (ForInStep.yield ok) else pure (ForInStep.yield r)) (TP X pins σ Q) X.xe s
noncomputable def tTrue:TT := fun _ H Q => Q true H
theorem pts_nil {X:Cx}:PTs X [] tTrue := fun pins s σ H Q I h => wpAny_pure ⟨H,I,h⟩
theorem pts_one {X:Cx} {c:Expr} {t:TT} (hc:PT X c t):PTs X [c] t := by
 intro pins s σ H Q I h
 rw [List.forIn_cons]
 refine wpAny_bind ?_
 rw [if_pos rfl]
 refine wpAny_bind (thn (hc pins s σ H Q I h) fun b s1 q => wpAny_pure ?_)
 exact wpAny_pure q
section
variable {X:Cx} {scope:Scope} {N' own fnames:List Str} {fr:List Nat} {pins:List (Addr × Obj)} {σ:St} {H:Hp} {s₃:Shared} {fp:List Addr}
theorem CompSc.has (S:CompSc X scope N' own fnames fr) (ok:X.Ok):∀ y ∈ scope.names,y.2 = .free → ∃ c,X.env.cells.lookup y.1 = some c := fun y hy hf => by
 have h := List.all_eq_true.mp S.free y hy
 rw [hf] at h
 exact ok.has _ (.inl (by simpa using h))
theorem CompSc.cell (S:CompSc X scope N' own fnames fr) (ok:X.Ok) {y:Str} {c:Addr} (h:(clOf scope.names X.env).lookup y = some c):X.env.cells.lookup y = some c := by
 rcases mem_cl (PySem.mem_of_lookup h) with z | ⟨z,e⟩
 ·cases z
 ·obtain ⟨d,hd⟩ := S.has ok _ z rfl
  have hd':X.env.cells.lookup y = some d := hd
  have e':c = (X.env.cells.lookup y).getD 0 := e
  rw [hd'] at e'
  rw [hd',e']; rfl
theorem mem_of_lookupK {x:Str} {k:NameKind}:∀ {l:List (Str × NameKind)},l.lookup x = some k → (x,k) ∈ l
 | [],h => by simp at h
 | (y,d) :: r,h => by
  rw [List.lookup_cons] at h
  by_cases e:x == y
  ·rw [e] at h
   have e1:x = y := by simpa using e
   cases h; subst e1
   exact List.mem_cons_self
  ·have e':(x == y) = false := by simpa using e
   rw [e'] at h
   exact List.mem_cons_of_mem _ (mem_of_lookupK h)
theorem CompSc.names (S:CompSc X scope N' own fnames fr) {y:Str} {k:NameKind} (h:(relabel scope X.env).names.lookup y = some k) (hk:k = .cell ∨ k = .free):(y,NameKind.free) ∈ scope.names := by
 have hm := mem_of_lookupK h
 unfold relabel at hm
 obtain ⟨⟨n,k0⟩,hn,e⟩ := List.mem_map.mp hm
 dsimp only at e
 split at e
 ·rename_i hc
  have:k0 = .free := by
   simp only [Bool.and_eq_true,beq_iff_eq] at hc
   exact hc.1.1
  cases e; subst this; exact hn
 ·cases e
  rcases hk with rfl | rfl
  ·have := List.all_eq_true.mp S.nocell _ hn
   simp at this
  ·exact hn
theorem comp_ok {C:Addr} (S:CompSc X scope N' own fnames fr) (I:Inv X pins σ H s₃) (hC:s₃.heap.objs.size ≤ C) (hf:∀ b ∈ fp,FpOk X pins H b) (hlt:∀ b ∈ fp,b < s₃.heap.objs.size):(X.comp scope N' s₃ H fp C).Ok := by
 have cellI:∀ y c,(clOf scope.names X.env).lookup y = some c → X.env.cells.lookup y = some c := fun y c h => S.cell I.ok h
 refine ⟨I.ok.mod,S.kind,I.ok.glob,I.ok.blt,hC,fun x y c h1 h2 => I.ok.inj x y c (cellI x c h1) (cellI y c h2),fun x hx => ?_,fun x c h => (by cases h),I.ok.hd,I.ok.frames,.inl rfl,fun b hb => ⟨?_,fun x c h => (hf b hb).2.2.2.2.1 x c (cellI x c h)⟩,fun b o e => I.bs b o e,Nat.le_trans I.ok.bsz I.sz,fun b o e hb => ?_,fun b hb hb' => ?_,I.stack,I.stkFree⟩
 ·have hm:(x,NameKind.free) ∈ scope.names := by
   rcases hx with h | h
   ·exact S.names (show (relabel scope X.env).names.lookup x = some .cell from h) (.inl rfl)
   ·exact S.names (show (relabel scope X.env).names.lookup x = some .free from h) (.inr rfl)
  obtain ⟨c,hc⟩ := cl_mem (env := X.env) (acc := []) (.inr hm)
  exact lookup_some_of_mem hc
 ·intro z
  have h1 := hlt b hb
  have z':b = C := z
  rw [z'] at h1
  exact absurd (Nat.lt_of_lt_of_le h1 hC) (Nat.lt_irrefl _)
 ·obtain ⟨_,_,_,h3,_⟩ := hf b hb
  rcases h3 with h3 | h3
  ·exact I.ok.noex b o e h3
  ·exact absurd (Nat.lt_of_lt_of_le (Heap.lt_size e) (Nat.le_trans I.ok.bsz h3)) (Nat.lt_irrefl _)
 ·obtain ⟨_,h1,h2,_⟩ := hf b hb
  rcases List.mem_cons.mp (I.stkSub b hb') with z | z
  ·exact h1 z
  ·exact h2 z
theorem comp_start {h₄:Heap} {t₄:Nat} {m:Str → Option Value} (S:CompSc X scope N' own fnames fr) (I:Inv X pins σ H s₃) (hf:∀ b ∈ fp,FpOk X pins H b) (hlt:∀ b ∈ fp,b < s₃.heap.objs.size)
  (k:∀ b o,s₃.heap.get? b = some o → h₄.get? b = some o) (hn:h₄.Ns s₃.heap.objs.size m) :
  Inv (X.comp scope N' s₃ H fp s₃.heap.objs.size) [] (compSt own.length fr σ) H { s₃ with heap := h₄,toks := t₄ } := by
 have hlen:fr.length = fnames.length := by simpa using congrArg List.length S.fr
 refine ⟨comp_ok S I (Nat.le_refl _) hf hlt,rfl,I.bare,Un.kept k,⟨m,hn,fun i x v e1 e2 e3 => ?_⟩,fun y c h => ?_,I.hok.fresh (Nat.le_refl _),fun y c h => I.freeC y c (S.cell I.ok h),fun p hp => absurd (show p ∈ ([]:List (Addr × Obj)) from hp) (by simp),I.hok.kept k,?_⟩
 ·have e1':(own ++ fnames)[i]? = some x := by rw [← S.N]; exact e1
  have hi:own.length ≤ i := by
   refine Nat.le_of_not_lt fun z => ?_
   unfold compSt at e2
   rw [List.getElem?_append_left (by simpa using z),List.getElem?_replicate,if_pos z] at e2
   cases e2
  unfold compSt at e2
  rw [List.getElem?_append_right (by simpa using hi),List.length_replicate,List.getElem?_map] at e2
  rw [List.getElem?_append_right hi] at e1'
  cases q:fr[i - own.length]? with
  | none => rw [q] at e2; cases e2
  | some t =>
   rw [q] at e2
   have e2':(σ[t]?).getD none = some v := Option.some.inj e2
   have hσ:σ[t]? = some (some v) := by
    cases z:σ[t]? with
    | none => rw [z] at e2'; cases e2'
    | some o => rw [z] at e2'; exact congrArg some e2'
   have hN:X.N[t]? = some x := by
    have z := congrArg (fun l => l[i - own.length]?) S.fr
    simp only [List.getElem?_map,q,e1',Option.map_some] at z
    exact Option.some.inj z
   have hx:x ∈ fnames := List.mem_of_getElem? e1'
   have hk := List.all_eq_true.mp S.fn x hx
   simp only [Bool.and_eq_true,beq_iff_eq] at hk
   obtain ⟨mX,_,hl⟩ := I.loc
   obtain ⟨u,r,l⟩ := hl t x v hN hσ (.inr (.inl hk.1))
   refine ⟨u,r,?_⟩
   rcases l with ⟨kl,_⟩ | ⟨_,c,hc,o,ho,hd⟩
   ·rw [hk.1] at kl; cases kl
   ·obtain ⟨d,hd'⟩ := cl_mem (env := X.env) (acc := []) (.inr (S.names hk.2 (.inl rfl)))
    obtain ⟨c',hc'⟩ := lookup_some_of_mem hd'
    have z := S.cell I.ok hc'
    rw [hc] at z
    cases z
    exact .inr ⟨.inl hk.2,c,hc',o,k c o ho,hd⟩
 ·obtain ⟨v,o,ho,hd⟩ := I.cell y c (S.cell I.ok h)
  exact ⟨v,o,k c o ho,hd⟩
 ·unfold compSt
  show _ = N'.length
  rw [S.N,List.length_append,List.length_append,List.length_replicate,List.length_map,hlen]
noncomputable def tBlk (k:Nat) (fr:List Nat) (g:TG) (tt:TT) (te:TE) (J:It) (σ:St) (H1:Hp) (Q:VK):Prop :=
 ∀ D,H1 D = none → ∃ W:Nat → Nat → St → Hp → Prop,(∃ m,W 0 m (compSt k fr σ) (upd H1 D (.lst []))) ∧ ∀ i m σ' H',W i m σ' H' →
  (J.stop i H' ∧ Q (.ref D) H') ∨ (J.go i H' ∧ ∃ N:St → Hp → Prop,(∀ σ2 H2,N σ2 H2 → ∃ m',m' < m ∧ W (i + 1) m' σ2 H2) ∧ ∀ x H2,J.yld i H' x H2 →
   g x σ' H2 fun σ2 H3 => tt σ2 H3 fun b H4 => if b = true then te σ2 H4 fun v H5 => ∃ xs,H5 D = some (.lst xs) ∧ xs.length < sizeLine ∧ N σ2 (upd H5 D (.lst (xs ++ [v]))) else N σ2 H4)
noncomputable def tComp (wi:TI) (k:Nat) (fr:List Nat) (g:TG) (tt:TT) (te:TE):TE := fun σ H Q => wi σ H fun J H1 => tBlk k fr g tt te J σ H1 Q
theorem comp_run {elt tg iter:Expr} {ifs:List Expr} {pos:Pos} {g:TG} {tt:TT} {te:TE} {s₂:Shared} {H2:Hp} {J:It} {it:Addr} {tn:Nat → Heap → Prop} {RR:Value → Addr → Result → Shared → Prop} {E:Value → Shared → Prop} {Q:VK}
  (S:CompSc X scope N' own fnames fr) (hc:X.calm = true)
  (hb:∀ (s₀:Shared) (H₀:Hp) (fp:List Addr) (C:Addr),PG (X.comp scope N' s₀ H₀ fp C) tg g ∧ PTs (X.comp scope N' s₀ H₀ fp C) ifs tt ∧ PE (X.comp scope N' s₀ H₀ fp C) elt te)
  (I2:Inv X pins σ H2 s₂) (T:Turn X.prog X.w X.K tg J fp it tn) (st2:tn 0 s₂.heap) (f2:∀ b ∈ fp,FpOk X pins H2 b) (hq:tBlk own.length fr g tt te J σ H2 Q)
  (hRR:∀ D C H' s',Inv X pins σ H' s' → (∃ m,s'.heap.Ns C m) → FpOk X pins H' C → Q (.ref D) H' → RR (.ref D) C (.ok .next) s') :
  wpAny (model X.prog X.w) X.A (newList []) (fun acc s₃ => wpAny (model X.prog X.w) X.A (newFunctionEnv scope X.env.globals (clOf scope.names X.env) [] X.env.qual none .none (some X.env)) (fun cenv s₄ =>
   codeAny (model X.prog X.w) X.A (.compStart (.ListComp elt [⟨tg,iter,ifs,0⟩] scope pos) 0 (.ref it) acc { cenv with scope := relabel scope X.env }) (RR acc cenv.locals) s₄) E s₃) E s₂ := by
 have nocell:∀ y ∈ scope.names,y.2 ≠ .cell := fun y hy z => by
  have := List.all_eq_true.mp S.nocell y hy
  rw [z] at this
  simp at this
 refine wpAny_newObj_type (wpAny_newFunctionEnv nocell (by intro y hy; simp at hy) (fun h₁ hns₁ hsb₁ => ?_) S.kind)
 have hlt2:∀ b ∈ fp,b < s₂.heap.objs.size := fun b hb' => by
  obtain ⟨o,e,_⟩ := T.obj _ _ st2 b hb'
  exact Heap.lt_size e
 have I3:Inv X pins σ (upd H2 s₂.heap.objs.size (.lst [])) { s₂ with heap := s₂.heap.push { cls := .type "list",data := .seq ([]:List Value).toArray },toks := s₂.toks } := I2.lnew (its := []) (ys := []) .nil (Nat.zero_le _)
 have hD:H2 s₂.heap.objs.size = none := I2.fresh
 obtain ⟨W,⟨m0,w0⟩,turn⟩ := hq _ hD
 generalize hs3:({ s₂ with heap := s₂.heap.push { cls := .type "list",data := .seq ([]:List Value).toArray },toks := s₂.toks }:Shared) = s₃ at I3
 have eh:s₃.heap = s₂.heap.push { cls := .type "list",data := .seq ([]:List Value).toArray } := by rw [← hs3]
 have hsz:s₃.heap.objs.size = s₂.heap.objs.size + 1 := by rw [eh,Heap.size_push]
 have f3:∀ b ∈ fp,FpOk X pins (upd H2 s₂.heap.objs.size (.lst [])) b := fun b hb' => by
  refine ⟨?_,(f2 b hb').2⟩
  rw [upd_ne (Nat.ne_of_lt (hlt2 b hb'))]
  exact (f2 b hb').1
 have hlt3:∀ b ∈ fp,b < s₃.heap.objs.size := fun b hb' => by rw [hsz]; exact Nat.lt_succ_of_lt (hlt2 b hb')
 have old:∀ b o,s₃.heap.get? b = some o → h₁.get? b = some o := fun b o e => by
  have hb1:b ≠ s₃.heap.objs.size := Nat.ne_of_lt (Heap.lt_size e)
  refine hsb₁.extBut b o ?_ ?_
  ·show b ≠ (s₂.heap.push _).objs.size
   rw [← eh]; exact hb1
  ·show (Heap.push (s₂.heap.push _) _).get? b = some o
   rw [← eh]
   exact Heap.get?_push_of_some _ e
 have hns:∃ m,h₁.Ns s₃.heap.objs.size m := ⟨_,by rw [eh]; exact hns₁⟩
 obtain ⟨m1,hns⟩ := hns
 have I4:Inv (X.comp scope N' s₃ (upd H2 s₂.heap.objs.size (.lst [])) fp s₃.heap.objs.size) [] (compSt own.length fr σ) (upd H2 s₂.heap.objs.size (.lst [])) { s₃ with heap := h₁,toks := s₂.toks + ([]:List (Str × Value)).length } :=
  comp_start S I3 f3 hlt3 old hns
 have st4:tn 0 h₁ := T.keep _ _ _ st2 fun b hb' o e => old b o (by rw [eh]; exact Heap.get?_push_of_some _ e)
 obtain ⟨hpg,hpt,hpe⟩ := hb s₃ (upd H2 s₂.heap.objs.size (.lst [])) fp s₃.heap.objs.size
 have fpok:∀ {H':Hp},(∀ b ∈ fp,H' b = none) → ∀ b ∈ fp,FpOk (X.comp scope N' s₃ (upd H2 s₂.heap.objs.size (.lst [])) fp s₃.heap.objs.size) [] H' b := fun hn b hb' =>
  ⟨hn b hb',fun z => by
    have h1 := hlt3 b hb'
    have z':b = s₃.heap.objs.size := z
    rw [z'] at h1
    exact absurd h1 (Nat.lt_irrefl _),fun z => I4.ok.exfs b hb' z,.inl hb',fun x c e => (I4.ok.exf b hb').2 x c e,fun p hp => absurd (show p ∈ ([]:List (Addr × Obj)) from hp) (by simp)⟩
 have loop:∀ s4:Shared,s4 = { s₃ with heap := h₁,toks := s₂.toks + ([]:List (Str × Value)).length } →
   codeAny (model X.prog X.w) X.A (.compLoop (.ListComp elt [⟨tg,iter,ifs,0⟩] scope pos) 0 (.ref it) (.ref s₂.heap.objs.size) (compEnvC scope (clOf scope.names X.env) s₃.heap.objs.size X.env)) (RR (.ref s₂.heap.objs.size) s₃.heap.objs.size) s4 := by
  rintro s4 rfl
  refine codeAny_loop rfl (fun n s => ∃ i σ' H',Inv (X.comp scope N' s₃ (upd H2 s₂.heap.objs.size (.lst [])) fp s₃.heap.objs.size) [] σ' H' s ∧ tn i s.heap ∧ (∀ b ∈ fp,H' b = none) ∧ W i n σ' H') ?_ m0
   ⟨0,_,_,I4,st4,fun b hb' => (f3 b hb').1,w0⟩
  rintro n s5 ⟨i,σ5,H5,I5,st5,fr5,w5⟩
  show wpAny _ X.A ((compTurn (.ListComp elt [⟨tg,iter,ifs,0⟩] scope pos) 0 (.ref it) (.ref s₂.heap.objs.size) (compEnvC scope (clOf scope.names X.env) s₃.heap.objs.size X.env)).onRaise (fun x => do noteFrame x (compEnvC scope (clOf scope.names X.env) s₃.heap.objs.size X.env); theTreesLotGoes x)) _ _ s5
  refine wpAny_noted ?_
  rw [compTurn_list]
  refine wpAny_bind (wpAny_standAt (wpAny_bind ?_))
  rcases turn i n σ5 H5 w5 with ⟨stop,q⟩ | ⟨go,N,hN,step⟩
  ·refine wpAny_mono (T.done (X.comp scope N' s₃ (upd H2 s₂.heap.objs.size (.lst [])) fp s₃.heap.objs.size) rfl rfl rfl hc i [] s5 σ5 H5 (fun _ _ => False) I5 (fpok fr5) st5 stop) (fun r s6 hr => ?_) fun _ _ z => z.elim
   obtain ⟨rfl,I6⟩ := hr
   refine wpAny_pure ?_
   obtain ⟨m6,hn6,_⟩ := id I6.loc
   have I7:Inv X pins σ H5 s6 := I3.call' (ch := fp) I6.os I6.base I6.hok I6.bare fun b hb' => by
    obtain ⟨_,h1,_,h3,h4,h5⟩ := f3 b hb'
    exact ⟨h3,h1,h4,h5⟩
   exact hRR _ _ H5 s6 I7 ⟨m6,hn6⟩ (I3.fpOk (Nat.le_refl _) I6.free) q
  ·refine wpAny_mono (T.item (X.comp scope N' s₃ (upd H2 s₂.heap.objs.size (.lst [])) fp s₃.heap.objs.size) rfl rfl rfl hc i [] s5 σ5 H5 (fun _ _ => False) I5 (fpok fr5) st5 go) (fun r s6 hr => ?_) fun _ _ z => z.elim
   obtain ⟨u,rfl,h6⟩ := hr
   refine wpAny_bind (wpAny_mono h6 (fun _ s7 h7 => ?_) fun _ _ z => z.elim)
   obtain ⟨x,H7,I7,r7,y7,st7,fr7⟩ := h7
   have I7' := I7.pinned (fpok fr7) (T.obj _ _ st7)
   refine wpAny_bind (wpAny_mono (hpg _ s7 σ5 H7 x u _ I7' r7 (step x H7 y7)) (fun _ s8 h8 => ?_) fun _ _ z => z.elim)
   obtain ⟨σ8,H8,I8,q8⟩ := h8
   have again':∀ {σ9:St} {H9:Hp} {s9:Shared},Inv (X.comp scope N' s₃ (upd H2 s₂.heap.objs.size (.lst [])) fp s₃.heap.objs.size) ([] ++ pinsAt fp s7.heap) σ9 H9 s9 → N σ9 H9 →
     ∃ m,m < n ∧ ∃ i σ' H',Inv (X.comp scope N' s₃ (upd H2 s₂.heap.objs.size (.lst [])) fp s₃.heap.objs.size) [] σ' H' s9 ∧ tn i s9.heap ∧ (∀ b ∈ fp,H' b = none) ∧ W i m σ' H' := fun {σ9 H9 s9} I9 n9 => by
    obtain ⟨m',hm,w9⟩ := hN σ9 H9 n9
    refine ⟨m',hm,i + 1,σ9,H9,I9.unpinned,T.keep _ _ _ st7 fun b hb' o e => (I9.pin (b,o) (List.mem_append_right _ (List.mem_append_right _ (mem_pinsAt hb' e)))).1,fun b hb' => ?_,w9⟩
    obtain ⟨o,e,d⟩ := T.obj _ _ st7 b hb'
    exact (I9.pin (b,o) (List.mem_append_right _ (List.mem_append_right _ (mem_pinsAt hb' e)))).2.1
   refine wpAny_bind (wpAny_mono (hpt _ s8 σ8 H8 _ I8 q8) (fun b s9 h9 => ?_) fun _ _ z => z.elim)
   obtain ⟨H9,I9,q9⟩ := h9
   cases b with
   | false =>
    rw [if_neg Bool.false_ne_true] at q9
    exact wpAny_pure ⟨rfl,again' I9 q9⟩
   | true =>
    rw [if_pos rfl] at q9
    refine wpAny_bind (wpAny_bind (wpAny_mono (hpe _ s9 σ8 H9 _ I9 q9) (fun v s10 h10 => ?_) fun _ _ z => z.elim))
    obtain ⟨y,H10,I10,r10,xs,hx,hz,q10⟩ := h10
    refine wpAny_bind (wpAny_mono (mt_append (X := X.comp scope N' s₃ (upd H2 s₂.heap.objs.size (.lst [])) fp s₃.heap.objs.size) _ s10 σ8 H10 (.ref s₂.heap.objs.size) [y] (.ref s₂.heap.objs.size) [v] (fun _ H' => N σ8 H') I10 rfl (.cons r10 .nil) ⟨_,xs,y,rfl,rfl,hx,hz,q10⟩) (fun r s11 h11 => ?_) fun _ _ z => z.elim)
    obtain ⟨_,H11,I11,_,q11⟩ := h11
    exact wpAny_pure (wpAny_pure ⟨rfl,again' I11 q11⟩)
 have e3:({ s₂ with heap := s₂.heap.push { cls := .type "list",data := .seq ([]:List Value).toArray } }:Shared) = s₃ := hs3
 have go4 := codeAny_compStart_list (loop _ rfl) (T.self X.A 0 _ _ _ st4 (loop _ rfl))
 subst hs3
 exact go4
theorem pe_comp {elt tg iter:Expr} {ifs:List Expr} {pos:Pos} {wi:TI} {g:TG} {tt:TT} {te:TE} (S:CompSc X scope N' own fnames fr) (hc:X.calm = true) (hi:PI X tg iter wi)
  (hb:∀ (s₀:Shared) (H₀:Hp) (fp:List Addr) (C:Addr),PG (X.comp scope N' s₀ H₀ fp C) tg g ∧ PTs (X.comp scope N' s₀ H₀ fp C) ifs tt ∧ PE (X.comp scope N' s₀ H₀ fp C) elt te)
  (hs:∀ x,foldedSetIterable iter X.env x = pure x := by intro _; rfl):PE X (.ListComp elt [⟨tg,iter,ifs,0⟩] scope pos) (tComp wi own.length fr g tt te) := by
 intro pins s σ H Q I h
 rw [eval_ListComp]
 refine wpAny_comprehension_free (use := none) rfl hs (closure_is (S.has I.ok)) S.kind (fun y hy hl => ?_) (wpAny_mono (hi pins s σ H _ I h) (fun xv s₁ h₁ => wpAny_mono h₁ (fun itv s₂ h₂ => ?_) fun _ _ e => e) fun _ _ e => e)
 ·have := List.all_eq_true.mp S.loc y hy
  rw [hl] at this
  simpa using this
 ·obtain ⟨it,fp,tn,J,H2,rfl,I2,T,st2,f2,q2⟩ := h₂
  refine comp_run S hc hb I2 T st2 f2 q2 (RR := fun acc C => compPost (model X.prog X.w) X.A X.xe none (EP X pins σ Q) acc C) fun D C H' s' I' hn fC q => ?_
  obtain ⟨m,hn⟩ := hn
  obtain ⟨f0,f1,f2',f3,f4,f5⟩ := fC
  exact ⟨m,hn,fun h' hs' => ⟨.ref D,H',I'.turned (t' := s'.toks) (fun b o hb' e => (hs'.2 b hb').trans e) f0 f1 f3 f4 f5,rfl,q⟩⟩
theorem ps_comp {i:Nat} {x:Str} {pos' spos:Pos} {elt tg iter:Expr} {ifs:List Expr} {pos:Pos} {wi:TI} {g:TG} {tt:TT} {te:TE} (hN:X.N.Nodup) (hi':X.N[i]? = some x) (hx:X.env.scope.names.lookup x = some .local) (S:CompSc X scope N' own fnames fr) (hc:X.calm = true) (hi:PI X tg iter wi)
  (hb:∀ (s₀:Shared) (H₀:Hp) (fp:List Addr) (C:Addr),PG (X.comp scope N' s₀ H₀ fp C) tg g ∧ PTs (X.comp scope N' s₀ H₀ fp C) ifs tt ∧ PE (X.comp scope N' s₀ H₀ fp C) elt te)
  (hsw:swapsWith (.ListComp elt [⟨tg,iter,ifs,0⟩] scope pos) (some (.Name x pos')) spos.line X.env = pure true := by rfl)
  (hs:∀ x,foldedSetIterable iter X.env x = pure x := by intro _; rfl):PS X (.Assign [.Name x pos'] (.ListComp elt [⟨tg,iter,ifs,0⟩] scope pos) spos) (tAsg (tComp wi own.length fr g tt te) (gName i)) := by
 intro pins s σ H D I h
 rw [exec_Assign_Name_used _ _ _ _ hsw]
 refine wpAny_bind (wpAny_standAt (wpAny_bind ?_))
 show wpAny _ X.A (do let _ ← comprehension (.ListComp elt [⟨tg,iter,ifs,0⟩] scope pos) scope X.env _ (newList []) false (eval iter X.env) (some (assign (.Name x pos') X.env))) _ _ s
 refine wpAny_bind (wpAny_mono (wpAny_comprehension_free (use := some (assign (.Name x pos') X.env)) (Q := fun _ s' => SP X pins D .next s') rfl hs (closure_is (S.has I.ok)) S.kind (fun y hy hl => ?_)
  (wpAny_mono (hi pins s σ H _ I h) (fun xv s₁ h₁ => wpAny_mono h₁ (fun itv s₂ h₂ => ?_) fun _ _ e => e) fun _ _ e => e)) (fun _ s' hq => wpAny_pure (wpAny_pure hq)) fun _ _ e => e)
 ·have := List.all_eq_true.mp S.loc y hy
  rw [hl] at this
  simpa using this
 ·obtain ⟨it,fp,tn,J,H2,rfl,I2,T,st2,f2,q2⟩ := h₂
  refine comp_run S hc hb I2 T st2 f2 q2 (RR := fun acc C => compPost (model X.prog X.w) X.A X.xe (some (assign (.Name x pos') X.env)) (fun _ s' => SP X pins D .next s') acc C) fun D' C H' s' I' hn fC q => ?_
  obtain ⟨m,hn⟩ := hn
  obtain ⟨f0,f1,f2',f3,f4,f5⟩ := fC
  show wpAny _ X.A (assign (.Name x pos') X.env (.ref D')) _ _ _
  refine wpAny_assign_Name (store_ok2 I' hN hi' (.inl hx) (v := .ref D') rfl (fun s'' I'' hch => ?_) (.inr hx))
  obtain ⟨a,hsa,hca⟩ := hch
  have hCa:C ≠ a := by
   rcases hca with z | z
   ·rw [z]; exact f1
   ·exact fun e => f4 x a z e.symm
  refine ⟨m,hn.sameBut hsa hCa,fun h' hs' => ⟨_,H',I''.turned (t' := s''.toks) (fun b o hb' e => (hs'.2 b hb').trans e) f0 f1 f3 f4 f5,q⟩⟩
end
end L2
namespace L2
open PySem PySem.Spec PyProof.Rows
inductive DV where
 | int (i:Int) | bl (b:Bool) | str (x:Str) | non | lst (xs:List DV) | tup (xs:List DV)
noncomputable def Den (K:PySem.W.Frag) (H:Hp):Nat → V → DV → Prop
 | _,.int i,.int j => i = j
 | _,.bl i,.bl j => i = j
 | _,.str i,.str j => i = j
 | _,.non,.non => True
 | n + 1,.ref a,.lst ds => ∃ xs,SqL K H a xs ∧ Paired (Den K H n) xs ds
 | n + 1,.ref a,.tup ds => ∃ xs,SqT K H a xs ∧ Paired (Den K H n) xs ds
 | _,_,_ => False
noncomputable def Like:Nat → DV → DV → Prop
 | _,.int _,.int _ => True
 | _,.bl _,.bl _ => True
 | _,.str _,.str _ => True
 | _,.non,.non => True
 | n + 1,.lst ds,.lst es => ds.length = es.length → ∀ (i:Nat) d e,ds[i]? = some d → es[i]? = some e → Like n d e
 | n + 1,.tup ds,.tup es => ∀ (i:Nat) d e,ds[i]? = some d → es[i]? = some e → Like n d e
 | _,_,_ => False
theorem Paired.get' {α β:Type} {F:α → β → Prop}:∀ {xs:List α} {ys:List β} {i:Nat} {x:α},Paired F xs ys → xs[i]? = some x → ∃ y,ys[i]? = some y ∧ F x y
 | _,_,_,_,.nil,e => by simp at e
 | _,_,0,_,.cons r _,e => by simp at e; subst e; exact ⟨_,rfl,r⟩
 | _,_,i + 1,x,.cons _ t,e => by
  obtain ⟨u,h1,h2⟩ := Paired.get' (i := i) (x := x) t (by simpa using e)
  exact ⟨u,by simpa using h1,h2⟩
section
variable {X:Cx} {pins:List (Addr × Obj)} {σ:St} {H:Hp} {s:Shared}
theorem paired_inj {α β:Type} {F:α → β → Prop} (hF:∀ x d e,F x d → F x e → d = e):∀ {xs:List α} {ds es:List β},Paired F xs ds → Paired F xs es → ds = es
 | _,_,_,.nil,.nil => rfl
 | _,_,_,.cons a b,.cons c d => by rw [hF _ _ _ a c,paired_inj hF b d]
theorem not_both (I:Inv X pins σ H s) {a:Addr} {xs ys:List V} (h:SqL X.K H a xs) (h':SqT X.K H a ys):False := by
 obtain ⟨its,_,⟨o,n,e,c,_⟩,_⟩ := I.list h
 obtain ⟨its',_,⟨o',e',c',_⟩,_⟩ := I.tuple h'
 rw [e] at e'; cases e'
 rw [c] at c'
 exact absurd c' (by decide)
theorem den_inj (I:Inv X pins σ H s):∀ (n:Nat) (x:V) (d e:DV),Den X.K H n x d → Den X.K H n x e → d = e := by
 intro n
 induction n with
 | zero =>
  intro x d e h1 h2
  cases x <;> cases d <;> simp only [Den] at h1 <;> cases e <;> simp only [Den] at h2 <;> first | rfl | (subst h1; subst h2; rfl)
 | succ n ih =>
  intro x d e h1 h2
  cases x with
  | ref a =>
   cases d with
   | lst ds =>
    obtain ⟨xs,hs,hp⟩:∃ xs,SqL X.K H a xs ∧ Paired (Den X.K H n) xs ds := h1
    cases e with
    | lst es =>
     obtain ⟨ys,hs',hp'⟩:∃ xs,SqL X.K H a xs ∧ Paired (Den X.K H n) xs es := h2
     rw [I.list_inj hs' hs] at hp'
     rw [paired_inj ih hp hp']
    | tup es =>
     obtain ⟨ys,hs',hp'⟩:∃ xs,SqT X.K H a xs ∧ Paired (Den X.K H n) xs es := h2
     exact (not_both I hs hs').elim
    | _ => exact False.elim h2
   | tup ds =>
    obtain ⟨xs,hs,hp⟩:∃ xs,SqT X.K H a xs ∧ Paired (Den X.K H n) xs ds := h1
    cases e with
    | tup es =>
     obtain ⟨ys,hs',hp'⟩:∃ xs,SqT X.K H a xs ∧ Paired (Den X.K H n) xs es := h2
     rw [I.tuple_inj hs' hs] at hp'
     rw [paired_inj ih hp hp']
    | lst es =>
     obtain ⟨ys,hs',hp'⟩:∃ xs,SqL X.K H a xs ∧ Paired (Den X.K H n) xs es := h2
     exact (not_both I hs' hs).elim
    | _ => exact False.elim h2
   | _ => exact False.elim h1
  | int i => cases d <;> simp only [Den] at h1 <;> cases e <;> simp only [Den] at h2 <;> (subst h1; subst h2; rfl)
  | bl i => cases d <;> simp only [Den] at h1 <;> cases e <;> simp only [Den] at h2 <;> (subst h1; subst h2; rfl)
  | str i => cases d <;> simp only [Den] at h1 <;> cases e <;> simp only [Den] at h2 <;> (subst h1; subst h2; rfl)
  | non => cases d <;> simp only [Den] at h1 <;> cases e <;> simp only [Den] at h2 <;> rfl
  | _ => cases d <;> exact False.elim h1
open Classical in
noncomputable def eqD (d e:DV):Bool := decide (d = e)
theorem eqD_same (d:DV):eqD d d = true := by simp [eqD]
theorem all_places {ds es:List DV} (h:ds.length = es.length):((List.range ds.length).all fun j => eqD (ds[j]?.getD (.int 0)) (es[j]?.getD (.int 0))) = eqD (.lst ds) (.lst es) := by
 rw [Bool.eq_iff_iff]
 simp only [List.all_eq_true,List.mem_range,eqD,decide_eq_true_eq,DV.lst.injEq]
 constructor
 ·intro hj
  refine List.ext_getElem? fun i => ?_
  by_cases hi:i < ds.length
  ·have := hj i hi
   rw [List.getElem?_eq_getElem hi,List.getElem?_eq_getElem (by lia:i < es.length)] at this ⊢
   simpa using this
  ·rw [List.getElem?_eq_none (by lia),List.getElem?_eq_none (by lia)]
 ·rintro rfl j _
  rfl
theorem all_placesT {ds es:List DV}:(((List.range (min ds.length es.length)).all fun j => eqD (ds[j]?.getD (.int 0)) (es[j]?.getD (.int 0))) && ds.length == es.length) = eqD (.tup ds) (.tup es) := by
 by_cases h:ds.length = es.length
 ·have e:eqD (.tup ds) (.tup es) = eqD (.lst ds) (.lst es) := by simp [eqD]
  rw [e,← all_places h,h]
  simp [h]
 ·have:¬ ds = es := fun e => h (congrArg List.length e)
  have e:eqD (.tup ds) (.tup es) = false := by simp [eqD,this]
  rw [e]
  simp [h]
theorem eqAt_D (I:Inv X pins σ H s):∀ (n:Nat) (A:Around) (x y:V) (d e:DV) (u v:Value),Den X.K H n x d → Den X.K H n y e → Like n d e → RelV x u → RelV y v → A.units + n < cLine → SeqAt.EqAt A s u v (eqD d e) := by
 intro n
 have leaf:∀ (n:Nat) (A:Around) (x y:V) (d e:DV) (u v:Value),(∀ a,x ≠ .ref a) → Den X.K H n x d → Den X.K H n y e → Like n d e → RelV x u → RelV y v → SeqAt.EqAt A s u v (eqD d e) := by
  intro n A x y d e u v hx h1 h2 hl r1 r2
  cases x with
  | ref a => exact absurd rfl (hx a)
  | non =>
   cases d <;> simp only [Den] at h1
   cases e <;> simp only [Like] at hl
   cases y <;> simp only [Den] at h2
   cases r1
   cases r2
   rw [eqD_same]
   exact SeqAt.EqAt.same _
  | int i =>
   cases d <;> simp only [Den] at h1
   subst h1
   cases e <;> simp only [Like] at hl
   cases y <;> simp only [Den] at h2
   subst h2
   obtain ⟨t,rfl⟩ := r1
   obtain ⟨t',rfl⟩ := r2
   rename_i j
   have e1:eqD (.int i) (.int j) = (i == j) := by
    rw [Bool.eq_iff_iff]; simp [eqD]
   rw [e1]
   exact SeqAt.EqAt.int_int i t j t'
  | bl i =>
   cases d <;> simp only [Den] at h1
   subst h1
   cases e <;> simp only [Like] at hl
   cases y <;> simp only [Den] at h2
   subst h2
   cases r1
   cases r2
   rename_i j
   have e1:eqD (.bl i) (.bl j) = (i == j) := by
    rw [Bool.eq_iff_iff]; simp [eqD]
   rw [e1]
   exact SeqAt.EqAt.bool_bool i j
  | str i =>
   cases d <;> simp only [Den] at h1
   subst h1
   cases e <;> simp only [Like] at hl
   cases y <;> simp only [Den] at h2
   subst h2
   obtain ⟨t,rfl⟩ := r1
   obtain ⟨t',rfl⟩ := r2
   rename_i j
   have e1:eqD (.str i) (.str j) = (i == j) := by
    rw [Bool.eq_iff_iff]; simp [eqD]
   rw [e1]
   exact SeqAt.EqAt.str_str i t j t'
  | _ => cases n <;> cases d <;> exact False.elim h1
 induction n with
 | zero =>
  intro A x y d e u v h1 h2 hl r1 r2 hu
  refine leaf 0 A x y d e u v (fun a z => ?_) h1 h2 hl r1 r2
  subst z
  cases d <;> exact False.elim h1
 | succ n ih =>
  intro A x y d e u v h1 h2 hl r1 r2 hu
  cases x with
  | ref a =>
   cases r1
   cases d with
   | lst ds =>
    obtain ⟨xs,hs,hp⟩:∃ xs,SqL X.K H a xs ∧ Paired (Den X.K H n) xs ds := h1
    cases e with
    | lst es =>
     cases y with
     | ref b =>
      cases r2
      obtain ⟨ys,hs',hp'⟩:∃ xs,SqL X.K H b xs ∧ Paired (Den X.K H n) xs es := h2
      by_cases hab:a = b
      ·subst hab
       rw [I.list_inj hs' hs] at hp'
       rw [paired_inj (den_inj I n) hp hp',eqD_same]
       exact SeqAt.EqAt.same _
      ·refine SeqAt.EqAt.of_refs hab ?_
       obtain ⟨its,ri,pl,_⟩ := I.list hs
       obtain ⟨its',ri',pl',_⟩ := I.list hs'
       have l1 := ri.length
       have l2 := ri'.length
       have l3:xs.length = ds.length := Paired.length hp
       have l4:ys.length = es.length := Paired.length hp'
       by_cases hlen:ds.length = es.length
       ·rw [← all_places hlen]
        have hsz:its.toArray.size = its'.toArray.size := by rw [List.size_toArray,List.size_toArray]; lia
        have := SeqAt.RcAt.lists (e := fun j => eqD (ds[j]?.getD (.int 0)) (es[j]?.getD (.int 0))) pl.isList pl'.isList hsz (by lia:A.units < cLine) (fun j h1' h2' => ?_)
        ·rw [List.size_toArray,← l1,l3] at this
         exact this
        ·rw [List.size_toArray] at h1' h2'
         have hj1:xs[j]? = some xs[j] := List.getElem?_eq_getElem (by lia)
         have hj2:ys[j]? = some ys[j] := List.getElem?_eq_getElem (by lia)
         obtain ⟨d',hd,hdd⟩ := Paired.get' hp hj1
         obtain ⟨e',he,hee⟩ := Paired.get' hp' hj2
         obtain ⟨u',hu',ru'⟩ := ri.get hj1
         obtain ⟨v',hv',rv'⟩ := ri'.get hj2
         have eu:its.toArray[j] = u' := by
          have:its[j]? = some its[j] := List.getElem?_eq_getElem h1'
          rw [this] at hu'; simpa using Option.some.inj hu'
         have ev:its'.toArray[j] = v' := by
          have:its'[j]? = some its'[j] := List.getElem?_eq_getElem h2'
          rw [this] at hv'; simpa using Option.some.inj hv'
         rw [eu,ev,hd,he]
         exact ih A.in1 _ _ d' e' u' v' hdd hee (hl hlen j d' e' hd he) ru' rv' (by show A.units + 1 + n < cLine; lia)
       ·have hne:¬ ds = es := fun z => hlen (congrArg List.length z)
        have e1:eqD (.lst ds) (.lst es) = false := by simp [eqD,hne]
        rw [e1]
        exact SeqAt.RcAt.lists_lengths pl.isList pl'.isList (by simp only [List.size_toArray,bne_iff_ne,ne_eq]; lia) (by lia)
     | _ => exact False.elim h2
    | _ => exact False.elim hl
   | tup ds =>
    obtain ⟨xs,hs,hp⟩:∃ xs,SqT X.K H a xs ∧ Paired (Den X.K H n) xs ds := h1
    cases e with
    | tup es =>
     cases y with
     | ref b =>
      cases r2
      obtain ⟨ys,hs',hp'⟩:∃ xs,SqT X.K H b xs ∧ Paired (Den X.K H n) xs es := h2
      by_cases hab:a = b
      ·subst hab
       rw [I.tuple_inj hs' hs] at hp'
       rw [paired_inj (den_inj I n) hp hp',eqD_same]
       exact SeqAt.EqAt.same _
      ·refine SeqAt.EqAt.of_refs hab ?_
       obtain ⟨its,ri,pl,_⟩ := I.tuple hs
       obtain ⟨its',ri',pl',_⟩ := I.tuple hs'
       have l1 := ri.length
       have l2 := ri'.length
       have l3:xs.length = ds.length := Paired.length hp
       have l4:ys.length = es.length := Paired.length hp'
       rw [← all_placesT]
       have := SeqAt.RcAt.tuples (e := fun j => eqD (ds[j]?.getD (.int 0)) (es[j]?.getD (.int 0))) (show s.heap.IsTuple a its.toArray from pl) (show s.heap.IsTuple b its'.toArray from pl') (by lia:A.units < cLine) (fun j h1' h2' => ?_)
       ·rw [List.size_toArray,List.size_toArray,← l1,l3,← l2,l4] at this
        exact this
       ·rw [List.size_toArray] at h1' h2'
        have hj1:xs[j]? = some xs[j] := List.getElem?_eq_getElem (by lia)
        have hj2:ys[j]? = some ys[j] := List.getElem?_eq_getElem (by lia)
        obtain ⟨d',hd,hdd⟩ := Paired.get' hp hj1
        obtain ⟨e',he,hee⟩ := Paired.get' hp' hj2
        obtain ⟨u',hu',ru'⟩ := ri.get hj1
        obtain ⟨v',hv',rv'⟩ := ri'.get hj2
        have eu:its.toArray[j] = u' := by
         have:its[j]? = some its[j] := List.getElem?_eq_getElem h1'
         rw [this] at hu'; simpa using Option.some.inj hu'
        have ev:its'.toArray[j] = v' := by
         have:its'[j]? = some its'[j] := List.getElem?_eq_getElem h2'
         rw [this] at hv'; simpa using Option.some.inj hv'
        rw [eu,ev,hd,he]
        exact ih A.in1 _ _ d' e' u' v' hdd hee (hl j d' e' hd he) ru' rv' (by show A.units + 1 + n < cLine; lia)
     | _ => exact False.elim h2
    | _ => exact False.elim hl
   | _ => exact False.elim h1
  | int i => exact leaf (n + 1) A (.int i) y d e u v (fun _ z => nomatch z) h1 h2 hl r1 r2
  | bl i => exact leaf (n + 1) A (.bl i) y d e u v (fun _ z => nomatch z) h1 h2 hl r1 r2
  | str i => exact leaf (n + 1) A (.str i) y d e u v (fun _ z => nomatch z) h1 h2 hl r1 r2
  | non => exact leaf (n + 1) A .non y d e u v (fun _ z => nomatch z) h1 h2 hl r1 r2
  | _ => cases d <;> exact False.elim h1
end
section
variable {X:Cx} {pins:List (Addr × Obj)} {σ:St} {H:Hp} {s:Shared}
theorem rc_lists (I:Inv X pins σ H s) {n:Nat} {A:Around} {a b:Addr} {ds es:List DV} (h1:Den X.K H (n + 1) (.ref a) (.lst ds)) (h2:Den X.K H (n + 1) (.ref b) (.lst es)) (hl:Like (n + 1) (.lst ds) (.lst es)) (hu:A.units + n + 1 < cLine) :
  SeqAt.RcAt A s (.ref a) (.ref b) (eqD (.lst ds) (.lst es)) ∧ SeqAt.RcNeAt A s (.ref a) (.ref b) (!eqD (.lst ds) (.lst es)) := by
 obtain ⟨xs,hs,hp⟩:∃ xs,SqL X.K H a xs ∧ Paired (Den X.K H n) xs ds := h1
 obtain ⟨ys,hs',hp'⟩:∃ xs,SqL X.K H b xs ∧ Paired (Den X.K H n) xs es := h2
 obtain ⟨its,ri,pl,_⟩ := I.list hs
 obtain ⟨its',ri',pl',_⟩ := I.list hs'
 have l1 := ri.length
 have l2 := ri'.length
 have l3:xs.length = ds.length := Paired.length hp
 have l4:ys.length = es.length := Paired.length hp'
 have go:∀ j (h1':j < its.toArray.size) (h2':j < its'.toArray.size),ds.length = es.length → SeqAt.EqAt A.in1 s its.toArray[j] its'.toArray[j] (eqD (ds[j]?.getD (.int 0)) (es[j]?.getD (.int 0))) := fun j h1' h2' hlen => by
  rw [List.size_toArray] at h1' h2'
  have hj1:xs[j]? = some xs[j] := List.getElem?_eq_getElem (by lia)
  have hj2:ys[j]? = some ys[j] := List.getElem?_eq_getElem (by lia)
  obtain ⟨d',hd,hdd⟩ := Paired.get' hp hj1
  obtain ⟨e',he,hee⟩ := Paired.get' hp' hj2
  obtain ⟨u',hu',ru'⟩ := ri.get hj1
  obtain ⟨v',hv',rv'⟩ := ri'.get hj2
  have eu:its.toArray[j] = u' := by
   have:its[j]? = some its[j] := List.getElem?_eq_getElem h1'
   rw [this] at hu'; simpa using Option.some.inj hu'
  have ev:its'.toArray[j] = v' := by
   have:its'[j]? = some its'[j] := List.getElem?_eq_getElem h2'
   rw [this] at hv'; simpa using Option.some.inj hv'
  rw [eu,ev,hd,he]
  exact eqAt_D I n A.in1 _ _ d' e' u' v' hdd hee (hl hlen j d' e' hd he) ru' rv' (by show A.units + 1 + n < cLine; lia)
 by_cases hlen:ds.length = es.length
 ·rw [← all_places hlen]
  have hsz:its.toArray.size = its'.toArray.size := by rw [List.size_toArray,List.size_toArray]; lia
  have r1 := SeqAt.RcAt.lists (e := fun j => eqD (ds[j]?.getD (.int 0)) (es[j]?.getD (.int 0))) pl.isList pl'.isList hsz (by lia:A.units < cLine) (fun j h1' h2' => go j h1' h2' hlen)
  have r2 := SeqAt.RcNeAt.lists (e := fun j => eqD (ds[j]?.getD (.int 0)) (es[j]?.getD (.int 0))) pl.isList pl'.isList hsz (by lia:A.units < cLine) (fun j h1' h2' => go j h1' h2' hlen)
  rw [List.size_toArray,← l1,l3] at r1 r2
  exact ⟨r1,r2⟩
 ·have hne:¬ ds = es := fun z => hlen (congrArg List.length z)
  have e1:eqD (.lst ds) (.lst es) = false := by simp [eqD,hne]
  rw [e1]
  exact ⟨SeqAt.RcAt.lists_lengths pl.isList pl'.isList (by simp only [List.size_toArray,bne_iff_ne,ne_eq]; lia) (by lia),SeqAt.RcNeAt.lists_lengths pl.isList pl'.isList (by simp only [List.size_toArray,bne_iff_ne,ne_eq]; lia) (by lia)⟩
theorem rc_tuples (I:Inv X pins σ H s) {n:Nat} {A:Around} {a b:Addr} {ds es:List DV} (h1:Den X.K H (n + 1) (.ref a) (.tup ds)) (h2:Den X.K H (n + 1) (.ref b) (.tup es)) (hl:Like (n + 1) (.tup ds) (.tup es)) (hu:A.units + n + 1 < cLine) :
  SeqAt.RcAt A s (.ref a) (.ref b) (eqD (.tup ds) (.tup es)) ∧ SeqAt.RcNeAt A s (.ref a) (.ref b) (!eqD (.tup ds) (.tup es)) := by
 obtain ⟨xs,hs,hp⟩:∃ xs,SqT X.K H a xs ∧ Paired (Den X.K H n) xs ds := h1
 obtain ⟨ys,hs',hp'⟩:∃ xs,SqT X.K H b xs ∧ Paired (Den X.K H n) xs es := h2
 obtain ⟨its,ri,pl,_⟩ := I.tuple hs
 obtain ⟨its',ri',pl',_⟩ := I.tuple hs'
 have l1 := ri.length
 have l2 := ri'.length
 have l3:xs.length = ds.length := Paired.length hp
 have l4:ys.length = es.length := Paired.length hp'
 have go:∀ j (h1':j < its.toArray.size) (h2':j < its'.toArray.size),SeqAt.EqAt A.in1 s its.toArray[j] its'.toArray[j] (eqD (ds[j]?.getD (.int 0)) (es[j]?.getD (.int 0))) := fun j h1' h2' => by
  rw [List.size_toArray] at h1' h2'
  have hj1:xs[j]? = some xs[j] := List.getElem?_eq_getElem (by lia)
  have hj2:ys[j]? = some ys[j] := List.getElem?_eq_getElem (by lia)
  obtain ⟨d',hd,hdd⟩ := Paired.get' hp hj1
  obtain ⟨e',he,hee⟩ := Paired.get' hp' hj2
  obtain ⟨u',hu',ru'⟩ := ri.get hj1
  obtain ⟨v',hv',rv'⟩ := ri'.get hj2
  have eu:its.toArray[j] = u' := by
   have:its[j]? = some its[j] := List.getElem?_eq_getElem h1'
   rw [this] at hu'; simpa using Option.some.inj hu'
  have ev:its'.toArray[j] = v' := by
   have:its'[j]? = some its'[j] := List.getElem?_eq_getElem h2'
   rw [this] at hv'; simpa using Option.some.inj hv'
  rw [eu,ev,hd,he]
  exact eqAt_D I n A.in1 _ _ d' e' u' v' hdd hee (hl j d' e' hd he) ru' rv' (by show A.units + 1 + n < cLine; lia)
 rw [← all_placesT]
 have r1 := SeqAt.RcAt.tuples (e := fun j => eqD (ds[j]?.getD (.int 0)) (es[j]?.getD (.int 0))) (show s.heap.IsTuple a its.toArray from pl) (show s.heap.IsTuple b its'.toArray from pl') (by lia:A.units < cLine) go
 have r2 := SeqAt.RcNeAt.tuples (e := fun j => eqD (ds[j]?.getD (.int 0)) (es[j]?.getD (.int 0))) (show s.heap.IsTuple a its.toArray from pl) (show s.heap.IsTuple b its'.toArray from pl') (by lia:A.units < cLine) go
 rw [List.size_toArray,List.size_toArray,← l1,l3,← l2,l4] at r1 r2
 exact ⟨r1,r2⟩
end
noncomputable def rEqD (K:PySem.W.Frag) (n:Nat):R2 := fun x y H Q => ∃ a b d e,x = .ref a ∧ y = .ref b ∧ Den K H (n + 1) (.ref a) d ∧ Den K H (n + 1) (.ref b) e ∧ Like (n + 1) d e ∧ Q (.bl (eqD d e)) H
noncomputable def rNeD (K:PySem.W.Frag) (n:Nat):R2 := fun x y H Q => ∃ a b d e,x = .ref a ∧ y = .ref b ∧ Den K H (n + 1) (.ref a) d ∧ Den K H (n + 1) (.ref b) e ∧ Like (n + 1) d e ∧ Q (.bl (!eqD d e)) H
theorem op_eqD {X:Cx} {k:Nat} (n:Nat) (hr:Room k X.A) (hn:n ≤ 9 := by decide):OpR X (compareOp .Eq) (rEqD X.K n) := by
 intro pins s σ H x y v u Q I rx ry h
 obtain ⟨a,b,d,e,rfl,rfl,hd,he,hl,q⟩ := h
 cases rx; cases ry
 have hu := hr.units
 cases d with
 | lst ds =>
  cases e with
  | lst es => exact (rc_lists I (A := X.A) hd he hl (by lia)).1 _ _ _ _ ⟨.bl _,H,I,rfl,q⟩
  | _ => exact False.elim hl
 | tup ds =>
  cases e with
  | tup es => exact (rc_tuples I (A := X.A) hd he hl (by lia)).1 _ _ _ _ ⟨.bl _,H,I,rfl,q⟩
  | _ => exact False.elim hl
 | _ => exact False.elim hd
theorem op_neD {X:Cx} {k:Nat} (n:Nat) (hr:Room k X.A) (hn:n ≤ 9 := by decide):OpR X (compareOp .NotEq) (rNeD X.K n) := by
 intro pins s σ H x y v u Q I rx ry h
 obtain ⟨a,b,d,e,rfl,rfl,hd,he,hl,q⟩ := h
 cases rx; cases ry
 have hu := hr.units
 cases d with
 | lst ds =>
  cases e with
  | lst es => exact (rc_lists I (A := X.A) hd he hl (by lia)).2 _ _ _ _ ⟨.bl _,H,I,rfl,q⟩
  | _ => exact False.elim hl
 | tup ds =>
  cases e with
  | tup es => exact (rc_tuples I (A := X.A) hd he hl (by lia)).2 _ _ _ _ ⟨.bl _,H,I,rfl,q⟩
  | _ => exact False.elim hl
 | _ => exact False.elim hd
theorem paired_ints {F:V → DV → Prop} (hF:∀ i:Int,F (.int i) (.int i)):∀ ns:List Int,Paired F (ns.map V.int) (ns.map DV.int)
 | [] => .nil
 | i :: r => .cons (hF i) (paired_ints hF r)
theorem den_int {K:PySem.W.Frag} {H:Hp} {n:Nat} {i:Int}:Den K H n (.int i) (.int i) := by cases n <;> rfl
theorem den_ints {K:PySem.W.Frag} {H:Hp} {n:Nat} {a:Addr} {ns:List Int} (h:SqL K H a (ns.map V.int)):Den K H (n + 1) (.ref a) (.lst (ns.map DV.int)) := ⟨_,h,paired_ints (fun _ => den_int) ns⟩
theorem like_int {n:Nat} {i j:Int}:Like n (.int i) (.int j) := by cases n <;> exact True.intro
theorem like_ints {n:Nat} {ns ms:List Int}:Like (n + 1) (.lst (ns.map DV.int)) (.lst (ms.map DV.int)) := fun _ i d e h1 h2 => by
 rw [List.getElem?_map] at h1 h2
 cases q1:ns[i]? with
 | none => rw [q1] at h1; cases h1
 | some x =>
  cases q2:ms[i]? with
  | none => rw [q2] at h2; cases h2
  | some y =>
   rw [q1] at h1; rw [q2] at h2
   cases h1; cases h2
   exact like_int
end L2
namespace L2
open PySem PySem.Spec PyProof.Rows
section
variable {X:Cx}
theorem call_range_obj:CallR X (.type "range") (fun xs H Q => ∃ j:Int,xs = [.int j] ∧ ∀ p,H p = none → Q (.ref p) (upd H p (.rng 0 j))) := by
 intro pins s σ H xs us Q I r h
 obtain ⟨j,rfl,q⟩ := h
 obtain ⟨u,rfl,t,rfl⟩ := vals1 r
 refine call_range_1 ⟨.ref s.heap.objs.size,_,I.laid (fun b o e => Heap.get?_push_of_some _ e) (Nat.le_refl _) ?_,rfl,q _ I.fresh⟩
 exact ⟨_,_,_,Heap.get?_push_size _ rfl⟩
theorem call_list_rng (hc:X.calm = true):CallR X (.type "list") (fun xs H Q => ∃ p,∃ j:Int,xs = [.ref p] ∧ H p = some (.rng 0 j) ∧ 0 ≤ j ∧ j ≤ 1000 ∧ ∀ l,H l = none → Q (.ref l) (upd H l (.lst (((List.range j.toNat).map fun i:Nat => (i:Int)).map V.int)))) := by
 intro pins s σ H xs us Q I r h
 obtain ⟨p,j,rfl,hp,j0,j1,q⟩ := h
 obtain ⟨u,rfl,ru⟩ := vals1 r
 cases ru
 obtain ⟨t,u',v,e⟩ := I.hok p _ hp
 have hn:Builtin.Range.rangeSize 0 j 1 = (j.toNat:Int) := by rw [rangeSize_one]; split <;> lia
 refine call_list_range (I.ok.hd hc) (a := 0) (b := j) (c := 1) e (small_one (by lia) (by lia) (by lia) (by omega)) hn (by lia) fun h' tk acc' c' hk hS hacc => ?_
 refine ⟨.ref s.heap.objs.size,_,I.laid hk (Nat.le_refl _) (o := .lst (((List.range j.toNat).map fun i:Nat => (i:Int)).map V.int)) ?_,rfl,q _ I.fresh⟩
 refine ⟨by simp only [List.length_map,List.length_range]; rw [sizeLine_eq]; lia,acc'.toList,c',?_,by simpa using hS⟩
 have go:∀ (n k:Nat) (l:List Value),l.length = n → (∀ (i:Nat) (v:Value),l[i]? = some v → ∃ t,v = Value.int (0 + ((i + k:Nat):Int) * 1) t) → Vals (((List.range' k n).map fun i:Nat => (i:Int)).map V.int) l := by
  intro n
  induction n with
  | zero =>
   intro k l hl _
   cases l with
   | nil => exact .nil
   | cons a b => simp at hl
  | succ n ih =>
   intro k l hl hv
   cases l with
   | nil => simp at hl
   | cons a b =>
    rw [List.range'_succ,List.map_cons,List.map_cons]
    refine .cons ?_ (ih (k + 1) b (by simpa using hl) fun i v hi => ?_)
    ·obtain ⟨t,e⟩ := hv 0 a (by simp)
     exact ⟨t,by rw [e]; congr 1; lia⟩
    ·obtain ⟨t,e⟩ := hv (i + 1) v (by simpa using hi)
     exact ⟨t,by rw [e]; congr 1; lia⟩
 have := go j.toNat 0 acc'.toList (by simp [hacc.1]) fun i v hi => hacc.2 i v (by simpa using hi)
 rw [← List.range_eq_range'] at this
 exact this
theorem call_all (hc:X.calm = true):CallR X (.builtin "all") (fun xs H Q => ∃ (p:Addr) (bs:List Bool),xs = [.ref p] ∧ SqL X.K H p (bs.map V.bl) ∧ Q (.bl (bs.all id)) H) := by
 intro pins s σ H xs us Q I r h
 obtain ⟨p,bs,rfl,hp,q⟩ := h
 obtain ⟨u,rfl,ru⟩ := vals1 r
 cases ru
 obtain ⟨its,ri,pl,hz⟩ := I.list hp
 have hl := ri.length
 rw [List.length_map] at hl
 refine call_all_walk (wpAny_pyIter_list pl.isList ?_)
 have hlt:p < s.heap.objs.size := by obtain ⟨o,e,_⟩ := pl.isList; exact Heap.lt_size e
 refine ⟨s.heap.objs.size,_,_,_,_,_,fun i => bs[i]?.getD true,rfl,Walks.list (A := X.A.in1) (I.ok.hd hc) s.heap.objs.size p (Nat.ne_of_lt hlt) its.toArray,⟨⟨_,Heap.get?_push_size _ rfl,rfl,rfl⟩,pl.isList.at fun o e => Heap.get?_push_of_some _ e⟩,?_,?_⟩
 ·intro i v s' Q' E' hv hq
  have hv':its[i]? = some v := by simpa using hv
  have hi:i < its.length := (List.getElem?_eq_some_iff.mp hv').1
  have hb:(bs.map V.bl)[i]? = some (.bl (bs[i]'(by lia))) := by rw [List.getElem?_map,List.getElem?_eq_getElem (by lia)]; rfl
  obtain ⟨w',e,rw'⟩ := ri.get hb
  rw [hv'] at e
  cases e
  obtain rfl:v = Value.bool _ := rw'
  dsimp only at hq
  rw [List.getElem?_eq_getElem (by omega)] at hq
  exact wpAny_truthy_bool hq
 ·intro h' tk hk
  have e:(List.range its.toArray.size).all (fun i => bs[i]?.getD true) = bs.all id := by
   rw [List.size_toArray,← hl,Bool.eq_iff_iff]
   simp only [List.all_eq_true,List.mem_range,id]
   constructor
   ·intro h x hx
    obtain ⟨i,hi,e⟩ := List.getElem_of_mem hx
    have := h i hi
    rw [List.getElem?_eq_getElem hi] at this
    rw [← e]; exact this
   ·intro h i hi
    rw [List.getElem?_eq_getElem hi]
    exact h _ (List.getElem_mem hi)
  rw [e]
  refine ⟨.bl _,H,I.kept fun b o e => hk b o ?_ (Heap.get?_push_of_some _ e),rfl,q⟩
  intro z
  have z':b = s.heap.objs.size := by simpa using z
  exact absurd (Heap.lt_size e) (by rw [z']; exact Nat.lt_irrefl _)
theorem preSum_take (ns:List Int):∀ j:Nat,j ≤ ns.length → preSum (fun i => ns[i]?.getD 0) j = (ns.take j).sum
 | 0,_ => by simp [preSum]
 | j + 1,h => by
  rw [preSum,preSum_take ns j (by lia),← List.take_append_getElem (by lia:j < ns.length),List.sum_append,List.getElem?_eq_getElem (by lia:j < ns.length)]
  simp
end
end L2
namespace L2
open PySem PySem.Spec PyProof.Rows
section
variable {prog:Program} {w:World} {A:Around} {E:Value → Shared → Prop} {s:Shared}
end
section
variable {prog:Program} {w:World} {A:Around} {E:Value → Shared → Prop} {s:Shared}
end
end L2
set_option maxHeartbeats 400000
namespace L2
open PySem PySem.Spec PyProof.Rows
noncomputable def Iten (S:Hp → Addr → List V → Prop) (a:Addr) (k:Nat):It :=
 ⟨fun i H => ∃ xs x,S H a xs ∧ xs[i]? = some x,fun i H x H' => ∃ t y,x = .ref t ∧ H t = none ∧ H' = upd H t (.tup [.int (((k + i:Nat)):Int),y]) ∧ ∀ xs,S H a xs → xs[i]? = some y,fun i H => ∃ xs,S H a xs ∧ xs.length = i⟩
section
variable {X:Cx} {pins:List (Addr × Obj)} {σ:St} {H:Hp} {s:Shared}
theorem Inv.pair {e it t:Addr} {g:Heap} {tk:Nat} {o:HO} (I:Inv X pins σ H s) (fe:FpOk X pins H e) (fi:FpOk X pins H it) (ht:s.heap.objs.size ≤ t)
  (k:∀ b o,b ≠ e → b ≠ it → s.heap.get? b = some o → g.get? b = some o) (new:ObjOk X.prog X.w (upd H t o) g t o):Inv X pins σ (upd H t o) { s with heap := g,toks := tk } := by
 have hn:H t = none := I.hok.fresh ht
 obtain ⟨e0,e1,e2,e3,e4,e5⟩ := fe
 obtain ⟨i0,i1,i2,i3,i4,i5⟩ := fi
 have nt:∀ b o,s.heap.get? b = some o → b ≠ t := fun b o q z => by
  subst z
  exact absurd (Nat.lt_of_lt_of_le (Heap.lt_size q) ht) (Nat.lt_irrefl _)
 have nch:∀ b,b ∉ [e,it] → b ≠ e ∧ b ≠ it := fun b hb => ⟨fun z => hb (by simp [z]),fun z => hb (by simp [z])⟩
 have ne:∀ b u,H b = some u → b ≠ e ∧ b ≠ it := fun b u q => ⟨ne_of_none q e0,ne_of_none q i0⟩
 refine I.step (g' := s.gens) (d' := s.drawn) (ch := [e,it]) (fun b hb => ?_) (fun b o _ _ hc q _ => k b o (nch b hc).1 (nch b hc).2 q) (fun b o _ _ hc q _ => ⟨o.slots,k b o (nch b hc).1 (nch b hc).2 q⟩) (fun b o _ q n => by rw [upd_ne (nt b o q)]; exact n)
  (fun b o hc q => ⟨o,k b o (nch b hc).1 (nch b hc).2 q⟩) (fun b xs q => by rw [upd_ne (ne_of_none q hn)]; exact q) (fun b o u q => by rw [upd_ne (ne_of_none q hn)]; exact q) (fun b ps q => ⟨#[],by rw [upd_ne (ne_of_none q hn),q]; simp⟩) (fun m hm => ?_) (fun b u q => ?_) I.bare
 ·rcases List.mem_cons.mp hb with z | z
  ·subst z; exact ⟨e3,e1,e4,e5⟩
  ·have z':b = it := by simpa using z
   subst z'; exact ⟨i3,i1,i4,i5⟩
 ·obtain ⟨ol,es,ep,ho,r⟩ := hm
  exact ⟨ol,es,ep,k _ ol (Ne.symm e1) (Ne.symm i1) ho,r⟩
 ·by_cases hb:b = t
  ·subst hb; rw [upd_same] at q; cases q; exact new
  ·rw [upd_ne hb] at q
   refine (I.hok b u q).stay (fun c v hc z => k c v ?_ ?_ z) (fun c z => by rw [upd_ne (ne_of_none z hn)]; exact z) fun c xs z => by rw [upd_ne (ne_of_none z hn)]; exact z
   ·rcases hc with z' | z'
    ·rw [z']; exact (ne b u q).1
    ·exact (ne c _ z').1
   ·rcases hc with z' | z'
    ·rw [z']; exact (ne b u q).2
    ·exact (ne c _ z').2
end
structure SrcOk (P:Program) (w:World) (K:PySem.W.Frag) (S:Hp → Addr → List V → Prop) (a it:Addr) (sq:Heap → Array Value → Prop) (ti:Nat → Heap → Prop):Prop where
 obj:∀ i h,ti i h → ∃ o,h.get? it = some o ∧ ∀ v,o.data ≠ .cell v
 keep:∀ i h h',ti i h → (∀ o,h.get? it = some o → h'.get? it = some o) → ti i h'
 sk:∀ h h' vs,sq h vs → (∀ o,h.get? a = some o → h'.get? a = some o) → sq h' vs
 ne:∀ h vs i,sq h vs → ti i h → a ≠ it
 nee:∀ h vs e j old,sq h vs → IsEnum h e it j old → a ≠ e
 abs:∀ (X:Cx) (pins:List (Addr × Obj)) (σ:St) (H:Hp) (s:Shared) (xs:List V),X.K = K → Inv X pins σ H s → S H a xs → ∃ its:List Value,Vals xs its ∧ sq s.heap its.toArray
 one:∀ (X:Cx) (pins:List (Addr × Obj)) (σ:St) (H:Hp) (s:Shared) (xs ys:List V),X.K = K → Inv X pins σ H s → S H a xs → S H a ys → xs = ys
 item:∀ (A:Around) (i:Nat) (s:Shared) (vs:Array Value) (u:Value) (Q:Value → Shared → Prop) (E:Value → Shared → Prop),ti i s.heap → sq s.heap vs → vs[i]? = some u →
  (∀ g,ti (i + 1) g → Heap.SameBut it s.heap g → Q u { s with heap := g }) → wpAny (model P w) A (Builtin.SmallTypes.nextOf (.ref it)) Q E s
 done:∀ (A:Around) (i:Nat) (s:Shared) (vs:Array Value) (Q:Value → Shared → Prop) (E:Value → Shared → Prop),A.handled = none → ti i s.heap → sq s.heap vs → vs[i]? = none →
  (∀ g e,Heap.ExtBut it s.heap g → (∃ o,g.get? e = some o ∧ o.cls = .type "StopIteration") → E (.ref e) { s with heap := g }) → wpAny (model P w) A (Builtin.SmallTypes.nextOf (.ref it)) Q E s
theorem src_list {P:Program} {w:World} {K:PySem.W.Frag} (a it:Addr):SrcOk P w K (SqL K) a it (fun h vs => h.IsList a vs) (fun i h => h.IsListIter it a i) where
 obj := fun i h st => by
  obtain ⟨o,e,c,d⟩ := st
  exact ⟨o,e,fun v z => by rw [d] at z; cases z⟩
 keep := fun i h h' st k => st.at k
 sk := fun h h' vs q k => q.at k
 ne := fun h vs i q st z => by
  obtain ⟨o,e,c,_⟩ := q
  obtain ⟨o',e',c',_⟩ := st
  rw [z,e'] at e
  cases e
  rw [c'] at c
  exact absurd (Value.type.inj c) (by decide)
 nee := fun h vs e j old q en z => by
  obtain ⟨o,q,c,_⟩ := q
  subst z
  rw [show h.get? a = _ from en] at q
  cases q
  exact absurd (Value.type.inj c) (by decide)
 abs := fun X pins σ H s xs hK I hq => by
  subst hK
  obtain ⟨its,rv,p,hz⟩ := I.list hq
  exact ⟨its,rv,p.isList⟩
 one := fun X pins σ H s xs ys hK I h1 h2 => by subst hK; exact I.list_inj h1 h2
 item := fun A i s vs u Q E st q hx k => wpAny_nextOf_list_item st q hx k
 done := fun A i s vs Q E hh st q hx k => wpAny_nextOf_list_end hh st q hx k
theorem SrcOk.draws {P:Program} {w:World} {K:PySem.W.Frag} {S:Hp → Addr → List V → Prop} {a it:Addr} {sq:Heap → Array Value → Prop} {ti:Nat → Heap → Prop} (O:SrcOk P w K S a it sq ti) {A:Around} (hh:A.handled = none) (k:Nat) (vs:Array Value) :
  Draws P w A it [it,a] (k + vs.size) (fun j y => ∃ i,j = k + i ∧ vs[i]? = some y) (fun j h => ∃ i,j = k + i ∧ ti i h ∧ sq h vs) where
 live := fun j h q => by
  obtain ⟨i,_,st,_⟩ := q
  obtain ⟨o,e,_⟩ := O.obj i h st
  exact ⟨o,e⟩
 frame := fun j h h' q kk => by
  obtain ⟨i,e,st,sv⟩ := q
  exact ⟨i,e,O.keep i h h' st fun o z => kk it (by simp) o z,O.sk h h' vs sv fun o z => kk a (by simp) o z⟩
 item := fun j s Q E hj q kq => by
  obtain ⟨i,rfl,st,sv⟩ := q
  have hi:i < vs.size := by lia
  refine O.item A i s vs vs[i] Q E st sv (by simp [hi]) fun g st' sb => ?_
  exact kq _ g s.toks ⟨i,rfl,by simp [hi]⟩ ⟨i + 1,by lia,st',O.sk _ _ vs sv fun o z => (sb.2 a (O.ne _ vs i sv st)).trans z⟩ sb
 done := fun s Q E q kq => by
  obtain ⟨i,hi,st,sv⟩ := q
  have:i = vs.size := by lia
  subst this
  exact O.done A _ s vs Q E hh st sv (by simp) kq
theorem turn_enum {P:Program} {w:World} {K:PySem.W.Frag} {S:Hp → Addr → List V → Prop} {elts:List Expr} {x1:Nat} {tp:Pos} (a e it:Addr) (k:Nat) (hei:e ≠ it) {sq:Heap → Array Value → Prop} {ti:Nat → Heap → Prop} (O:SrcOk P w K S a it sq ti) :
  Turn P w K (.Tuple elts x1 tp) (Iten S a k) [e,it] e (fun i h => (∃ old,IsEnum h e it (((k + i:Nat)):Int) old) ∧ ti i h) where
 mem := by simp
 obj := fun i h st b hb => by
  obtain ⟨⟨old,he⟩,st⟩ := st
  rcases List.mem_cons.mp hb with z | z
  ·subst z
   exact ⟨_,he,fun v z => by
    have z':Data.fields _ = Data.cell v := z
    cases z'⟩
  ·have z':b = it := by simpa using z
   subst z'
   exact O.obj i h st
 keep := fun i h h' st kk => by
  obtain ⟨⟨old,he⟩,st⟩ := st
  exact ⟨⟨old,kk e (by simp) _ he⟩,O.keep i h h' st fun o q => kk it (by simp) o q⟩
 item := by
  intro X hP hw hK hc i pins s σ H E I hf st hg
  obtain ⟨⟨old,he⟩,st⟩ := st
  obtain ⟨xs,x,hq,hx⟩ := hg
  have fe := hf e (by simp)
  have fi := hf it (by simp)
  obtain ⟨its,rv,sv⟩ := O.abs X pins σ H s xs hK I hq
  obtain ⟨u,hu,ru⟩ := rv.get hx
  have hlt:i < its.toArray.size := by
   rw [List.size_toArray]
   exact (List.getElem?_eq_some_iff.mp hu).1
  have hef:e ∉ [it,a] := fun z => by
   rcases List.mem_cons.mp z with z | z
   ·exact hei z
   ·exact O.nee _ _ _ _ _ sv he (by simpa using z:e = a).symm
  have hel:e < s.heap.objs.size := Heap.lt_size he
  have hil:it < s.heap.objs.size := by obtain ⟨o,q,_⟩ := O.obj i _ st; exact Heap.lt_size q
  refine wpAny_pyNext_enum_itemD (O.draws (A := X.A.in1) (I.ok.hd hc) k its.toArray) he ⟨i,rfl,st,sv⟩ (by lia) hei hef fun y g tk hy ho hst hT hsz hk => ?_
  obtain ⟨i',e1,hy⟩ := hy
  have e2:i' = i := by lia
  subst e2
  have e3:y = u := by
   have hu':its.toArray[i']? = some u := by simpa using hu
   rw [hu'] at hy
   exact (Option.some.inj hy).symm
  subst e3
  refine ⟨_,rfl,wpAny_letOwnedTupleGo_enum ho fun g2 he2 hs2 => ?_⟩
  have nse:s.heap.objs.size ≠ e := Nat.ne_of_gt hel
  have hT2:g2.get? s.heap.objs.size = some { cls := .type "tuple",data := .seq #[.int ((k + i':Nat):Int) tk,y] } := (hs2.2 _ nse).trans hT
  have I2:Inv X pins σ (upd H s.heap.objs.size (.tup [.int (((k + i':Nat)):Int),x])) { s with heap := g2,toks := tk + 1 } := by
   refine I.pair fe fi (Nat.le_refl _) (fun b o h1 h2 q => (hs2.2 b h1).trans (hk b o h1 h2 q)) ?_
   exact ⟨by show 2 ≤ sizeLine; decide,[.int ((k + i':Nat):Int) tk,y],.cons ⟨tk,rfl⟩ (.cons ru .nil),⟨_,hT2,rfl,0,rfl⟩⟩
  obtain ⟨i2,e4,st2,_⟩ := hst
  have e5:i2 = i' + 1 := by lia
  subst e5
  refine ⟨.ref s.heap.objs.size,_,I2,rfl,⟨_,x,rfl,I.fresh,rfl,fun ys hys => ?_⟩,⟨⟨y,?_⟩,O.keep _ _ _ st2 fun o q => (hs2.2 it (Ne.symm hei)).trans q⟩,fun b hb => ?_⟩
  ·rw [O.one X pins σ H s ys xs hK I hys hq]
   exact hx
  ·have:(((k + (i' + 1):Nat)):Int) = ((k + i':Nat):Int) + 1 := by lia
   rw [this]
   exact he2
  ·rcases List.mem_cons.mp hb with z | z
   ·subst z
    rw [upd_ne (Ne.symm nse)]
    exact fe.1
   ·have z':b = it := by simpa using z
    subst z'
    rw [upd_ne (Nat.ne_of_lt hil)]
    exact fi.1
 done := by
  intro X hP hw hK hc i pins s σ H E I hf st hg
  obtain ⟨⟨old,he⟩,st⟩ := st
  obtain ⟨xs,hq,hx⟩ := hg
  obtain ⟨its,rv,sv⟩ := O.abs X pins σ H s xs hK I hq
  have hl := rv.length
  obtain ⟨f0,f1,f2,f3,f4,f5⟩ := hf it (by simp)
  exact wpAny_pyNext_enum_endD (O.draws (A := X.A.in1) (I.ok.hd hc) k its.toArray) he ⟨i,by simp; lia,st,sv⟩ fun g eb => ⟨rfl,I.turned (t' := s.toks) (fun b o hb q => eb b o hb q) f0 f1 f3 f4 f5⟩
 self := fun A i s Q E st h => by
  obtain ⟨⟨old,he⟩,st⟩ := st
  exact wpAny_pyIter_enum he h
theorem for_enumW {S:Hp → Addr → List V → Prop} {a:Addr} {k:Nat} {xs:List V} {σ:St} {H:Hp} {DN:St → Hp → Prop} {B:(St → Hp → Prop) → V → St → Hp → Prop} (Pv:Nat → St → Hp → Prop) (h0:Pv 0 σ H)
  (hl:∀ i σ H,i ≤ xs.length → Pv i σ H → S H a xs)
  (hs:∀ i x σ H t,xs[i]? = some x → Pv i σ H → H t = none → B (Pv (i + 1)) (.ref t) σ (upd H t (.tup [.int (((k + i:Nat)):Int),x]))) (hd:∀ σ H,Pv xs.length σ H → DN σ H) :
  ∃ W:Nat → Nat → St → Hp → Prop,(∃ m,W 0 m σ H) ∧ ∀ i m σ H,W i m σ H →
   ((Iten S a k).stop i H ∧ DN σ H) ∨ ((Iten S a k).go i H ∧ ∃ N:St → Hp → Prop,(∀ σ' H',N σ' H' → ∃ m',m' < m ∧ W (i + 1) m' σ' H') ∧ ∀ x H',(Iten S a k).yld i H x H' → B N x σ H') := by
 refine ⟨fun i m σ H => m = xs.length - i ∧ i ≤ xs.length ∧ Pv i σ H,⟨xs.length,by simp,Nat.zero_le _,h0⟩,?_⟩
 rintro i m σ H ⟨rfl,hi,p⟩
 have q := hl i σ H hi p
 by_cases hlt:i < xs.length
 ·refine .inr ⟨⟨xs,xs[i],q,by simp [hlt]⟩,Pv (i + 1),fun σ' H' p' => ⟨xs.length - (i + 1),by omega,rfl,hlt,p'⟩,fun x H' y => ?_⟩
  obtain ⟨t,y,e,ht,e',hy⟩ := y
  subst e e'
  exact hs i y σ _ t (hy xs q) p ht
 ·have e:i = xs.length := by lia
  subst e
  exact .inl ⟨⟨xs,q,rfl⟩,hd σ H p⟩
noncomputable def iEnL (K:PySem.W.Frag) (k:Nat) (te:TE):TI := fun σ H R => te σ H fun x H1 => ∃ a,x = .ref a ∧ (∃ xs,SqL K H1 a xs) ∧ R (Iten (SqL K) a k) H1
noncomputable def iEnT (K:PySem.W.Frag) (k:Nat) (te:TE):TI := fun σ H R => te σ H fun x H1 => ∃ a,x = .ref a ∧ (∃ xs,SqT K H1 a xs) ∧ R (Iten (SqT K) a k) H1
section
variable {X:Cx} {elts:List Expr} {x1:Nat} {tp:Pos}
theorem enum_pie {S:Hp → Addr → List V → Prop} {sq:Heap → Array Value → Prop} {ti:Nat → Heap → Prop} {pins:List (Addr × Obj)} {σ:St} {H:Hp} {s:Shared} {R:It → Hp → Prop} {E:Value → Shared → Prop} {a:Addr} {k:Nat} {g:Heap} {c:Int} (I:Inv X pins σ H s)
  (O:SrcOk X.prog X.w X.K S a s.heap.objs.size sq ti) (hc:c = (k:Int)) (he:IsEnum g (s.heap.objs.size + 1) s.heap.objs.size c .none) (hi:ti 0 g) (hk:∀ b o,s.heap.get? b = some o → g.get? b = some o) (q:R (Iten S a k) H) :
  wpAny (model X.prog X.w) X.A (pyIter (.ref (s.heap.objs.size + 1))) (PIE X pins σ (.Tuple elts x1 tp) R) E { s with heap := g } := by
 subst hc
 refine wpAny_pyIter_enum he ⟨s.heap.objs.size + 1,[s.heap.objs.size + 1,s.heap.objs.size],_,_,H,rfl,I.kept (t' := s.toks) hk,turn_enum a _ _ k (Nat.succ_ne_self _) O,⟨⟨_,he⟩,hi⟩,fun b hb => ?_,q⟩
 rcases List.mem_cons.mp hb with z | z
 ·subst z
  exact I.fpOk (Nat.le_succ _) (I.hok.fresh (Nat.le_succ _))
 ·have z':b = s.heap.objs.size := by simpa using z
  subst z'
  exact I.fpOk (Nat.le_refl _) (I.hok.fresh (Nat.le_refl _))
theorem pi_enum_list {e:Expr} {te:TE} {p pos:Pos} (hg:Gl X "enumerate") (hm:X.mg "enumerate" = none) (he:PE X e te) (hs:starEach [e] X.env = [(false,eval e X.env)] := by rfl):PI X (.Tuple elts x1 tp) (.Call (.Name "enumerate" p) [e] [] pos) (iEnL X.K 0 te) := by
 intro pins s σ H R I h
 refine Call_ (ld_blt I hg hm boot_enumerate (PyProof.Rows.callWith_type1 ?_ hs rfl))
 rw [hs]
 refine Calls.spliced_cons (thn (he pins s σ H _ I h) fun v s1 ⟨x,H1,I1,rx,q1⟩ => Calls.spliced_nil ?_)
 obtain ⟨a,rfl,⟨xs,hq⟩,q⟩ := q1
 cases rx
 obtain ⟨its,rv,pl,_⟩ := I1.list hq
 exact call_enumerate_list pl.isList fun g e1 e2 _ hk => enum_pie I1 (src_list a _) rfl e1 e2 hk q
end
structure CalI (P:Program) (w:World) (K:PySem.W.Frag) (mg:Str → Option Value) (base:Heap) (x:Str) (C:Addr) (ps:List Str) (k:Nat) (sp:Sp):Prop where
 ex:∃ (f:Addr) (fd:FuncData),FnOk P w K mg base CX0 k f fd ps sp ∧ Binds K fd ps [] ∧ Mk K C f ∧ mg x = some (.ref C)
structure CalM (P:Program) (w:World) (K:PySem.W.Frag) (mg:Str → Option Value) (base:Heap) (C:Addr) (m:Str) (ps:List Str) (k:Nat) (sp:Sp):Prop where
 ex:∃ (f:Addr) (fd:FuncData),FnOk P w K mg base CX0 k f fd ps sp ∧ Binds K fd ps [] ∧ Meth K C m f ∧ Cls K C
theorem pe_makeC {X:Cx} {x:Str} {C:Addr} {ps:List Str} {k:Nat} {sp:Sp} {e:Expr} {es:List Expr} {t:TA} {p pos:Pos} (c:CalI X.prog X.w X.K X.mg X.base x C ps k sp) (hr:Room (k + 1) X.A) (hg:Gl X x) (ha:PA X (e :: es) t)
  (hdb:(x == ("__debug__":Str)) = false := by decide) (he:starEach (e :: es) X.env = (false,eval e X.env) :: starEach es X.env := by rfl) (hpl:(backTo pos (starEach es X.env)).any (·.1) = false := by rfl) :
  PE X (.Call (.Name x p) (e :: es) [] pos) (tMake C sp [] E0 t) := by
 obtain ⟨f,fd,F,b,m,hm⟩ := c.ex
 exact pe_make m F hr hg hm b .nil pass0 ha hdb he hpl
theorem pe_methC {X:Cx} {m:Str} {C:Addr} {ps:List Str} {k:Nat} {sp:Sp} {o e:Expr} {es:List Expr} {ta:TE} {t:TA} {apos pos:Pos} {pl:Sem Bool} (c:CalM X.prog X.w X.K X.mg X.base C m ps k sp) (hr:Room k X.A) (ho:PE X o ta) (ha:PA X (e :: es) t)
  (he:starEach (e :: es) X.env = (false,eval e X.env) :: starEach es X.env := by rfl) (hpl:(backTo pos (starEach es X.env)).any (·.1) = false := by rfl)
  (ht:eval (.Call (.Attribute o m apos) (e :: es) [] pos) X.env = (do
   let v ← eval o X.env
   standAt apos.atName
   let (g,first) ← holding [v] (getMethod v m pl)
   callWith pos g first (backTo pos (starEach (e :: es) X.env)) (backToKw pos (keywordEach [] X.env))) := by rfl):PE X (.Call (.Attribute o m apos) (e :: es) [] pos) (tMeth C m sp [] E0 ta t) := by
 obtain ⟨f,fd,F,b,hm,cl⟩ := c.ex
 exact pe_meth ho cl hm F hr b .nil pass0 ha he hpl ht
noncomputable def rInsert:V → List V → Hp → VK → Prop := fun x vs H Q => ∃ l xs i y,x = .ref l ∧ vs = [.int i,y] ∧ H l = some (.lst xs) ∧ 0 ≤ i ∧ i ≤ xs.length ∧ xs.length < sizeLine ∧ Q .non (upd H l (.lst (xs.take i.toNat ++ y :: xs.drop i.toNat)))
theorem fits_line {i:Int} (h0:0 ≤ i) (h1:i ≤ (sizeLine:Nat)):Builtin.List.listFitsIndex i = true := by
 have := line63
 have e:((2 ^ 63:Nat):Int) = 9223372036854775808 := by decide
 refine fitsIndex_both ?_ ?_ <;> lia
theorem mt_insert {X:Cx}:MtM X "list.insert" rInsert := by
 intro pins s σ H x vs v us Q I rx rv h
 obtain ⟨l,xs,i,y,rfl,rfl,hH,i0,i1,hz,q⟩ := h
 cases rx
 obtain ⟨u,u',rfl,ru,ru'⟩ := rv.two
 obtain ⟨t,rfl⟩ := ru
 obtain ⟨z,its,n,r,hl,e⟩ := I.lstM hH
 refine call_meets F.slot_list_insert ⟨_,e,rfl⟩ F.entry_list_insert (F.args_list_insert_3 _ _ _) (AutoSeq1.list_insert_list_int_val_1 l its.toArray n i t u' (by rw [fits_line i0 (by lia)]; decide) (by rw [List.size_toArray]; lia)) ⟨e,?_⟩
 refine ⟨.non,_,I.lset (its' := its.take i.toNat ++ u' :: its.drop i.toNat) hH e ?_ ((r.take i.toNat).append (.cons ru' (r.drop i.toNat))) ?_,rfl,q⟩
 ·have e1:¬ i < 0 := by lia
  have e2:min i.toNat its.toArray.size = i.toNat := by rw [List.size_toArray]; lia
  simp only [if_neg e1,e2]
  apply Array.toList_inj.mp
  simp
  exact List.take_of_length_le (by rw [List.length_drop]; lia)
 ·rw [List.length_append,List.length_cons,List.length_take,List.length_drop]
  lia
end L2
namespace L2
open PySem PySem.Spec PyProof.Rows
section
variable {X:Cx} {K:PySem.W.Frag}
theorem ix_listK (hK:X.K = K):IxR X (rIxL K) := by subst hK; exact ix_list
theorem ix_tupK (hK:X.K = K):IxR X (rIxT K) := by subst hK; exact ix_tup
theorem pg_tupK {es:List Expr} {k:Nat} {t:TGs} {n:Nat} {pos:Pos} (hK:X.K = K) (hc:X.calm = true) (h:PGs X es t) (hn:(assignEach es X.env).length = n := by rfl) (hst:(assignEach es X.env).findIdx? (·.1) = none := by rfl):PG X (.Tuple es k pos) (gTup K n t) := by
 subst hK; exact pg_tup hc h hn hst
theorem op_in_seqK (hK:X.K = K):OpR X (compareOp .In) (rIn K false) := by subst hK; exact op_in_seq
theorem op_eqDK {k:Nat} (hK:X.K = K) (n:Nat) (hr:Room k X.A) (hn:n ≤ 9 := by decide):OpR X (compareOp .Eq) (rEqD K n) := by subst hK; exact op_eqD n hr hn
noncomputable def rLen (K:PySem.W.Frag):List V → Hp → VK → Prop := fun xs H Q => ∃ p ys,xs = [.ref p] ∧ (SqL K H p ys ∨ SqT K H p ys) ∧ Q (.int ys.length) H
theorem call_lenK (hK:X.K = K):CallR X (.builtin "len") (rLen K) := by subst hK; exact call_len_seq
noncomputable def rListOf (K:PySem.W.Frag):List V → Hp → VK → Prop := fun xs H Q => ∃ p ys,xs = [.ref p] ∧ (SqL K H p ys ∨ SqT K H p ys) ∧ ∀ l,H l = none → Q (.ref l) (upd H l (.lst ys))
theorem call_listK (hK:X.K = K):CallR X (.type "list") (rListOf K) := by subst hK; exact call_list_of
noncomputable def rTupL (K:PySem.W.Frag):List V → Hp → VK → Prop := fun xs H Q => ∃ p ys,xs = [.ref p] ∧ SqL K H p ys ∧ ∀ l,H l = none → Q (.ref l) (upd H l (.tup ys))
end
end L2
namespace L2
theorem seq_of {t u:TS} {D:Ends} {σ:St} {H:Hp} (h:∀ U:TS,U = u → t { D with nx := U D } σ H):tSeq t u D σ H := h u rfl
end L2
set_option maxHeartbeats 1000000
namespace L2
open PySem PySem.Spec PyProof.Rows
noncomputable def Itz (K:PySem.W.Frag) (a b:Addr):It :=
 ⟨fun i H => ∃ xs ys x y,SqL K H a xs ∧ SqL K H b ys ∧ xs[i]? = some x ∧ ys[i]? = some y,
  fun i H v H' => ∃ t x y,v = .ref t ∧ H t = none ∧ H' = upd H t (.tup [x,y]) ∧ (∀ xs,SqL K H a xs → xs[i]? = some x) ∧ (∀ ys,SqL K H b ys → ys[i]? = some y),
  fun i H => ∃ xs ys,SqL K H a xs ∧ SqL K H b ys ∧ (xs[i]? = none ∨ ys[i]? = none)⟩
section
variable {X:Cx} {pins:List (Addr × Obj)} {σ:St} {H:Hp} {s:Shared}
theorem Inv.turns {ch:List Addr} {g:Heap} {tk:Nat} (I:Inv X pins σ H s) (fc:∀ b ∈ ch,FpOk X pins H b)
  (k:∀ b o,b ∉ ch → s.heap.get? b = some o → g.get? b = some o):Inv X pins σ H { s with heap := g,toks := tk } := by
 have nit:∀ b u,H b = some u → b ∉ ch := fun b u e z => by rw [(fc b z).1] at e; cases e
 refine I.step (g' := s.gens) (d' := s.drawn) (ch := ch) (fun b hb => ?_) (fun b o _ _ hc e _ => k b o hc e) (fun b o _ _ hc e _ => ⟨o.slots,k b o hc e⟩) (fun _ _ _ _ n => n)
  (fun b o hc e => ⟨o,k b o hc e⟩) (fun _ _ e => e) (fun _ _ _ e => e) (fun b ps e => ⟨#[],by rw [e]; simp⟩) (fun m hm => ?_) (fun b u e => ?_) I.bare
 ·obtain ⟨e0,e1,e2,e3,e4,e5⟩ := fc b hb
  exact ⟨e3,e1,e4,e5⟩
 ·obtain ⟨o,es,ep,ho,r⟩ := hm
  exact ⟨o,es,ep,k _ o (fun z => (fc _ z).2.1 rfl) ho,r⟩
 ·refine (I.hok b u e).stay (fun c v hc q => k c v ?_ q) (fun _ q => q) fun _ _ q => q
  rcases hc with z | z
  ·rw [z]; exact nit b u e
  ·exact nit c _ z
theorem Inv.turnsL {ch:List Addr} {t:Addr} {g:Heap} {tk:Nat} {o:HO} (I:Inv X pins σ H s) (fc:∀ b ∈ ch,FpOk X pins H b) (ht:s.heap.objs.size ≤ t)
  (k:∀ b o,b ∉ ch → s.heap.get? b = some o → g.get? b = some o) (new:ObjOk X.prog X.w (upd H t o) g t o):Inv X pins σ (upd H t o) { s with heap := g,toks := tk } := by
 have hn:H t = none := I.hok.fresh ht
 have nt:∀ b o,s.heap.get? b = some o → b ≠ t := fun b o q z => by
  subst z
  exact absurd (Nat.lt_of_lt_of_le (Heap.lt_size q) ht) (Nat.lt_irrefl _)
 have nit:∀ b u,H b = some u → b ∉ ch := fun b u e z => by rw [(fc b z).1] at e; cases e
 refine I.step (g' := s.gens) (d' := s.drawn) (ch := ch) (fun b hb => ?_) (fun b o _ _ hc q _ => k b o hc q) (fun b o _ _ hc q _ => ⟨o.slots,k b o hc q⟩) (fun b o _ q n => by rw [upd_ne (nt b o q)]; exact n)
  (fun b o hc q => ⟨o,k b o hc q⟩) (fun b xs q => by rw [upd_ne (ne_of_none q hn)]; exact q) (fun b o u q => by rw [upd_ne (ne_of_none q hn)]; exact q) (fun b ps q => ⟨#[],by rw [upd_ne (ne_of_none q hn),q]; simp⟩) (fun m hm => ?_) (fun b u q => ?_) I.bare
 ·obtain ⟨e0,e1,e2,e3,e4,e5⟩ := fc b hb
  exact ⟨e3,e1,e4,e5⟩
 ·obtain ⟨ol,es,ep,ho,r⟩ := hm
  exact ⟨ol,es,ep,k _ ol (fun z => (fc _ z).2.1 rfl) ho,r⟩
 ·by_cases hb:b = t
  ·subst hb; rw [upd_same] at q; cases q; exact new
  ·rw [upd_ne hb] at q
   refine (I.hok b u q).stay (fun c v hc z => k c v ?_ z) (fun c z => by rw [upd_ne (ne_of_none z hn)]; exact z) fun c xs z => by rw [upd_ne (ne_of_none z hn)]; exact z
   rcases hc with z' | z'
   ·rw [z']; exact nit b u q
   ·exact nit c _ z'
end
theorem turn_zip {P:Program} {w:World} {K:PySem.W.Frag} {elts:List Expr} {x1:Nat} {tp:Pos} {z TI TO i1 i2 l1 l2:Addr} (D:ZipApart z TI TO i1 i2 l1 l2) :
  Turn P w K (.Tuple elts x1 tp) (Itz K l1 l2) [z,TI,TO,i1,i2] z (fun i h => IsZip h z TI TO .none ∧ IsPair h TI (.ref i1) (.ref i2) ∧ (∃ a b,IsPair h TO a b) ∧ h.IsListIter i1 l1 i ∧ h.IsListIter i2 l2 i) where
 mem := by simp
 obj := fun i h st b hb => by
  obtain ⟨hz,hTI,⟨a,c,hTO⟩,⟨o1,e1,c1,d1⟩,⟨o2,e2,c2,d2⟩⟩ := st
  have hb':b = z ∨ b = TI ∨ b = TO ∨ b = i1 ∨ b = i2 := by simpa using hb
  rcases hb' with rfl | rfl | rfl | rfl | rfl
  ·exact ⟨_,hz,fun v z => by
    have z':Data.fields _ = Data.cell v := z
    cases z'⟩
  ·exact ⟨_,hTI,fun v z => by
    have z':Data.seq _ _ = Data.cell v := z
    cases z'⟩
  ·exact ⟨_,hTO,fun v z => by
    have z':Data.seq _ _ = Data.cell v := z
    cases z'⟩
  ·exact ⟨o1,e1,fun v z => by rw [d1] at z; cases z⟩
  ·exact ⟨o2,e2,fun v z => by rw [d2] at z; cases z⟩
 keep := fun i h h' st kk => by
  obtain ⟨hz,hTI,⟨a,c,hTO⟩,h1,h2⟩ := st
  exact ⟨kk z (by simp) _ hz,kk TI (by simp) _ hTI,⟨a,c,kk TO (by simp) _ hTO⟩,h1.at fun o e => kk i1 (by simp) o e,h2.at fun o e => kk i2 (by simp) o e⟩
 item := by
  intro X hP hw hK hc i pins s σ H E I hf st hg
  subst hP hw hK
  obtain ⟨hz,hTI,⟨a,c,hTO⟩,h1,h2⟩ := st
  obtain ⟨xs,ys,x,y,hq1,hq2,hx,hy⟩ := hg
  obtain ⟨its1,rv1,p1,_⟩ := I.list hq1
  obtain ⟨its2,rv2,p2,_⟩ := I.list hq2
  obtain ⟨u1,hu1,ru1⟩ := rv1.get hx
  obtain ⟨u2,hu2,ru2⟩ := rv2.get hy
  refine wpAny_pyNext_zip_item D hz hTI hTO h1 h2 p1.isList p2.isList (x := u1) (y := u2) (by simpa using hu1) (by simpa using hu2) fun g a1 a2 a3 a4 a5 a6 hk => ?_
  refine ⟨_,rfl,wpAny_letOwnedTupleGo_zip a1 fun g2 hz2 hs2 => ?_⟩
  have hzl:z < s.heap.objs.size := Heap.lt_size hz
  have nse:s.heap.objs.size ≠ z := Nat.ne_of_gt hzl
  have hT2:g2.get? s.heap.objs.size = some { cls := .type "tuple",data := .seq #[u1,u2] } := (hs2.2 _ nse).trans a5
  have I2:Inv X pins σ (upd H s.heap.objs.size (.tup [x,y])) { s with heap := g2,toks := s.toks } := by
   refine I.turnsL (ch := [z,TI,TO,i1,i2]) hf (Nat.le_refl _) (fun b o hb q => ?_) ?_
   ·have nb:b ≠ z ∧ b ≠ TO ∧ b ≠ i1 ∧ b ≠ i2 := ⟨fun e => hb (by simp [e]),fun e => hb (by simp [e]),fun e => hb (by simp [e]),fun e => hb (by simp [e])⟩
    exact (hs2.2 b nb.1).trans (hk b o nb.1 nb.2.1 nb.2.2.1 nb.2.2.2 q)
   ·exact ⟨by show 2 ≤ sizeLine; decide,[u1,u2],.cons ru1 (.cons ru2 .nil),⟨_,hT2,rfl,0,rfl⟩⟩
  refine ⟨.ref s.heap.objs.size,_,I2,rfl,⟨_,x,y,rfl,I.fresh,rfl,fun zs hzs => ?_,fun zs hzs => ?_⟩,⟨hz2,?_,⟨u1,u2,?_⟩,?_,?_⟩,fun b hb => ?_⟩
  ·rw [I.list_inj hzs hq1]
   exact hx
  ·rw [I.list_inj hzs hq2]
   exact hy
  ·exact (hs2.2 _ D.TIz).trans (hk _ _ D.TIz D.TITO D.TIi1 D.TIi2 hTI)
  ·exact (hs2.2 _ D.TOz).trans a2
  ·exact a3.at fun o e => (hs2.2 _ D.i1z).trans e
  ·exact a4.at fun o e => (hs2.2 _ D.i2z).trans e
  ·have hbl:b < s.heap.objs.size := by
    obtain ⟨o1,e1,_⟩ := h1
    obtain ⟨o2,e2,_⟩ := h2
    have hb':b = z ∨ b = TI ∨ b = TO ∨ b = i1 ∨ b = i2 := by simpa using hb
    rcases hb' with rfl | rfl | rfl | rfl | rfl
    ·exact hzl
    ·exact Heap.lt_size hTI
    ·exact Heap.lt_size hTO
    ·exact Heap.lt_size e1
    ·exact Heap.lt_size e2
   rw [upd_ne (Nat.ne_of_lt hbl)]
   exact (hf b hb).1
 done := by
  intro X hP hw hK hc i pins s σ H E I hf st hg
  subst hP hw hK
  obtain ⟨hz,hTI,⟨a,c,hTO⟩,h1,h2⟩ := st
  obtain ⟨xs,ys,hq1,hq2,hx⟩ := hg
  obtain ⟨its1,rv1,p1,_⟩ := I.list hq1
  obtain ⟨its2,rv2,p2,_⟩ := I.list hq2
  refine wpAny_pyNext_zip_end (I.ok.hd hc) D hz hTI hTO h1 h2 p1.isList p2.isList ?_ fun g hk => ⟨rfl,I.turns (tk := s.toks) (ch := [z,TI,TO,i1,i2]) hf fun b o hb q => ?_⟩
  ·rcases hx with e | e
   ·exact .inl (by simpa using rv1.none_of e)
   ·exact .inr (by simpa using rv2.none_of e)
  ·exact hk b o (fun e => hb (by simp [e])) (fun e => hb (by simp [e])) (fun e => hb (by simp [e])) (fun e => hb (by simp [e])) q
 self := fun A i s Q E st h => wpAny_pyIter_zip st.1 h
theorem for_zipW {K:PySem.W.Frag} {a b:Addr} {xs ys:List V} {σ:St} {H:Hp} {DN:St → Hp → Prop} {B:(St → Hp → Prop) → V → St → Hp → Prop} (Pv:Nat → St → Hp → Prop) (hxy:xs.length = ys.length) (h0:Pv 0 σ H)
  (hl:∀ i σ H,i ≤ xs.length → Pv i σ H → SqL K H a xs ∧ SqL K H b ys)
  (hs:∀ i x y σ H t,xs[i]? = some x → ys[i]? = some y → Pv i σ H → H t = none → B (Pv (i + 1)) (.ref t) σ (upd H t (.tup [x,y]))) (hd:∀ σ H,Pv xs.length σ H → DN σ H) :
  ∃ W:Nat → Nat → St → Hp → Prop,(∃ m,W 0 m σ H) ∧ ∀ i m σ H,W i m σ H →
   ((Itz K a b).stop i H ∧ DN σ H) ∨ ((Itz K a b).go i H ∧ ∃ N:St → Hp → Prop,(∀ σ' H',N σ' H' → ∃ m',m' < m ∧ W (i + 1) m' σ' H') ∧ ∀ x H',(Itz K a b).yld i H x H' → B N x σ H') := by
 refine ⟨fun i m σ H => m = xs.length - i ∧ i ≤ xs.length ∧ Pv i σ H,⟨xs.length,by simp,Nat.zero_le _,h0⟩,?_⟩
 rintro i m σ H ⟨rfl,hi,p⟩
 obtain ⟨q1,q2⟩ := hl i σ H hi p
 by_cases hlt:i < xs.length
 ·have hlt2:i < ys.length := by lia
  refine .inr ⟨⟨xs,ys,xs[i],ys[i],q1,q2,by simp [hlt],by simp [hlt2]⟩,Pv (i + 1),fun σ' H' p' => ⟨xs.length - (i + 1),by lia,rfl,hlt,p'⟩,fun x H' y => ?_⟩
  obtain ⟨t,x,y,e,ht,e',hx,hy⟩ := y
  subst e e'
  exact hs i x y σ _ t (hx xs q1) (hy ys q2) p ht
 ·have e:i = xs.length := by lia
  subst e
  exact .inl ⟨⟨xs,ys,q1,q2,.inl (by simp)⟩,hd σ H p⟩
noncomputable def iZip (K:PySem.W.Frag) (ta:TA):TI := fun σ H R => ta σ H fun vs H1 => ∃ a b,vs = [.ref a,.ref b] ∧ (∃ xs,SqL K H1 a xs) ∧ (∃ ys,SqL K H1 b ys) ∧ R (Itz K a b) H1
theorem pi_zip {X:Cx} {elts:List Expr} {x1:Nat} {tp:Pos} {a b:Expr} {ta:TA} {p pos:Pos} (hg:Gl X "zip") (hm:X.mg "zip" = none) (ha:PA X [a,b] ta) (hs:starEach [a,b] X.env = [(false,eval a X.env),(false,eval b X.env)] := by rfl) (hs2:starEach [b] X.env = [(false,eval b X.env)] := by rfl) :
  PI X (.Tuple elts x1 tp) (.Call (.Name "zip" p) [a,b] [] pos) (iZip X.K ta) := by
 intro pins s σ H R I h
 refine Call_ (ld_blt I hg hm boot_zip (PyProof.Rows.callWith_type1 (thn (ha pos pins s σ H _ I h) fun us s1 ⟨vs,H1,I1,r1,q1⟩ => ?_) (by rw [hs,hs2]) (by rw [hs2]; rfl)))
 obtain ⟨l1,l2,e,⟨xs,hq1⟩,⟨ys,hq2⟩,q⟩ := q1
 subst e
 cases r1 with
 | cons r rr =>
  cases rr with
  | cons r' rr =>
   cases rr
   cases r
   cases r'
   obtain ⟨its1,rv1,p1,_⟩ := I1.list hq1
   obtain ⟨its2,rv2,p2,_⟩ := I1.list hq2
   have a1:l1 < s1.heap.objs.size := by obtain ⟨_,e,_⟩ := p1.isList; exact Heap.lt_size e
   have a2:l2 < s1.heap.objs.size := by obtain ⟨_,e,_⟩ := p2.isList; exact Heap.lt_size e
   refine call_zip_2 p1.isList p2.isList fun h' hz hTI hTO hi1 hi2 _ hk => wpAny_pyIter_zip hz ?_
   refine ⟨_,_,_,_,H1,rfl,I1.kept (t' := s1.toks) hk,turn_zip (zipApart_new a1 a2),⟨hz,hTI,⟨_,_,hTO⟩,hi1,hi2⟩,fun b hb => ?_,q⟩
   have hb':b = s1.heap.objs.size + 4 ∨ b = s1.heap.objs.size + 2 ∨ b = s1.heap.objs.size + 3 ∨ b = s1.heap.objs.size ∨ b = s1.heap.objs.size + 1 := by simpa using hb
   have hle:s1.heap.objs.size ≤ b := by
    rcases hb' with rfl | rfl | rfl | rfl | rfl
    ·exact Nat.le_add_right _ _
    ·exact Nat.le_add_right _ _
    ·exact Nat.le_add_right _ _
    ·exact Nat.le_refl _
    ·exact Nat.le_add_right _ _
   exact I1.fpOk hle (I1.hok.fresh hle)
end L2
namespace L2
open PySem PySem.Spec PyProof.Rows
theorem lri_no_len:typeLookup (.type "list_reverseiterator") "__len__" = pure none := by rw [typeLookup_type,builtinLookup_eq_fast]; kernel_rfl
theorem lri_hint:typeLookup (.type "list_reverseiterator") "__length_hint__" = pure (some (.builtin "list_reverseiterator.__length_hint__")) := by rw [typeLookup_type,builtinLookup_eq_fast]; kernel_rfl
section
variable {prog:Program} {w:World} {A:Around} {E:Value → Shared → Prop} {s:Shared}
theorem hint_rev {I l:Addr} {i:Int} {Q:Bool → Shared → Prop} (hi:s.heap.IsRevIter I l i) (h:Q false s):wpAny (model prog w) A (Builtin.List.listLengthHint (.ref I)) Q E s := by
 unfold Builtin.List.listLengthHint
 refine wpAny_bind (wpAny_specialOf hi.typeIs lri_no_len ?_)
 show wpAny _ _ (specialOf (Value.ref I) (Str.ofString "__length_hint__") >>= _) _ _ _
 refine wpAny_bind (wpAny_specialOf hi.typeIs lri_hint ?_)
 generalize hid:("list_reverseiterator.__length_hint__":String) = id0
 wp_delta
 rw [show splitId id0 = some ("list_reverseiterator","__length_hint__") from by subst hid; decide +kernel]
 subst hid
 refine wpAny_bind (wpAny_isInstance (T := "list_reverseiterator") (b := true) hi.typeIs (by rw [isSubtype_type]; kernel_rfl) ?_)
 refine wpAny_ite_split (fun hab => absurd hab (by decide)) (fun _ => ?_)
 refine wpAny_ite_split (fun _ => ?_) (fun hab => absurd (by decide +kernel) hab)
 refine wpAny_ite_split (fun hab => absurd hab (by decide +kernel)) (fun _ => ?_)
 exact wpAny_pure h
theorem extend_rev {R:Result → Shared → Prop} {I l:Addr} {items:Array Value} (hh:A.handled = none) (hi:s.heap.IsRevIter I l ((items.size:Int) - 1)) (hl:s.heap.IsList l items) (hne:l ≠ I) (hsz:items.size ≤ sizeLine)
  (S:Addr) (res:Value) (c₀:Nat) (hSI:S ≠ I) (hSl:S ≠ l) (hS:s.heap.get? S = some { cls := .type "list",data := .seq #[] c₀ })
  (hR:∀ h' tk acc' c',(∀ b o,b ≠ S → b ≠ I → s.heap.get? b = some o → h'.get? b = some o) → h'.get? S = some { cls := .type "list",dict := none,data := .seq acc' c',slots := #[] } →
   ItemsOf (fun i v => items[items.size - 1 - i]? = some v) acc' items.size → R (.ok (.ret res)) { s with heap := h',toks := tk }) :
  wpAny (model prog w) A.in1 (Builtin.List.listExtendWith (.ref S) (.ref I) res)
   (fun fin s' => match fin with | .done f => R (.ok f) s' | .again c' => c'.quiet = true ∧ codeAny (model prog w) A c' R s') (fun e s' => R (.error e) s') s := by
 have hSf:S ∉ [I,l] := fun hm => by
  rcases List.mem_cons.mp hm with z | z
  ·exact hSI z
  ·exact hSl (List.mem_singleton.mp z)
 have W := (Walks.listRev (prog := prog) (w := w) (A := A.in1) hh I l hne items).toS
 unfold Builtin.List.listExtendWith
 refine wpAny_bind (wpAny_typeOf (T := "list_reverseiterator") hi.typeIs ?_)
 have h1:Builtin.List.listSameRef (.ref S) (.ref I) = false := by simp [Builtin.List.listSameRef,hSI]
 have h2:(Value.type "list_reverseiterator" == Value.type "list") = false := by decide
 have h3:(Value.type "list_reverseiterator" == Value.type "tuple") = false := by decide
 simp only [h1,h2,h3,Bool.or_false,Bool.false_eq_true,if_false]
 refine wpAny_bind (wpAny_pyIter_revIter hi ?_)
 refine wpAny_bind (wpAny_holding (hint_rev hi ?_))
 rw [if_neg (by decide)]
 have hi0:s.heap.IsRevIter I l ((items.size:Int) - 1 - ((0:Nat):Int)) := by simpa using hi
 refine wpAny_pure ⟨plainId_quiet F.plain_extend_loop _,codeAny_extend_loopS W hsz S hSf res items.size 0 _ #[] c₀ rfl (Nat.zero_le _) ⟨Nat.zero_le _,hi0,hl⟩ hS (ItemsOf.nil _) fun s' acc' c' hm hS' hacc => ?_⟩
 rw [Moved.eq_with hm]
 refine hR s'.heap s'.toks acc' c' (fun b o hb hbI e => hm.heap b o (fun hmem => ?_) e) hS' hacc
 rcases List.mem_cons.mp hmem with e' | hmem
 ·exact hb e'
 ·exact hbI (List.mem_singleton.mp hmem)
theorem init_rev {R:Result → Shared → Prop} {I l:Addr} {items:Array Value} (hh:A.handled = none) (hi:s.heap.IsRevIter I l ((items.size:Int) - 1)) (hl:s.heap.IsList l items) (hne:l ≠ I) (hsz:items.size ≤ sizeLine)
  (S:Addr) (hSI:S ≠ I) (hSl:S ≠ l) (hS:s.heap.get? S = some { cls := .type "list",data := .seq #[] })
  (hR:∀ h' tk acc' c',(∀ b o,b ≠ S → b ≠ I → s.heap.get? b = some o → h'.get? b = some o) → h'.get? S = some { cls := .type "list",dict := none,data := .seq acc' c',slots := #[] } →
   ItemsOf (fun i v => items[items.size - 1 - i]? = some v) acc' items.size → R (.ok (.ret .none)) { s with heap := h',toks := tk }) :
  wpAny (model prog w) A.in1 (Builtin.«list.__init__» ⟨[.ref S,.ref I],[]⟩)
   (fun fin s' => match fin with | .done f => R (.ok f) s' | .again c' => c'.quiet = true ∧ codeAny (model prog w) A c' R s') (fun e s' => R (.error e) s') s := by
 show wpAny _ _ (do let old ← Builtin.List.listItems (.ref S); Builtin.List.listUpdate (.ref S) (fun _ => #[]); letGo old.toList.reverse; Builtin.List.listExtendWith (.ref S) (.ref I) .none) _ _ s
 refine wpAny_bind ?_
 unfold Builtin.List.listItems
 refine wpAny_bind (wpAny_seqItems hS rfl (wpAny_pure ?_))
 show wpAny _ _ (updateSeq S (fun _ => #[]) >>= fun _ => letGo (#[]:Array Value).toList.reverse >>= fun _ => Builtin.List.listExtendWith (.ref S) (.ref I) .none) _ _ s
 refine wpAny_bind (wpAny_updateSeq hS rfl ?_)
 have hS₂ := Heap.get?_update_self (Obj.mapSeq (fun _ => (#[]:Array Value))) hS rfl
 have oth:∀ b o,b ≠ S → s.heap.get? b = some o → (s.heap.update S (Obj.mapSeq (fun _ => (#[]:Array Value)))).get? b = some o :=
  fun b o hb e => (Heap.get?_update_other _ _ (Ne.symm hb)).trans e
 refine wpAny_bind (wpAny_letGo ?_)
 refine extend_rev hh (hi.at fun o e => oth I o (Ne.symm hSI) e) (hl.at fun o e => oth l o (Ne.symm hSl) e) hne hsz S .none _ hSI hSl hS₂ fun h' tk acc' c' hk hS' hacc => ?_
 exact hR h' tk acc' c' (fun b o hb hbI e => hk b o hb hbI (oth b o hb e)) hS' hacc
theorem call_list_rev {Q:Value → Shared → Prop} {I l:Addr} {items:Array Value} (hh:A.handled = none) (hi:s.heap.IsRevIter I l ((items.size:Int) - 1)) (hl:s.heap.IsList l items) (hne:l ≠ I) (hsz:items.size ≤ sizeLine)
  (hQ:∀ h' tk acc' c',(∀ b o,b ≠ I → s.heap.get? b = some o → h'.get? b = some o) →
   h'.get? s.heap.objs.size = some { cls := .type "list",dict := none,data := .seq acc' c',slots := #[] } → ItemsOf (fun i v => items[items.size - 1 - i]? = some v) acc' items.size → Q (.ref s.heap.objs.size) { s with heap := h',toks := tk }) :
  wpAny (model prog w) A (call (.type "list") [.ref I]) Q E s := by
 have hI:I < s.heap.objs.size := by obtain ⟨_,e,_⟩ := hi; exact Heap.lt_size e
 have hll:l < s.heap.objs.size := by obtain ⟨_,e,_⟩ := hl; exact Heap.lt_size e
 refine callType_codes (Q₁ := fun obj s₁ => obj = .ref s.heap.objs.size ∧ s₁ = { s with heap := s.heap.push { cls := .type "list",data := .seq #[] } }) F.called_list (F.typeCall_list_1 _) F.entry_list_init
  (code_list_new _ ⟨rfl,rfl⟩) fun obj s₁ h₁ => ?_
 obtain ⟨rfl,rfl⟩ := h₁
 have hS:(s.heap.push { cls := .type "list",data := .seq #[] }).get? s.heap.objs.size = some { cls := .type "list",data := .seq #[] } := Heap.get?_push_size _ rfl
 refine ⟨⟨_,hS,rfl⟩,F.args_list_init_2 _ _,init_rev (A := A.in1) hh (hi.at fun o e => Heap.get?_push_of_some _ e) (hl.at fun o e => Heap.get?_push_of_some _ e) hne hsz _ (Nat.ne_of_gt hI) (Nat.ne_of_gt hll) hS fun h' tk acc' c' hk hS' hacc => ?_⟩
 exact ⟨rfl,hQ h' tk acc' c' (fun b o hb e => hk b o (Nat.ne_of_lt (Heap.lt_size e)) hb (Heap.get?_push_of_some _ e)) hS' hacc⟩
end
noncomputable def tLRev (K:PySem.W.Frag) (te:TE):TE := fun σ H Q => te σ H fun x H1 => ∃ a xs,x = .ref a ∧ SqL K H1 a xs ∧ ∀ l,H1 l = none → Q (.ref l) (upd H1 l (.lst xs.reverse))
theorem pe_listRev {X:Cx} {e:Expr} {te:TE} {p p' pos pos':Pos} (hc:X.calm = true) (hg:Gl X "list") (hm:X.mg "list" = none) (hg':Gl X "reversed") (hm':X.mg "reversed" = none) (he:PE X e te)
  (hs:starEach [.Call (.Name "reversed" p') [e] [] pos'] X.env = [(false,eval (.Call (.Name "reversed" p') [e] [] pos') X.env)] := by rfl) (hs':starEach [e] X.env = [(false,eval e X.env)] := by rfl) :
  PE X (.Call (.Name "list" p) [.Call (.Name "reversed" p') [e] [] pos'] [] pos) (tLRev X.K te) := by
 intro pins s σ H Q I h
 refine Call_ (ld_blt I hg hm boot_list (PyProof.Rows.callWith_type1 ?_ hs rfl))
 rw [hs]
 refine Calls.spliced_cons ?_
 refine Call_ (ld_blt I hg' hm' boot_reversed (PyProof.Rows.callWith_type1 ?_ hs' rfl))
 rw [hs']
 refine Calls.spliced_cons (thn (he pins s σ H _ I h) fun v s1 ⟨x,H1,I1,rx,q1⟩ => Calls.spliced_nil ?_)
 obtain ⟨a,xs,rfl,hq,q⟩ := q1
 cases rx
 obtain ⟨its,rv,pl,hz⟩ := I1.list hq
 have hlt:a < s1.heap.objs.size := by obtain ⟨_,e,_⟩ := pl.isList; exact Heap.lt_size e
 have hlen := rv.length
 refine call_reversed_list pl.isList (Calls.spliced_nil ?_)
 refine call_list_rev (l := a) (items := its.toArray) (I.ok.hd hc) ⟨_,Heap.get?_push_size _ rfl,rfl,rfl⟩ (pl.isList.at fun o e => Heap.get?_push_of_some _ e) (Nat.ne_of_lt hlt) (by rw [List.size_toArray]; omega) fun h' tk acc' c' hk hS hacc => ?_
 have hsz:(s1.heap.push (revObj a ((its.toArray.size:Int) - 1))).objs.size = s1.heap.objs.size + 1 := Heap.size_push ..
 have hk1:∀ b o,s1.heap.get? b = some o → h'.get? b = some o := fun b o e => hk b o (Nat.ne_of_lt (Heap.lt_size e)) (Heap.get?_push_of_some _ e)
 have ea:acc'.toList = its.reverse := by
  refine List.ext_getElem? fun i => ?_
  by_cases hi:i < its.length
  ·have hi2:i < acc'.size := by rw [hacc.1,List.size_toArray]; exact hi
   have := hacc.2 i acc'[i] (by simp [hi2])
   rw [List.getElem?_reverse hi,Array.getElem?_toList,Array.getElem?_eq_getElem hi2,← this]
   simp
  ·rw [List.getElem?_eq_none (by rw [Array.length_toList,hacc.1,List.size_toArray]; omega),List.getElem?_eq_none (by rw [List.length_reverse]; omega)]
 have hle:s1.heap.objs.size ≤ (s1.heap.push (revObj a ((its.toArray.size:Int) - 1))).objs.size := by rw [hsz]; exact Nat.le_succ _
 refine ⟨.ref _,_,I1.laid (t' := tk) (o := .lst xs.reverse) hk1 hle ?_,rfl,q _ (I1.hok.fresh hle)⟩
 refine ⟨by rw [List.length_reverse]; exact hz,acc'.toList,c',?_,by simpa using hS⟩
 rw [ea]
 exact rv.reverse
end L2
set_option maxHeartbeats 4000000
namespace My
open PySem L2
theorem same_new {H:Hp} {p:Addr} (h:H p = none) (o:HO):Same H (upd H p o) := fun b u q => by rw [upd_ne (ne_of_none q h)]; exact q
theorem same_upd {H H':Hp} {p:Addr} (h:H p = none) (g:Same H H') (o:HO):Same H (upd H' p o) := fun b u q => by rw [upd_ne (ne_of_none q h)]; exact g b u q
theorem item_of {ns:List Int} {k:Int} (h0:0 ≤ k) (h:k < (ns.length:Int)):∃ v:Int,atI (ns.map V.int) k = some (.int v) := by
 have hk:k.toNat < ns.length := by omega
 have q:atI (ns.map V.int) ((k.toNat:Nat):Int) = some (.int ns[k.toNat]) := atI_nat (by rw [List.getElem?_map,List.getElem?_eq_getElem hk] <;> rfl)
 rw [show ((k.toNat:Nat):Int) = k by lia] at q
 exact ⟨_,q⟩
theorem small1000' {n:Nat} (h:n ≤ 1000):n ≤ sizeLine := Nat.le_of_lt (small1000 h)
noncomputable abbrev Pst := Int × Int × Int
noncomputable def okH (h:Int):Prop := 0 ≤ h ∧ h < 1073741824
noncomputable def okP (q:Pst):Prop := (0 ≤ q.1 ∧ q.1 < 1073741824) ∧ (0 ≤ q.2.1 ∧ q.2.1 ≤ 1000000000) ∧ (0 ≤ q.2.2 ∧ q.2.2 ≤ 1)
structure Ok (d:Int) (hs:List Int) (ps:List Pst):Prop where
 d1:1 ≤ d
 d2:d ≤ 31
 h:∀ x ∈ hs,okH x
 hl:hs.length ≤ 8
 p:∀ q ∈ ps,okP q
 pl:ps.length ≤ 6
theorem n1:¬ (("days":Str) = "hands") := by decide +kernel
theorem n2:¬ (("days":Str) = "posts") := by decide +kernel
theorem n3:¬ (("hands":Str) = "posts") := by decide +kernel
noncomputable def cv (h n:Int):Bool := decide (Builtin.bitAnd h n = n)
noncomputable def post0:Pst := (0,0,0)
noncomputable def chI (h:Int) (ps:List Pst) (i:Nat):List Int := ((List.range i).filter fun j => cv h (ps[j]?.getD post0).1).map fun j:Nat => (j:Int) + 1
noncomputable def ch (h:Int) (ps:List Pst):List Int := 0 :: chI h ps ps.length
noncomputable def tb (d:Int) (hs:List Int) (ps:List Pst):Nat → Int
 | 0 => 1
 | i + 1 => tb d hs ps i * ((ch (hs[i]?.getD 0) ps).length:Int) ^ d.toNat
theorem Paired.getR {α β:Type} {F:α → β → Prop}:∀ {xs:List α} {ys:List β} {i:Nat} {y:β},Paired F xs ys → ys[i]? = some y → ∃ x,xs[i]? = some x ∧ F x y
 | _,_,_,_,.nil,e => by simp at e
 | _,_,0,_,.cons r _,e => by simp at e; subst e; exact ⟨_,rfl,r⟩
 | _,_,i + 1,y,.cons _ t,e => by
  obtain ⟨u,h1,h2⟩ := Paired.getR (i := i) (y := y) t (by simpa using e)
  exact ⟨u,by simpa using h1,h2⟩
theorem like_den {K:PySem.W.Frag} {H:Hp}:∀ (n:Nat) (x:V) (d:DV),Den K H n x d → Like n d d := by
 intro n
 induction n with
 | zero =>
  intro x d h
  cases d with
  | lst ds => cases x <;> exact False.elim h
  | tup ds => cases x <;> exact False.elim h
  | _ => exact True.intro
 | succ n ih =>
  intro x d h
  cases d with
  | lst ds =>
   cases x with
   | ref a =>
    obtain ⟨xs,_,hp⟩:∃ xs,SqL K H a xs ∧ Paired (Den K H n) xs ds := h
    intro _ i d e h1 h2
    rw [h1] at h2
    cases h2
    obtain ⟨y,_,hy⟩ := Paired.getR hp h1
    exact ih y d hy
   | _ => exact False.elim h
  | tup ds =>
   cases x with
   | ref a =>
    obtain ⟨xs,_,hp⟩:∃ xs,SqT K H a xs ∧ Paired (Den K H n) xs ds := h
    intro i d e h1 h2
    rw [h1] at h2
    cases h2
    obtain ⟨y,_,hy⟩ := Paired.getR hp h1
    exact ih y d hy
   | _ => exact False.elim h
  | _ => exact True.intro
end My
set_option maxHeartbeats 1000000
namespace My
open PySem L2
noncomputable def RowV (H:Hp) (v:V) (row:List Int):Prop := ∃ t,v = .ref t ∧ H t = some (.lst (row.map V.int))
noncomputable abbrev Rows (H:Hp):List V → List (List Int) → Prop := Paired (RowV H)
theorem Rows.mono {H H':Hp} (g:Same H H') {ts:List V} {rows:List (List Int)} (h:Rows H ts rows):Rows H' ts rows := Paired.mapP h fun _ _ ⟨t,e,q⟩ => ⟨t,e,g _ _ q⟩
theorem Rows.len {H:Hp} {ts:List V} {rows:List (List Int)} (h:Rows H ts rows):ts.length = rows.length := Paired.length h
theorem Rows.at' {H:Hp} {ts:List V} {rows:List (List Int)} (h:Rows H ts rows) {i:Nat} {v:V} (e:ts[i]? = some v):∃ row,rows[i]? = some row ∧ RowV H v row := Paired.get' h e
theorem Rows.get {H:Hp} {ts:List V} {rows:List (List Int)} (h:Rows H ts rows) {i:Nat} {row:List Int} (e:rows[i]? = some row):∃ t,ts[i]? = some (.ref t) ∧ H t = some (.lst (row.map V.int)) := by
 obtain ⟨v,e1,t,rfl,q⟩ := Paired.getR h e
 exact ⟨t,e1,q⟩
theorem Rows.snoc {H:Hp} {ts:List V} {rows:List (List Int)} {v:V} {row:List Int} (h:Rows H ts rows) (hv:RowV H v row):Rows H (ts ++ [v]) (rows ++ [row]) := by
 induction h with
 | nil => exact .cons hv .nil
 | cons a _ ih => exact .cons a ih
theorem Rows.off {H:Hp} {ts:List V} {rows:List (List Int)} {l:Addr} {o:HO} (h:Rows H ts rows) (hl:V.ref l ∉ ts):Rows (upd H l o) ts rows := by
 induction h with
 | nil => exact .nil
 | cons a _ ih =>
  obtain ⟨t,rfl,q⟩ := a
  have ne:t ≠ l := fun z => hl (by rw [z]; exact List.mem_cons_self)
  exact .cons ⟨t,rfl,by rw [upd_ne ne]; exact q⟩ (ih fun z => hl (List.mem_cons_of_mem _ z))
theorem Rows.tracked {H:Hp} {ts:List V} {rows:List (List Int)} (h:Rows H ts rows) {l:Addr} (hl:V.ref l ∈ ts):∃ row:List Int,H l = some (.lst (row.map V.int)) := by
 induction h with
 | nil => cases hl
 | cons a _ ih =>
  obtain ⟨t,rfl,q⟩ := a
  rcases List.mem_cons.mp hl with z | z
  ·cases z
   exact ⟨_,q⟩
  ·exact ih z
theorem Rows.notin {H:Hp} {ts:List V} {rows:List (List Int)} (h:Rows H ts rows) {l:Addr} (hl:H l = none):V.ref l ∉ ts := fun z => by
 obtain ⟨row,q⟩ := h.tracked z
 rw [hl] at q
 cases q
theorem Rows.put {H:Hp}:∀ {ts:List V} {rows:List (List Int)} {i:Nat} {t:Addr} {row:List Int},Rows H ts rows → ts.Nodup → ts[i]? = some (.ref t) → Rows (upd H t (.lst (row.map V.int))) ts (rows.set i row)
 | _,_,_,_,_,.nil,_,e => by simp at e
 | _,_,0,t,row,.cons a r,nd,e => by
  simp at e
  subst e
  have hn := (List.nodup_cons.mp nd).1
  exact .cons ⟨t,rfl,upd_same⟩ (Rows.off r hn)
 | v :: ts,_ :: rows,i + 1,t,row,.cons a r,nd,e => by
  have hn := (List.nodup_cons.mp nd)
  obtain ⟨t',rfl,q⟩ := a
  have e':ts[i]? = some (.ref t) := by simpa using e
  have ne:t' ≠ t := fun z => hn.1 (by rw [z]; exact List.mem_of_getElem? e')
  exact .cons ⟨t',rfl,by rw [upd_ne ne]; exact q⟩ (Rows.put r hn.2 e')
noncomputable def rD (row:List Int):DV := .lst (row.map DV.int)
noncomputable def tD (rows:List (List Int)):DV := .lst (rows.map rD)
theorem den_rows {K:PySem.W.Frag} {H:Hp} {n:Nat} {a:Addr} {ts:List V} {rows:List (List Int)} (h:SqL K H a ts) (hT:Rows H ts rows):Den K H (n + 2) (.ref a) (tD rows) := by
 refine ⟨_,h,?_⟩
 clear h
 induction hT with
 | nil => exact .nil
 | cons a _ ih =>
  obtain ⟨t,rfl,q⟩ := a
  exact .cons (den_ints (SqL.of q)) ih
theorem like_nil {n:Nat} {ds:List DV}:Like (n + 1) (.lst ds) (.lst []) := fun _ i d e _ h2 => by simp at h2
noncomputable def val (rows:List (List Int)) (j day:Nat):Int := ((rows[j]?.getD [])[day]?).getD 0
noncomputable def held (rows:List (List Int)) (day:Nat) (post:Int) (i:Nat):List Int := ((List.range i).filter fun j => decide (val rows j day = post)).map fun j:Nat => (j:Int)
structure CopyI (H:Hp) (D:Addr) (rows:List (List Int)) (i:Nat) (H':Hp):Prop where
 ex:∃ us':List V,us'.length = i ∧ Same H H' ∧ H' D = some (.lst us') ∧ Rows H' us' (rows.take i) ∧ us'.Nodup ∧ ∀ t,V.ref t ∈ us' → t ≠ D ∧ H t = none
theorem CopyI.start {H:Hp} {D:Addr} {rows:List (List Int)} (hD:H D = none):CopyI H D rows 0 (upd H D (.lst [])) :=
 ⟨[],rfl,same_new hD _,upd_same,by rw [List.take_zero]; exact .nil,List.nodup_nil,fun t z => by cases z⟩
theorem CopyI.same {H H':Hp} {D:Addr} {rows:List (List Int)} {i:Nat} (h:CopyI H D rows i H'):Same H H' := by
 obtain ⟨_,_,g,_⟩ := h.ex
 exact g
theorem CopyI.step {H H':Hp} {D l:Addr} {rows:List (List Int)} {i:Nat} {row:List Int} (h:CopyI H D rows i H') (hD:H D = none) (hrow:rows[i]? = some row) (hl:H' l = none) (hi:i ≤ 900) :
  ∃ xs,upd H' l (.lst (row.map V.int)) D = some (.lst xs) ∧ xs.length < sizeLine ∧ CopyI H D rows (i + 1) (upd (upd H' l (.lst (row.map V.int))) D (.lst (xs ++ [.ref l]))) := by
 obtain ⟨us',hu,g,e,hR,nd,fr⟩ := h.ex
 have g2 := same_new hl (.lst (row.map V.int))
 have ne:D ≠ l := ne_of_none e hl
 have hlu:V.ref l ∉ us' := hR.notin hl
 refine ⟨us',g2 _ _ e,small1000 (by lia),us' ++ [.ref l],by rw [List.length_append,hu]; rfl,same_upd hD (g.trans g2) _,upd_same,?_,?_,fun t ht => ?_⟩
 ·refine Rows.off ?_ ?_
  ·rw [List.take_add_one,hrow]
   exact Rows.snoc (hR.mono g2) ⟨l,rfl,upd_same⟩
  ·intro z
   rcases List.mem_append.mp z with z | z
   ·exact (fr D z).1 rfl
   ·exact ne (V.ref.inj (List.mem_singleton.mp z))
 ·rw [List.nodup_append]
  refine ⟨nd,by simp,fun a ha b hb => ?_⟩
  rw [List.mem_singleton.mp hb]
  exact fun z => hlu (z ▸ ha)
 ·rcases List.mem_append.mp ht with z | z
  ·exact fr t z
  ·have:t = l := V.ref.inj (List.mem_singleton.mp z)
   subst this
   exact ⟨ne.symm,g.free hl⟩
theorem CopyI.done {H H':Hp} {D:Addr} {rows:List (List Int)} {i:Nat} (h:CopyI H D rows i H') (hi:i = rows.length) :
  ∃ us':List V,Same H H' ∧ H' D = some (.lst us') ∧ Rows H' us' rows ∧ us'.Nodup ∧ ∀ t,V.ref t ∈ us' → t ≠ D ∧ H t = none := by
 obtain ⟨us',hu,g,e,hR,nd,fr⟩ := h.ex
 rw [hi,List.take_length] at hR
 exact ⟨us',g,e,hR,nd,fr⟩
end My
set_option maxHeartbeats 400000
namespace L2
open PySem PySem.Spec PyProof.Rows
section
variable {P:Program} {w:World} {l:List Env} {H H':Hp} {s s':Shared} {B h'':Heap} {a:Addr} {cls a0:Value}
end
section
variable {X:Cx} {pins:List (Addr × Obj)} {σ:St} {H H':Hp} {s s':Shared} {B:Heap} {a:Addr} {cls a0:Value}
end
section
variable {P:Program} {w:World} {K:PySem.W.Frag} {mg:Str → Option Value} {base:Heap} {N:List Str} {qual:Str} {scope:Scope} {f:Addr} {cd:Value} {A:Around} {outer:List Env} {s₀:Shared} {H₀:Hp} {E:XK}
end
noncomputable def tRaise (E:XK) (C:Addr) (ta:TA):TS := fun _ σ H => ta σ H fun vs H1 => vs.length ≤ sizeLine ∧ E (.ref C) none H1
noncomputable def tCallX (sp:Sp) (t:TA):St → Hp → VK → XK → Prop := fun σ H Q E => t σ H fun vs H1 => sp (vs ++ []) H1 Q E
noncomputable def tDropX (te:St → Hp → VK → XK → Prop):Ends → St → Hp → XK → Prop := fun D σ H E => te σ H (fun _ H1 => D.nx σ H1) E
noncomputable def tSetX (i:Nat) (te:St → Hp → VK → XK → Prop):Ends → St → Hp → XK → Prop := fun D σ H E => te σ H (fun v H1 => D.nx (σ.set i (some v)) H1) E
noncomputable def tTry0 (C:Addr) (tb:Ends → St → Hp → XK → Prop) (ts to:TS):TS := fun D σ H => tb { D with nx := to D } σ H fun cls _ H' => cls = .ref C ∧ ts D σ H'
end L2
set_option maxHeartbeats 1000000
namespace My
open PySem L2
theorem in_ints (x:Int) (ps:List Int):inV (.int x) (ps.map V.int) = decide (x ∈ ps) := by
 rw [Bool.eq_iff_iff,decide_eq_true_eq]
 unfold inV
 simp only [List.any_map,List.any_eq_true,Function.comp]
 constructor
 ·rintro ⟨y,hy,e⟩
  have:y = x := by simpa [eqV] using e
  exact this ▸ hy
 ·intro h
  exact ⟨x,h,by simp [eqV]⟩
theorem flat_ints (ps:List Int):(ps.map V.int).all flatV = true := by simp [List.all_eq_true,flatV]
noncomputable def cnt (p:Nat → Bool) (n:Nat):Nat := ((List.range n).filter p).length
theorem cut_take (xs:List V) (k:Nat):cutV xs none (some (k:Int)) = xs.take k := by
 unfold cutV
 rw [HT.sIx_none,HT.sIx_nat,List.drop_zero,Nat.sub_zero]
 by_cases h:k ≤ xs.length
 ·rw [Nat.min_eq_left h]
 ·rw [Nat.min_eq_right (by lia),List.take_length,List.take_of_length_le (by lia)]
theorem cut_two (ts:List V):cutV ts none (some 2) = ts.take 2 := cut_take _ 2
end My
set_option maxHeartbeats 400000
namespace L2
open PySem PySem.Spec PySem.Calls PyProof.Rows
structure ExcG (K:PySem.W.Frag) (C:Addr):Prop where
 ga:PySem.W.findIn K (.ref C) "__getattribute__" = some (some (.builtin "BaseException.__getattribute__"))
 cl:PySem.W.findIn K (.ref C) "__class__" = some (some (.builtin "object.__class__"))
 no:PySem.W.findIn K (.ref C) "__getattr__" = some none
 be:PySem.W.mroIn K C (.type "BaseException") = some true
 ob:PySem.W.mroIn K C (.type "object") = some true
section
variable {K:PySem.W.Frag} {prog:Program} {w:World} {A:Around} {E:Value → Shared → Prop} {h:Heap} {g:Array GenState} {d:Drawn} {t:Nat} {os:OsState} {a C:Addr} {o:Obj}
end
theorem ExcG.cls {K:PySem.W.Frag} {C:Addr} (Z:ExcG K C):∃ c' d' cd sl,K.lookup C = some ⟨c',d',.cls cd,sl⟩ := by
 have e := Z.be
 unfold PySem.W.mroIn PySem.W.clsIn at e
 split at e
 ·rename_i c' d' cd' sl' ho
  exact ⟨_,_,_,_,ho⟩
 ·cases e
noncomputable abbrev IsExc (a C:Addr) (h:Heap):Prop := ∃ o,h.get? a = some o ∧ o.cls = .ref C
noncomputable abbrev excO (a C:Addr):HO := .ext (IsExc a C)
noncomputable def vO:V → Value
 | .ref a => .ref a
 | .ty n => .type n
 | _ => .none
noncomputable def rIsx (K:PySem.W.Frag):List V → Hp → VK → Prop := fun xs H Q => ∃ a D c b,xs = [.ref a,c] ∧ H a = some (excO a D) ∧ ExcG K D ∧ PySem.W.kitOne K (.ref D) (vO c) = some b ∧ Q (.bl b) H
noncomputable def rExc (C:Addr):List V → Hp → VK → Prop := fun xs H Q => xs.length ≤ sizeLine ∧ ∀ a,H a = none → Q (.ref a) (upd H a (excO a C))
end L2
set_option maxHeartbeats 1000000
namespace My
open PySem L2 PySem.Spec PyProof.Rows
section
variable {X:Cx}
theorem sl_listK {K:PySem.W.Frag} (hK:X.K = K):SlR X (rSlL K) := by subst hK; exact sl_list
end
end My
namespace My
open PySem L2
end My
set_option maxHeartbeats 400000
namespace L2
open PySem PySem.Spec PySem.Calls PyProof.Rows
structure ExcM (K:PySem.W.Frag) (mg:Str → Option Value) (x:Str) (W C:Addr):Prop where
 at_:mg x = some (.ref W)
 ty:PySem.W.typeIn K (.ref W) = some (.type "type")
 be:PySem.W.mroIn K W (.type "BaseException") = some true
 sub:PySem.W.mroIn K C (.ref W) = some true
section
variable {X:Cx} {pins:List (Addr × Obj)} {σ:St} {H H':Hp} {s s':Shared} {B:Heap} {a:Addr} {cls a0:Value}
end
noncomputable def Ends.gone (D:Ends) (i:Nat):Ends := { nx := fun σ H => D.nx (σ.set i none) H,rt := D.rt,bk := fun σ H => D.bk (σ.set i none) H,ct := fun σ H => D.ct (σ.set i none) H }
noncomputable def tTryA (i:Nat) (K:PySem.W.Frag) (mg:Str → Option Value) (x:Str) (W:Addr) (tb:Ends → St → Hp → XK → Prop) (ts to:TS):TS := fun D σ H =>
 tb { D with nx := to D } σ H fun cls _ H' => ∃ C,cls = .ref C ∧ ExcM K mg x W C ∧ ∀ a,H' a = none → ts (D.gone i) (σ.set i (some (.ref a))) (upd H' a (excO a C))
end L2
set_option maxHeartbeats 1000000
namespace My
open PySem L2
section
variable {d:Int} {hs:List Int} {ps:List Pst} {i:Nat} {rows:List (List Int)} {row:List Int} {x:Int}
end
section
variable {H:Hp} {us:List V} {rows:List (List Int)} {v:V} {row:List Int}
end
noncomputable def CellV (H:Hp) (v:V) (q:Int × Int):Prop := ∃ t,v = .ref t ∧ H t = some (.tup [.int q.1,.int q.2])
noncomputable abbrev Cells (H:Hp):List V → List (Int × Int) → Prop := Paired (CellV H)
theorem Cells.mono {H H':Hp} (g:Same H H') {ts:List V} {qs:List (Int × Int)} (h:Cells H ts qs):Cells H' ts qs := Paired.mapP h fun _ _ ⟨t,e,q⟩ => ⟨t,e,g _ _ q⟩
theorem Cells.len {H:Hp} {ts:List V} {qs:List (Int × Int)} (h:Cells H ts qs):ts.length = qs.length := Paired.length h
theorem Cells.snoc {H:Hp} {ts:List V} {qs:List (Int × Int)} {v:V} {q:Int × Int} (h:Cells H ts qs) (hv:CellV H v q):Cells H (ts ++ [v]) (qs ++ [q]) := by
 induction h with
 | nil => exact .cons hv .nil
 | cons a _ ih => exact .cons a ih
theorem Cells.get' {H:Hp} {ts:List V} {qs:List (Int × Int)} (h:Cells H ts qs) {i:Nat} {v:V} (e:ts[i]? = some v):∃ q,qs[i]? = some q ∧ CellV H v q := Paired.get' h e
theorem Cells.off {H:Hp} {ts:List V} {qs:List (Int × Int)} {l:Addr} {o:HO} (h:Cells H ts qs) (hl:∀ xs,H l ≠ some (.tup xs)):Cells (upd H l o) ts qs := Paired.mapP h fun _ _ ⟨t,e,q⟩ => ⟨t,e,by rw [upd_ne fun z => hl _ (by rw [← z]; exact q)]; exact q⟩
noncomputable def cD (q:Int × Int):DV := .tup [.int q.1,.int q.2]
theorem den_cells {K:PySem.W.Frag} {H:Hp} {n:Nat} {a:Addr} {ts:List V} {qs:List (Int × Int)} (h:SqL K H a ts) (hT:Cells H ts qs):Den K H (n + 2) (.ref a) (.lst (qs.map cD)) := by
 refine ⟨_,h,?_⟩
 clear h
 induction hT with
 | nil => exact .nil
 | cons a _ ih =>
  obtain ⟨t,rfl,q⟩ := a
  exact .cons ⟨_,SqT.of q,.cons den_int (.cons den_int .nil)⟩ ih
noncomputable def cl (n k:Nat):List (Int × Int) := (List.range k).map fun j => (((j % n:Nat):Int),((j / n:Nat):Int))
section
variable {H H' H'':Hp} {r:Addr} {us us':List V} {rows rows':List (List Int)} {n L:Nat}
end
end My
namespace My
open PySem L2
theorem take_one {α:Type} {xs:List α} {i:Nat} {x:α} (h:xs[i]? = some x):xs.take (i + 1) = xs.take i ++ [x] := by
 rw [List.take_succ,h]
 rfl
noncomputable def hit (rows:List (List Int)) (h:Int) (ps:List Int) (d:Int):Bool := decide (val rows h.toNat d.toNat ∈ ps)
end My
namespace My
open PySem L2
noncomputable def hm (h m:Int):List (Str × V) := putF "many" (.int m) (putF "hand" (.int h) [])
end My
namespace My
open PySem L2
end My
namespace My
open PySem L2
end My
namespace My
open PySem L2
noncomputable def at_ (bs:List Bool) (j:Nat):Bool := bs[j]?.getD false
end My
namespace My
open PySem L2
theorem ixN_lt {n e:Nat} (h:e < n):ixN n (e:Int) = some e := by
 unfold ixN
 rw [if_pos (by lia),if_pos (by lia),Int.toNat_natCast]
noncomputable def oth (q:Pst):Pst := (0,q.2.1,1 - q.2.2)
end My
namespace My
open PySem L2
end My
namespace My
open PySem L2
theorem for_of {wi:TI} {g:TG} {tb:TS} {D:Ends} {σ:St} {H:Hp} (h:∀ B:TS,B = tb → tFor wi g B D σ H):tFor wi g tb D σ H := h tb rfl
end My
namespace L2
open PySem PySem.Spec PyProof.Rows
section
variable {κ:Type} [DecidableEq κ]
noncomputable def valV (kvs:List (κ × V)) (k:κ):Option V := (kvs.find? fun kv => decide (kv.1 = k)).map (·.2)
noncomputable def putK (kvs:List (κ × V)) (k:κ) (v:V):List (κ × V) :=
 if (kvs.any fun kv => decide (kv.1 = k)) = true then kvs.map (fun kv => if kv.1 = k then (kv.1,v) else kv) else kvs ++ [(k,v)]
noncomputable def dropK (kvs:List (κ × V)) (k:κ):List (κ × V) := kvs.filter fun kv => decide (kv.1 ≠ k)
theorem valV_pos {p:κ × V} {r:List (κ × V)} {k:κ} (e:p.1 = k):valV (p :: r) k = some p.2 := by simp [valV,List.find?_cons,e]
theorem valV_neg {p:κ × V} {r:List (κ × V)} {k:κ} (e:¬ p.1 = k):valV (p :: r) k = valV r k := by simp [valV,List.find?_cons,e]
theorem valV_any (k:κ):∀ kvs:List (κ × V),(kvs.any fun kv => decide (kv.1 = k)) = (valV kvs k).isSome
 | [] => rfl
 | p :: r => by
  rw [List.any_cons]
  by_cases e:p.1 = k
  ·simp only [valV_pos e,decide_eq_true e,Bool.true_or,Option.isSome_some]
  ·rw [valV_neg e,decide_eq_false e,Bool.false_or]; exact valV_any k r
theorem length_putK (kvs:List (κ × V)) (k:κ) (v:V):(putK kvs k v).length ≤ kvs.length + 1 := by
 unfold putK
 split
 ·rw [List.length_map]; omega
 ·rw [List.length_append,List.length_cons,List.length_nil]; omega
theorem putK_new {kvs:List (κ × V)} {k:κ} (v:V) (h:valV kvs k = none):putK kvs k v = kvs ++ [(k,v)] := by
 unfold putK
 rw [valV_any,h]
 exact if_neg (by decide)
theorem RelO.isSome_eq {o:Option V} {u:Option Value} (r:RelO o u):o.isSome = u.isSome := by
 cases o with
 | none => cases u with
  | none => rfl
  | some _ => exact (show False from r).elim
 | some _ => cases u with
  | none => exact (show False from r).elim
  | some _ => rfl
theorem KV.val {kvs:List (κ × V)} {vs:List (κ × Value)} (r:KV kvs vs) (k:κ):RelO (valV kvs k) (valueAt vs k) := by
 unfold KV at r
 induction r with
 | nil => exact True.intro
 | @cons p q ps qs h t ih =>
  obtain ⟨h1,h2⟩ := h
  by_cases e:p.1 = k
  ·have e':q.1 = k := h1.symm.trans e
   have b:valueAt (q :: qs) k = some q.2 := by simp [valueAt,List.find?_cons,e']
   rw [valV_pos e,b]; exact h2
  ·have e':¬ q.1 = k := fun z => e (h1.trans z)
   have b:valueAt (q :: qs) k = valueAt qs k := by simp [valueAt,List.find?_cons,e']
   rw [valV_neg e,b]; exact ih
theorem KV.any {kvs:List (κ × V)} {vs:List (κ × Value)} (r:KV kvs vs) (k:κ):(kvs.any fun kv => decide (kv.1 = k)) = vs.any fun kv => decide (kv.1 = k) := by
 unfold KV at r
 induction r with
 | nil => rfl
 | cons h t ih => rw [List.any_cons,List.any_cons,ih,h.1]
theorem KV.repl {kvs:List (κ × V)} {vs:List (κ × Value)} (r:KV kvs vs) (k:κ) {y:V} {u:Value} (ry:RelV y u) :
  KV (kvs.map fun kv => if kv.1 = k then (kv.1,y) else kv) (vs.map fun kv => if kv.1 = k then (kv.1,u) else kv) := by
 unfold KV at r ⊢
 induction r with
 | nil => exact .nil
 | @cons p q ps qs h t ih =>
  rw [List.map_cons,List.map_cons]
  refine .cons ?_ ih
  obtain ⟨h1,h2⟩ := h
  by_cases e:p.1 = k
  ·rw [if_pos e,if_pos (h1.symm.trans e)]; exact ⟨h1,ry⟩
  ·rw [if_neg e,if_neg (fun z => e (h1.trans z))]; exact ⟨h1,h2⟩
theorem KV.put {kvs:List (κ × V)} {vs:List (κ × Value)} (r:KV kvs vs) (k:κ) {y:V} {u:Value} (ry:RelV y u):KV (putK kvs k y) (stored vs k u) := by
 unfold putK stored
 rw [r.any k]
 by_cases e:(vs.any fun kv => decide (kv.1 = k)) = true
 ·rw [if_pos e,if_pos e]; exact r.repl k ry
 ·rw [if_neg e,if_neg e]; exact Paired.snoc r ⟨rfl,ry⟩
theorem KV.drop {kvs:List (κ × V)} {vs:List (κ × Value)} (r:KV kvs vs) (k:κ):KV (dropK kvs k) (without vs k) := by
 unfold KV at r ⊢
 unfold dropK without
 induction r with
 | nil => exact .nil
 | @cons p q ps qs h t ih =>
  obtain ⟨h1,h2⟩ := h
  rw [List.filter_cons,List.filter_cons]
  by_cases e:p.1 = k
  ·have a:¬ decide (p.1 ≠ k) = true := by simp [e]
   have b:¬ decide (q.1 ≠ k) = true := by simp [h1.symm.trans e]
   rw [if_neg a,if_neg b]; exact ih
  ·have e':¬ q.1 = k := fun z => e (h1.trans z)
   have a:decide (p.1 ≠ k) = true := by simp [e]
   have b:decide (q.1 ≠ k) = true := by simp [e']
   rw [if_pos a,if_pos b]; exact .cons ⟨h1,h2⟩ ih
theorem KV.keys {kvs:List (κ × V)} {vs:List (κ × Value)} (r:KV kvs vs):kvs.map (·.1) = vs.map (·.1) := by
 unfold KV at r
 induction r with
 | nil => rfl
 | cons h t ih => rw [List.map_cons,List.map_cons,ih,h.1]
theorem KV.length {kvs:List (κ × V)} {vs:List (κ × Value)} (r:KV kvs vs):kvs.length = vs.length := Paired.length r
theorem dropK_le (kvs:List (κ × V)) (k:κ):(dropK kvs k).length ≤ kvs.length := List.length_filter_le _ _
end
theorem kV_is {P:Program} {w:World} {k:Key} {u:Value} (r:RelV (kV k) u):(mixKind P w).is k u = true := by
 cases k with
 | inl i => obtain ⟨t,e⟩ := (show ∃ t,u = Value.int i t from r); subst e; exact mixKind_int P w i t
 | inr x => obtain ⟨t,e⟩ := (show ∃ t,u = Value.str x t from r); subst e; exact mixKind_str P w x t
theorem items_are {P:Program} {w:World}:∀ {ks:List Key} {us:List Value},Vals (ks.map kV) us → ItemsAre (mixKind P w) ks us
 | [],_,r => by rw [List.map_nil] at r; cases r; exact .nil
 | k :: ks,_,r => by
  rw [List.map_cons] at r
  cases r with
  | cons h t => exact .cons (kV_is h) (items_are t)
noncomputable abbrev KT (H:Hp):List (List Key × V) → List (List Key × Addr × Value) → Prop := Paired fun p q => p.1 = q.1 ∧ H q.2.1 = some (.tup (p.1.map kV)) ∧ RelV p.2 q.2.2
theorem KT.val {H:Hp} {kvs:List (List Key × V)} {xs:List (List Key × Addr × Value)} (r:KT H kvs xs) (k:List Key):RelO (valV kvs k) ((atKey xs k).map (·.2)) := by
 induction r with
 | nil => exact True.intro
 | @cons p q ps qs h t ih =>
  obtain ⟨h1,_,h2⟩ := h
  by_cases e:p.1 = k
  ·have e':q.1 = k := h1.symm.trans e
   have b:atKey (q :: qs) k = some q.2 := by simp [atKey,List.find?_cons,e']
   rw [valV_pos e,b]; exact h2
  ·have e':¬ q.1 = k := fun z => e (h1.trans z)
   have b:atKey (q :: qs) k = atKey qs k := by simp [atKey,List.find?_cons,e']
   rw [valV_neg e,b]; exact ih
theorem KT.repl {H:Hp} {kvs:List (List Key × V)} {xs:List (List Key × Addr × Value)} (r:KT H kvs xs) (k:List Key) {y:V} {u:Value} (ry:RelV y u) :
  KT H (kvs.map fun kv => if kv.1 = k then (kv.1,y) else kv) (xs.map (putAt k u)) := by
 induction r with
 | nil => exact .nil
 | @cons p q ps qs h t ih =>
  rw [List.map_cons,List.map_cons]
  refine .cons ?_ ih
  obtain ⟨h1,h2,h3⟩ := h
  unfold putAt
  by_cases e:p.1 = k
  ·rw [if_pos e,if_pos (h1.symm.trans e)]; exact ⟨h1,h2,ry⟩
  ·rw [if_neg e,if_neg (fun z => e (h1.trans z))]; exact ⟨h1,h2,h3⟩
theorem KT.put {H:Hp} {kvs:List (List Key × V)} {xs:List (List Key × Addr × Value)} (r:KT H kvs xs) (k:List Key) {b:Addr} {y:V} {u:Value} (hb:H b = some (.tup (k.map kV))) (ry:RelV y u) :
  KT H (putK kvs k y) (storedH xs k b u) := by
 have e:(kvs.any fun kv => decide (kv.1 = k)) = (atKey xs k).isSome := by
  rw [valV_any,(r.val k).isSome_eq,Option.isSome_map]
 unfold putK storedH
 rw [e]
 by_cases q:(atKey xs k).isSome = true
 ·rw [if_pos q,if_pos q]; exact r.repl k ry
 ·rw [if_neg q,if_neg q]; exact Paired.snoc r ⟨rfl,hb,ry⟩
theorem KT.keeps {H H':Hp} {kvs:List (List Key × V)} {xs:List (List Key × Addr × Value)} (r:KT H kvs xs) (ht:∀ b ys,H b = some (.tup ys) → H' b = some (.tup ys)):KT H' kvs xs :=
 Paired.mapP r fun _ _ z => ⟨z.1,ht _ _ z.2.1,z.2.2⟩
section
variable {P:Program} {w:World} {H:Hp} {h:Heap} {a:Addr}
theorem rd_of {u:HO} (ok:HOk P w H h) (e:Rd H a u):ObjOk P w H h a u := e.ok ok
theorem dk_rd {kvs:List (Key × V)} (ok:HOk P w H h) (e:Rd H a (.dK kvs)):kvs.length ≤ sizeLine ∧ (a == sysModules) = false ∧ ∃ vs,KV kvs vs ∧ h.DictOf (mixKind P w) a vs :=
 show ObjOk P w H h a (.dK kvs) from rd_of ok e
theorem dk_of {kvs:List (Key × V)} (ok:HOk P w H h) (e:H a = some (.dK kvs)):kvs.length ≤ sizeLine ∧ (a == sysModules) = false ∧ ∃ vs,KV kvs vs ∧ h.DictOf (mixKind P w) a vs := dk_rd ok (.inl e)
theorem key_of {ks:List Key} (ok:HOk P w H h) (e:H a = some (.tup (ks.map kV))):(tupleKind (mixKind P w)).is h ks a := by
 obtain ⟨_,its,r,o,h1,h2,n,h3⟩ := (show ObjOk P w H h a (.tup (ks.map kV)) from ok a _ e)
 exact ⟨o,its.toArray,n,h1,h2,h3,by simpa using items_are r⟩
theorem dt_rd {kvs:List (List Key × V)} (ok:HOk P w H h) (e:Rd H a (.dT kvs)):kvs.length ≤ sizeLine ∧ (a == sysModules) = false ∧
  ∃ xs,KT H kvs xs ∧ h.DictOfH (tupleKind (mixKind P w)) a xs := by
 obtain ⟨z,y,xs,r,o,es,ep,h1,h2,h3,h4,h5⟩ := (show ObjOk P w H h a (.dT kvs) from rd_of ok e)
 refine ⟨z,y,xs,r,o,es,ep,h1,h2,h3,h4,fun x hx => ?_,h5⟩
 have all:∀ {l:List (List Key × V)} {m:List (List Key × Addr × Value)},KT H l m → ∀ x ∈ m,(tupleKind (mixKind P w)).is h x.1 x.2.1 := by
  intro l m q
  induction q with
  | nil => intro x hx; exact nomatch hx
  | @cons p q ps qs hq t ih =>
   intro x hx
   rcases List.mem_cons.mp hx with e | hx
   ·subst e
    exact key_of ok (by rw [← hq.1]; exact hq.2.1)
   ·exact ih x hx
 exact all r x hx
theorem dt_of {kvs:List (List Key × V)} (ok:HOk P w H h) (e:H a = some (.dT kvs)):kvs.length ≤ sizeLine ∧ (a == sysModules) = false ∧
  ∃ xs,KT H kvs xs ∧ h.DictOfH (tupleKind (mixKind P w)) a xs := dt_rd ok (.inl e)
end
noncomputable def DGet (H:Hp) (a:Addr) (y:V) (r:Option V):Prop :=
 (∃ kvs k,Rd H a (.dK kvs) ∧ y = kV k ∧ r = valV kvs k) ∨ ∃ kvs k b,Rd H a (.dT kvs) ∧ y = .ref b ∧ H b = some (.tup (k.map kV)) ∧ r = valV kvs k
noncomputable def DPut (H:Hp) (a:Addr) (y v:V) (H':Hp):Prop :=
 (∃ kvs k,H a = some (.dK kvs) ∧ y = kV k ∧ kvs.length < sizeLine ∧ H' = upd H a (.dK (putK kvs k v))) ∨
 ∃ kvs k b,H a = some (.dT kvs) ∧ y = .ref b ∧ H b = some (.tup (k.map kV)) ∧ kvs.length < sizeLine ∧ H' = upd H a (.dT (putK kvs k v))
theorem DGet.k {H:Hp} {a:Addr} {kvs:List (Key × V)} {k:Key} (e:H a = some (.dK kvs)):DGet H a (kV k) (valV kvs k) := .inl ⟨kvs,k,.inl e,rfl,rfl⟩
theorem DPut.k {H:Hp} {a:Addr} {kvs:List (Key × V)} {k:Key} {v:V} (e:H a = some (.dK kvs)) (hl:kvs.length < sizeLine):DPut H a (kV k) v (upd H a (.dK (putK kvs k v))) := .inl ⟨kvs,k,e,rfl,hl,rfl⟩
section
variable {X:Cx} {pins:List (Addr × Obj)} {σ:St} {H:Hp} {s:Shared} {a:Addr} {y v:V} {u r:Value} {o:Option V} {A:Around} {E:Value → Shared → Prop}
theorem Inv.big (I:Inv X pins σ H s):sysModules < s.heap.objs.size := by
 have h:mainGlobals < s.heap.objs.size := (I.mod.glob.keeps I.bk).lt
 exact Nat.lt_trans (by decide) h
theorem d_getItem {Q:Value → Shared → Prop} (hu:A.units + 1 < cLine) (I:Inv X pins σ H s) (g:DGet H a y (some v)) (ry:RelV y u) (h:∀ w' s',Inv X pins σ H s' → RelV v w' → Q w' s') :
  wpAny (model X.prog X.w) A (getItem (.ref a) u) Q E s := by
 rcases g with ⟨kvs,k,e,ey,l⟩ | ⟨kvs,k,b,e,ey,eb,l⟩
 ·subst ey
  obtain ⟨z,hd,vs,rel,dd⟩ := dk_rd I.hok e
  obtain ⟨w',hw,rw'⟩ := RelO.some_of (v := v) (o := valueAt vs k) (by rw [l]; exact rel.val k)
  exact wpAny_getItem_of (kV_is ry) dd.mapOf hw (h w' _ (I.tok _) rw')
 ·subst ey
  cases (show u = Value.ref b from ry)
  obtain ⟨z,hd,xs,rel,dd⟩ := dt_rd I.hok e
  obtain ⟨w',hw,rw'⟩ := RelO.some_of (v := v) (o := (atKey xs k).map (·.2)) (by rw [l]; exact rel.val k)
  obtain ⟨p,hp,hp2⟩ := Option.map_eq_some_iff.mp hw
  refine wpAny_getItem_heap (tupleKind_room_in1 hu) (key_of I.hok eb) dd hp ?_
  rw [hp2]
  exact h w' _ (I.tok _) rw'
theorem d_notIn {Q:Value → Shared → Prop} (hu:A.units + 1 < cLine) (I:Inv X pins σ H s) (g:DGet H a y o) (ry:RelV y u) (h:∀ s',Inv X pins σ H s' → Q (.bool (!o.isSome)) s') :
  wpAny (model X.prog X.w) A (compareOp .NotIn u (.ref a)) Q E s := by
 rcases g with ⟨kvs,k,e,ey,l⟩ | ⟨kvs,k,b,e,ey,eb,l⟩
 ·subst ey
  obtain ⟨z,hd,vs,rel,dd⟩ := dk_rd I.hok e
  refine wpAny_notIn_of (kV_is ry) hd dd.mapOf ?_
  rw [← (rel.val k).isSome_eq,← l]
  exact h _ (I.tok _)
 ·subst ey
  cases (show u = Value.ref b from ry)
  obtain ⟨z,hd,xs,rel,dd⟩ := dt_rd I.hok e
  refine wpAny_notIn_heap (tupleKind_room_in1 hu) (key_of I.hok eb) hd dd ?_
  have q := (rel.val k).isSome_eq
  rw [Option.isSome_map] at q
  rw [← q,← l]
  exact h _ (I.tok _)
theorem d_write {h':Heap} {t':Nat} {ob:HO} (I:Inv X pins σ H s) (mu:Mut (H a)) (hs:Heap.SameBut a s.heap h') (he:∃ q,h'.get? a = some q) (new:ObjOk X.prog X.w (upd H a ob) h' a ob) :
  Inv X pins σ (upd H a ob) { s with heap := h',toks := t' } :=
 I.write (x := a) (e := a) mu (.inl rfl) (fun b q hb z => (hs.2 b hb).trans z) he new
theorem dk_new {P:Program} {w:World} {H':Hp} {h':Heap} {kvs:List (Key × V)} {vs:List (Key × Value)} (z:kvs.length ≤ sizeLine) (hd:(a == sysModules) = false) (rel:KV kvs vs) (dd:h'.DictOf (mixKind P w) a vs) :
  ObjOk P w H' h' a (.dK kvs) := ⟨z,hd,vs,rel,dd⟩
theorem d_setItem {H':Hp} {Q:Unit → Shared → Prop} (hu:A.units + 1 < cLine) (I:Inv X pins σ H s) (g:DPut H a y v H') (ry:RelV y u) (rv:RelV v r) (h:∀ s',Inv X pins σ H' s' → Q () s') :
  wpAny (model X.prog X.w) A (setItem (.ref a) u r) Q E s := by
 rcases g with ⟨kvs,k,e,ey,l,eH⟩ | ⟨kvs,k,b,e,ey,eb,l,eH⟩
 ·subst ey eH
  obtain ⟨z,hd,vs,rel,dd⟩ := dk_of I.hok e
  have hz:vs.length ≤ sizeLine := by rw [← rel.length]; exact z
  have hl:(putK kvs k v).length ≤ sizeLine := by have := length_putK kvs k v; omega
  refine wpAny_setItem_pairs (hsz := hz) (kV_is ry) dd fun h' dd' hs => h _ ?_
  have he:∃ q,h'.get? a = some q := let ⟨q,_,_,hq,_⟩ := dd'; ⟨q,hq⟩
  exact d_write I (by rw [e]; exact True.intro) hs he (dk_new hl hd (rel.put k rv) dd')
 ·subst ey eH
  cases (show u = Value.ref b from ry)
  obtain ⟨z,hd,xs,rel,dd⟩ := dt_of I.hok e
  have hz:xs.length ≤ sizeLine := by rw [← Paired.length rel]; exact z
  have hl:(putK kvs k v).length ≤ sizeLine := by have := length_putK kvs k v; omega
  refine wpAny_setItem_heap (hsz := hz) (tupleKind_room_in1 hu) (key_of I.hok eb) dd fun h' dd' hs => h _ ?_
  obtain ⟨q,es,ep,hq,h2,h3,h4,_,h5⟩ := dd'
  refine d_write I (by rw [e]; exact True.intro) hs ⟨q,hq⟩ ⟨hl,hd,_,(rel.put k eb rv).keeps fun c ys ec => ?_,q,es,ep,hq,h2,h3,h4,h5⟩
  rw [upd_ne (ne_of ec e (fun z => nomatch z))]
  exact ec
end
section
variable {X:Cx} {pins:List (Addr × Obj)} {σ:St} {H:Hp} {s:Shared} {a:Addr} {kvs:List (Key × V)} {k:Key} {u:Value} {A:Around} {E:Value → Shared → Prop}
theorem d_delItem {Q:Unit → Shared → Prop} (I:Inv X pins σ H s) (e:H a = some (.dK kvs)) (ry:RelV (kV k) u) (l:(valV kvs k).isSome = true) (h:∀ s',Inv X pins σ (upd H a (.dK (dropK kvs k))) s' → Q () s') :
  wpAny (model X.prog X.w) A (delItem (.ref a) u) Q E s := by
 obtain ⟨z,hd,vs,rel,dd⟩ := dk_of I.hok e
 refine wpAny_delItem_slot dd.typeIs (by decide) PySem.F.slot_dict_delitem
  (call_meetsIn PySem.F.slot_dict_delitem dd.typeIs PySem.F.entry_dict_delitem (PySem.F.args_dict_delitem_2 _ _) (meets_dict_delitem_pairs (mixKind X.prog X.w) a (kV_is ry)) ⟨vs,dd,by rw [← rel.length]; exact z,by rw [← (rel.val k).isSome_eq]; exact l,fun h' dd' hs => h _ ?_⟩)
 have he:∃ q,h'.get? a = some q := let ⟨q,_,_,hq,_⟩ := dd'; ⟨q,hq⟩
 exact d_write I (by rw [e]; exact True.intro) hs he (dk_new (Nat.le_trans (dropK_le kvs k) z) hd (rel.drop k) dd')
theorem d_pop {v:V} {more:List Value} {Q:Value → Shared → Prop} (I:Inv X pins σ H s) (e:H a = some (.dK kvs)) (ry:RelV (kV k) u) (l:valV kvs k = some v) (hm:more = [] ∨ ∃ x,more = [x])
  (h:∀ w' s',Inv X pins σ (upd H a (.dK (dropK kvs k))) s' → RelV v w' → Q w' s'):wpAny (model X.prog X.w) A (call (.builtin "dict.pop") (.ref a :: u :: more)) Q E s := by
 obtain ⟨z,hd,vs,rel,dd⟩ := dk_of I.hok e
 obtain ⟨w',hw,rw'⟩ := RelO.some_of (v := v) (o := valueAt vs k) (by rw [← l]; exact rel.val k)
 have hp:(keyPart u).isSome = true := by
  cases k with
  | inl i => obtain ⟨t,q⟩ := (show ∃ t,u = Value.int i t from ry); subst q; rfl
  | inr x => obtain ⟨t,q⟩ := (show ∃ t,u = Value.str x t from ry); subst q; rfl
 have ha:argsOk "dict.pop" ⟨.ref a :: u :: more,[]⟩ := by
  rcases hm with q | ⟨x,q⟩
  ·subst q; exact PySem.F.args_dict_pop_2 _ _
  ·subst q; exact PySem.F.args_dict_pop_3 _ _ _
 refine call_meetsIn PySem.F.slot_dict_pop dd.typeIs PySem.F.entry_dict_pop ha (meets_dict_pop_there (mixKind X.prog X.w) a (kV_is ry) more hm hp)
  ⟨vs,w',dd,by rw [← rel.length]; exact z,hw,fun h' dd' hs => h w' _ ?_ rw'⟩
 have he:∃ q,h'.get? a = some q := let ⟨q,_,_,hq,_⟩ := dd'; ⟨q,hq⟩
 exact d_write I (by rw [e]; exact True.intro) hs he (dk_new (Nat.le_trans (dropK_le kvs k) z) hd (rel.drop k) dd')
theorem d_len {Q:Value → Shared → Prop} (I:Inv X pins σ H s) (e:Rd H a (.dK kvs)) (h:∀ t s',Inv X pins σ H s' → Q (.int kvs.length t) s'):wpAny (model X.prog X.w) A (call (.builtin "len") [.ref a]) Q E s := by
 obtain ⟨z,hd,vs,rel,dd⟩ := dk_rd I.hok e
 refine call_len_dict hd dd (by rw [← rel.length]; rw [sizeLine_eq] at z; omega) ?_
 rw [← rel.length]
 exact h _ _ (I.tok _)
end
noncomputable def NoSl (i:Expr):Prop := ∀ ov iv,subscripted i false ov iv = operate [ov,iv] (getItem ov iv)
theorem subD_of {prog:Program} {w:World} {A:Around} {E:Value → Shared → Prop} {s:Shared} {env:Env} {value slice:Expr} {pos:Pos} {T id:String} {Q:Value → Shared → Prop}
  (hl:typeLookup (.type T) "__getitem__" = pure (some (.builtin id))) (hs:NoSl slice)
  (h:wpAny (model prog w) A (eval value env) (fun o s₁ => wpAny (model prog w) A (eval slice env) (fun i s₂ => s₂.TypeIs o T ∧ wpAny (model prog w) A (getItem o i) Q E s₂) E s₁) E s) :
  wpAny (model prog w) A (eval (.Subscript value slice pos) env) Q E s := by
 refine Subscript_ (wpAny_mono h (fun o s₁ h₁ => wpAny_mono h₁ (fun i s₂ h₂ => ?_) fun _ _ x => x) fun _ _ x => x)
 obtain ⟨hT,h₂⟩ := h₂
 unfold subscriptTail
 refine wpAny_bind ?_
 rw [getitemInPython_of_ne hT.not_modules]
 refine wpAny_bind (wpAny_specialOf hT hl ?_)
 have fin:wpAny (model prog w) A (subscripted slice false o i) (fun r s₃ => wpAny (model prog w) A (letTemporaryGo value o r >>= fun _ => pure r) Q E s₃) E s₂ := by
  rw [hs o i]
  exact wpAny_operating (wpAny_mono h₂ (fun r s₃ h₃ => wpAny_bind (wpAny_letTemporaryGo (wpAny_pure h₃))) fun _ _ x => x)
 first
  | exact wpAny_pure (wpAny_bind fin)
  | exact wpAny_bind (wpAny_pure (wpAny_bind fin))
  | exact wpAny_bind fin
theorem dict_typeIs {X:Cx} {pins:List (Addr × Obj)} {σ:St} {H:Hp} {s:Shared} {a:Addr} {y:V} {o:Option V} (I:Inv X pins σ H s) (g:DGet H a y o):s.TypeIs (.ref a) "dict" := by
 rcases g with ⟨kvs,k,e,_,_⟩ | ⟨kvs,k,b,e,_,_,_⟩
 ·obtain ⟨_,_,vs,_,dd⟩ := dk_rd I.hok e
  exact dd.typeIs
 ·obtain ⟨_,_,xs,_,dd⟩ := dt_rd I.hok e
  exact dd.typeIs
noncomputable def tDGet (td ty:TE):TE := fun σ H Q => td σ H fun x H1 => ty σ H1 fun y H2 => ∃ a v,x = .ref a ∧ DGet H2 a y (some v) ∧ Q v H2
noncomputable def tDIn (ty td:TE):TE := fun σ H Q => ty σ H fun y H1 => td σ H1 fun x H2 => ∃ a o,x = .ref a ∧ DGet H2 a y o ∧ Q (.bl o.isSome) H2
noncomputable def tDNotIn (ty td:TE):TE := fun σ H Q => ty σ H fun y H1 => td σ H1 fun x H2 => ∃ a o,x = .ref a ∧ DGet H2 a y o ∧ Q (.bl (!o.isSome)) H2
noncomputable def sDPut (td ty tv:TE):TS := fun D σ H => tv σ H fun v H1 => td σ H1 fun x H2 => ty σ H2 fun y H3 => ∃ a H4,x = .ref a ∧ DPut H3 a y v H4 ∧ D.nx σ H4
section
variable {X:Cx} {o i e value:Expr} {pos pos' tpos:Pos} {td ty tv:TE}
theorem pe_dget (hu:X.A.units + 1 < cLine) (ho:PE X o td) (hi:PE X i ty) (hs:NoSl i):PE X (.Subscript o i pos) (tDGet td ty) := by
 intro pins s σ H Q I h
 refine subD_of PySem.F.slot_dict_getitem.lookup hs (thn (ho pins s σ H _ I h) fun u s1 ⟨x,H1,I1,rx,q1⟩ => thn (hi pins s1 σ H1 _ I1 q1) fun iv s2 ⟨y,H2,I2,ry,a,v,ex,g,q2⟩ => ?_)
 subst ex
 obtain rfl:u = Value.ref a := rx
 exact ⟨dict_typeIs I2 g,d_getItem hu I2 g ry fun w' s3 I3 rw' => ⟨v,H2,I3,rw',q2⟩⟩
theorem pc_dnotin (hu:X.A.units + 1 < cLine) (hi:PE X i ty) (ho:PE X o td):PC X .NotIn i o (tDNotIn ty td) := by
 intro pins s σ H Q I h
 refine thn (hi pins s σ H _ I h) fun iv s1 ⟨y,H1,I1,ry,q1⟩ => thn (ho pins s1 σ H1 _ I1 q1) fun u s2 ⟨x,H2,I2,rx,a,ov,ex,g,q2⟩ => ?_
 subst ex
 obtain rfl:u = Value.ref a := rx
 exact d_notIn hu I2 g ry fun s3 I3 => ⟨.bl (!ov.isSome),H2,I3,rfl,q2⟩
theorem ps_dput (hu:X.A.units + 1 < cLine) (ho:PE X o td) (hi:PE X i ty) (hv:PE X value tv) (hs:swapsWith value (some (.Subscript o i pos')) pos.line X.env = pure false) :
  PS X (.Assign [.Subscript o i pos'] value pos) (sDPut td ty tv) := by
 intro pins s σ H D I h
 refine wpAny_Assign_Subscript (thn (hv pins s σ H _ I h) fun r s1 ⟨v,H1,I1,rv,q1⟩ => thn (ho pins s1 σ H1 _ I1 q1) fun u s2 ⟨x,H2,I2,rx,q2⟩ => thn (hi pins s2 σ H2 _ I2 q2) fun iv s3 ⟨y,H3,I3,ry,a,H4,ex,g,q3⟩ => ?_) hs
 subst ex
 obtain rfl:u = Value.ref a := rx
 exact d_setItem hu I3 g ry rv fun s4 I4 => ⟨σ,H4,I4,q3⟩
end
theorem dk_empty {P:Program} {w:World} {H:Hp} (h:Heap) (hb:sysModules < h.objs.size):ObjOk P w H (h.push { cls := .type "dict",data := .dict #[] }) h.objs.size (.dK []) :=
 ⟨Nat.zero_le _,beq_eq_false_iff_ne.mpr (Ne.symm (Nat.ne_of_lt hb)),[],.nil,Heap.DictOf.new h⟩
noncomputable def tDNewK:TE := fun _ H Q => ∀ p,H p = none → Q (.ref p) (upd H p (.dK []))
section
variable {X:Cx} {pos:Pos}
theorem pe_dnewK:PE X (.Dict [] [] pos) tDNewK := fun pins s σ H Q I h =>
 wpAny_Dict_empty ⟨.ref s.heap.objs.size,_,I.laid (a := s.heap.objs.size) (o := .dK []) (t' := s.toks) (fun _ _ q => Heap.get?_push_of_some _ q) (Nat.le_refl _) (dk_empty s.heap I.big),rfl,h _ (I.hok.fresh (Nat.le_refl _))⟩
end
noncomputable def tPairs:List (TE × TE) → St → Hp → (List (V × V) → Hp → Prop) → Prop
 | [],_,H,Q => Q [] H
 | (tk,tv) :: r,σ,H,Q => tk σ H fun x H1 => tv σ H1 fun y H2 => tPairs r σ H2 fun ps H3 => Q ((x,y) :: ps) H3
noncomputable abbrev VV:List (V × V) → List (Value × Value) → Prop := Paired fun p q => RelV p.1 q.1 ∧ RelV p.2 q.2
noncomputable def PPs (X:Cx) (pos:Pos) (keys:List (Option Expr)) (values:List Expr) (trs:List (TE × TE)):Prop :=
 ∀ (pins:List (Addr × Obj)) (s:Shared) (σ:St) (H:Hp) (Q:List (V × V) → Hp → Prop),Inv X pins σ H s → tPairs trs σ H Q →
  wpAny (model X.prog X.w) X.A (evalPairs (pairTrees keys values X.env pos)) (fun vs s' => ∃ ps H',Inv X pins σ H' s' ∧ VV ps vs ∧ Q ps H') X.xe s
theorem pps_nil {X:Cx} {pos:Pos}:PPs X pos [] [] [] := fun pins s σ H Q I h => pairTrees_nil_walk ⟨[],H,I,.nil,h⟩
theorem pps_cons {X:Cx} {pos:Pos} {k v:Expr} {ks:List (Option Expr)} {vs:List Expr} {tk tv:TE} {trs:List (TE × TE)} (hk:PE X k tk) (hv:PE X v tv) (hr:PPs X pos ks vs trs) :
  PPs X pos (some k :: ks) (v :: vs) ((tk,tv) :: trs) := fun pins s σ H Q I h =>
 pairTrees_cons_walk (thn (hk pins s σ H _ I h) fun u s1 ⟨x,H1,I1,rx,q1⟩ => thn (hv pins s1 σ H1 _ I1 q1) fun w2 s2 ⟨y,H2,I2,ry,q2⟩ =>
  thn (hr pins s2 σ H2 _ I2 q2) fun ws s3 ⟨ps,H3,I3,rel,q3⟩ => ⟨(x,y) :: ps,H3,I3,.cons ⟨rx,ry⟩ rel,q3⟩)
noncomputable def mergeK (kvs more:List (Key × V)):List (Key × V) := more.foldl (fun acc kv => putK acc kv.1 kv.2) kvs
theorem KV.merge:∀ {more:List (Key × V)} {rs:List (Key × Value)} {kvs:List (Key × V)} {vs:List (Key × Value)},KV more rs → KV kvs vs → KV (mergeK kvs more) (merged vs rs) := by
 intro more rs kvs vs r
 unfold KV at r
 induction r generalizing kvs vs with
 | nil => intro q; exact q
 | @cons p q ps qs h t ih =>
  intro r0
  have e:KV (putK kvs p.1 p.2) (stored vs q.1 q.2) := by
   have := r0.put p.1 h.2
   rw [← h.1]; exact this
  exact ih e
theorem length_mergeK:∀ (more kvs:List (Key × V)),(mergeK kvs more).length ≤ kvs.length + more.length
 | [],kvs => by show kvs.length ≤ kvs.length + 0; omega
 | p :: r,kvs => by
  have h1 := length_mergeK r (putK kvs p.1 p.2)
  have h2 := length_putK kvs p.1 p.2
  show (mergeK (putK kvs p.1 p.2) r).length ≤ _
  rw [List.length_cons]; omega
theorem carries_of {P:Program} {w:World}:∀ {kvs:List (Key × V)} {ws:List (Value × Value)},VV (kvs.map fun kv => (kV kv.1,kv.2)) ws → ∃ rs,Carries (mixKind P w) ws rs ∧ KV kvs rs
 | [],_,r => by rw [List.map_nil] at r; cases r; exact ⟨[],True.intro,.nil⟩
 | p :: kvs,_,r => by
  rw [List.map_cons] at r
  cases r with
  | @cons a b as bs h t =>
   obtain ⟨rs,c,q⟩ := carries_of (P := P) (w := w) t
   obtain ⟨b1,b2⟩ := b
   exact ⟨(p.1,b2) :: rs,⟨kV_is h.1,rfl,c⟩,.cons ⟨rfl,h.2⟩ q⟩
noncomputable def tDisp (trs:List (TE × TE)):TE := fun σ H Q => ∀ p,H p = none → tPairs trs σ (upd H p (.dK [])) fun ps H2 => H2 p = some (.dK []) ∧ ∃ kvs:List (Key × V),ps = kvs.map (fun kv => (kV kv.1,kv.2)) ∧ kvs.length ≤ 15 ∧ Q (.ref p) (upd H2 p (.dK (mergeK [] kvs)))
theorem pe_disp {X:Cx} {pos:Pos} {keys:List (Option Expr)} {values:List Expr} {trs:List (TE × TE)} (h:PPs X pos keys values trs) (hall:keys.all (·.isSome) = true) (hl:keys.length = values.length) (h0:keys ≠ [])
  (h15:keys.length ≤ 15):PE X (.Dict keys values pos) (tDisp trs) := by
 intro pins s σ H Q I q
 have hn := I.hok.fresh (Nat.le_refl s.heap.objs.size)
 have I1 := I.laid (a := s.heap.objs.size) (o := .dK []) (h' := s.heap.push { cls := .type "dict",data := .dict #[] }) (t' := s.toks) (fun _ _ q => Heap.get?_push_of_some _ q) (Nat.le_refl _) (dk_empty s.heap I.big)
 refine wpAny_Dict_walk (knd := mixKind X.prog X.w) hall hl h0 h15 (thn (h pins _ σ _ _ I1 (q _ hn)) fun ws s2 ⟨ps,H2,I2,rel,e,kvs,ep,lk,q2⟩ => ?_)
 subst ep
 obtain ⟨rs,c,rk⟩ := carries_of (P := X.prog) (w := X.w) rel
 obtain ⟨z,hd,vs0,r0,dd⟩ := dk_of I2.hok e
 cases r0
 refine ⟨rs,c,dd,fun h' dd' hs => ⟨.ref s.heap.objs.size,_,?_,rfl,q2⟩⟩
 have hz:(mergeK [] kvs).length ≤ sizeLine := by
  have h1 := length_mergeK kvs []
  rw [List.length_nil] at h1
  rw [sizeLine_eq]; omega
 have he:∃ q,h'.get? s.heap.objs.size = some q := let ⟨q,_,_,hq,_⟩ := dd'; ⟨q,hq⟩
 exact d_write I2 (by rw [e]; exact True.intro) hs he (dk_new hz hd (rk.merge .nil) dd')
structure M1 (X:Cx) (o:Expr) (m:Str) (apos:Pos) (e:Expr) (cpos:Pos):Prop where
 base:attributeBase o m X.env (eval o X.env) = eval o X.env
 few:((backTo cpos (starEach [e] X.env)).all (fun x => !x.1) && (backToKw cpos (keywordEach [] X.env)).all (fun x => x.1.isSome)
  && decide (([e]:List Expr).length + ([]:List Keyword).length + (if ([]:List Keyword).isEmpty then 0 else 1) < 30)) = true
 line:(apos.endLine == cpos.line) = true
 trees:backTo cpos (starEach [e] X.env) = [(false,eval e X.env)]
structure M2 (X:Cx) (o:Expr) (m:Str) (apos:Pos) (e f:Expr) (cpos:Pos):Prop where
 base:attributeBase o m X.env (eval o X.env) = eval o X.env
 few:((backTo cpos (starEach [e,f] X.env)).all (fun x => !x.1) && (backToKw cpos (keywordEach [] X.env)).all (fun x => x.1.isSome)
  && decide (([e,f]:List Expr).length + ([]:List Keyword).length + (if ([]:List Keyword).isEmpty then 0 else 1) < 30)) = true
 line:(apos.endLine == cpos.line) = true
 trees:backTo cpos (starEach [e,f] X.env) = [(false,eval e X.env),(false,eval f X.env)]
noncomputable def IsD (H:Hp) (a:Addr):Prop := (∃ kvs,Rd H a (.dK kvs)) ∨ ∃ kvs,Rd H a (.dT kvs)
theorem isD_at {X:Cx} {pins:List (Addr × Obj)} {σ:St} {H:Hp} {s:Shared} {a:Addr} (I:Inv X pins σ H s) (d:IsD H a) :
  s.TypeIs (.ref a) "dict" ∧ (∀ b,Value.ref a = .ref b → ∃ ob,s.heap.get? b = some ob ∧ ob.dict = none) ∧ (a == sysModules) = false := by
 rcases d with ⟨kvs,e⟩ | ⟨kvs,e⟩
 ·obtain ⟨_,hd,vs,_,dd⟩ := dk_rd I.hok e
  refine ⟨dd.typeIs,fun b q => ?_,hd⟩
  cases q
  obtain ⟨ob,_,_,h1,h2,_⟩ := dd
  exact ⟨ob,h1,h2.2.1⟩
 ·obtain ⟨_,hd,xs,_,dd⟩ := dt_rd I.hok e
  refine ⟨dd.typeIs,fun b q => ?_,hd⟩
  cases q
  obtain ⟨ob,_,_,h1,h2,_⟩ := dd
  exact ⟨ob,h1,h2.2.1⟩
section
variable {X:Cx} {pins:List (Addr × Obj)} {σ:St} {H:Hp} {s:Shared} {a:Addr} {y d:V} {u r:Value} {o:Option V} {A:Around} {E:Value → Shared → Prop}
end
noncomputable def tDPop1 (td ty:TE):TE := fun σ H Q => td σ H fun x H1 => ∃ a,x = .ref a ∧ IsD H1 a ∧ ty σ H1 fun y H2 => ∃ kvs k v,H2 a = some (.dK kvs) ∧ y = kV k ∧ valV kvs k = some v ∧ Q v (upd H2 a (.dK (dropK kvs k)))
section
variable {X:Cx} {o e f:Expr} {apos cpos:Pos} {td ty tx:TE}
theorem pe_dpop1 (ho:PE X o td) (he:PE X e ty) (m:M1 X o "pop" apos e cpos):PE X (.Call (.Attribute o "pop" apos) [e] [] cpos) (tDPop1 td ty) := by
 intro pins s σ H Q I h
 refine wpAny_Call_method m.base m.few m.line PySem.F.plainAttrs_dict PySem.F.slot_dict_pop PySem.F.type_dict_pop (thn (ho pins s σ H _ I h) fun u s1 ⟨x,H1,I1,rx,a,ex,d,q1⟩ => ?_)
 subst ex
 obtain rfl:u = Value.ref a := rx
 obtain ⟨t1,t2,_⟩ := isD_at I1 d
 refine ⟨t1,t2,?_⟩
 rw [m.trees]
 refine Calls.callWith_builtin rfl (Calls.evalArgs_plain (Calls.spliced_cons (thn (he pins s1 σ H1 _ I1 q1) fun iv s2 ⟨y,H2,I2,ry,kvs,k,v,ea,ey,l,q2⟩ => Calls.spliced_nil ?_)))
 subst ey
 exact d_pop I2 ea ry l (.inl rfl) fun w' s3 I3 rw' => ⟨v,_,I3,rw',q2⟩
end
section
variable {X:Cx} {pins:List (Addr × Obj)} {σ:St} {H:Hp} {s:Shared} {a:Addr} {kvs:List (Key × V)} {A:Around} {E:Value → Shared → Prop}
theorem d_copyOf {Q:Value → Shared → Prop} (I:Inv X pins σ H s) (e:Rd H a (.dK kvs)) (h:∀ p s',H p = none → Inv X pins σ (upd H p (.dK kvs)) s' → Q (.ref p) s'):wpAny (model X.prog X.w) A (call (.type "dict") [.ref a]) Q E s := by
 obtain ⟨z,hd,vs,rel,dd⟩ := dk_rd I.hok e
 refine kt_call_dict hd dd (by rw [← rel.length]; exact z) fun h' dd' hs => ?_
 refine h _ _ (I.hok.fresh (Nat.le_refl _)) (I.laid (a := s.heap.objs.size) (o := .dK kvs) (t' := s.toks) (fun b q hq => ?_) (Nat.le_refl _) (dk_new z (beq_eq_false_iff_ne.mpr (Ne.symm (Nat.ne_of_lt I.big))) rel dd'))
 exact (hs.2 b (Nat.ne_of_lt (Heap.lt_size hq))).trans (Heap.get?_push_of_some _ hq)
end
section
variable {X:Cx} {pins:List (Addr × Obj)} {σ:St} {H:Hp} {s:Shared} {a:Addr} {y:V} {u:Value} {A:Around} {E:Value → Shared → Prop}
end
end L2
namespace L2
open PySem PySem.Spec PyProof.Rows
section
variable {prog:Program} {w:World} {A:Around} {E:Value → Shared → Prop} {s:Shared} {it d:Addr} {i ep:Nat} {es:Array DictEntry} {o:Obj}
theorem raw_iter {Q:Value → Shared → Prop} (hs:(d == sysModules) = false) (hd:s.heap.get? d = some o) (hx:o.ExactDict) (ht:s.TypeIs (.ref d) "dict") (hdat:o.data = .dict es ep)
  (hQ:Q (.ref s.heap.objs.size) { s with heap := s.heap.push { cls := .type "dict_keyiterator",data := .fields #[.ref d,.int 0 0,.int es.size 0,.int ep 0] } }) :
  wpAny (model prog w) A (pyIter (.ref d)) Q E s := by
 refine wpAny_pyIter_slot ht F.slot_dict_iter (wpAny_call_entry F.slot_dict_iter ht F.entry_dict_iter ?_ (F.args_dict_iter_1 _))
 unfold Builtin.«dict.__iter__» Builtin.Dict.dictSlotNone Builtin.Dict.showsAll
 refine wpAny_bind (wpAny_bind (wpAny_notOrdered_dict ht (wpAny_pure ?_)))
 show wpAny _ _ ((if (d == sysModules) = true then _ else _) >>= _) _ _ s
 rw [if_neg (by rw [hs]; exact Bool.false_ne_true)]
 refine wpAny_bind (wpAny_pure (wpAny_bind (wpAny_dictEntries hd hdat (wpAny_bind (wpAny_dictEpoch hd hdat ?_)))))
 refine wpAny_bind (wpAny_newObj_type (wpAny_pure ⟨_,rfl,"dict_keyiterator",_,⟨_,Heap.get?_push_size _ rfl,rfl⟩,F.slot_dict_keyiterator_next.lookup,?_⟩))
 simpa [rawInt] using hQ
theorem raw_next {Q:Option Value → Shared → Prop} (hit:s.heap.IsKeyIter it d i es.size ep) (hd:s.heap.get? d = some o) (hdat:o.data = .dict es ep) (hlt:i < es.size)
  (hQ:∀ h',h'.IsKeyIter it d (i + 1) es.size ep → Heap.SameBut it s.heap h' → Q (some es[i].key) { s with heap := h' }) :
  wpAny (model prog w) A (pyNext (.ref it)) Q E s := by
 obtain ⟨oi,ho,hc,hf⟩ := id hit
 have hown:Builtin.Dict_items.ownsTuple "dict_keyiterator" = false := by decide
 unfold pyNext
 refine wpAny_bind (wpAny_attempt (wpAny_callSpecial?_slot (name := Str.ofString "__next__") hit.typeIs F.slot_dict_keyiterator_next
  (wpAny_call_entry F.slot_dict_keyiterator_next hit.typeIs F.entry_dict_keyiterator_next (wpAny_bind (wpAny_pure (wpAny_bind (wpAny_bind ?_)))) (F.args_dict_keyiterator_next_1 _))))
 refine wpAny_bind (wpAny_typeNameOfWhole_keyiter hit.typeIs (wpAny_pure (wpAny_bind (wpAny_fieldsOf ho hf ?_))))
 simp only [hown,Bool.false_eq_true,if_false]
 show wpAny _ _ (if (Value.ref d == Value.none) = true then _ else _) _ _ s
 rw [if_neg (show ¬ ((Value.ref d == Value.none) = true) from Bool.false_ne_true)]
 refine wpAny_bind (wpAny_pure (wpAny_bind (wpAny_dictEntries hd hdat ?_)))
 rw [if_neg (by simp)]
 refine wpAny_bind (wpAny_pure (wpAny_bind (wpAny_dictEpoch hd hdat ?_)))
 rw [if_neg (by simp)]
 refine wpAny_pure ?_
 simp only [show ¬ ((i:Int) < 0) from by lia,if_false,Int.toNat_natCast,Array.getElem?_eq_getElem hlt]
 refine wpAny_bind (wpAny_bind (wpAny_typeNameOfWhole_keyiter hit.typeIs (wpAny_pure (wpAny_bind (wpAny_isOneOf_keyiter hit.typeIs ?_)))))
 show wpAny _ _ (setField (.ref it) 1 (rawInt ((i:Int) + 1)) >>= _) _ _ s
 refine wpAny_bind (wpAny_setField ho hf (by simp) ?_)
 have hit2:(s.heap.update it (Obj.mapFields (·.setIfInBounds 1 (rawInt ((i:Int) + 1))))).IsKeyIter it d (i + 1) es.size ep :=
  ⟨_,Heap.get?_update_self _ ho (Obj.isFreed_of_fields (Obj.data_mapFields hf _)),(Obj.cls_mapFields ..).trans hc,by rw [Obj.data_mapFields hf]; simp [rawInt]⟩
 refine wpAny_bind (wpAny_holding (wpAny_bind (wpAny_isOneOf_keyiter (s := { s with heap := s.heap.update it (Obj.mapFields (·.setIfInBounds 1 (rawInt ((i:Int) + 1)))) }) hit2.typeIs ?_)))
 show wpAny _ _ (pure es[i].key) _ _ _
 exact wpAny_pure (wpAny_pure ⟨_,rfl,wpAny_pure (hQ _ hit2 (Heap.SameBut.update ..))⟩)
theorem raw_end {Q:Option Value → Shared → Prop} (hh:A.handled = none) (hit:s.heap.IsKeyIter it d i es.size ep) (hd:s.heap.get? d = some o) (hdat:o.data = .dict es ep) (hge:es.size ≤ i)
  (hQ:∀ h',Heap.ExtBut it s.heap h' → Q none { s with heap := h' }):wpAny (model prog w) A (pyNext (.ref it)) Q E s := by
 obtain ⟨oi,ho,hc,hf⟩ := id hit
 have hown:Builtin.Dict_items.ownsTuple "dict_keyiterator" = false := by decide
 unfold pyNext
 refine wpAny_bind (wpAny_attempt (wpAny_callSpecial?_slot (name := Str.ofString "__next__") hit.typeIs F.slot_dict_keyiterator_next
  (wpAny_call_entry F.slot_dict_keyiterator_next hit.typeIs F.entry_dict_keyiterator_next (wpAny_bind (wpAny_pure (wpAny_bind (wpAny_bind ?_)))) (F.args_dict_keyiterator_next_1 _))))
 refine wpAny_bind (wpAny_typeNameOfWhole_keyiter hit.typeIs (wpAny_pure (wpAny_bind (wpAny_fieldsOf ho hf ?_))))
 simp only [hown,Bool.false_eq_true,if_false]
 show wpAny _ _ (if (Value.ref d == Value.none) = true then _ else _) _ _ s
 rw [if_neg (show ¬ ((Value.ref d == Value.none) = true) from Bool.false_ne_true)]
 refine wpAny_bind (wpAny_pure (wpAny_bind (wpAny_dictEntries hd hdat ?_)))
 rw [if_neg (by simp)]
 refine wpAny_bind (wpAny_pure (wpAny_bind (wpAny_dictEpoch hd hdat ?_)))
 rw [if_neg (by simp)]
 refine wpAny_pure ?_
 simp only [show ¬ ((i:Int) < 0) from by lia,if_false,Int.toNat_natCast,Array.getElem?_eq_none hge]
 refine wpAny_bind (wpAny_bind (wpAny_typeNameOfWhole_keyiter hit.typeIs (wpAny_pure ?_)))
 show wpAny _ _ (setField (.ref it) 0 .none >>= _) _ _ s
 refine wpAny_bind (wpAny_setField ho hf (by simp) ?_)
 show wpAny _ _ (newExc (.type "StopIteration") [] >>= _) _ _ _
 simp only [newExc,newTuple]
 refine wpAny_bind (wpAny_bind (wpAny_newObj_type ?_ (by size_fits)))
 refine wpAny_bind (m := firstArgMember _ _) (wpAny_of_eq (a := Value.none) (by first | rfl | (simp only [firstArgMember]; rfl)) (wpAny_newObj_type ?_ (by size_fits)))
 simp only [raiseNew]
 refine wpAny_bind (wpAny_handled ?_)
 rw [show A.in1.handled = none from hh]
 refine wpAny_bind (wpAny_pure (wpAny_throw ?_))
 refine wpAny_bind (wpAny_isInstance (T := "StopIteration") (b := true) ⟨_,Heap.get?_push_size _ rfl,rfl⟩ isSubtype_stop ?_)
 exact wpAny_pure (hQ _ (((Heap.SameBut.update ..).extBut.push _).push _))
end
section
variable {X:Cx} {pins:List (Addr × Obj)} {σ:St} {H:Hp} {s:Shared} {d:Addr} {kvs:List (List Key × V)}
end
end L2
namespace My
open PySem L2
end My
namespace L2
open PySem PySem.Spec PyProof.Rows
variable {X:Cx}
theorem call_sumG (hc:X.calm = true):CallR X (.builtin "sum") (fun xs H Q => ∃ (p:Addr) (ns:List Int),xs = [.ref p] ∧ SqL X.K H p (ns.map V.int) ∧ Q (.int ns.sum) H) := by
 intro pins s σ H xs us Q I r h
 obtain ⟨p,ns,rfl,hp,q⟩ := h
 obtain ⟨u,rfl,ru⟩ := vals1 r
 cases ru
 obtain ⟨its,ri,pl,hz⟩ := I.list hp
 have hl := ri.length
 rw [List.length_map] at hl
 refine call_sum_walkG (wpAny_pyIter_list pl.isList ?_)
 have hlt:p < s.heap.objs.size := by obtain ⟨o,e,_⟩ := pl.isList; exact Heap.lt_size e
 refine ⟨s.heap.objs.size,_,_,_,_,_,fun i => ns[i]?.getD 0,rfl,Walks.list (A := X.A.in1) (I.ok.hd hc) s.heap.objs.size p (Nat.ne_of_lt hlt) its.toArray,⟨⟨_,Heap.get?_push_size _ rfl,rfl,rfl⟩,pl.isList.at fun o e => Heap.get?_push_of_some _ e⟩,?_,?_,?_⟩
 ·intro b hb
  have:b = s.heap.objs.size ∨ b = p := by simpa using hb
  rcases this with rfl | rfl
  ·show _ < (Heap.push _ _).objs.size
   rw [Heap.size_push]; exact Nat.lt_succ_self _
  ·show _ < (Heap.push _ _).objs.size
   rw [Heap.size_push]; exact Nat.lt_succ_of_lt hlt
 ·intro i v hv
  have hv':its[i]? = some v := by simpa using hv
  have hi:i < its.length := (List.getElem?_eq_some_iff.mp hv').1
  have hb:(ns.map V.int)[i]? = some (.int (ns[i]'(by lia))) := by rw [List.getElem?_map,List.getElem?_eq_getElem (by lia)]; rfl
  obtain ⟨w',e,rw'⟩ := ri.get hb
  rw [hv'] at e
  cases e
  obtain ⟨t,rfl⟩ := rw'
  exact ⟨t,by dsimp only; rw [List.getElem?_eq_getElem (by omega)]; rfl⟩
 ·intro h' tk t' hk
  have e:preSum (fun i => ns[i]?.getD 0) its.toArray.size = ns.sum := by
   rw [List.size_toArray,← hl,preSum_take ns _ (Nat.le_refl _),List.take_length]
  rw [e]
  refine ⟨.int _,H,I.kept fun b o e => hk b o ?_ (Heap.get?_push_of_some _ e),⟨_,rfl⟩,q⟩
  intro z
  have z':b = s.heap.objs.size := by simpa using z
  exact absurd (Heap.lt_size e) (by rw [z']; exact Nat.lt_irrefl _)
end L2
namespace L2
open PySem
noncomputable def il (n:Nat) (g:Nat → Int):List Int := (List.range n).map g
theorem il_len (n:Nat) (g:Nat → Int):(il n g).length = n := by unfold il; simp
theorem il_get {n:Nat} {g:Nat → Int} {k:Nat} (h:k < n):(il n g)[k]? = some (g k) := by unfold il; simp [h]
theorem il_congr {n:Nat} {g f:Nat → Int} (h:∀ k,k < n → g k = f k):il n g = il n f := by
 unfold il
 exact List.map_congr_left fun k hk => h k (List.mem_range.mp hk)
theorem il_set (n:Nat) (g:Nat → Int) (k:Nat) (v:Int):(il n g).set k v = il n fun x => if x = k then v else g x := by
 refine List.ext_getElem? fun i => ?_
 rw [List.getElem?_set]
 unfold il
 simp only [List.getElem?_map,List.length_map,List.length_range]
 by_cases hi:i < n
 ·simp only [List.getElem?_range hi,Option.map_some]
  by_cases e:k = i
  ·subst e; simp [hi]
  ·have e':¬ i = k := fun z => e z.symm
   simp [e,e']
 ·rw [List.getElem?_eq_none (by simpa using hi)]
  by_cases e:k = i
  ·subst e; simp [hi]
  ·simp [e]
theorem il_rep (n:Nat):List.replicate n (0:Int) = il n fun _ => 0 := by
 unfold il
 refine List.ext_getElem? fun i => ?_
 by_cases hi:i < n
 ·simp [hi,List.getElem?_replicate]
 ·simp [hi,List.getElem?_replicate]
theorem il_snoc (n:Nat) (g:Nat → Int):il (n + 1) g = il n g ++ [g n] := by
 unfold il
 rw [List.range_succ,List.map_append]
 rfl
noncomputable def rowAt (seats:List (List Int)) (i:Int):List Int := seats.getD i.toNat []
noncomputable def cntS (seats:List (List Int)) (some:List Int) (j:Nat):Int := ((some.filter fun i => decide ((j:Int) ∈ rowAt seats i)).length:Int)
theorem cntS_snoc (seats:List (List Int)) (xs:List Int) (i:Int) (j:Nat):cntS seats (xs ++ [i]) j = cntS seats xs j + if (j:Int) ∈ rowAt seats i then 1 else 0 := by
 unfold cntS
 rw [List.filter_append,List.length_append]
 by_cases h:(j:Int) ∈ rowAt seats i
 ·simp [h]
 ·simp [h]
noncomputable def ownT (qs:List (Int × Int)) (f:Nat → Int) (o:Nat):Nat → Int
 | 0 => 0
 | n + 1 => ownT qs f o n + if (qs.getD n (0,0)).1 = (o:Int) then min (f n) (qs.getD n (0,0)).2 else 0
noncomputable def heldT (qs:List (Int × Int)) (lim:List Int) (f:Nat → Int):Nat → Int
 | 0 => 0
 | n + 1 => heldT qs lim f n + min (ownT qs f n qs.length) (lim.getD n 0)
theorem heldT_sum (qs:List (Int × Int)) (lim:List Int) (f:Nat → Int):∀ n,(il n fun o => min (ownT qs f o qs.length) (lim.getD o 0)).sum = heldT qs lim f n
 | 0 => rfl
 | n + 1 => by
  rw [il_snoc,List.sum_append,heldT_sum qs lim f n]
  simp [heldT]
theorem count_nd {row:List Int} (h:row.Nodup) (j:Int):((row.count j:Nat):Int) = if j ∈ row then 1 else 0 := by
 by_cases z:j ∈ row
 ·rw [if_pos z,List.Nodup.count h,if_pos z]; rfl
 ·rw [if_neg z,List.count_eq_zero_of_not_mem z]; rfl
structure Stg (seats:List (List Int)) (qs:List (Int × Int)) (lim:List Int):Prop where
 sl:seats.length ≤ 200
 ql:qs.length ≤ 20
 ll:lim.length ≤ 20
 row:∀ row ∈ seats,row.Nodup ∧ row.length ≤ 20 ∧ ∀ x ∈ row,0 ≤ x ∧ x < (qs.length:Int)
 own:∀ q ∈ qs,0 ≤ q.1 ∧ q.1 < (lim.length:Int)
noncomputable def InS (n:Nat) (xs:List Int):Prop := xs.length ≤ 200 ∧ ∀ x ∈ xs,0 ≤ x ∧ x < (n:Int)
theorem min_a (a b:Int):(if b < a then b else a) = min a b := by
 rw [Int.min_def]
 split <;> split <;> lia
theorem cut_from (xs:List V) (k:Nat):cutV xs (some (k:Int)) none = xs.drop k := by
 unfold cutV
 rw [HT.sIx_none,HT.sIx_nat]
 by_cases h:k ≤ xs.length
 ·rw [Nat.min_eq_left h,List.take_of_length_le (by rw [List.length_drop]; lia)]
 ·rw [Nat.min_eq_right (by lia),Nat.sub_self,List.take_zero,List.drop_of_length_le (by lia)]
theorem cut_map (ns:List Int) (lo hi:Option Int):∃ ms:List Int,cutV (ns.map V.int) lo hi = ms.map V.int ∧ ms.length ≤ ns.length := by
 refine ⟨(ns.drop (HT.sIx (ns.map V.int).length 0 lo)).take (HT.sIx (ns.map V.int).length (ns.map V.int).length hi - HT.sIx (ns.map V.int).length 0 lo),by unfold cutV; rw [List.map_take,List.map_drop],?_⟩
 rw [List.length_take,List.length_drop]
 lia
noncomputable def turnL (xs:List Int) (k:Nat):List Int := xs.drop k ++ xs.take k
theorem op_notIn_seqK {X:Cx} {K:PySem.W.Frag} (hK:X.K = K):OpR X (compareOp .NotIn) (rIn K true) := by subst hK; exact op_notIn_seq
theorem turn_perm (xs:List Int) (k:Nat):(turnL xs k).Perm xs := by
 unfold turnL
 refine List.perm_append_comm.trans ?_
 rw [List.take_append_drop]
theorem turn_nd {xs:List Int} (h:xs.Nodup) (k:Nat):(turnL xs k).Nodup := (turn_perm xs k).nodup_iff.mpr h
theorem turn_mem {xs:List Int} {k:Nat} {x:Int}:x ∈ turnL xs k ↔ x ∈ xs := (turn_perm xs k).mem_iff
theorem turn_len (xs:List Int) (k:Nat):(turnL xs k).length = xs.length := (turn_perm xs k).length_eq
end L2
namespace L2
open PySem
theorem rep_il (n:Nat):(List.replicate ((n:Int)).toNat [V.int 0]).flatten = (il n fun _ => 0).map V.int := by
 rw [Int.toNat_natCast,← il_rep,List.map_replicate]
 induction n with
 | zero => rfl
 | succ k ih => rw [List.replicate_succ,List.flatten_cons,ih,List.replicate_succ]; rfl
theorem set_ints (ns:List Int) (k:Nat) (v:Int):(ns.map V.int).set k (V.int v) = (ns.set k v).map V.int := by rw [List.map_set]
theorem row_of {seats:List (List Int)} {n:Nat} {row:List Int} (h:seats[n]? = some row):rowAt seats (n:Int) = row := by
 unfold rowAt
 rw [Int.toNat_natCast,List.getD_eq_getElem?_getD,h]
 rfl
theorem getD_of {α:Type} {l:List α} {n:Nat} {a d:α} (h:l[n]? = some a):l.getD n d = a := by
 rw [List.getD_eq_getElem?_getD,h]
 rfl
theorem count_step {row:List Int} {j:Nat} {x:Int} (h:row[j]? = some x) (y:Int):(((row.take (j + 1)).count y:Nat):Int) = ((row.take j).count y:Nat) + if y = x then 1 else 0 := by
 have e:row.take (j + 1) = row.take j ++ [x] := by rw [List.take_add_one,h]; rfl
 rw [e,List.count_append]
 by_cases z:y = x
 ·subst z; simp
 ·rw [if_neg z,List.count_singleton,if_neg (by simpa using fun w => z w.symm)]; simp
theorem ask_set {M:Nat} {g:Nat → Int} {row:List Int} {j n:Nat} (h:row[j]? = some (n:Int)) :
  (il M fun k => g k + ((row.take j).count (k:Int):Nat)).set n (g n + ((row.take j).count (n:Int):Nat) + 1) = il M fun k => g k + ((row.take (j + 1)).count (k:Int):Nat) := by
 rw [il_set]
 refine il_congr fun k _ => ?_
 rw [count_step h]
 by_cases z:k = n
 ·subst z; simp; lia
 ·rw [if_neg z,if_neg (fun w => z (by lia))]; lia
theorem ask_end {M:Nat} {seats:List (List Int)} {xs:List Int} {n:Nat} {row:List Int} (h:seats[n]? = some row) (nd:row.Nodup) :
  (il M fun k => cntS seats xs k + ((row.take row.length).count (k:Int):Nat)) = il M (cntS seats (xs ++ [(n:Int)])) := by
 refine il_congr fun k _ => ?_
 rw [cntS_snoc,row_of h,List.take_length,count_nd nd]
theorem own_set {N:Nat} {qs:List (Int × Int)} {f:Nat → Int} {i o:Nat} {c:Int} (h:qs[i]? = some ((o:Int),c)) :
  (il N fun x => ownT qs f x i).set o (ownT qs f o i + min (f i) c) = il N fun x => ownT qs f x (i + 1) := by
 rw [il_set]
 refine il_congr fun k _ => ?_
 show _ = ownT qs f k i + if (qs.getD i (0,0)).1 = (k:Int) then min (f i) (qs.getD i (0,0)).2 else 0
 rw [getD_of h]
 by_cases z:k = o
 ·subst z; simp
 ·rw [if_neg z,if_neg (show ¬ ((o:Int) = (k:Int)) from fun w => z (by lia))]; lia
theorem own_step {qs:List (Int × Int)} {f:Nat → Int} {i o:Nat} {q:Int × Int} (h:qs[i]? = some q):ownT qs f o (i + 1) = ownT qs f o i + if q.1 = (o:Int) then min (f i) q.2 else 0 := by
 show _ + (if (qs.getD i (0,0)).1 = (o:Int) then min (f i) (qs.getD i (0,0)).2 else 0) = _
 rw [getD_of h]
theorem min_b (a b:Int):(if b < a then b else a) = min b a := by rw [min_a,Int.min_comm]
theorem filter_snoc {α:Type} (p:α → Bool) (xs:List α) (a:α):(xs ++ [a]).filter p = xs.filter p ++ if p a = true then [a] else [] := by
 rw [List.filter_append]
 congr 1
 by_cases h:p a = true
 ·simp [h]
 ·simp [h]
end L2
namespace My
open PySem L2
structure Gath (H:Hp) (L:Addr) (Pr:List Int → Prop) (i:Nat) (H':Hp):Prop where
 ex:∃ (us:List V) (rows:List (List Int)),rows.length = i ∧ Same H H' ∧ H' L = some (.lst us) ∧ Rows H' us rows ∧ (∀ row ∈ rows,Pr row) ∧ ∀ t,V.ref t ∈ us → t ≠ L ∧ H t = none
theorem Gath.start {H:Hp} {L:Addr} {Pr:List Int → Prop} (hL:H L = none):Gath H L Pr 0 (upd H L (.lst [])) :=
 ⟨[],[],rfl,same_new hL _,upd_same,.nil,(fun r z => by cases z),fun t z => by cases z⟩
theorem Gath.same {H H':Hp} {L:Addr} {Pr:List Int → Prop} {i:Nat} (h:Gath H L Pr i H'):Same H H' := by
 obtain ⟨_,_,_,g,_⟩ := h.ex
 exact g
theorem Gath.step {H H' H2:Hp} {L l:Addr} {Pr:List Int → Prop} {i:Nat} {row:List Int} (h:Gath H L Pr i H') (hL:H L = none) (hi:i ≤ 900) (g2:Same H' H2) (hl:H' l = none) (hl2:H2 l = some (.lst (row.map V.int))) (hp:Pr row) :
  ∃ xs,H2 L = some (.lst xs) ∧ xs.length < sizeLine ∧ Gath H L Pr (i + 1) (upd H2 L (.lst (xs ++ [.ref l]))) := by
 obtain ⟨us,rows,hr,g,e,hR,hP,fr⟩ := h.ex
 have hul := hR.len
 have ne:L ≠ l := ne_of_none e hl
 refine ⟨us,g2 _ _ e,small1000 (by lia),us ++ [.ref l],rows ++ [row],by rw [List.length_append,hr]; rfl,same_upd hL (g.trans g2) _,upd_same,?_,fun r hr' => ?_,fun t ht => ?_⟩
 ·refine Rows.off (Rows.snoc (hR.mono g2) ⟨l,rfl,hl2⟩) fun z => ?_
  rcases List.mem_append.mp z with z | z
  ·exact (fr L z).1 rfl
  ·exact ne (V.ref.inj (List.mem_singleton.mp z))
 ·rcases List.mem_append.mp hr' with z | z
  ·exact hP r z
  ·rw [List.mem_singleton.mp z]; exact hp
 ·rcases List.mem_append.mp ht with z | z
  ·exact fr t z
  ·rw [V.ref.inj (List.mem_singleton.mp z)]
   exact ⟨ne.symm,g.free hl⟩
structure GatC (H:Hp) (L:Addr) (Pr:Int × Int → Prop) (i:Nat) (H':Hp):Prop where
 ex:∃ (ts:List V) (qs:List (Int × Int)),qs.length = i ∧ Same H H' ∧ H' L = some (.lst ts) ∧ Cells H' ts qs ∧ ∀ q ∈ qs,Pr q
theorem GatC.start {H:Hp} {L:Addr} {Pr:Int × Int → Prop} (hL:H L = none):GatC H L Pr 0 (upd H L (.lst [])) :=
 ⟨[],[],rfl,same_new hL _,upd_same,.nil,(fun r z => by cases z)⟩
theorem GatC.same {H H':Hp} {L:Addr} {Pr:Int × Int → Prop} {i:Nat} (h:GatC H L Pr i H'):Same H H' := by
 obtain ⟨_,_,_,g,_⟩ := h.ex
 exact g
theorem GatC.step {H H':Hp} {L t:Addr} {Pr:Int × Int → Prop} {i:Nat} {a b:Int} (h:GatC H L Pr i H') (hL:H L = none) (hi:i ≤ 900) (ht:H' t = none) (hp:Pr (a,b)) :
  ∃ xs,upd H' t (.tup [.int a,.int b]) L = some (.lst xs) ∧ xs.length < sizeLine ∧ GatC H L Pr (i + 1) (upd (upd H' t (.tup [.int a,.int b])) L (.lst (xs ++ [.ref t]))) := by
 obtain ⟨ts,qs,hr,g,e,hC,hP⟩ := h.ex
 have htl := hC.len
 have gt := same_new ht (.tup [.int a,.int b])
 refine ⟨ts,gt _ _ e,small1000 (by lia),ts ++ [.ref t],qs ++ [(a,b)],by rw [List.length_append,hr]; rfl,same_upd hL (g.trans gt) _,upd_same,?_,fun r hr' => ?_⟩
 ·refine Cells.off (Cells.snoc (hC.mono gt) ⟨t,rfl,upd_same⟩) fun xs z => ?_
  rw [gt _ _ e] at z
  cases z
 ·rcases List.mem_append.mp hr' with z | z
  ·exact hP r z
  ·rw [List.mem_singleton.mp z]; exact hp
theorem map_item {ns:List Int} {i:Nat} {v:V} (h:(ns.map V.int)[i]? = some v):∃ x,ns[i]? = some x ∧ v = .int x := by
 rw [List.getElem?_map] at h
 cases hz:ns[i]? with
 | none => rw [hz] at h; cases h
 | some x => rw [hz] at h; exact ⟨x,rfl,(Option.some.inj h).symm⟩
noncomputable def RowOk (m:Nat) (row:List Int):Prop := row.Nodup ∧ row.length ≤ 20 ∧ ∀ x ∈ row,0 ≤ x ∧ x < (m:Int)
theorem RowOk.take {m:Nat} {row:List Int} (h:RowOk m row) (k:Nat):RowOk m (row.take k) :=
 ⟨h.1.sublist (List.take_sublist _ _),Nat.le_trans (by rw [List.length_take]; lia) h.2.1,fun x hx => h.2.2 x (List.mem_of_mem_take hx)⟩
end My
namespace My
open PySem L2
theorem turned_of {K:PySem.W.Frag} {H:Hp} {L:Addr} {row:List Int} {t:Nat} {Q:Addr → Hp → Prop} (e:H L = some (.lst (row.map V.int))) (hl:row.length ≤ 400)
  (q:∀ p H',Same H H' → H p = none → H' p = some (.lst ((turnL row t).map V.int)) → Q p H') :
  ∃ x1,SqL K H L x1 ∧ ∀ p,H p = none → ∃ x2,SqL K (upd H p (.lst (cutV x1 (some (t:Int)) none))) L x2 ∧ ∀ p1,upd H p (.lst (cutV x1 (some (t:Int)) none)) p1 = none →
   ∃ x3,upd (upd H p (.lst (cutV x1 (some (t:Int)) none))) p1 (.lst (cutV x2 none (some (t:Int)))) p = some (.lst x3) ∧ ∃ x4,upd (upd H p (.lst (cutV x1 (some (t:Int)) none))) p1 (.lst (cutV x2 none (some (t:Int)))) p1 = some (.lst x4) ∧
    x3.length + x4.length ≤ sizeLine ∧ ∀ p2,upd (upd H p (.lst (cutV x1 (some (t:Int)) none))) p1 (.lst (cutV x2 none (some (t:Int)))) p2 = none →
     Q p2 (upd (upd (upd H p (.lst (cutV x1 (some (t:Int)) none))) p1 (.lst (cutV x2 none (some (t:Int))))) p2 (.lst (x3 ++ x4))) := by
 refine ⟨_,SqL.of e,fun p hp => ⟨_,SqL.of (same_new hp _ _ _ e),fun p1 hp1 => ?_⟩⟩
 have g1 := same_new hp (.lst (cutV (row.map V.int) (some (t:Int)) none))
 have g2 := g1.trans (same_new hp1 (.lst (cutV (row.map V.int) none (some (t:Int)))))
 refine ⟨_,by rw [upd_ne (ne_of_none upd_same hp1)]; exact upd_same,_,upd_same,?_,fun p2 hp2 => q p2 _ (g2.trans (same_new hp2 _)) (g2.free hp2) ?_⟩
 ·have h1 := cutV_length (row.map V.int) (some (t:Int)) none
  have h2 := cutV_length (row.map V.int) none (some (t:Int))
  rw [List.length_map] at h1 h2
  exact small1000' (by lia)
 ·rw [upd_same,cut_from,cut_take,← List.map_drop,← List.map_take,← List.map_append]
  rfl
end My
namespace My
open PySem L2
theorem Rows.keep {H H':Hp} {ts:List V} {rows:List (List Int)} (h:Rows H ts rows):(∀ t o,V.ref t ∈ ts → H t = some o → H' t = some o) → Rows H' ts rows := by
 induction h with
 | nil => exact fun _ => .nil
 | cons a _ ih =>
  obtain ⟨t,rfl,q⟩ := a
  exact fun k => .cons ⟨t,rfl,k t _ (List.mem_cons_self ..) q⟩ (ih fun t o ht => k t o (List.mem_cons_of_mem _ ht))
theorem not_nil {ds:List DV} (h:(!eqD (.lst ds) (.lst (([]:List Int).map DV.int))) = true):ds ≠ [] := fun z => by
 subst z
 rw [show (DV.lst (([]:List Int).map DV.int)) = DV.lst [] from rfl,eqD_same] at h
 cases h
end My
namespace Tim
open PySem PyProof.Rows
noncomputable def gal:Bool → Keyed → Array Keyed → Nat → Nat → Nat → StateT SortSt Sem (Option Nat) := sortPriv% PySem.Builtin.gallop
noncomputable def mlo:Array Keyed → Array Keyed → StateT SortSt Sem (Array Keyed) := sortPriv% PySem.Builtin.mergeLo
noncomputable def mhi:Array Keyed → Array Keyed → StateT SortSt Sem (Array Keyed) := sortPriv% PySem.Builtin.mergeHi
section
variable {prog:Program} {w:World} {A:Around} {E:Value → Shared → Prop} {s:Shared}
structure Cmp (prog:Program) (w:World) (A:Around) (E:Value → Shared → Prop) (s:Shared) where
 O:KeyOrd
 key:Keyed → O.α
 S:Keyed → Prop
 F:SortSt → Prop
 ok:∀ (st:SortSt) (p q:Keyed) (Q:Option Bool → SortSt → Prop),F st → S p → S q → Q (some (O.blt (key p) (key q))) st → wpS (model prog w) A E s (lt' p q) Q st
theorem wpS_elem {arr:Array Keyed} {i:Nat} {p:Keyed} {Q:Keyed → SortSt → Prop} {st:SortSt} (e:arr[i]? = some p) (h:Q p st):wpS (model prog w) A E s (elem' arr i) Q st := by
 rw [elem'_eq,e]
 exact wpS_pure h
noncomputable def bey (C:Cmp prog w A E s) (left:Bool) (k:Keyed) (p:Keyed):Bool := if left then C.O.blt (C.key p) (C.key k) else !C.O.blt (C.key k) (C.key p)
theorem gal_ok {C:Cmp prog w A E s} {left:Bool} {k:Keyed} {arr:Array Keyed} {base n hint:Nat} {st:SortSt} {P:Nat → Bool} {Q:Option Nat → SortSt → Prop} (hF:C.F st) (hk:C.S k) (hh:hint < n)
  (hP:∀ i,i < n → ∃ p,arr[base + i]? = some p ∧ C.S p ∧ bey C left k p = P i) (mono:∀ i j,i ≤ j → j < n → P j = true → P i = true)
  (h:∀ m,m ≤ n → (∀ i,i < m → P i = true) → (∀ i,m ≤ i → i < n → P i = false) → Q (some m) st):wpS (model prog w) A E s (gal left k arr base n hint) Q st := by
 have ask:∀ (i:Nat) (R:Option Bool → SortSt → Prop),i < n → R (some (P i)) st → wpS (model prog w) A E s (do
   let x ← elem' arr (base + i)
   if left then lt' x k else return (← lt' k x).map (!·)) R st := by
  intro i R hi hR
  obtain ⟨p,e,hS,hb⟩ := hP i hi
  refine wpS_bind (wpS_elem e ?_)
  unfold bey at hb
  cases left with
  | true =>
   rw [if_pos rfl] at hb ⊢
   exact C.ok st _ _ _ hF hS hk (by rw [hb]; exact hR)
  | false =>
   rw [if_neg Bool.false_ne_true] at hb ⊢
   refine wpS_bind (C.ok st _ _ _ hF hk hS (wpS_pure ?_))
   show R (some (!C.O.blt (C.key k) (C.key p))) st
   rw [hb]
   exact hR
 have no:∀ i j,i ≤ j → j < n → P i = false → P j = false := fun i j hij hj hi => by
  cases e:P j with
  | false => rfl
  | true => rw [mono i j hij hj e] at hi; cases hi
 refine wpS_bind (ask hint _ hh ?_)
 dsimp only
 cases e0:P hint with
 | true =>
  rw [if_pos rfl]
  refine wpS_bind (wpS_mono (wpS_forRange (I := fun x c st' => st' = st ∧ ∃ l o,c = (none,l,o) ∧ x + 1 ≤ o ∧ l < o ∧ hint + l < n ∧ P (hint + l) = true)
   (Q := fun c st' => st' = st ∧ ∃ l o,c = (none,l,o) ∧ l < o ∧ hint + l < n ∧ P (hint + l) = true ∧ (n - hint ≤ o ∨ (o < n - hint ∧ P (hint + o) = false))) ?s ?e ⟨rfl,0,1,rfl,by lia,by lia,by omega,e0⟩) ?p)
  case s =>
   rintro x c st' _ hx ⟨rfl,l,o,rfl,h1,h2,h3,h4⟩
   dsimp only
   by_cases hge:o ≥ n - hint
   ·rw [if_pos hge]
    exact wpS_pure ⟨rfl,l,o,rfl,h2,h3,h4,.inl hge⟩
   ·rw [if_neg hge]
    refine wpS_bind (ask (hint + o) _ (by lia) ?_)
    dsimp only
    cases e1:P (hint + o) with
    | true => exact wpS_pure ⟨rfl,o,2 * o + 1,rfl,by lia,by lia,by lia,e1⟩
    | false => exact wpS_pure ⟨rfl,l,o,rfl,h2,h3,h4,.inr ⟨by lia,e1⟩⟩
  case e =>
   rintro c st' ⟨rfl,l,o,rfl,h1,h2,h3,h4⟩
   exact ⟨rfl,l,o,rfl,h2,h3,h4,.inl (by lia)⟩
  case p =>
   rintro c st' ⟨rfl,l,o,rfl,h2,h3,h4,h5⟩
   dsimp only
   have q1:hint + l + 1 ≤ hint + min o (n - hint) := by omega
   have q2:hint + min o (n - hint) ≤ n := by omega
   have q3:∀ i,i < hint + l + 1 → P i = true := fun i hi => mono i _ (by lia) h3 h4
   have q4:∀ i,hint + min o (n - hint) ≤ i → i < n → P i = false := fun i hi1 hi2 => by
    rcases h5 with h5 | ⟨h5,h6⟩
    ·omega
    ·exact no _ i (by lia) hi2 h6
   generalize hint + l + 1 = lo0 at q1 q3 ⊢
   generalize hint + min o (n - hint) = hi0 at q1 q2 q4 ⊢
   rename SortSt => st
   refine wpS_bind (wpS_mono (wpS_forRange (I := fun x c st' => st' = st ∧ ∃ l r,c = (none,l,r) ∧ l ≤ r ∧ r ≤ n ∧ r - l ≤ n - x ∧ (∀ i,i < l → P i = true) ∧ (∀ i,r ≤ i → i < n → P i = false))
    (Q := fun c st' => st' = st ∧ ∃ l,c = (none,l,l) ∧ l ≤ n ∧ (∀ i,i < l → P i = true) ∧ (∀ i,l ≤ i → i < n → P i = false)) ?s2 ?e2 ⟨rfl,lo0,hi0,rfl,q1,q2,by lia,q3,q4⟩) ?p2)
   case s2 =>
    rintro x c st' _ hx ⟨rfl,l,r,rfl,h1,h2,h3,h4,h5⟩
    dsimp only
    by_cases hge:l ≥ r
    ·rw [if_pos hge]
     have:l = r := by lia
     subst this
     exact wpS_pure ⟨rfl,l,rfl,h2,h4,h5⟩
    ·rw [if_neg hge]
     refine wpS_bind (ask (l + (r - l) / 2) _ (by lia) ?_)
     dsimp only
     cases e1:P (l + (r - l) / 2) with
     | true => exact wpS_pure ⟨rfl,_,r,rfl,by lia,h2,by omega,fun i hi => mono i _ (by lia) (by lia) e1,h5⟩
     | false => exact wpS_pure ⟨rfl,l,_,rfl,by lia,by lia,by omega,h4,fun i hi1 hi2 => no _ i hi1 hi2 e1⟩
   case e2 =>
    rintro c st' ⟨rfl,l,r,rfl,h1,h2,h3,h4,h5⟩
    have:l = r := by lia
    subst this
    exact ⟨rfl,l,rfl,h2,h4,h5⟩
   case p2 =>
    rintro c st' ⟨rfl,l,rfl,h2,h4,h5⟩
    dsimp only
    exact wpS_pure (h l h2 h4 h5)
 | false =>
  rw [if_neg Bool.false_ne_true]
  refine wpS_bind (wpS_mono (wpS_forRange (I := fun x c st' => st' = st ∧ ∃ l o,c = (none,l,o) ∧ x + 1 ≤ o ∧ l < o ∧ l ≤ hint ∧ P (hint - l) = false)
   (Q := fun c st' => st' = st ∧ ∃ l o,c = (none,l,o) ∧ l < o ∧ l ≤ hint ∧ P (hint - l) = false ∧ (hint + 1 ≤ o ∨ (o < hint + 1 ∧ P (hint - o) = true))) ?sb ?eb ⟨rfl,0,1,rfl,by lia,by lia,by lia,e0⟩) ?pb)
  case sb =>
   rintro x c st' _ hx ⟨rfl,l,o,rfl,h1,h2,h3,h4⟩
   dsimp only
   by_cases hge:o ≥ hint + 1
   ·rw [if_pos hge]
    exact wpS_pure ⟨rfl,l,o,rfl,h2,h3,h4,.inl hge⟩
   ·rw [if_neg hge]
    refine wpS_bind (ask (hint - o) _ (by omega) ?_)
    dsimp only
    cases e1:P (hint - o) with
    | true => exact wpS_pure ⟨rfl,l,o,rfl,h2,h3,h4,.inr ⟨by lia,e1⟩⟩
    | false => exact wpS_pure ⟨rfl,o,2 * o + 1,rfl,by lia,by lia,by lia,e1⟩
  case eb =>
   rintro c st' ⟨rfl,l,o,rfl,h1,h2,h3,h4⟩
   exact ⟨rfl,l,o,rfl,h2,h3,h4,.inl (by lia)⟩
  case pb =>
   rintro c st' ⟨rfl,l,o,rfl,h2,h3,h4,h5⟩
   dsimp only
   have q1:hint + 1 - min o (hint + 1) ≤ hint - l := by omega
   have q2:hint - l ≤ n := by lia
   have q3:∀ i,i < hint + 1 - min o (hint + 1) → P i = true := fun i hi => by
    rcases h5 with h5 | ⟨h5,h6⟩
    ·omega
    ·exact mono i _ (by omega) (by omega) h6
   have q4:∀ i,hint - l ≤ i → i < n → P i = false := fun i hi1 hi2 => no _ i hi1 hi2 h4
   generalize hint + 1 - min o (hint + 1) = lo0 at q1 q3 ⊢
   generalize hint - l = hi0 at q1 q2 q4 ⊢
   rename SortSt => st
   refine wpS_bind (wpS_mono (wpS_forRange (I := fun x c st' => st' = st ∧ ∃ l r,c = (none,l,r) ∧ l ≤ r ∧ r ≤ n ∧ r - l ≤ n - x ∧ (∀ i,i < l → P i = true) ∧ (∀ i,r ≤ i → i < n → P i = false))
    (Q := fun c st' => st' = st ∧ ∃ l,c = (none,l,l) ∧ l ≤ n ∧ (∀ i,i < l → P i = true) ∧ (∀ i,l ≤ i → i < n → P i = false)) ?s3 ?e3 ⟨rfl,lo0,hi0,rfl,q1,q2,by lia,q3,q4⟩) ?p3)
   case s3 =>
    rintro x c st' _ hx ⟨rfl,l,r,rfl,h1,h2,h3,h4,h5⟩
    dsimp only
    by_cases hge:l ≥ r
    ·rw [if_pos hge]
     have:l = r := by lia
     subst this
     exact wpS_pure ⟨rfl,l,rfl,h2,h4,h5⟩
    ·rw [if_neg hge]
     refine wpS_bind (ask (l + (r - l) / 2) _ (by lia) ?_)
     dsimp only
     cases e1:P (l + (r - l) / 2) with
     | true => exact wpS_pure ⟨rfl,_,r,rfl,by lia,h2,by omega,fun i hi => mono i _ (by lia) (by lia) e1,h5⟩
     | false => exact wpS_pure ⟨rfl,l,_,rfl,by lia,by lia,by omega,h4,fun i hi1 hi2 => no _ i hi1 hi2 e1⟩
   case e3 =>
    rintro c st' ⟨rfl,l,r,rfl,h1,h2,h3,h4,h5⟩
    have:l = r := by lia
    subst this
    exact ⟨rfl,l,rfl,h2,h4,h5⟩
   case p3 =>
    rintro c st' ⟨rfl,l,rfl,h2,h4,h5⟩
    dsimp only
    exact wpS_pure (h l h2 h4 h5)
end
end Tim
namespace Tim
open PySem PyProof.Rows
section
variable {prog:Program} {w:World} {A:Around} {E:Value → Shared → Prop} {s:Shared}
noncomputable def le (C:Cmp prog w A E s) (p q:Keyed):Prop := C.O.kle (C.key p) (C.key q)
theorem le_trans {C:Cmp prog w A E s} {p q r:Keyed} (h:le C p q) (h':le C q r):le C p r := KeyOrd.kle_trans h h'
theorem le_of_lt {C:Cmp prog w A E s} {p q:Keyed} (h:C.O.blt (C.key p) (C.key q) = true):le C p q := KeyOrd.kle_of_klt h
theorem le_of_not {C:Cmp prog w A E s} {p q:Keyed} (h:C.O.blt (C.key p) (C.key q) = false):le C q p := h
structure MI (C:Cmp prog w A E s) (a b o:List Keyed) (ia ib:Nat):Prop where
 la:ia ≤ a.length
 lb:ib ≤ b.length
 pm:o.Perm (a.take ia ++ b.take ib)
 so:o.Pairwise (le C)
 xa:∀ x ∈ o,∀ y ∈ a.drop ia,le C x y
 xb:∀ x ∈ o,∀ y ∈ b.drop ib,le C x y
structure Mgd (C:Cmp prog w A E s) (a b o:List Keyed):Prop where
 pm:o.Perm (a ++ b)
 so:o.Pairwise (le C)
section
variable {C:Cmp prog w A E s} {a b o:List Keyed} {ia ib:Nat}
theorem MI.size (h:MI C a b o ia ib):o.length = ia + ib := by
 have := h.pm.length_eq
 rw [List.length_append,List.length_take,List.length_take] at this
 have := h.la
 have := h.lb
 lia
theorem drop_cut {α:Type} (xs:List α) (i k:Nat):xs.drop i = (xs.drop i).take k ++ xs.drop (i + k) := by
 rw [← List.drop_drop,List.take_append_drop]
theorem MI.pushA (h:MI C a b o ia ib) (k:Nat) (hk:ia + k ≤ a.length) (sa:a.Pairwise (le C)) (c:∀ x ∈ (a.drop ia).take k,∀ y ∈ b.drop ib,le C x y):MI C a b (o ++ (a.drop ia).take k) (ia + k) ib := by
 have sd:(a.drop ia).Pairwise (le C) := sa.sublist (List.drop_sublist _ _)
 rw [drop_cut a ia k,List.pairwise_append] at sd
 refine ⟨hk,h.lb,?_,?_,?_,?_⟩
 ·refine (h.pm.append_right _).trans ?_
  rw [List.take_add,List.append_assoc,List.append_assoc]
  exact List.perm_append_comm.append_left _
 ·rw [List.pairwise_append]
  exact ⟨h.so,sd.1,fun x hx y hy => h.xa x hx y (List.mem_of_mem_take hy)⟩
 ·intro x hx y hy
  rcases List.mem_append.mp hx with hx | hx
  ·exact h.xa x hx y (by rw [drop_cut a ia k]; exact List.mem_append_right _ hy)
  ·exact sd.2.2 x hx y hy
 ·intro x hx y hy
  rcases List.mem_append.mp hx with hx | hx
  ·exact h.xb x hx y hy
  ·exact c x hx y hy
theorem MI.pushB (h:MI C a b o ia ib) (k:Nat) (hk:ib + k ≤ b.length) (sb:b.Pairwise (le C)) (c:∀ x ∈ (b.drop ib).take k,∀ y ∈ a.drop ia,le C x y):MI C a b (o ++ (b.drop ib).take k) ia (ib + k) := by
 have sd:(b.drop ib).Pairwise (le C) := sb.sublist (List.drop_sublist _ _)
 rw [drop_cut b ib k,List.pairwise_append] at sd
 refine ⟨h.la,hk,?_,?_,?_,?_⟩
 ·refine (h.pm.append_right _).trans ?_
  rw [List.take_add,List.append_assoc]
 ·rw [List.pairwise_append]
  exact ⟨h.so,sd.1,fun x hx y hy => h.xb x hx y (List.mem_of_mem_take hy)⟩
 ·intro x hx y hy
  rcases List.mem_append.mp hx with hx | hx
  ·exact h.xa x hx y hy
  ·exact c x hx y hy
 ·intro x hx y hy
  rcases List.mem_append.mp hx with hx | hx
  ·exact h.xb x hx y (by rw [drop_cut b ib k]; exact List.mem_append_right _ hy)
  ·exact sd.2.2 x hx y hy
theorem MI.all (h:MI C a b o ia ib) (sa:a.Pairwise (le C)) (sb:b.Pairwise (le C)) (c:∀ x ∈ a.drop ia,∀ y ∈ b.drop ib,le C x y):Mgd C a b (o ++ a.drop ia ++ b.drop ib) := by
 have z := (h.pushA (a.length - ia) (by have := h.la; lia) sa (fun x hx y hy => c x (List.mem_of_mem_take hx) y hy))
 have e1:(a.drop ia).take (a.length - ia) = a.drop ia := List.take_of_length_le (by rw [List.length_drop]; exact Nat.le_refl _)
 rw [e1,show ia + (a.length - ia) = a.length by have := h.la; lia] at z
 have y := z.pushB (b.length - ib) (by have := h.lb; lia) sb (fun x hx y hy => by rw [List.drop_length] at hy; cases hy)
 have e2:(b.drop ib).take (b.length - ib) = b.drop ib := List.take_of_length_le (by rw [List.length_drop]; exact Nat.le_refl _)
 rw [e2,show ib + (b.length - ib) = b.length by have := h.lb; lia] at y
 exact ⟨by have := y.pm; rwa [List.take_length,List.take_length] at this,y.so⟩
theorem MI.allB (h:MI C a b o ia ib) (sa:a.Pairwise (le C)) (sb:b.Pairwise (le C)) (c:∀ x ∈ b.drop ib,∀ y ∈ a.drop ia,le C x y):Mgd C a b (o ++ b.drop ib ++ a.drop ia) := by
 have z := (h.pushB (b.length - ib) (by have := h.lb; lia) sb (fun x hx y hy => c x (List.mem_of_mem_take hx) y hy))
 have e1:(b.drop ib).take (b.length - ib) = b.drop ib := List.take_of_length_le (by rw [List.length_drop]; exact Nat.le_refl _)
 rw [e1,show ib + (b.length - ib) = b.length by have := h.lb; lia] at z
 have y := z.pushA (a.length - ia) (by have := h.la; lia) sa (fun x hx y hy => by rw [List.drop_length] at hy; cases hy)
 have e2:(a.drop ia).take (a.length - ia) = a.drop ia := List.take_of_length_le (by rw [List.length_drop]; exact Nat.le_refl _)
 rw [e2,show ia + (a.length - ia) = a.length by have := h.la; lia] at y
 exact ⟨by have := y.pm; rwa [List.take_length,List.take_length] at this,y.so⟩
end
theorem galR {C:Cmp prog w A E s} {k:Keyed} {arr:Array Keyed} {base n hint:Nat} {st:SortSt} {Q:Option Nat → SortSt → Prop} (hF:C.F st) (hk:C.S k) (hh:hint < n)
  (hS:∀ i,i < n → ∃ p,arr[base + i]? = some p ∧ C.S p) (so:∀ i j p q,i ≤ j → j < n → arr[base + i]? = some p → arr[base + j]? = some q → le C p q)
  (h:∀ m,m ≤ n → (∀ i p,i < m → arr[base + i]? = some p → le C p k) → (∀ i p,m ≤ i → i < n → arr[base + i]? = some p → C.O.blt (C.key k) (C.key p) = true) → Q (some m) st):wpS (model prog w) A E s (gal false k arr base n hint) Q st := by
 refine gal_ok (P := fun i => match arr[base + i]? with | some p => bey C false k p | none => false) hF hk hh (fun i hi => ?_) (fun i j hij hj e => ?_) fun m hm h1 h2 => h m hm (fun i p hi e => ?_) fun i p hi1 hi2 e => ?_
 ·obtain ⟨p,e,hp⟩ := hS i hi
  exact ⟨p,e,hp,by rw [e]⟩
 ·obtain ⟨p,e1,_⟩ := hS i (by lia)
  obtain ⟨q,e2,_⟩ := hS j hj
  try dsimp only at e ⊢
  rw [e2] at e
  rw [e1]
  try dsimp only at e ⊢
  unfold bey at e ⊢
  rw [if_neg Bool.false_ne_true,Bool.not_eq_true'] at e ⊢
  exact le_trans (so i j p q hij hj e1 e2) (le_of_not e)
 ·have z := h1 i hi
  try dsimp only at z
  rw [e] at z
  try dsimp only at z
  unfold bey at z
  rw [if_neg Bool.false_ne_true,Bool.not_eq_true'] at z
  exact le_of_not z
 ·have z := h2 i hi1 hi2
  try dsimp only at z
  rw [e] at z
  try dsimp only at z
  unfold bey at z
  rw [if_neg Bool.false_ne_true] at z
  simpa using z
theorem galL {C:Cmp prog w A E s} {k:Keyed} {arr:Array Keyed} {base n hint:Nat} {st:SortSt} {Q:Option Nat → SortSt → Prop} (hF:C.F st) (hk:C.S k) (hh:hint < n)
  (hS:∀ i,i < n → ∃ p,arr[base + i]? = some p ∧ C.S p) (so:∀ i j p q,i ≤ j → j < n → arr[base + i]? = some p → arr[base + j]? = some q → le C p q)
  (h:∀ m,m ≤ n → (∀ i p,i < m → arr[base + i]? = some p → C.O.blt (C.key p) (C.key k) = true) → (∀ i p,m ≤ i → i < n → arr[base + i]? = some p → le C k p) → Q (some m) st):wpS (model prog w) A E s (gal true k arr base n hint) Q st := by
 refine gal_ok (P := fun i => match arr[base + i]? with | some p => bey C true k p | none => false) hF hk hh (fun i hi => ?_) (fun i j hij hj e => ?_) fun m hm h1 h2 => h m hm (fun i p hi e => ?_) fun i p hi1 hi2 e => ?_
 ·obtain ⟨p,e,hp⟩ := hS i hi
  exact ⟨p,e,hp,by rw [e]⟩
 ·obtain ⟨p,e1,_⟩ := hS i (by lia)
  obtain ⟨q,e2,_⟩ := hS j hj
  try dsimp only at e ⊢
  rw [e2] at e
  rw [e1]
  try dsimp only at e ⊢
  unfold bey at e ⊢
  rw [if_pos rfl] at e ⊢
  exact KeyOrd.klt_of_kle_of_klt (so i j p q hij hj e1 e2) e
 ·have z := h1 i hi
  try dsimp only at z
  rw [e] at z
  try dsimp only at z
  unfold bey at z
  rw [if_pos rfl] at z
  exact z
 ·have z := h2 i hi1 hi2
  try dsimp only at z
  rw [e] at z
  try dsimp only at z
  unfold bey at z
  rw [if_pos rfl] at z
  exact le_of_not z
theorem ext_all (a:Array Keyed) (i:Nat):(a.extract i).toList = a.toList.drop i := by
 rw [Array.toList_extract,List.extract_eq_drop_take]
 exact List.take_of_length_le (by rw [List.length_drop]; simp)
theorem ext_k (a:Array Keyed) (i k:Nat):(a.extract i (i + k)).toList = (a.toList.drop i).take k := by
 rw [Array.toList_extract]
 simp [List.extract_eq_drop_take]
theorem one_k {xs:Array Keyed} {i:Nat} {p:Keyed} (e:xs[i]? = some p):(xs.toList.drop i).take 1 = [p] := by
 have hi:i < xs.toList.length := by have := (Array.getElem?_eq_some_iff.mp e).1; simpa using this
 rw [List.drop_eq_getElem_cons hi]
 have:xs.toList[i] = p := by
  have := (Array.getElem?_eq_some_iff.mp e).2
  rw [← this]
  simp
 rw [this]
 rfl
theorem at_drop {xs:Array Keyed} {i:Nat} {y:Keyed} (h:y ∈ xs.toList.drop i):∃ j,xs[i + j]? = some y := by
 obtain ⟨j,hj⟩ := List.getElem?_of_mem h
 exact ⟨j,by rw [List.getElem?_drop] at hj; simpa using hj⟩
theorem at_take {xs:Array Keyed} {i k:Nat} {y:Keyed} (h:y ∈ (xs.toList.drop i).take k):∃ j,j < k ∧ xs[i + j]? = some y := by
 obtain ⟨j,hj⟩ := List.getElem?_of_mem h
 rw [List.getElem?_take] at hj
 split at hj
 ·exact ⟨j,‹_›,by rw [List.getElem?_drop] at hj; simpa using hj⟩
 ·cases hj
theorem mem_at {xs:Array Keyed} {i:Nat} {p:Keyed} (e:xs[i]? = some p):p ∈ xs.toList := by
 have := Array.mem_of_getElem? e
 simpa using this
theorem sorted_at {C:Cmp prog w A E s} {xs:Array Keyed} (so:xs.toList.Pairwise (le C)) {i j:Nat} {p q:Keyed} (hij:i ≤ j) (e1:xs[i]? = some p) (e2:xs[j]? = some q):le C p q := by
 rcases Nat.lt_or_ge i j with h | h
 ·obtain ⟨h1,rfl⟩ := Array.getElem?_eq_some_iff.mp e1
  obtain ⟨h2,rfl⟩ := Array.getElem?_eq_some_iff.mp e2
  have z := List.pairwise_iff_getElem.mp so i j (by simpa using h1) (by simpa using h2) h
  simpa using z
 ·have:i = j := by lia
  subst this
  rw [e1] at e2
  cases e2
  exact KeyOrd.kle_refl _
structure Two (C:Cmp prog w A E s) (a b:Array Keyed) (a0 b0 aL bL:Keyed):Prop where
 Sa:∀ p ∈ a.toList,C.S p
 Sb:∀ p ∈ b.toList,C.S p
 sa:a.toList.Pairwise (le C)
 sb:b.toList.Pairwise (le C)
 ea:a[0]? = some a0
 eb:b[0]? = some b0
 eA:a[a.size - 1]? = some aL
 eB:b[b.size - 1]? = some bL
 first:C.O.blt (C.key b0) (C.key a0) = true
 last:C.O.blt (C.key bL) (C.key aL) = true
section
variable {C:Cmp prog w A E s} {a b:Array Keyed} {a0 b0 aL bL:Keyed}
theorem Two.na (T:Two C a b a0 b0 aL bL):0 < a.size := (Array.getElem?_eq_some_iff.mp T.ea).1
theorem Two.nb (T:Two C a b a0 b0 aL bL):0 < b.size := (Array.getElem?_eq_some_iff.mp T.eb).1
theorem Two.low (T:Two C a b a0 b0 aL bL) {x:Keyed} (h:x ∈ b.toList):le C x aL := by
 obtain ⟨j,hj⟩ := List.getElem?_of_mem h
 have e:b[j]? = some x := by simpa using hj
 have hj2 := (Array.getElem?_eq_some_iff.mp e).1
 exact le_trans (sorted_at T.sb (by omega) e T.eB) (le_of_lt T.last)
theorem Two.start (T:Two C a b a0 b0 aL bL):MI C a.toList b.toList [b0] 0 1 := by
 have z:MI C a.toList b.toList [] 0 0 := ⟨Nat.zero_le _,Nat.zero_le _,.nil,.nil,(fun x hx => by cases hx),fun x hx => by cases hx⟩
 have y := z.pushB 1 (by have := T.nb; simp; lia) T.sb (fun x hx y hy => ?_)
 ·rw [one_k T.eb] at y
  exact y
 ·rw [one_k T.eb] at hx
  rw [List.mem_singleton.mp hx]
  obtain ⟨j,hj⟩ := at_drop hy
  exact le_trans (le_of_lt T.first) (sorted_at T.sa (Nat.zero_le _) T.ea hj)
end
noncomputable abbrev sg (st:SortSt) (g:Nat):SortSt := SortSt.mk' (kindOf st) (arrOf st) (pendingOf st) g (failedOf st)
theorem mlo_ok {C:Cmp prog w A E s} {a b:Array Keyed} {a0 b0 aL bL:Keyed} {st:SortSt} {Q:Array Keyed → SortSt → Prop} (hF:∀ (g:Nat),C.F (sg st g)) (T:Two C a b a0 b0 aL bL)
  (h:∀ r g,Mgd C a.toList b.toList r.toList → Q r (sg st g)):wpS (model prog w) A E s (mlo a b) Q st := by
 have na := T.na
 have nb := T.nb
 have doneB:∀ (out:Array Keyed) (ia ib:Nat),MI C a.toList b.toList out.toList ia ib → ib = b.size → Mgd C a.toList b.toList (out ++ a.extract ia ++ b.extract ib).toList := fun out ia ib M e => by
  rw [Array.toList_append,Array.toList_append,ext_all,ext_all]
  refine M.all T.sa T.sb fun x _ y hy => ?_
  rw [e,List.drop_of_length_le (by simp)] at hy
  cases hy
 have doneA:∀ (out:Array Keyed) (ia ib:Nat),MI C a.toList b.toList out.toList ia ib → ia = a.size → Mgd C a.toList b.toList (out ++ a.extract ia ++ b.extract ib).toList := fun out ia ib M e => by
  rw [Array.toList_append,Array.toList_append,ext_all,ext_all]
  refine M.all T.sa T.sb fun x hx y _ => ?_
  rw [e,List.drop_of_length_le (by simp)] at hx
  cases hx
 have doneL:∀ (out:Array Keyed) (ia ib:Nat),MI C a.toList b.toList out.toList ia ib → ia + 1 = a.size → Mgd C a.toList b.toList (out ++ b.extract ib ++ a.extract ia).toList := fun out ia ib M e => by
  rw [Array.toList_append,Array.toList_append,ext_all,ext_all]
  refine M.allB T.sa T.sb fun x hx y hy => ?_
  have hj:a.toList.drop ia = [aL] := by
   have z := one_k (i := ia) (p := aL) (by rw [show ia = a.size - 1 by lia]; exact T.eA)
   rw [List.take_of_length_le (by rw [List.length_drop]; simp; lia)] at z
   exact z
  rw [hj] at hy
  rw [List.mem_singleton.mp hy]
  exact T.low (List.mem_of_mem_drop hx)
 have pA:∀ (out:Array Keyed) (ia ib:Nat) (p q:Keyed),MI C a.toList b.toList out.toList ia ib → a[ia]? = some p → b[ib]? = some q → le C p q → MI C a.toList b.toList (out.push p).toList (ia + 1) ib := fun out ia ib p q M e1 e2 hpq => by
  rw [Array.toList_push,← one_k e1]
  refine M.pushA 1 (by have := (Array.getElem?_eq_some_iff.mp e1).1; simp; lia) T.sa fun x hx y hy => ?_
  rw [one_k e1] at hx
  rw [List.mem_singleton.mp hx]
  obtain ⟨j,hj⟩ := at_drop hy
  exact le_trans hpq (sorted_at T.sb (by lia) e2 hj)
 have pB:∀ (out:Array Keyed) (ia ib:Nat) (p q:Keyed),MI C a.toList b.toList out.toList ia ib → a[ia]? = some p → b[ib]? = some q → le C q p → MI C a.toList b.toList (out.push q).toList ia (ib + 1) := fun out ia ib p q M e1 e2 hpq => by
  rw [Array.toList_push,← one_k e2]
  refine M.pushB 1 (by have := (Array.getElem?_eq_some_iff.mp e2).1; simp; lia) T.sb fun x hx y hy => ?_
  rw [one_k e2] at hx
  rw [List.mem_singleton.mp hx]
  obtain ⟨j,hj⟩ := at_drop hy
  exact le_trans hpq (sorted_at T.sa (by lia) e1 hj)
 refine wpS_bind (wpS_lift (wpAny_rule ⟨rfl,?_⟩))
 dsimp only
 refine wpS_bind (wpS_elem T.eb ?_)
 by_cases h1:1 = b.size
 ·rw [if_pos (by simpa using h1)]
  exact wpS_pure (h _ (gallopOf st) (doneB #[b0] 0 1 T.start h1))
 rw [if_neg (by simpa using h1)]
 by_cases h2:0 + 1 = a.size
 ·rw [if_pos (by simpa using h2)]
  exact wpS_pure (h _ (gallopOf st) (doneL #[b0] 0 1 T.start h2))
 rw [if_neg (by simpa using h2)]
 refine wpS_bind (wpS_get ?_)
 refine wpS_bind (wpS_mono (wpS_forRange (I := fun x c st' => ∃ (out:Array Keyed) (ia ib mg g:Nat),c = (none,out,ia,ib,mg) ∧ st' = sg st g ∧ MI C a.toList b.toList out.toList ia ib ∧ ia + 1 < a.size ∧ ib < b.size ∧ x + 1 ≤ ia + ib)
  (Q := fun c st' => ∃ (r:Array Keyed) (g:Nat),c.1 = some r ∧ st' = sg st g ∧ Mgd C a.toList b.toList r.toList) ?oS ?oE ⟨#[b0],0,1,_,gallopOf st,rfl,rfl,T.start,by lia,by lia,by lia⟩) ?oP)
 case oP =>
  rintro ⟨c1,c2⟩ st' ⟨r,g,rfl,rfl,M⟩
  exact wpS_pure (h r g M)
 case oE =>
  rintro c st' ⟨out,ia,ib,mg,g,rfl,rfl,M,q1,q2,q3⟩
  lia
 case oS =>
  rintro x c st' _ hx ⟨out,ia,ib,mg,g,rfl,rfl,M,q1,q2,q3⟩
  dsimp only
  refine wpS_bind (wpS_mono (wpS_forRange (I := fun y c st' => ∃ (out1:Array Keyed) (ja jb ac bc:Nat),c = (none,out1,ja,jb,ac,bc) ∧ st' = sg st g ∧ MI C a.toList b.toList out1.toList ja jb ∧ ja + 1 < a.size ∧ jb < b.size ∧ ia + ib + y ≤ ja + jb)
   (Q := fun c st' => st' = sg st g ∧ ((∃ (r:Array Keyed),c.1 = some r ∧ Mgd C a.toList b.toList r.toList) ∨ ∃ (out1:Array Keyed) (ja jb ac bc:Nat),c = (none,out1,ja,jb,ac,bc) ∧ MI C a.toList b.toList out1.toList ja jb ∧ ja + 1 < a.size ∧ jb < b.size ∧ ia + ib + 1 ≤ ja + jb)) ?s1 ?e1 ⟨out,ia,ib,0,0,rfl,rfl,M,q1,q2,by lia⟩) ?p1)
  case e1 =>
   rintro c st' ⟨out1,ja,jb,ac,bc,rfl,rfl,M1,r1,r2,r3⟩
   exact ⟨rfl,.inr ⟨out1,ja,jb,ac,bc,rfl,M1,r1,r2,by lia⟩⟩
  case s1 =>
   rintro y c st' _ hy ⟨out1,ja,jb,ac,bc,rfl,rfl,M1,r1,r2,r3⟩
   have ea:a[ja]? = some a[ja] := Array.getElem?_eq_getElem (by lia)
   have eb:b[jb]? = some b[jb] := Array.getElem?_eq_getElem r2
   dsimp only
   refine wpS_bind (wpS_elem eb (wpS_bind (wpS_elem ea (wpS_bind (C.ok _ _ _ _ (hF g) (T.Sb _ (by simp)) (T.Sa _ (by simp)) ?_)))))
   dsimp only
   cases e0:C.O.blt (C.key b[jb]) (C.key a[ja]) with
   | true =>
    rw [if_pos rfl]
    refine wpS_bind (wpS_elem eb ?_)
    have M2 := pB out1 ja jb _ _ M1 ea eb (le_of_lt e0)
    by_cases z:jb + 1 = b.size
    ·rw [if_pos (by simpa using z)]
     exact wpS_pure ⟨rfl,.inl ⟨_,rfl,doneB _ _ _ M2 z⟩⟩
    ·rw [if_neg (by simpa using z)]
     split
     ·exact wpS_pure ⟨rfl,.inr ⟨_,_,_,_,_,rfl,M2,r1,by lia,by lia⟩⟩
     ·exact wpS_pure ⟨_,_,_,_,_,rfl,rfl,M2,r1,by lia,by lia⟩
   | false =>
    rw [if_neg Bool.false_ne_true]
    refine wpS_bind (wpS_elem ea ?_)
    have M2 := pA out1 ja jb _ _ M1 ea eb (le_of_not e0)
    by_cases z:ja + 1 + 1 = a.size
    ·rw [if_pos (by simpa using z)]
     exact wpS_pure ⟨rfl,.inl ⟨_,rfl,doneL _ _ _ M2 z⟩⟩
    ·rw [if_neg (by simpa using z)]
     split
     ·exact wpS_pure ⟨rfl,.inr ⟨_,_,_,_,_,rfl,M2,by lia,r2,by lia⟩⟩
     ·exact wpS_pure ⟨_,_,_,_,_,rfl,rfl,M2,by lia,r2,by lia⟩
  case p1 =>
   rintro ⟨c1,c2⟩ st' ⟨rfl,⟨r,rfl,Mr⟩ | ⟨out1,ja,jb,ac,bc,e,M1,r1,r2,r3⟩⟩
   ·exact wpS_pure ⟨r,g,rfl,rfl,Mr⟩
   cases e
   dsimp only
   refine wpS_bind (wpS_lift (wpAny_rule ⟨rfl,?_⟩))
   refine wpS_bind (wpS_mono (wpS_forRange (I := fun y c st' => ∃ (out2:Array Keyed) (ka kb mg2 ac2 bc2 g2:Nat),c = (none,out2,ka,kb,mg2,ac2,bc2) ∧ st' = sg st g2 ∧ MI C a.toList b.toList out2.toList ka kb ∧ ka + 1 < a.size ∧ kb < b.size ∧ ia + ib + 1 ≤ ka + kb)
    (Q := fun c st' => ∃ g2,st' = sg st g2 ∧ ((∃ (r:Array Keyed),c.1 = some r ∧ Mgd C a.toList b.toList r.toList) ∨ ∃ (out2:Array Keyed) (ka kb mg2 ac2 bc2:Nat),c = (none,out2,ka,kb,mg2,ac2,bc2) ∧ MI C a.toList b.toList out2.toList ka kb ∧ ka + 1 < a.size ∧ kb < b.size ∧ ia + ib + 1 ≤ ka + kb)) ?s2 ?e2 ⟨out1,ja,jb,_,_,_,g,rfl,rfl,M1,r1,r2,r3⟩) ?p2)
   case e2 =>
    rintro c st' ⟨out2,ka,kb,mg2,ac2,bc2,g2,rfl,rfl,M2,t1,t2,t3⟩
    exact ⟨g2,rfl,.inr ⟨out2,ka,kb,mg2,ac2,bc2,rfl,M2,t1,t2,t3⟩⟩
   case p2 =>
    rintro ⟨c1,c2⟩ st' ⟨g2,rfl,⟨r,rfl,Mr⟩ | ⟨out2,ka,kb,mg2,ac2,bc2,e,M2,t1,t2,t3⟩⟩
    ·exact wpS_pure ⟨r,g2,rfl,rfl,Mr⟩
    cases e
    dsimp only
    exact wpS_bind (wpS_modify (wpS_pure ⟨out2,ka,kb,_,_,rfl,rfl,M2,t1,t2,by lia⟩))
   case s2 =>
    rintro y c st' _ hy ⟨out2,ka,kb,mg2,ac2,bc2,g2,rfl,rfl,M2,t1,t2,t3⟩
    obtain ⟨pa,ea⟩:∃ p,a[ka]? = some p := ⟨_,Array.getElem?_eq_getElem (by lia)⟩
    obtain ⟨pb,eb⟩:∃ p,b[kb]? = some p := ⟨_,Array.getElem?_eq_getElem t2⟩
    have Sa:∀ i,i < a.size - ka → ∃ p,a[ka + i]? = some p ∧ C.S p := fun i hi => ⟨a[ka + i],Array.getElem?_eq_getElem (by lia),T.Sa _ (by simp)⟩
    dsimp only
    by_cases hmg:mg2 > 1
    ·rw [if_pos hmg]
     refine wpS_bind (wpS_modify ?_)
     refine wpS_bind (wpS_elem eb ?_)
     refine wpS_bind (galR (hF _) (T.Sb _ (mem_at eb)) (by lia) Sa (fun i j p q hij hj e1 e2 => sorted_at T.sa (by lia) e1 e2) fun m hm c1 c2 => ?_)
     dsimp only
     have M3:MI C a.toList b.toList (out2 ++ a.extract ka (ka + m)).toList (ka + m) kb := by
      rw [Array.toList_append,ext_k]
      refine M2.pushA m (by simp; lia) T.sa fun x hx y hy => ?_
      obtain ⟨i,hi,e⟩ := at_take hx
      obtain ⟨j,hj⟩ := at_drop hy
      exact le_trans (c1 i x hi e) (sorted_at T.sb (by lia) eb hj)
     by_cases hp1:m > 0
     ·rw [if_pos hp1]
      by_cases z0:ka + m + 1 = a.size
      ·rw [if_pos (by simpa using z0)]
       exact wpS_pure ⟨_,rfl,.inl ⟨_,rfl,doneL _ _ _ M3 z0⟩⟩
      rw [if_neg (by simpa using z0)]
      by_cases z1:ka + m = a.size
      ·rw [if_pos (by simpa using z1)]
       exact wpS_pure ⟨_,rfl,.inl ⟨_,rfl,doneA _ _ _ M3 z1⟩⟩
      rw [if_neg (by simpa using z1)]
      obtain ⟨px,eax⟩:∃ p,a[ka + m]? = some p := ⟨_,Array.getElem?_eq_getElem (by lia)⟩
      have hlt := c2 m _ (Nat.le_refl _) (by lia) eax
      refine wpS_bind (wpS_elem eb ?_)
      have M4 := pB (out2 ++ a.extract ka (ka + m)) (ka + m) kb _ _ M3 eax eb (le_of_lt hlt)
      by_cases z:kb + 1 = b.size
      ·rw [if_pos (by simpa using z)]
       exact wpS_pure ⟨_,rfl,.inl ⟨_,rfl,doneB _ _ _ M4 z⟩⟩
      rw [if_neg (by simpa using z)]
      refine wpS_bind (wpS_elem eax ?_)
      have Sb:∀ i,i < b.size - (kb + 1) → ∃ p,b[kb + 1 + i]? = some p ∧ C.S p := fun i hi => ⟨b[kb + 1 + i],Array.getElem?_eq_getElem (by omega),T.Sb _ (by simp)⟩
      refine wpS_bind (galL (hF _) (T.Sa _ (mem_at eax)) (by lia) Sb (fun i j p q hij hj e1 e2 => sorted_at T.sb (by lia) e1 e2) fun m2 hm2 d1 d2 => ?_)
      dsimp only
      have M5:MI C a.toList b.toList ((out2 ++ a.extract ka (ka + m)).push pb ++ b.extract (kb + 1) (kb + 1 + m2)).toList (ka + m) (kb + 1 + m2) := by
       rw [Array.toList_append,ext_k]
       refine M4.pushB m2 (by simp; omega) T.sb fun x hx y hy => ?_
       obtain ⟨i,hi,e⟩ := at_take hx
       obtain ⟨j,hj⟩ := at_drop hy
       exact le_trans (le_of_lt (d1 i x hi e)) (sorted_at T.sa (by lia) eax hj)
      by_cases hp2:m2 > 0
      ·rw [if_pos hp2]
       by_cases z2:kb + 1 + m2 = b.size
       ·rw [if_pos (by simpa using z2)]
        exact wpS_pure ⟨_,rfl,.inl ⟨_,rfl,doneB _ _ _ M5 z2⟩⟩
       rw [if_neg (by simpa using z2)]
       have hky:kb + 1 + m2 < b.size := by omega
       obtain ⟨py,eby⟩:∃ p,b[kb + 1 + m2]? = some p := ⟨_,Array.getElem?_eq_getElem hky⟩
       have hle := d2 m2 _ (Nat.le_refl _) (by omega) eby
       refine wpS_bind (wpS_elem eax ?_)
       have M6 := pA ((out2 ++ a.extract ka (ka + m)).push pb ++ b.extract (kb + 1) (kb + 1 + m2)) (ka + m) (kb + 1 + m2) _ _ M5 eax eby hle
       by_cases z3:(ka + m) + 1 + 1 = a.size
       ·rw [if_pos (by simpa using z3)]
        exact wpS_pure ⟨_,rfl,.inl ⟨_,rfl,doneL _ _ _ M6 z3⟩⟩
       rw [if_neg (by simpa using z3)]
       split
       ·exact wpS_pure ⟨_,rfl,.inr ⟨_,_,_,_,_,_,rfl,M6,by lia,hky,by lia⟩⟩
       ·exact wpS_pure ⟨_,_,_,_,_,_,_,rfl,rfl,M6,by lia,hky,by lia⟩
      ·rw [if_neg hp2]
       have hky:kb + 1 < b.size := by lia
       obtain ⟨py,eby⟩:∃ p,b[kb + 1]? = some p := ⟨_,Array.getElem?_eq_getElem hky⟩
       have hle := d2 0 _ (by lia) (by omega) (by rw [Nat.add_zero]; exact eby)
       refine wpS_bind (wpS_elem eax ?_)
       have M6 := pA ((out2 ++ a.extract ka (ka + m)).push pb) (ka + m) (kb + 1) _ _ M4 eax eby hle
       by_cases z3:(ka + m) + 1 + 1 = a.size
       ·rw [if_pos (by simpa using z3)]
        exact wpS_pure ⟨_,rfl,.inl ⟨_,rfl,doneL _ _ _ M6 z3⟩⟩
       rw [if_neg (by simpa using z3)]
       split
       ·exact wpS_pure ⟨_,rfl,.inr ⟨_,_,_,_,_,_,rfl,M6,by lia,hky,by lia⟩⟩
       ·exact wpS_pure ⟨_,_,_,_,_,_,_,rfl,rfl,M6,by lia,hky,by lia⟩
     ·rw [if_neg hp1]
      have eax := ea
      have hlt := c2 0 _ (by lia) (by lia) (by rw [Nat.add_zero]; exact ea)
      refine wpS_bind (wpS_elem eb ?_)
      have M4 := pB out2 ka kb _ _ M2 eax eb (le_of_lt hlt)
      by_cases z:kb + 1 = b.size
      ·rw [if_pos (by simpa using z)]
       exact wpS_pure ⟨_,rfl,.inl ⟨_,rfl,doneB _ _ _ M4 z⟩⟩
      rw [if_neg (by simpa using z)]
      refine wpS_bind (wpS_elem eax ?_)
      have Sb:∀ i,i < b.size - (kb + 1) → ∃ p,b[kb + 1 + i]? = some p ∧ C.S p := fun i hi => ⟨b[kb + 1 + i],Array.getElem?_eq_getElem (by omega),T.Sb _ (by simp)⟩
      refine wpS_bind (galL (hF _) (T.Sa _ (mem_at eax)) (by lia) Sb (fun i j p q hij hj e1 e2 => sorted_at T.sb (by lia) e1 e2) fun m2 hm2 d1 d2 => ?_)
      dsimp only
      have M5:MI C a.toList b.toList (out2.push pb ++ b.extract (kb + 1) (kb + 1 + m2)).toList ka (kb + 1 + m2) := by
       rw [Array.toList_append,ext_k]
       refine M4.pushB m2 (by simp; omega) T.sb fun x hx y hy => ?_
       obtain ⟨i,hi,e⟩ := at_take hx
       obtain ⟨j,hj⟩ := at_drop hy
       exact le_trans (le_of_lt (d1 i x hi e)) (sorted_at T.sa (by lia) eax hj)
      by_cases hp2:m2 > 0
      ·rw [if_pos hp2]
       by_cases z2:kb + 1 + m2 = b.size
       ·rw [if_pos (by simpa using z2)]
        exact wpS_pure ⟨_,rfl,.inl ⟨_,rfl,doneB _ _ _ M5 z2⟩⟩
       rw [if_neg (by simpa using z2)]
       have hky:kb + 1 + m2 < b.size := by omega
       obtain ⟨py,eby⟩:∃ p,b[kb + 1 + m2]? = some p := ⟨_,Array.getElem?_eq_getElem hky⟩
       have hle := d2 m2 _ (Nat.le_refl _) (by omega) eby
       refine wpS_bind (wpS_elem eax ?_)
       have M6 := pA (out2.push pb ++ b.extract (kb + 1) (kb + 1 + m2)) ka (kb + 1 + m2) _ _ M5 eax eby hle
       by_cases z3:ka + 1 + 1 = a.size
       ·rw [if_pos (by simpa using z3)]
        exact wpS_pure ⟨_,rfl,.inl ⟨_,rfl,doneL _ _ _ M6 z3⟩⟩
       rw [if_neg (by simpa using z3)]
       split
       ·exact wpS_pure ⟨_,rfl,.inr ⟨_,_,_,_,_,_,rfl,M6,by lia,hky,by lia⟩⟩
       ·exact wpS_pure ⟨_,_,_,_,_,_,_,rfl,rfl,M6,by lia,hky,by lia⟩
      ·rw [if_neg hp2]
       have hky:kb + 1 < b.size := by lia
       obtain ⟨py,eby⟩:∃ p,b[kb + 1]? = some p := ⟨_,Array.getElem?_eq_getElem hky⟩
       have hle := d2 0 _ (by lia) (by omega) (by rw [Nat.add_zero]; exact eby)
       refine wpS_bind (wpS_elem eax ?_)
       have M6 := pA (out2.push pb) ka (kb + 1) _ _ M4 eax eby hle
       by_cases z3:ka + 1 + 1 = a.size
       ·rw [if_pos (by simpa using z3)]
        exact wpS_pure ⟨_,rfl,.inl ⟨_,rfl,doneL _ _ _ M6 z3⟩⟩
       rw [if_neg (by simpa using z3)]
       split
       ·exact wpS_pure ⟨_,rfl,.inr ⟨_,_,_,_,_,_,rfl,M6,by lia,hky,by lia⟩⟩
       ·exact wpS_pure ⟨_,_,_,_,_,_,_,rfl,rfl,M6,by lia,hky,by lia⟩
    ·rw [if_neg hmg]
     refine wpS_bind (wpS_modify ?_)
     refine wpS_bind (wpS_elem eb ?_)
     refine wpS_bind (galR (hF _) (T.Sb _ (mem_at eb)) (by lia) Sa (fun i j p q hij hj e1 e2 => sorted_at T.sa (by lia) e1 e2) fun m hm c1 c2 => ?_)
     dsimp only
     have M3:MI C a.toList b.toList (out2 ++ a.extract ka (ka + m)).toList (ka + m) kb := by
      rw [Array.toList_append,ext_k]
      refine M2.pushA m (by simp; lia) T.sa fun x hx y hy => ?_
      obtain ⟨i,hi,e⟩ := at_take hx
      obtain ⟨j,hj⟩ := at_drop hy
      exact le_trans (c1 i x hi e) (sorted_at T.sb (by lia) eb hj)
     by_cases hp1:m > 0
     ·rw [if_pos hp1]
      by_cases z0:ka + m + 1 = a.size
      ·rw [if_pos (by simpa using z0)]
       exact wpS_pure ⟨_,rfl,.inl ⟨_,rfl,doneL _ _ _ M3 z0⟩⟩
      rw [if_neg (by simpa using z0)]
      by_cases z1:ka + m = a.size
      ·rw [if_pos (by simpa using z1)]
       exact wpS_pure ⟨_,rfl,.inl ⟨_,rfl,doneA _ _ _ M3 z1⟩⟩
      rw [if_neg (by simpa using z1)]
      obtain ⟨px,eax⟩:∃ p,a[ka + m]? = some p := ⟨_,Array.getElem?_eq_getElem (by lia)⟩
      have hlt := c2 m _ (Nat.le_refl _) (by lia) eax
      refine wpS_bind (wpS_elem eb ?_)
      have M4 := pB (out2 ++ a.extract ka (ka + m)) (ka + m) kb _ _ M3 eax eb (le_of_lt hlt)
      by_cases z:kb + 1 = b.size
      ·rw [if_pos (by simpa using z)]
       exact wpS_pure ⟨_,rfl,.inl ⟨_,rfl,doneB _ _ _ M4 z⟩⟩
      rw [if_neg (by simpa using z)]
      refine wpS_bind (wpS_elem eax ?_)
      have Sb:∀ i,i < b.size - (kb + 1) → ∃ p,b[kb + 1 + i]? = some p ∧ C.S p := fun i hi => ⟨b[kb + 1 + i],Array.getElem?_eq_getElem (by omega),T.Sb _ (by simp)⟩
      refine wpS_bind (galL (hF _) (T.Sa _ (mem_at eax)) (by lia) Sb (fun i j p q hij hj e1 e2 => sorted_at T.sb (by lia) e1 e2) fun m2 hm2 d1 d2 => ?_)
      dsimp only
      have M5:MI C a.toList b.toList ((out2 ++ a.extract ka (ka + m)).push pb ++ b.extract (kb + 1) (kb + 1 + m2)).toList (ka + m) (kb + 1 + m2) := by
       rw [Array.toList_append,ext_k]
       refine M4.pushB m2 (by simp; omega) T.sb fun x hx y hy => ?_
       obtain ⟨i,hi,e⟩ := at_take hx
       obtain ⟨j,hj⟩ := at_drop hy
       exact le_trans (le_of_lt (d1 i x hi e)) (sorted_at T.sa (by lia) eax hj)
      by_cases hp2:m2 > 0
      ·rw [if_pos hp2]
       by_cases z2:kb + 1 + m2 = b.size
       ·rw [if_pos (by simpa using z2)]
        exact wpS_pure ⟨_,rfl,.inl ⟨_,rfl,doneB _ _ _ M5 z2⟩⟩
       rw [if_neg (by simpa using z2)]
       have hky:kb + 1 + m2 < b.size := by omega
       obtain ⟨py,eby⟩:∃ p,b[kb + 1 + m2]? = some p := ⟨_,Array.getElem?_eq_getElem hky⟩
       have hle := d2 m2 _ (Nat.le_refl _) (by omega) eby
       refine wpS_bind (wpS_elem eax ?_)
       have M6 := pA ((out2 ++ a.extract ka (ka + m)).push pb ++ b.extract (kb + 1) (kb + 1 + m2)) (ka + m) (kb + 1 + m2) _ _ M5 eax eby hle
       by_cases z3:(ka + m) + 1 + 1 = a.size
       ·rw [if_pos (by simpa using z3)]
        exact wpS_pure ⟨_,rfl,.inl ⟨_,rfl,doneL _ _ _ M6 z3⟩⟩
       rw [if_neg (by simpa using z3)]
       split
       ·exact wpS_pure ⟨_,rfl,.inr ⟨_,_,_,_,_,_,rfl,M6,by lia,hky,by lia⟩⟩
       ·exact wpS_pure ⟨_,_,_,_,_,_,_,rfl,rfl,M6,by lia,hky,by lia⟩
      ·rw [if_neg hp2]
       have hky:kb + 1 < b.size := by lia
       obtain ⟨py,eby⟩:∃ p,b[kb + 1]? = some p := ⟨_,Array.getElem?_eq_getElem hky⟩
       have hle := d2 0 _ (by lia) (by omega) (by rw [Nat.add_zero]; exact eby)
       refine wpS_bind (wpS_elem eax ?_)
       have M6 := pA ((out2 ++ a.extract ka (ka + m)).push pb) (ka + m) (kb + 1) _ _ M4 eax eby hle
       by_cases z3:(ka + m) + 1 + 1 = a.size
       ·rw [if_pos (by simpa using z3)]
        exact wpS_pure ⟨_,rfl,.inl ⟨_,rfl,doneL _ _ _ M6 z3⟩⟩
       rw [if_neg (by simpa using z3)]
       split
       ·exact wpS_pure ⟨_,rfl,.inr ⟨_,_,_,_,_,_,rfl,M6,by lia,hky,by lia⟩⟩
       ·exact wpS_pure ⟨_,_,_,_,_,_,_,rfl,rfl,M6,by lia,hky,by lia⟩
     ·rw [if_neg hp1]
      have eax := ea
      have hlt := c2 0 _ (by lia) (by lia) (by rw [Nat.add_zero]; exact ea)
      refine wpS_bind (wpS_elem eb ?_)
      have M4 := pB out2 ka kb _ _ M2 eax eb (le_of_lt hlt)
      by_cases z:kb + 1 = b.size
      ·rw [if_pos (by simpa using z)]
       exact wpS_pure ⟨_,rfl,.inl ⟨_,rfl,doneB _ _ _ M4 z⟩⟩
      rw [if_neg (by simpa using z)]
      refine wpS_bind (wpS_elem eax ?_)
      have Sb:∀ i,i < b.size - (kb + 1) → ∃ p,b[kb + 1 + i]? = some p ∧ C.S p := fun i hi => ⟨b[kb + 1 + i],Array.getElem?_eq_getElem (by omega),T.Sb _ (by simp)⟩
      refine wpS_bind (galL (hF _) (T.Sa _ (mem_at eax)) (by lia) Sb (fun i j p q hij hj e1 e2 => sorted_at T.sb (by lia) e1 e2) fun m2 hm2 d1 d2 => ?_)
      dsimp only
      have M5:MI C a.toList b.toList (out2.push pb ++ b.extract (kb + 1) (kb + 1 + m2)).toList ka (kb + 1 + m2) := by
       rw [Array.toList_append,ext_k]
       refine M4.pushB m2 (by simp; omega) T.sb fun x hx y hy => ?_
       obtain ⟨i,hi,e⟩ := at_take hx
       obtain ⟨j,hj⟩ := at_drop hy
       exact le_trans (le_of_lt (d1 i x hi e)) (sorted_at T.sa (by lia) eax hj)
      by_cases hp2:m2 > 0
      ·rw [if_pos hp2]
       by_cases z2:kb + 1 + m2 = b.size
       ·rw [if_pos (by simpa using z2)]
        exact wpS_pure ⟨_,rfl,.inl ⟨_,rfl,doneB _ _ _ M5 z2⟩⟩
       rw [if_neg (by simpa using z2)]
       have hky:kb + 1 + m2 < b.size := by omega
       obtain ⟨py,eby⟩:∃ p,b[kb + 1 + m2]? = some p := ⟨_,Array.getElem?_eq_getElem hky⟩
       have hle := d2 m2 _ (Nat.le_refl _) (by omega) eby
       refine wpS_bind (wpS_elem eax ?_)
       have M6 := pA (out2.push pb ++ b.extract (kb + 1) (kb + 1 + m2)) ka (kb + 1 + m2) _ _ M5 eax eby hle
       by_cases z3:ka + 1 + 1 = a.size
       ·rw [if_pos (by simpa using z3)]
        exact wpS_pure ⟨_,rfl,.inl ⟨_,rfl,doneL _ _ _ M6 z3⟩⟩
       rw [if_neg (by simpa using z3)]
       split
       ·exact wpS_pure ⟨_,rfl,.inr ⟨_,_,_,_,_,_,rfl,M6,by lia,hky,by lia⟩⟩
       ·exact wpS_pure ⟨_,_,_,_,_,_,_,rfl,rfl,M6,by lia,hky,by lia⟩
      ·rw [if_neg hp2]
       have hky:kb + 1 < b.size := by lia
       obtain ⟨py,eby⟩:∃ p,b[kb + 1]? = some p := ⟨_,Array.getElem?_eq_getElem hky⟩
       have hle := d2 0 _ (by lia) (by omega) (by rw [Nat.add_zero]; exact eby)
       refine wpS_bind (wpS_elem eax ?_)
       have M6 := pA (out2.push pb) ka (kb + 1) _ _ M4 eax eby hle
       by_cases z3:ka + 1 + 1 = a.size
       ·rw [if_pos (by simpa using z3)]
        exact wpS_pure ⟨_,rfl,.inl ⟨_,rfl,doneL _ _ _ M6 z3⟩⟩
       rw [if_neg (by simpa using z3)]
       split
       ·exact wpS_pure ⟨_,rfl,.inr ⟨_,_,_,_,_,_,rfl,M6,by lia,hky,by lia⟩⟩
       ·exact wpS_pure ⟨_,_,_,_,_,_,_,rfl,rfl,M6,by lia,hky,by lia⟩
end
end Tim
namespace Tim
open PySem PyProof.Rows
section
variable {prog:Program} {w:World} {A:Around} {E:Value → Shared → Prop} {s:Shared}
structure HI (C:Cmp prog w A E s) (a b r:List Keyed) (na nb:Nat):Prop where
 la:na ≤ a.length
 lb:nb ≤ b.length
 pm:r.Perm (a.drop na ++ b.drop nb)
 so:r.Pairwise (le C)
 xa:∀ x ∈ a.take na,∀ y ∈ r,le C x y
 xb:∀ x ∈ b.take nb,∀ y ∈ r,le C x y
section
variable {C:Cmp prog w A E s} {a b r:List Keyed} {na nb:Nat}
theorem take_cut {α:Type} (xs:List α) {m n:Nat} (h:m ≤ n):xs.take n = xs.take m ++ (xs.take n).drop m := by
 have z := List.take_append_drop m (xs.take n)
 rw [List.take_take,Nat.min_eq_left h] at z
 exact z.symm
theorem drop_cut2 {α:Type} (xs:List α) {m n:Nat} (h:m ≤ n):xs.drop m = (xs.take n).drop m ++ xs.drop n := by
 have z := congrArg (List.drop m) (List.take_append_drop n xs)
 rw [List.drop_append] at z
 rw [← z]
 by_cases hl:n ≤ xs.length
 ·rw [List.length_take,Nat.min_eq_left hl,Nat.sub_eq_zero_of_le h,List.drop_zero]
 ·rw [List.drop_of_length_le (by lia:xs.length ≤ n),List.drop_nil]
theorem HI.pushA (h:HI C a b r na nb) (m:Nat) (hm:m ≤ na) (sa:a.Pairwise (le C)) (c:∀ x ∈ b.take nb,∀ y ∈ (a.take na).drop m,le C x y):HI C a b ((a.take na).drop m ++ r) m nb := by
 have sd:(a.take na).Pairwise (le C) := sa.sublist (List.take_sublist _ _)
 rw [take_cut a hm,List.pairwise_append] at sd
 refine ⟨Nat.le_trans hm h.la,h.lb,?_,?_,?_,?_⟩
 ·rw [drop_cut2 a hm,List.append_assoc]
  exact h.pm.append_left _
 ·rw [List.pairwise_append]
  exact ⟨sd.2.1,h.so,fun x hx y hy => h.xa x (List.mem_of_mem_drop hx) y hy⟩
 ·intro x hx y hy
  rcases List.mem_append.mp hy with hy | hy
  ·exact sd.2.2 x hx y hy
  ·exact h.xa x (by rw [take_cut a hm]; exact List.mem_append_left _ hx) y hy
 ·intro x hx y hy
  rcases List.mem_append.mp hy with hy | hy
  ·exact c x hx y hy
  ·exact h.xb x hx y hy
theorem HI.pushB (h:HI C a b r na nb) (m:Nat) (hm:m ≤ nb) (sb:b.Pairwise (le C)) (c:∀ x ∈ a.take na,∀ y ∈ (b.take nb).drop m,le C x y):HI C a b ((b.take nb).drop m ++ r) na m := by
 have sd:(b.take nb).Pairwise (le C) := sb.sublist (List.take_sublist _ _)
 rw [take_cut b hm,List.pairwise_append] at sd
 refine ⟨h.la,Nat.le_trans hm h.lb,?_,?_,?_,?_⟩
 ·rw [drop_cut2 b hm]
  refine (h.pm.append_left _).trans ?_
  rw [← List.append_assoc,← List.append_assoc]
  exact List.perm_append_comm.append_right _
 ·rw [List.pairwise_append]
  exact ⟨sd.2.1,h.so,fun x hx y hy => h.xb x (List.mem_of_mem_drop hx) y hy⟩
 ·intro x hx y hy
  rcases List.mem_append.mp hy with hy | hy
  ·exact c x hx y hy
  ·exact h.xa x hx y hy
 ·intro x hx y hy
  rcases List.mem_append.mp hy with hy | hy
  ·exact sd.2.2 x hx y hy
  ·exact h.xb x (by rw [take_cut b hm]; exact List.mem_append_left _ hx) y hy
theorem HI.all (h:HI C a b r na nb) (sa:a.Pairwise (le C)) (sb:b.Pairwise (le C)) (c:∀ x ∈ a.take na,∀ y ∈ b.take nb,le C x y):Mgd C a b (a.take na ++ b.take nb ++ r) := by
 have z := h.pushB 0 (Nat.zero_le _) sb (fun x hx y hy => c x hx y (by rwa [List.drop_zero] at hy))
 have y := z.pushA 0 (Nat.zero_le _) sa (fun x hx _ _ => by rw [List.take_zero] at hx; cases hx)
 rw [List.drop_zero,List.drop_zero,← List.append_assoc] at y
 exact ⟨by have := y.pm; rwa [List.drop_zero,List.drop_zero] at this,y.so⟩
theorem HI.allB (h:HI C a b r na nb) (sa:a.Pairwise (le C)) (sb:b.Pairwise (le C)) (c:∀ x ∈ b.take nb,∀ y ∈ a.take na,le C x y):Mgd C a b (b.take nb ++ a.take na ++ r) := by
 have z := h.pushA 0 (Nat.zero_le _) sa (fun x hx y hy => c x hx y (by rwa [List.drop_zero] at hy))
 have y := z.pushB 0 (Nat.zero_le _) sb (fun x hx _ _ => by rw [List.take_zero] at hx; cases hx)
 rw [List.drop_zero,List.drop_zero,← List.append_assoc] at y
 exact ⟨by have := y.pm; rwa [List.drop_zero,List.drop_zero] at this,y.so⟩
end
theorem ext_to (a:Array Keyed) (n:Nat):(a.extract 0 n).toList = a.toList.take n := by
 rw [Array.toList_extract,List.extract_eq_drop_take]
 simp
theorem ext_mn (a:Array Keyed) (m n:Nat):(a.extract m n).toList = (a.toList.take n).drop m := by
 rw [Array.toList_extract,List.extract_eq_drop_take,List.drop_take]
theorem one_h {xs:Array Keyed} {n:Nat} {p:Keyed} (e:xs[n]? = some p):(xs.toList.take (n + 1)).drop n = [p] := by
 rw [List.drop_take,Nat.add_sub_cancel_left,one_k e]
theorem at_pre {xs:Array Keyed} {n:Nat} {y:Keyed} (h:y ∈ xs.toList.take n):∃ j,j < n ∧ xs[j]? = some y := by
 obtain ⟨j,h1,h2⟩ := at_take (i := 0) (k := n) (by rwa [List.drop_zero])
 exact ⟨j,h1,by rwa [Nat.zero_add] at h2⟩
theorem at_mid {xs:Array Keyed} {m n:Nat} {y:Keyed} (h:y ∈ (xs.toList.take n).drop m):∃ j,m ≤ j ∧ j < n ∧ xs[j]? = some y := by
 rw [List.drop_take] at h
 obtain ⟨j,h1,h2⟩ := at_take h
 exact ⟨m + j,by lia,by omega,h2⟩
theorem Two.high {C:Cmp prog w A E s} {a b:Array Keyed} {a0 b0 aL bL:Keyed} (T:Two C a b a0 b0 aL bL) {y:Keyed} (h:y ∈ a.toList):le C b0 y := by
 obtain ⟨j,hj⟩ := List.getElem?_of_mem h
 exact le_trans (le_of_lt T.first) (sorted_at T.sa (Nat.zero_le j) T.ea (by simpa using hj))
theorem mhi_ok {C:Cmp prog w A E s} {a b:Array Keyed} {a0 b0 aL bL:Keyed} {st:SortSt} {Q:Array Keyed → SortSt → Prop} (hF:∀ (g:Nat),C.F (sg st g)) (T:Two C a b a0 b0 aL bL)
  (h:∀ r g,Mgd C a.toList b.toList r.toList → Q r (sg st g)):wpS (model prog w) A E s (mhi a b) Q st := by
 have pa := T.na
 have pb := T.nb
 have doneA:∀ (out:Array Keyed) (na nb:Nat),HI C a.toList b.toList out.toList.reverse na nb → na = 0 → Mgd C a.toList b.toList (a.extract 0 na ++ b.extract 0 nb ++ out.reverse).toList := fun out na nb M e => by
  rw [Array.toList_append,Array.toList_append,ext_to,ext_to,Array.toList_reverse]
  exact M.all T.sa T.sb fun x hx => by rw [e,List.take_zero] at hx; cases hx
 have doneB:∀ (out:Array Keyed) (na nb:Nat),HI C a.toList b.toList out.toList.reverse na nb → nb = 0 → Mgd C a.toList b.toList (a.extract 0 na ++ b.extract 0 nb ++ out.reverse).toList := fun out na nb M e => by
  rw [Array.toList_append,Array.toList_append,ext_to,ext_to,Array.toList_reverse]
  exact M.all T.sa T.sb fun x _ y hy => by rw [e,List.take_zero] at hy; cases hy
 have done1:∀ (out:Array Keyed) (na nb:Nat),HI C a.toList b.toList out.toList.reverse na nb → nb = 1 → Mgd C a.toList b.toList (b.extract 0 nb ++ a.extract 0 na ++ out.reverse).toList := fun out na nb M e => by
  rw [Array.toList_append,Array.toList_append,ext_to,ext_to,Array.toList_reverse]
  refine M.allB T.sa T.sb fun x hx y hy => ?_
  have z := one_h T.eb
  rw [List.drop_zero] at z
  rw [e,z] at hx
  rw [List.mem_singleton.mp hx]
  exact T.high (List.mem_of_mem_take hy)
 have cA:∀ (out:Array Keyed) (na nb m:Nat),HI C a.toList b.toList out.toList.reverse na nb → m ≤ na → (∀ x ∈ b.toList.take nb,∀ y ∈ (a.toList.take na).drop m,le C x y) → HI C a.toList b.toList (out ++ (a.extract m na).reverse).toList.reverse m nb := fun out na nb m M hm c => by
  rw [Array.toList_append,Array.toList_reverse,ext_mn,List.reverse_append,List.reverse_reverse]
  exact M.pushA m hm T.sa c
 have cB:∀ (out:Array Keyed) (na nb m:Nat),HI C a.toList b.toList out.toList.reverse na nb → m ≤ nb → (∀ x ∈ a.toList.take na,∀ y ∈ (b.toList.take nb).drop m,le C x y) → HI C a.toList b.toList (out ++ (b.extract m nb).reverse).toList.reverse na m := fun out na nb m M hm c => by
  rw [Array.toList_append,Array.toList_reverse,ext_mn,List.reverse_append,List.reverse_reverse]
  exact M.pushB m hm T.sb c
 have pA:∀ (out:Array Keyed) (na nb:Nat) (p:Keyed),HI C a.toList b.toList out.toList.reverse na nb → 0 < na → a[na - 1]? = some p → (∀ x ∈ b.toList.take nb,le C x p) → HI C a.toList b.toList (out.push p).toList.reverse (na - 1) nb := fun out na nb p M hn e c => by
  rw [Array.toList_push,List.reverse_append]
  have z := one_h e
  rw [Nat.sub_add_cancel hn] at z
  have y := M.pushA (na - 1) (Nat.sub_le _ _) T.sa fun x hx y hy => by
   rw [z] at hy
   rw [List.mem_singleton.mp hy]
   exact c x hx
  rw [z] at y
  exact y
 have pB:∀ (out:Array Keyed) (na nb:Nat) (p:Keyed),HI C a.toList b.toList out.toList.reverse na nb → 0 < nb → b[nb - 1]? = some p → (∀ x ∈ a.toList.take na,le C x p) → HI C a.toList b.toList (out.push p).toList.reverse na (nb - 1) := fun out na nb p M hn e c => by
  rw [Array.toList_push,List.reverse_append]
  have z := one_h e
  rw [Nat.sub_add_cancel hn] at z
  have y := M.pushB (nb - 1) (Nat.sub_le _ _) T.sb fun x hx y hy => by
   rw [z] at hy
   rw [List.mem_singleton.mp hy]
   exact c x hx
  rw [z] at y
  exact y
 have uA:∀ (n:Nat) (p q:Keyed),a[n - 1]? = some p → le C p q → ∀ x ∈ a.toList.take n,le C x q := fun n p q e c x hx => by
  obtain ⟨j,hj,ej⟩ := at_pre hx
  exact le_trans (sorted_at T.sa (by omega) ej e) c
 have uB:∀ (n:Nat) (p q:Keyed),b[n - 1]? = some p → le C p q → ∀ x ∈ b.toList.take n,le C x q := fun n p q e c x hx => by
  obtain ⟨j,hj,ej⟩ := at_pre hx
  exact le_trans (sorted_at T.sb (by omega) ej e) c
 have M0:HI C a.toList b.toList (#[aL]:Array Keyed).toList.reverse (a.size - 1) b.size := by
  have z:HI C a.toList b.toList (#[]:Array Keyed).toList.reverse a.size b.size := ⟨by simp,by simp,by simp,.nil,(fun x _ y hy => by cases hy),fun x _ y hy => by cases hy⟩
  exact pA #[] a.size b.size aL z pa T.eA fun x hx => T.low (List.mem_of_mem_take hx)
 refine wpS_bind (wpS_lift (wpAny_rule ⟨rfl,?_⟩))
 dsimp only
 refine wpS_bind (wpS_elem T.eA ?_)
 by_cases h1:a.size - 1 = 0
 ·rw [if_pos (by simpa using h1)]
  have z := doneA _ _ _ M0 h1
  exact wpS_pure (h _ (gallopOf st) (by rw [show b.extract = b.extract 0 b.size from rfl]; exact z))
 rw [if_neg (by simpa using h1)]
 by_cases h2:b.size = 1
 ·rw [if_pos (by simpa using h2)]
  have z := done1 _ _ _ M0 h2
  exact wpS_pure (h _ (gallopOf st) (by rw [show b.extract = b.extract 0 b.size from rfl]; exact z))
 rw [if_neg (by simpa using h2)]
 refine wpS_bind (wpS_get ?_)
 refine wpS_bind (wpS_mono (wpS_forRange (I := fun x c st' => ∃ (out:Array Keyed) (na nb mg g:Nat),c = (none,na,nb,out,mg) ∧ st' = sg st g ∧ HI C a.toList b.toList out.toList.reverse na nb ∧ 0 < na ∧ 1 < nb ∧ x + 1 + na + nb ≤ a.size + b.size)
  (Q := fun c st' => ∃ (r:Array Keyed) (g:Nat),c.1 = some r ∧ st' = sg st g ∧ Mgd C a.toList b.toList r.toList) ?oS ?oE ⟨#[aL],a.size - 1,b.size,_,gallopOf st,rfl,rfl,M0,by lia,by lia,by omega⟩) ?oP)
 case oP =>
  rintro ⟨c1,c2⟩ st' ⟨r,g,rfl,rfl,M⟩
  exact wpS_pure (h r g M)
 case oE =>
  rintro c st' ⟨out,na,nb,mg,g,rfl,rfl,M,q1,q2,q3⟩
  lia
 case oS =>
  rintro x c st' _ hx ⟨out,na,nb,mg,g,rfl,rfl,M,q1,q2,q3⟩
  dsimp only
  refine wpS_bind (wpS_mono (wpS_forRange (I := fun y c st' => ∃ (out1:Array Keyed) (ja jb ac bc:Nat),c = (none,ja,jb,out1,ac,bc) ∧ st' = sg st g ∧ HI C a.toList b.toList out1.toList.reverse ja jb ∧ 0 < ja ∧ 1 < jb ∧ ja + jb + y ≤ na + nb)
   (Q := fun c st' => st' = sg st g ∧ ((∃ (r:Array Keyed),c.1 = some r ∧ Mgd C a.toList b.toList r.toList) ∨ ∃ (out1:Array Keyed) (ja jb ac bc:Nat),c = (none,ja,jb,out1,ac,bc) ∧ HI C a.toList b.toList out1.toList.reverse ja jb ∧ 0 < ja ∧ 1 < jb ∧ ja + jb + 1 ≤ na + nb)) ?s1 ?e1 ⟨out,na,nb,0,0,rfl,rfl,M,q1,q2,by lia⟩) ?p1)
  case e1 =>
   rintro c st' ⟨out1,ja,jb,ac,bc,rfl,rfl,M1,r1,r2,r3⟩
   exact ⟨rfl,.inr ⟨out1,ja,jb,ac,bc,rfl,M1,r1,r2,by lia⟩⟩
  case s1 =>
   rintro y c st' _ hy ⟨out1,ja,jb,ac,bc,rfl,rfl,M1,r1,r2,r3⟩
   have l1 := M1.la
   have l2 := M1.lb
   rw [Array.length_toList] at l1 l2
   obtain ⟨qa,ea⟩:∃ p,a[ja - 1]? = some p := ⟨_,Array.getElem?_eq_getElem (by omega)⟩
   obtain ⟨qb,eb⟩:∃ p,b[jb - 1]? = some p := ⟨_,Array.getElem?_eq_getElem (by omega)⟩
   dsimp only
   refine wpS_bind (wpS_elem eb (wpS_bind (wpS_elem ea (wpS_bind (C.ok _ _ _ _ (hF g) (T.Sb _ (mem_at eb)) (T.Sa _ (mem_at ea)) ?_)))))
   dsimp only
   cases e0:C.O.blt (C.key qb) (C.key qa) with
   | true =>
    rw [if_pos rfl]
    refine wpS_bind (wpS_elem ea ?_)
    have M2 := pA out1 ja jb _ M1 r1 ea (uB jb _ _ eb (le_of_lt e0))
    by_cases z:ja - 1 = 0
    ·rw [if_pos (by simpa using z)]
     exact wpS_pure ⟨rfl,.inl ⟨_,rfl,doneA _ _ _ M2 z⟩⟩
    ·rw [if_neg (by simpa using z)]
     split
     ·exact wpS_pure ⟨rfl,.inr ⟨_,_,_,_,_,rfl,M2,by lia,r2,by lia⟩⟩
     ·exact wpS_pure ⟨_,_,_,_,_,rfl,rfl,M2,by lia,r2,by lia⟩
   | false =>
    rw [if_neg Bool.false_ne_true]
    refine wpS_bind (wpS_elem eb ?_)
    have M2 := pB out1 ja jb _ M1 (by lia) eb (uA ja _ _ ea (le_of_not e0))
    by_cases z:jb - 1 = 1
    ·rw [if_pos (by simpa using z)]
     exact wpS_pure ⟨rfl,.inl ⟨_,rfl,done1 _ _ _ M2 z⟩⟩
    ·rw [if_neg (by simpa using z)]
     split
     ·exact wpS_pure ⟨rfl,.inr ⟨_,_,_,_,_,rfl,M2,r1,by lia,by lia⟩⟩
     ·exact wpS_pure ⟨_,_,_,_,_,rfl,rfl,M2,r1,by lia,by lia⟩
  case p1 =>
   rintro ⟨c1,c2⟩ st' ⟨rfl,⟨r,rfl,Mr⟩ | ⟨out1,ja,jb,ac,bc,e,M1,r1,r2,r3⟩⟩
   ·exact wpS_pure ⟨r,g,rfl,rfl,Mr⟩
   cases e
   dsimp only
   refine wpS_bind (wpS_lift (wpAny_rule ⟨rfl,?_⟩))
   refine wpS_bind (wpS_mono (wpS_forRange (I := fun y c st' => ∃ (out2:Array Keyed) (ka kb mg2 ac2 bc2 g2:Nat),c = (none,ka,kb,out2,mg2,ac2,bc2) ∧ st' = sg st g2 ∧ HI C a.toList b.toList out2.toList.reverse ka kb ∧ 0 < ka ∧ 1 < kb ∧ ka + kb + 1 ≤ na + nb)
    (Q := fun c st' => ∃ g2,st' = sg st g2 ∧ ((∃ (r:Array Keyed),c.1 = some r ∧ Mgd C a.toList b.toList r.toList) ∨ ∃ (out2:Array Keyed) (ka kb mg2 ac2 bc2:Nat),c = (none,ka,kb,out2,mg2,ac2,bc2) ∧ HI C a.toList b.toList out2.toList.reverse ka kb ∧ 0 < ka ∧ 1 < kb ∧ ka + kb + 1 ≤ na + nb)) ?s2 ?e2 ⟨out1,ja,jb,_,_,_,g,rfl,rfl,M1,r1,r2,r3⟩) ?p2)
   case e2 =>
    rintro c st' ⟨out2,ka,kb,mg2,ac2,bc2,g2,rfl,rfl,M2,t1,t2,t3⟩
    exact ⟨g2,rfl,.inr ⟨out2,ka,kb,mg2,ac2,bc2,rfl,M2,t1,t2,t3⟩⟩
   case p2 =>
    rintro ⟨c1,c2⟩ st' ⟨g2,rfl,⟨r,rfl,Mr⟩ | ⟨out2,ka,kb,mg2,ac2,bc2,e,M2,t1,t2,t3⟩⟩
    ·exact wpS_pure ⟨r,g2,rfl,rfl,Mr⟩
    cases e
    dsimp only
    exact wpS_bind (wpS_modify (wpS_pure ⟨out2,ka,kb,_,_,rfl,rfl,M2,t1,t2,by lia⟩))
   case s2 =>
    rintro y c st' _ hy ⟨out2,ka,kb,mg2,ac2,bc2,g2,rfl,rfl,M2,t1,t2,t3⟩
    have l1 := M2.la
    have l2 := M2.lb
    rw [Array.length_toList] at l1 l2
    obtain ⟨qb,eb⟩:∃ p,b[kb - 1]? = some p := ⟨_,Array.getElem?_eq_getElem (by omega)⟩
    have Sa:∀ i,i < ka → ∃ p,a[0 + i]? = some p ∧ C.S p := fun i hi => ⟨a[0 + i],Array.getElem?_eq_getElem (by lia),T.Sa _ (by simp)⟩
    have Sb:∀ i,i < kb - 1 → ∃ p,b[0 + i]? = some p ∧ C.S p := fun i hi => ⟨b[0 + i],Array.getElem?_eq_getElem (by lia),T.Sb _ (by simp)⟩
    dsimp only
    by_cases hmg:mg2 > 1
    ·rw [if_pos hmg]
     refine wpS_bind (wpS_modify ?_)
     refine wpS_bind (wpS_elem eb ?_)
     refine wpS_bind (galR (hF _) (T.Sb _ (mem_at eb)) (by omega) Sa (fun i j p q hij hj e1 e2 => sorted_at T.sa (by lia) e1 e2) fun m hm c1 c2 => ?_)
     dsimp only
     have hlt:∀ n,n ≤ m → ∀ x ∈ a.toList.take n,le C x qb := fun n hn x hx => by
      obtain ⟨j,hj,ej⟩ := at_pre hx
      exact c1 j x (by lia) (by rw [Nat.zero_add]; exact ej)
     have M3 := cA out2 ka kb m M2 hm (fun x hx y hy => by
      obtain ⟨j,j1,j2,ej⟩ := at_mid hy
      obtain ⟨i,i1,ei⟩ := at_pre hx
      exact le_trans (sorted_at T.sb (by lia) ei eb) (le_of_lt (c2 j y j1 j2 (by rw [Nat.zero_add]; exact ej))))
     by_cases hp1:ka - m > 0
     ·rw [if_pos hp1]
      by_cases z1:m = 0
      ·rw [if_pos (by simpa using z1)]
       exact wpS_pure ⟨_,rfl,.inl ⟨_,rfl,doneA _ _ _ M3 z1⟩⟩
      rw [if_neg (by simpa using z1)]
      have hlt := hlt m (Nat.le_refl _)
      have hkx:0 < m := by lia
      refine wpS_bind (wpS_elem eb ?_)
      have M4 := pB _ m kb _ M3 (by lia) eb hlt
      by_cases z:kb - 1 = 1
      ·rw [if_pos (by simpa using z)]
       exact wpS_pure ⟨_,rfl,.inl ⟨_,rfl,done1 _ _ _ M4 z⟩⟩
      rw [if_neg (by simpa using z)]
      obtain ⟨px,eax⟩:∃ p,a[m - 1]? = some p := ⟨_,Array.getElem?_eq_getElem (by omega)⟩
      refine wpS_bind (wpS_elem eax ?_)
      refine wpS_bind (galL (hF _) (T.Sa _ (mem_at eax)) (by omega) Sb (fun i j p q hij hj e1 e2 => sorted_at T.sb (by lia) e1 e2) fun m2 hm2 d1 d2 => ?_)
      dsimp only
      have hle:∀ n,n ≤ m2 → ∀ x ∈ b.toList.take n,le C x px := fun n hn x hx => by
       obtain ⟨j,hj,ej⟩ := at_pre hx
       exact le_of_lt (d1 j x (by lia) (by rw [Nat.zero_add]; exact ej))
      have M5 := cB _ m (kb - 1) m2 M4 hm2 (fun x hx y hy => by
       obtain ⟨j,j1,j2,ej⟩ := at_mid hy
       obtain ⟨i,i1,ei⟩ := at_pre hx
       exact le_trans (sorted_at T.sa (by omega) ei eax) (d2 j y j1 j2 (by rw [Nat.zero_add]; exact ej)))
      by_cases hp2:kb - 1 - m2 > 0
      ·rw [if_pos hp2]
       by_cases z2:m2 = 1
       ·rw [if_pos (by simpa using z2)]
        exact wpS_pure ⟨_,rfl,.inl ⟨_,rfl,done1 _ _ _ M5 z2⟩⟩
       rw [if_neg (by simpa using z2)]
       by_cases z4:m2 = 0
       ·rw [if_pos (by simpa using z4)]
        exact wpS_pure ⟨_,rfl,.inl ⟨_,rfl,doneB _ _ _ M5 z4⟩⟩
       rw [if_neg (by simpa using z4)]
       have hle := hle m2 (Nat.le_refl _)
       refine wpS_bind (wpS_elem eax ?_)
       have M6 := pA _ m m2 _ M5 hkx eax hle
       by_cases z3:m - 1 = 0
       ·rw [if_pos (by simpa using z3)]
        exact wpS_pure ⟨_,rfl,.inl ⟨_,rfl,doneA _ _ _ M6 z3⟩⟩
       rw [if_neg (by simpa using z3)]
       split
       ·exact wpS_pure ⟨_,rfl,.inr ⟨_,_,_,_,_,_,rfl,M6,by lia,by lia,by lia⟩⟩
       ·exact wpS_pure ⟨_,_,_,_,_,_,_,rfl,rfl,M6,by lia,by lia,by lia⟩
      ·rw [if_neg hp2]
       have hle := hle (kb - 1) (by omega)
       refine wpS_bind (wpS_elem eax ?_)
       have M6 := pA _ m (kb - 1) _ M4 hkx eax hle
       by_cases z3:m - 1 = 0
       ·rw [if_pos (by simpa using z3)]
        exact wpS_pure ⟨_,rfl,.inl ⟨_,rfl,doneA _ _ _ M6 z3⟩⟩
       rw [if_neg (by simpa using z3)]
       split
       ·exact wpS_pure ⟨_,rfl,.inr ⟨_,_,_,_,_,_,rfl,M6,by lia,by lia,by lia⟩⟩
       ·exact wpS_pure ⟨_,_,_,_,_,_,_,rfl,rfl,M6,by lia,by lia,by lia⟩
     ·rw [if_neg hp1]
      have hlt := hlt ka (by lia)
      have hkx := t1
      refine wpS_bind (wpS_elem eb ?_)
      have M4 := pB out2 ka kb _ M2 (by lia) eb hlt
      by_cases z:kb - 1 = 1
      ·rw [if_pos (by simpa using z)]
       exact wpS_pure ⟨_,rfl,.inl ⟨_,rfl,done1 _ _ _ M4 z⟩⟩
      rw [if_neg (by simpa using z)]
      obtain ⟨px,eax⟩:∃ p,a[ka - 1]? = some p := ⟨_,Array.getElem?_eq_getElem (by omega)⟩
      refine wpS_bind (wpS_elem eax ?_)
      refine wpS_bind (galL (hF _) (T.Sa _ (mem_at eax)) (by omega) Sb (fun i j p q hij hj e1 e2 => sorted_at T.sb (by lia) e1 e2) fun m2 hm2 d1 d2 => ?_)
      dsimp only
      have hle:∀ n,n ≤ m2 → ∀ x ∈ b.toList.take n,le C x px := fun n hn x hx => by
       obtain ⟨j,hj,ej⟩ := at_pre hx
       exact le_of_lt (d1 j x (by lia) (by rw [Nat.zero_add]; exact ej))
      have M5 := cB _ ka (kb - 1) m2 M4 hm2 (fun x hx y hy => by
       obtain ⟨j,j1,j2,ej⟩ := at_mid hy
       obtain ⟨i,i1,ei⟩ := at_pre hx
       exact le_trans (sorted_at T.sa (by lia) ei eax) (d2 j y j1 j2 (by rw [Nat.zero_add]; exact ej)))
      by_cases hp2:kb - 1 - m2 > 0
      ·rw [if_pos hp2]
       by_cases z2:m2 = 1
       ·rw [if_pos (by simpa using z2)]
        exact wpS_pure ⟨_,rfl,.inl ⟨_,rfl,done1 _ _ _ M5 z2⟩⟩
       rw [if_neg (by simpa using z2)]
       by_cases z4:m2 = 0
       ·rw [if_pos (by simpa using z4)]
        exact wpS_pure ⟨_,rfl,.inl ⟨_,rfl,doneB _ _ _ M5 z4⟩⟩
       rw [if_neg (by simpa using z4)]
       have hle := hle m2 (Nat.le_refl _)
       refine wpS_bind (wpS_elem eax ?_)
       have M6 := pA _ ka m2 _ M5 hkx eax hle
       by_cases z3:ka - 1 = 0
       ·rw [if_pos (by simpa using z3)]
        exact wpS_pure ⟨_,rfl,.inl ⟨_,rfl,doneA _ _ _ M6 z3⟩⟩
       rw [if_neg (by simpa using z3)]
       split
       ·exact wpS_pure ⟨_,rfl,.inr ⟨_,_,_,_,_,_,rfl,M6,by lia,by lia,by lia⟩⟩
       ·exact wpS_pure ⟨_,_,_,_,_,_,_,rfl,rfl,M6,by lia,by lia,by lia⟩
      ·rw [if_neg hp2]
       have hle := hle (kb - 1) (by omega)
       refine wpS_bind (wpS_elem eax ?_)
       have M6 := pA _ ka (kb - 1) _ M4 hkx eax hle
       by_cases z3:ka - 1 = 0
       ·rw [if_pos (by simpa using z3)]
        exact wpS_pure ⟨_,rfl,.inl ⟨_,rfl,doneA _ _ _ M6 z3⟩⟩
       rw [if_neg (by simpa using z3)]
       split
       ·exact wpS_pure ⟨_,rfl,.inr ⟨_,_,_,_,_,_,rfl,M6,by lia,by lia,by lia⟩⟩
       ·exact wpS_pure ⟨_,_,_,_,_,_,_,rfl,rfl,M6,by lia,by lia,by lia⟩
    ·rw [if_neg hmg]
     refine wpS_bind (wpS_modify ?_)
     refine wpS_bind (wpS_elem eb ?_)
     refine wpS_bind (galR (hF _) (T.Sb _ (mem_at eb)) (by omega) Sa (fun i j p q hij hj e1 e2 => sorted_at T.sa (by lia) e1 e2) fun m hm c1 c2 => ?_)
     dsimp only
     have hlt:∀ n,n ≤ m → ∀ x ∈ a.toList.take n,le C x qb := fun n hn x hx => by
      obtain ⟨j,hj,ej⟩ := at_pre hx
      exact c1 j x (by lia) (by rw [Nat.zero_add]; exact ej)
     have M3 := cA out2 ka kb m M2 hm (fun x hx y hy => by
      obtain ⟨j,j1,j2,ej⟩ := at_mid hy
      obtain ⟨i,i1,ei⟩ := at_pre hx
      exact le_trans (sorted_at T.sb (by lia) ei eb) (le_of_lt (c2 j y j1 j2 (by rw [Nat.zero_add]; exact ej))))
     by_cases hp1:ka - m > 0
     ·rw [if_pos hp1]
      by_cases z1:m = 0
      ·rw [if_pos (by simpa using z1)]
       exact wpS_pure ⟨_,rfl,.inl ⟨_,rfl,doneA _ _ _ M3 z1⟩⟩
      rw [if_neg (by simpa using z1)]
      have hlt := hlt m (Nat.le_refl _)
      have hkx:0 < m := by lia
      refine wpS_bind (wpS_elem eb ?_)
      have M4 := pB _ m kb _ M3 (by lia) eb hlt
      by_cases z:kb - 1 = 1
      ·rw [if_pos (by simpa using z)]
       exact wpS_pure ⟨_,rfl,.inl ⟨_,rfl,done1 _ _ _ M4 z⟩⟩
      rw [if_neg (by simpa using z)]
      obtain ⟨px,eax⟩:∃ p,a[m - 1]? = some p := ⟨_,Array.getElem?_eq_getElem (by omega)⟩
      refine wpS_bind (wpS_elem eax ?_)
      refine wpS_bind (galL (hF _) (T.Sa _ (mem_at eax)) (by omega) Sb (fun i j p q hij hj e1 e2 => sorted_at T.sb (by lia) e1 e2) fun m2 hm2 d1 d2 => ?_)
      dsimp only
      have hle:∀ n,n ≤ m2 → ∀ x ∈ b.toList.take n,le C x px := fun n hn x hx => by
       obtain ⟨j,hj,ej⟩ := at_pre hx
       exact le_of_lt (d1 j x (by lia) (by rw [Nat.zero_add]; exact ej))
      have M5 := cB _ m (kb - 1) m2 M4 hm2 (fun x hx y hy => by
       obtain ⟨j,j1,j2,ej⟩ := at_mid hy
       obtain ⟨i,i1,ei⟩ := at_pre hx
       exact le_trans (sorted_at T.sa (by omega) ei eax) (d2 j y j1 j2 (by rw [Nat.zero_add]; exact ej)))
      by_cases hp2:kb - 1 - m2 > 0
      ·rw [if_pos hp2]
       by_cases z2:m2 = 1
       ·rw [if_pos (by simpa using z2)]
        exact wpS_pure ⟨_,rfl,.inl ⟨_,rfl,done1 _ _ _ M5 z2⟩⟩
       rw [if_neg (by simpa using z2)]
       by_cases z4:m2 = 0
       ·rw [if_pos (by simpa using z4)]
        exact wpS_pure ⟨_,rfl,.inl ⟨_,rfl,doneB _ _ _ M5 z4⟩⟩
       rw [if_neg (by simpa using z4)]
       have hle := hle m2 (Nat.le_refl _)
       refine wpS_bind (wpS_elem eax ?_)
       have M6 := pA _ m m2 _ M5 hkx eax hle
       by_cases z3:m - 1 = 0
       ·rw [if_pos (by simpa using z3)]
        exact wpS_pure ⟨_,rfl,.inl ⟨_,rfl,doneA _ _ _ M6 z3⟩⟩
       rw [if_neg (by simpa using z3)]
       split
       ·exact wpS_pure ⟨_,rfl,.inr ⟨_,_,_,_,_,_,rfl,M6,by lia,by lia,by lia⟩⟩
       ·exact wpS_pure ⟨_,_,_,_,_,_,_,rfl,rfl,M6,by lia,by lia,by lia⟩
      ·rw [if_neg hp2]
       have hle := hle (kb - 1) (by omega)
       refine wpS_bind (wpS_elem eax ?_)
       have M6 := pA _ m (kb - 1) _ M4 hkx eax hle
       by_cases z3:m - 1 = 0
       ·rw [if_pos (by simpa using z3)]
        exact wpS_pure ⟨_,rfl,.inl ⟨_,rfl,doneA _ _ _ M6 z3⟩⟩
       rw [if_neg (by simpa using z3)]
       split
       ·exact wpS_pure ⟨_,rfl,.inr ⟨_,_,_,_,_,_,rfl,M6,by lia,by lia,by lia⟩⟩
       ·exact wpS_pure ⟨_,_,_,_,_,_,_,rfl,rfl,M6,by lia,by lia,by lia⟩
     ·rw [if_neg hp1]
      have hlt := hlt ka (by lia)
      have hkx := t1
      refine wpS_bind (wpS_elem eb ?_)
      have M4 := pB out2 ka kb _ M2 (by lia) eb hlt
      by_cases z:kb - 1 = 1
      ·rw [if_pos (by simpa using z)]
       exact wpS_pure ⟨_,rfl,.inl ⟨_,rfl,done1 _ _ _ M4 z⟩⟩
      rw [if_neg (by simpa using z)]
      obtain ⟨px,eax⟩:∃ p,a[ka - 1]? = some p := ⟨_,Array.getElem?_eq_getElem (by omega)⟩
      refine wpS_bind (wpS_elem eax ?_)
      refine wpS_bind (galL (hF _) (T.Sa _ (mem_at eax)) (by omega) Sb (fun i j p q hij hj e1 e2 => sorted_at T.sb (by lia) e1 e2) fun m2 hm2 d1 d2 => ?_)
      dsimp only
      have hle:∀ n,n ≤ m2 → ∀ x ∈ b.toList.take n,le C x px := fun n hn x hx => by
       obtain ⟨j,hj,ej⟩ := at_pre hx
       exact le_of_lt (d1 j x (by lia) (by rw [Nat.zero_add]; exact ej))
      have M5 := cB _ ka (kb - 1) m2 M4 hm2 (fun x hx y hy => by
       obtain ⟨j,j1,j2,ej⟩ := at_mid hy
       obtain ⟨i,i1,ei⟩ := at_pre hx
       exact le_trans (sorted_at T.sa (by lia) ei eax) (d2 j y j1 j2 (by rw [Nat.zero_add]; exact ej)))
      by_cases hp2:kb - 1 - m2 > 0
      ·rw [if_pos hp2]
       by_cases z2:m2 = 1
       ·rw [if_pos (by simpa using z2)]
        exact wpS_pure ⟨_,rfl,.inl ⟨_,rfl,done1 _ _ _ M5 z2⟩⟩
       rw [if_neg (by simpa using z2)]
       by_cases z4:m2 = 0
       ·rw [if_pos (by simpa using z4)]
        exact wpS_pure ⟨_,rfl,.inl ⟨_,rfl,doneB _ _ _ M5 z4⟩⟩
       rw [if_neg (by simpa using z4)]
       have hle := hle m2 (Nat.le_refl _)
       refine wpS_bind (wpS_elem eax ?_)
       have M6 := pA _ ka m2 _ M5 hkx eax hle
       by_cases z3:ka - 1 = 0
       ·rw [if_pos (by simpa using z3)]
        exact wpS_pure ⟨_,rfl,.inl ⟨_,rfl,doneA _ _ _ M6 z3⟩⟩
       rw [if_neg (by simpa using z3)]
       split
       ·exact wpS_pure ⟨_,rfl,.inr ⟨_,_,_,_,_,_,rfl,M6,by lia,by lia,by lia⟩⟩
       ·exact wpS_pure ⟨_,_,_,_,_,_,_,rfl,rfl,M6,by lia,by lia,by lia⟩
      ·rw [if_neg hp2]
       have hle := hle (kb - 1) (by omega)
       refine wpS_bind (wpS_elem eax ?_)
       have M6 := pA _ ka (kb - 1) _ M4 hkx eax hle
       by_cases z3:ka - 1 = 0
       ·rw [if_pos (by simpa using z3)]
        exact wpS_pure ⟨_,rfl,.inl ⟨_,rfl,doneA _ _ _ M6 z3⟩⟩
       rw [if_neg (by simpa using z3)]
       split
       ·exact wpS_pure ⟨_,rfl,.inr ⟨_,_,_,_,_,_,rfl,M6,by lia,by lia,by lia⟩⟩
       ·exact wpS_pure ⟨_,_,_,_,_,_,_,rfl,rfl,M6,by lia,by lia,by lia⟩
end
end Tim
namespace Tim
open PySem PyProof.Rows
theorem lay_in:∀ (ms:List Keyed) (k lo:Nat) (P X R:List Keyed) (xs:Array Keyed),xs.toList = P ++ X ++ R → X.length = ms.length → lo + k = P.length →
  ((ms.zipIdx k).foldl (fun a p => a.setIfInBounds (lo + p.2) p.1) xs).toList = P ++ ms ++ R
 | [],_,_,P,X,R,xs,e,hl,_ => by
  obtain rfl:X = [] := List.length_eq_zero_iff.mp hl
  exact e
 | m :: ms,k,lo,P,X,R,xs,e,hl,hp => by
  match X,hl with
  | x :: X,hl =>
   rw [List.zipIdx_cons,List.foldl_cons]
   have z := lay_in ms (k + 1) lo (P ++ [m]) X R (xs.setIfInBounds (lo + k) m) (by
    rw [Array.toList_setIfInBounds,e,hp]
    simp) (by simpa using hl) (by rw [List.length_append]; simp; lia)
   rw [z]
   simp
section
variable {prog:Program} {w:World} {A:Around} {E:Value → Shared → Prop} {s:Shared}
theorem seg {P X R:List Keyed} {xs:Array Keyed} (e:xs.toList = P ++ X ++ R) {lo j:Nat} (hlo:lo = P.length) (hj:j < X.length):xs[lo + j]? = X[j]? := by
 have:xs[lo + j]? = xs.toList[lo + j]? := by simp
 rw [this,e,List.append_assoc,hlo,List.getElem?_append_right (by lia),List.getElem?_append_left (by lia),Nat.add_sub_cancel_left]
theorem le_mem {C:Cmp prog w A E s} {X:List Keyed} (so:X.Pairwise (le C)) {i j:Nat} {p q:Keyed} (hij:i ≤ j) (e1:X[i]? = some p) (e2:X[j]? = some q):le C p q :=
 sorted_at (xs := X.toArray) (by simpa using so) hij (by simpa using e1) (by simpa using e2)
theorem glued {C:Cmp prog w A E s} {X Y r:List Keyed} {k m:Nat} (sX:X.Pairwise (le C)) (sY:Y.Pairwise (le C)) (M:Mgd C (X.drop k) (Y.take m) r) (h1:∀ x ∈ X.take k,∀ y ∈ Y,le C x y) (h2:∀ x ∈ X,∀ y ∈ Y.drop m,le C x y) :
  (X.take k ++ r ++ Y.drop m).Perm (X ++ Y) ∧ (X.take k ++ r ++ Y.drop m).Pairwise (le C) := by
 have x1 := sX
 rw [← List.take_append_drop k X,List.pairwise_append] at x1
 have y1 := sY
 rw [← List.take_append_drop m Y,List.pairwise_append] at y1
 refine ⟨?_,?_⟩
 ·have z := (M.pm.append_left (X.take k)).append_right (Y.drop m)
  rw [← List.append_assoc,List.take_append_drop,List.append_assoc X,List.take_append_drop] at z
  exact z
 ·rw [List.pairwise_append,List.pairwise_append]
  refine ⟨⟨x1.1,M.so,fun x hx y hy => ?_⟩,y1.2.1,fun x hx y hy => ?_⟩
  ·rcases List.mem_append.mp (M.pm.mem_iff.mp hy) with z | z
   ·exact x1.2.2 x hx y z
   ·exact h1 x hx y (List.mem_of_mem_take z)
  ·rcases List.mem_append.mp hx with hx | hx
   ·exact h2 x (List.mem_of_mem_take hx) y hy
   ·rcases List.mem_append.mp (M.pm.mem_iff.mp hx) with z | z
    ·exact h2 x (List.mem_of_mem_drop z) y hy
    ·exact y1.2.2 x z y hy
theorem wpS_set {st st':SortSt} {Q:PUnit → SortSt → Prop} (h:Q ⟨⟩ st'):wpS (model prog w) A E s (set st':StateT SortSt Sem PUnit) Q st := by
 unfold wpS
 rw [StateT.run_set]
 exact wpAny_pure ⟨rfl,h⟩
theorem mat_ok {C:Cmp prog w A E s} {st:SortSt} {i sa na pw sb nb pw':Nat} {P X Y R:List Keyed} {Q:Bool → SortSt → Prop} (hF:∀ (p:Array (Nat × Nat × Nat)) (g:Nat),C.F (SortSt.mk' (kindOf st) (arrOf st) p g (failedOf st))) (hf:failedOf st = none)
  (e1:(pendingOf st)[i]? = some (sa,na,pw)) (e2:(pendingOf st)[i + 1]? = some (sb,nb,pw')) (hl:(arrOf st).toList = P ++ X ++ Y ++ R) (hS:∀ p ∈ (arrOf st).toList,C.S p)
  (hsa:sa = P.length) (hna:na = X.length) (hsb:sb = sa + na) (hnb:nb = Y.length) (nX:0 < na) (nY:0 < nb) (sX:X.Pairwise (le C)) (sY:Y.Pairwise (le C))
  (h:∀ (xs:Array Keyed) (Z:List Keyed) (g:Nat),xs.toList = P ++ Z ++ R → Z.Perm (X ++ Y) → Z.Pairwise (le C) → Q true (SortSt.mk' (kindOf st) xs (((pendingOf st).setIfInBounds i (sa,na + nb,pw)).eraseIdxIfInBounds (i + 1)) g (failedOf st))) :
  wpS (model prog w) A E s (mergeAt' i) Q st := by
 have hl1:(arrOf st).toList = P ++ X ++ (Y ++ R) := by rw [hl,List.append_assoc]
 have hl2:(arrOf st).toList = (P ++ X) ++ Y ++ R := hl
 have hsb2:sb = (P ++ X).length := by rw [List.length_append]; lia
 have aX:∀ j,j < na → (arrOf st)[sa + j]? = X[j]? := fun j hj => seg hl1 hsa (by lia)
 have aY:∀ j,j < nb → (arrOf st)[sb + j]? = Y[j]? := fun j hj => seg hl2 hsb2 (by lia)
 have SX:∀ j,j < na → ∃ p,(arrOf st)[sa + j]? = some p ∧ C.S p := fun j hj => by
  have e := aX j hj
  rw [List.getElem?_eq_getElem (by lia)] at e
  exact ⟨_,e,hS _ (mem_at e)⟩
 have SY:∀ j,j < nb → ∃ p,(arrOf st)[sb + j]? = some p ∧ C.S p := fun j hj => by
  have e := aY j hj
  rw [List.getElem?_eq_getElem (by lia)] at e
  exact ⟨_,e,hS _ (mem_at e)⟩
 have oX:∀ i j p q,i ≤ j → j < na → (arrOf st)[sa + i]? = some p → (arrOf st)[sa + j]? = some q → le C p q := fun i j p q hij hj f1 f2 => le_mem sX hij (by rw [← aX i (by lia)]; exact f1) (by rw [← aX j hj]; exact f2)
 have oY:∀ i j p q,i ≤ j → j < nb → (arrOf st)[sb + i]? = some p → (arrOf st)[sb + j]? = some q → le C p q := fun i j p q hij hj f1 f2 => le_mem sY hij (by rw [← aY i (by lia)]; exact f1) (by rw [← aY j hj]; exact f2)
 obtain ⟨y0,ey0,Sy0⟩ := SY 0 nY
 obtain ⟨xL,exL,SxL⟩ := SX (na - 1) (by lia)
 rw [Nat.add_zero] at ey0
 have iX:∀ x ∈ X,∃ j,j < na ∧ (arrOf st)[sa + j]? = some x ∧ X[j]? = some x := fun x hx => by
  obtain ⟨j,hj⟩ := List.getElem?_of_mem hx
  have := (List.getElem?_eq_some_iff.mp hj).1
  exact ⟨j,by lia,by rw [aX j (by lia)]; exact hj,hj⟩
 have iY:∀ x ∈ Y,∃ j,j < nb ∧ (arrOf st)[sb + j]? = some x ∧ Y[j]? = some x := fun x hx => by
  obtain ⟨j,hj⟩ := List.getElem?_of_mem hx
  have := (List.getElem?_eq_some_iff.mp hj).1
  exact ⟨j,by lia,by rw [aY j (by lia)]; exact hj,hj⟩
 have lowY:∀ y ∈ Y,le C y0 y := fun y hy => by
  obtain ⟨j,j1,j2,j3⟩ := iY y hy
  exact oY 0 j y0 y (Nat.zero_le _) j1 (by rw [Nat.add_zero]; exact ey0) j2
 have topX:∀ x ∈ X,le C x xL := fun x hx => by
  obtain ⟨j,j1,j2,j3⟩ := iX x hx
  exact oX j (na - 1) x xL (by lia) (by omega) j2 exL
 have flat:(∀ x ∈ X,∀ y ∈ Y,le C x y) → (X ++ Y).Pairwise (le C) := fun c => List.pairwise_append.mpr ⟨sX,sY,c⟩
 refine wpS_bind (wpS_get ?_)
 dsimp only
 erw [e1,e2]
 dsimp only
 refine wpS_bind (wpS_set ?_)
 refine wpS_bind (wpS_elem ey0 ?_)
 refine wpS_bind (galR (hF _ _) Sy0 nX SX oX fun k hk c1 c2 => ?_)
 dsimp only
 by_cases z1:na - k = 0
 ·rw [if_pos (by simpa using z1)]
  refine wpS_pure (h (arrOf st) (X ++ Y) (gallopOf st) (by rw [hl,List.append_assoc P]) (.refl _) (flat fun x hx y hy => ?_))
  obtain ⟨j,j1,j2,j3⟩ := iX x hx
  exact le_trans (c1 j x (by lia) j2) (lowY y hy)
 rw [if_neg (by simpa using z1)]
 refine wpS_bind (wpS_elem (p := xL) (by rw [show sa + k + (na - k) - 1 = sa + (na - 1) by lia]; exact exL) ?_)
 refine wpS_bind (galL (hF _ _) SxL (by lia) SY oY fun m hm d1 d2 => ?_)
 dsimp only
 by_cases z2:m = 0
 ·rw [if_pos (by simpa using z2)]
  refine wpS_pure (h (arrOf st) (X ++ Y) (gallopOf st) (by rw [hl,List.append_assoc P]) (.refl _) (flat fun x hx y hy => ?_))
  obtain ⟨j,j1,j2,j3⟩ := iY y hy
  exact le_trans (topX x hx) (d2 j y (by lia) j1 j2)
 rw [if_neg (by simpa using z2)]
 have ea:((arrOf st).extract (sa + k) sb).toList = X.drop k := by
  rw [ext_mn,hl1,hsb,hsa,hna,List.take_append_of_le_length (by rw [List.length_append]; lia),List.take_of_length_le (by rw [List.length_append]; lia),List.drop_append,List.drop_of_length_le (by lia),Nat.add_sub_cancel_left,List.nil_append]
 have eb:((arrOf st).extract sb (sb + m)).toList = Y.take m := by
  rw [ext_k,hl2,hsb2,List.append_assoc,List.drop_left,List.take_append_of_le_length (by lia)]
 have sza:((arrOf st).extract (sa + k) sb).size = na - k := by rw [← Array.length_toList,ea,List.length_drop]; lia
 have szb:((arrOf st).extract sb (sb + m)).size = m := by rw [← Array.length_toList,eb,List.length_take]; lia
 have ga:∀ j,((arrOf st).extract (sa + k) sb)[j]? = X[k + j]? := fun j => by rw [← Array.getElem?_toList,ea,List.getElem?_drop]
 have gb:∀ j,j < m → ((arrOf st).extract sb (sb + m))[j]? = Y[j]? := fun j hj => by rw [← Array.getElem?_toList,eb,List.getElem?_take_of_lt hj]
 obtain ⟨xk,exk,Sxk⟩ := SX k (by lia)
 obtain ⟨ym,eym,Sym⟩ := SY (m - 1) (by lia)
 have T:Two C ((arrOf st).extract (sa + k) sb) ((arrOf st).extract sb (sb + m)) xk y0 xL ym := by
  refine ⟨fun p hp => ?_,fun p hp => ?_,?_,?_,?_,?_,?_,?_,c2 k xk (Nat.le_refl _) (by lia) exk,d1 (m - 1) ym (by lia) eym⟩
  ·rw [ea] at hp
   exact hS p (by rw [hl]; simp [List.mem_of_mem_drop hp])
  ·rw [eb] at hp
   exact hS p (by rw [hl]; simp [List.mem_of_mem_take hp])
  ·rw [ea]; exact sX.sublist (List.drop_sublist _ _)
  ·rw [eb]; exact sY.sublist (List.take_sublist _ _)
  ·rw [ga,Nat.add_zero,← aX k (by lia)]; exact exk
  ·rw [gb 0 (by lia),← aY 0 nY,Nat.add_zero]; exact ey0
  ·rw [sza,ga,show k + (na - k - 1) = na - 1 by lia,← aX (na - 1) (by lia)]; exact exL
  ·rw [szb,gb (m - 1) (by lia),← aY (m - 1) (by lia)]; exact eym
 have fin:∀ (r:Array Keyed) (g:Nat),Mgd C ((arrOf st).extract (sa + k) sb).toList ((arrOf st).extract sb (sb + m)).toList r.toList →
   Q true (SortSt.mk' (kindOf st) (List.foldl (fun a x => a.setIfInBounds (sa + k + x.2) x.1) (arrOf st) r.toList.zipIdx) (((pendingOf st).setIfInBounds i (sa,na + nb,pw)).eraseIdxIfInBounds (i + 1)) g (failedOf st)) := fun r g M => by
  rw [ea,eb] at M
  obtain ⟨g1,g2⟩ := glued sX sY M (fun x hx y hy => by
   obtain ⟨j,j1,j2⟩ := at_pre (xs := X.toArray) (n := k) (y := x) (by simpa using hx)
   have j3:X[j]? = some x := by simpa using j2
   exact le_trans (c1 j x j1 (by rw [aX j (by lia)]; exact j3)) (lowY y hy)) (fun x hx y hy => by
   obtain ⟨j,j2⟩ := at_drop (xs := Y.toArray) (i := m) (y := y) (by simpa using hy)
   have j3:Y[m + j]? = some y := by simpa using j2
   have := (List.getElem?_eq_some_iff.mp j3).1
   exact le_trans (topX x hx) (d2 (m + j) y (by lia) (by lia) (by rw [aY (m + j) (by lia)]; exact j3)))
  refine h _ _ g ?_ g1 g2
  have z := lay_in r.toList 0 (sa + k) (P ++ X.take k) (X.drop k ++ Y.take m) (Y.drop m ++ R) (arrOf st) (by
   rw [hl]
   have u1 := List.take_append_drop k X
   have u2 := List.take_append_drop m Y
   conv => lhs; rw [← u1,← u2]
   simp only [List.append_assoc]) (by have := M.pm.length_eq; exact this.symm) (by rw [List.length_append,List.length_take]; lia)
  rw [z]
  simp only [List.append_assoc]
 by_cases z3:na - k ≤ m
 ·rw [if_pos z3]
  refine wpS_bind (mlo_ok (fun g => hF _ g) T fun r g M => ?_)
  refine wpS_bind (wpS_modify (wpS_bind (wpS_get (wpS_pure ?_))))
  have key:∀ b:Bool,b = true → Q b _ := fun b e => by
   rw [e]
   exact fin r g M
  exact key (failedOf st).isNone (by rw [hf]; rfl)
 ·rw [if_neg z3]
  refine wpS_bind (mhi_ok (fun g => hF _ g) T fun r g M => ?_)
  refine wpS_bind (wpS_modify (wpS_bind (wpS_get (wpS_pure ?_))))
  have key:∀ b:Bool,b = true → Q b _ := fun b e => by
   rw [e]
   exact fin r g M
  exact key (failedOf st).isNone (by rw [hf]; rfl)
end
end Tim
namespace Tim
open PySem PyProof.Rows
section
variable {prog:Program} {w:World} {A:Around} {E:Value → Shared → Prop} {s:Shared}
theorem ltAt_ok {C:Cmp prog w A E s} {st:SortSt} {i j:Nat} {p q:Keyed} {Q:Option Bool → SortSt → Prop} (hF:C.F st) (e1:(arrOf st)[i]? = some p) (e2:(arrOf st)[j]? = some q) (Sp:C.S p) (Sq:C.S q)
  (h:Q (some (C.O.blt (C.key p) (C.key q))) st):wpS (model prog w) A E s (ltAt' i j) Q st := by
 refine wpS_bind (wpS_get ?_)
 exact wpS_bind (wpS_elem e1 (wpS_bind (wpS_elem e2 (C.ok st p q Q hF Sp Sq h))))
theorem bub_list {P V R:List Keyed} {x:Keyed} {xs:Array Keyed} (e:xs.toList = P ++ (V ++ [x]) ++ R) {src d:Nat} (hs:src = P.length + V.length) (hd:d = V.length):(bubble xs src d).toList = P ++ (x :: V) ++ R := by
 have hlen:xs.size = P.length + (V.length + 1) + R.length := by rw [← Array.length_toList,e]; simp; lia
 have g:∀ n,xs[n]? = (P ++ (V ++ [x]) ++ R)[n]? := fun n => by rw [← Array.getElem?_toList,e]
 refine List.ext_getElem? fun n => ?_
 rw [Array.getElem?_toList,getElem?_bubble (by lia) d (by lia) n,g,g,g,show src - d = P.length by lia]
 simp only [List.getElem?_append,List.length_append,List.length_cons,List.length_nil,List.getElem?_cons,List.getElem?_nil]
 repeat' split
 all_goals first | rfl | (exfalso; lia) | (congr 1; lia)
theorem bin_ok {C:Cmp prog w A E s} {st:SortSt} {lo n k0:Nat} {P X R:List Keyed} {Q:Bool → SortSt → Prop} (hF:∀ (xs:Array Keyed),C.F (setArr st xs)) (hl:(arrOf st).toList = P ++ X ++ R) (hlo:lo = P.length) (hn:n = X.length) (hk:k0 ≤ n)
  (hS:∀ p ∈ X,C.S p) (so:(X.take k0).Pairwise (le C)) (h:∀ (xs:Array Keyed) (Z:List Keyed),xs.toList = P ++ Z ++ R → Z.Perm X → Z.Pairwise (le C) → Q true (setArr st xs)):wpS (model prog w) A E s (binarySort' lo n k0) Q st := by
 refine wpS_bind (wpS_mono (wpS_forRange (I := fun k c st' => c = (none,()) ∧ ∃ (xs:Array Keyed) (Z:List Keyed),st' = setArr st xs ∧ xs.toList = P ++ Z ++ R ∧ Z.Perm X ∧ (Z.take k).Pairwise (le C))
  (Q := fun c st' => c = (none,()) ∧ ∃ (xs:Array Keyed) (Z:List Keyed),st' = setArr st xs ∧ xs.toList = P ++ Z ++ R ∧ Z.Perm X ∧ Z.Pairwise (le C)) ?s ?e ⟨rfl,arrOf st,X,rfl,hl,.refl _,?_⟩) ?p)
 case p =>
  rintro c st' ⟨rfl,xs,Z,rfl,e,pm,sz⟩
  exact wpS_pure (h xs Z e pm sz)
 case e =>
  rintro c st' ⟨rfl,xs,Z,rfl,e,pm,sz⟩
  have := pm.length_eq
  rw [List.take_of_length_le (by lia)] at sz
  exact ⟨rfl,xs,Z,rfl,e,pm,sz⟩
 case s =>
  rintro k c st' hk1 hkn ⟨rfl,xs,Z,rfl,e,pm,sz⟩
  have hzl := pm.length_eq
  have aZ:∀ j,j < n → ∃ p,xs[lo + j]? = some p ∧ Z[j]? = some p ∧ C.S p := fun j hj => by
   have hj2:j < Z.length := by lia
   have f:xs[lo + j]? = Z[j]? := seg e hlo hj2
   rw [List.getElem?_eq_getElem hj2] at f
   exact ⟨_,f,List.getElem?_eq_getElem hj2,hS _ (pm.mem_iff.mp (List.getElem_mem hj2))⟩
  obtain ⟨x,ex,ezx,Sx⟩ := aZ k hkn
  have szk:∀ i j p q,i ≤ j → j < k → Z[i]? = some p → Z[j]? = some q → le C p q := fun i j p q hij hj f1 f2 => le_mem sz hij (by rw [List.getElem?_take_of_lt (by lia)]; exact f1) (by rw [List.getElem?_take_of_lt hj]; exact f2)
  refine wpS_bind (wpS_mono (wpS_forRange (I := fun y c st' => st' = setArr st xs ∧ ∃ l r,c = (none,l,r) ∧ l ≤ r ∧ r ≤ k ∧ r - l ≤ k - y ∧ (∀ i p,i < l → Z[i]? = some p → le C p x) ∧ (∀ i p,r ≤ i → i < k → Z[i]? = some p → le C x p))
   (Q := fun c st' => st' = setArr st xs ∧ ∃ l r,c = (none,l,r) ∧ l ≤ k ∧ (∀ i p,i < l → Z[i]? = some p → le C p x) ∧ (∀ i p,l ≤ i → i < k → Z[i]? = some p → le C x p)) ?s1 ?e1 ⟨rfl,0,k,rfl,Nat.zero_le _,Nat.le_refl _,by lia,(fun i p z => by lia),(fun i p z1 z2 => by lia)⟩) ?p1)
  case e1 =>
   rintro c st' ⟨rfl,l,r,rfl,h1,h2,h3,h4,h5⟩
   have:l = r := by lia
   subst this
   exact ⟨rfl,l,l,rfl,h2,h4,h5⟩
  case s1 =>
   rintro y c st' _ hy ⟨rfl,l,r,rfl,h1,h2,h3,h4,h5⟩
   dsimp only
   by_cases hge:l ≥ r
   ·rw [if_pos hge]
    have:l = r := by lia
    subst this
    exact wpS_pure ⟨rfl,l,l,rfl,h2,h4,h5⟩
   ·rw [if_neg hge]
    obtain ⟨pm',em,ezm,Sm⟩ := aZ ((l + r) / 2) (by lia)
    refine wpS_bind (ltAt_ok (hF xs) ex em Sx Sm ?_)
    dsimp only
    cases e0:C.O.blt (C.key x) (C.key pm') with
    | true => exact wpS_pure ⟨rfl,l,_,rfl,by lia,by lia,by lia,h4,fun i p i1 i2 f => le_trans (le_of_lt e0) (szk _ i _ p i1 i2 ezm f)⟩
    | false => exact wpS_pure ⟨rfl,_,r,rfl,by lia,h2,by lia,(fun i p i1 f => le_trans (szk i _ p _ (by lia) (by lia) f ezm) (le_of_not e0)),h5⟩
  case p1 =>
   rintro c st' ⟨rfl,l,r,rfl,h1,h4,h5⟩
   have hkZ:k < Z.length := by lia
   have zx:Z[k] = x := by rw [List.getElem?_eq_getElem hkZ] at ezx; exact Option.some.inj ezx
   have cut:Z = Z.take l ++ ((Z.take k).drop l ++ [x]) ++ Z.drop (k + 1) := by
    have u := List.take_append_drop k Z
    rw [List.drop_eq_getElem_cons hkZ,zx,take_cut Z h1] at u
    conv => lhs; rw [← u]
    simp only [List.append_assoc,List.cons_append,List.nil_append]
   have lv:((Z.take k).drop l).length = k - l := by rw [List.length_drop,List.length_take]; lia
   have ll:(Z.take l).length = l := by rw [List.length_take]; lia
   refine wpS_bind (wpS_modify (wpS_pure ⟨rfl,_,Z.take l ++ (x :: (Z.take k).drop l) ++ Z.drop (k + 1),rfl,?_,?_,?_⟩))
   ·have z := bub_list (xs := xs) (P := P ++ Z.take l) (V := (Z.take k).drop l) (R := Z.drop (k + 1) ++ R) (x := x) (by
     rw [e]
     conv => lhs; rw [cut]
     simp only [List.append_assoc]) (src := lo + k) (d := lo + k - (lo + l)) (by rw [List.length_append,ll,lv]; lia) (by rw [lv]; lia)
    refine Eq.trans z ?_
    simp only [List.append_assoc]
   ·refine List.Perm.trans ?_ pm
    conv => rhs; rw [cut]
    refine List.Perm.append_right _ (List.Perm.append_left _ ?_)
    exact (List.perm_append_comm (l₁ := [x]) (l₂ := (Z.take k).drop l))
   ·rw [List.take_append_of_le_length (by rw [List.length_append,ll,List.length_cons,lv]; lia),List.take_of_length_le (by rw [List.length_append,ll,List.length_cons,lv]; lia)]
    have s1 := sz
    rw [take_cut Z h1,List.pairwise_append] at s1
    have vx:∀ y ∈ (Z.take k).drop l,le C x y := fun y hy => by
     obtain ⟨j,j1,j2,j3⟩ := at_mid (xs := Z.toArray) (m := l) (n := k) (y := y) (by simpa using hy)
     exact h5 j y j1 j2 (by simpa using j3)
    rw [List.pairwise_append,List.pairwise_cons]
    refine ⟨s1.1,⟨vx,s1.2.1⟩,fun p hp y hy => ?_⟩
    rcases List.mem_cons.mp hy with rfl | hy
    ·obtain ⟨j,j1,j2⟩ := at_pre (xs := Z.toArray) (n := l) (y := p) (by simpa using hp)
     exact h4 j p j1 (by simpa using j2)
    ·exact s1.2.2 p hp y hy
 ·by_cases hz:k0 = 0
  ·subst hz
   match X with
   | [] => simp
   | y :: Y => simp
  ·rw [show max k0 1 = k0 by lia]
   exact so
end
end Tim
namespace Tim
open PySem PyProof.Rows
section
variable {prog:Program} {w:World} {A:Around} {E:Value → Shared → Prop} {s:Shared}
theorem mir_list {P V R:List Keyed} {xs:Array Keyed} (e:xs.toList = P ++ V ++ R) {i j:Nat} (hi:i = P.length) (hj:j = P.length + V.length):(mirror xs i j ((j - i) / 2)).toList = P ++ V.reverse ++ R := by
 have hlen:xs.size = P.length + V.length + R.length := by rw [← Array.length_toList,e]; simp; lia
 have g:∀ n,xs[n]? = (P ++ V ++ R)[n]? := fun n => by rw [← Array.getElem?_toList,e]
 refine List.ext_getElem? fun n => ?_
 rw [Array.getElem?_toList,getElem?_mirror_all (by lia) n,g,g]
 by_cases h1:i ≤ n ∧ n < j
 ·rw [if_pos h1]
  simp only [List.getElem?_append,List.length_append,List.length_reverse]
  rw [if_pos (by omega),if_neg (by lia),if_pos (by lia),if_neg (by lia),List.getElem?_reverse (by lia)]
  congr 1
  lia
 ·rw [if_neg h1]
  simp only [List.getElem?_append,List.length_append,List.length_reverse]
  repeat' split
  all_goals first | rfl | (exfalso; lia) | (congr 1; omega)
noncomputable def Fal (C:Cmp prog w A E s) (Z:List Keyed) (x:Nat):Prop := ∀ i j p q,i ≤ j → j < x → Z[i]? = some p → Z[j]? = some q → le C q p
noncomputable def Alk (C:Cmp prog w A E s) (Z:List Keyed) (lo hi:Nat):Prop := ∀ i j p q,lo ≤ i → i < hi → lo ≤ j → j < hi → Z[i]? = some p → Z[j]? = some q → le C p q
section
variable {C:Cmp prog w A E s} {Z:List Keyed}
noncomputable def rnd (Z:List Keyed) (lo hi:Nat):List Keyed := Z.take lo ++ ((Z.take hi).drop lo).reverse ++ Z.drop hi
theorem rnd_cut (Z:List Keyed) {lo hi:Nat} (h:lo ≤ hi):Z = Z.take lo ++ (Z.take hi).drop lo ++ Z.drop hi := by
 have u := List.take_append_drop hi Z
 rw [take_cut Z h] at u
 exact u.symm
theorem rnd_perm (Z:List Keyed) {lo hi:Nat} (h:lo ≤ hi):(rnd Z lo hi).Perm Z := by
 have u := rnd_cut Z h
 conv => rhs; rw [u]
 exact List.Perm.append_right _ (List.Perm.append_left _ (List.reverse_perm _))
theorem rnd_at {lo hi:Nat} (h:lo ≤ hi) (hh:hi ≤ Z.length) (n:Nat):(rnd Z lo hi)[n]? = if lo ≤ n ∧ n < hi then Z[lo + hi - 1 - n]? else Z[n]? := by
 unfold rnd
 have l1:(Z.take lo).length = lo := by rw [List.length_take]; lia
 have l2:((Z.take hi).drop lo).length = hi - lo := by rw [List.length_drop,List.length_take]; lia
 simp only [List.getElem?_append,List.length_append,List.length_reverse,l1,l2]
 by_cases h1:lo ≤ n ∧ n < hi
 ·rw [if_pos h1,if_pos (by lia),if_neg (by lia),List.getElem?_reverse (by lia),l2,List.getElem?_drop,List.getElem?_take_of_lt (by omega)]
  congr 1
  lia
 ·rw [if_neg h1]
  by_cases h2:n < lo
  ·rw [if_pos (by lia),if_pos h2,List.getElem?_take_of_lt h2]
  ·rw [if_neg (by lia),List.getElem?_drop]
   congr 1
   omega
theorem rnd_like {lo hi:Nat} (h:lo ≤ hi) (hh:hi ≤ Z.length) (al:Alk C Z lo hi) {n:Nat} {p:Keyed} (e:(rnd Z lo hi)[n]? = some p):∃ q,Z[n]? = some q ∧ le C p q ∧ le C q p := by
 rw [rnd_at h hh] at e
 split at e
 ·rename_i h1
  have hn:n < Z.length := by lia
  exact ⟨_,List.getElem?_eq_getElem hn,al _ _ _ _ (by omega) (by omega) h1.1 h1.2 e (List.getElem?_eq_getElem hn),al _ _ _ _ h1.1 h1.2 (by omega) (by omega) (List.getElem?_eq_getElem hn) e⟩
 ·exact ⟨p,e,KeyOrd.kle_refl _,KeyOrd.kle_refl _⟩
theorem Fal.turned {lo hi x:Nat} (f:Fal C Z x) (h:lo ≤ hi) (hh:hi ≤ Z.length) (al:Alk C Z lo hi):Fal C (rnd Z lo hi) x := fun i j p q hij hj e1 e2 => by
 obtain ⟨p',a1,a2,a3⟩ := rnd_like h hh al e1
 obtain ⟨q',b1,b2,b3⟩ := rnd_like h hh al e2
 exact le_trans b2 (le_trans (f i j p' q' hij hj a1 b1) a3)
theorem Fal.more {x:Nat} (f:Fal C Z x) (h0:0 < x) {p q:Keyed} (e1:Z[x]? = some p) (e2:Z[x - 1]? = some q) (c:le C p q):Fal C Z (x + 1) := fun i j u v hij hj f1 f2 => by
 by_cases hj2:j < x
 ·exact f i j u v hij hj2 f1 f2
 ·have:j = x := by lia
  subst this
  rw [e1] at f2
  cases f2
  by_cases hi2:i < j
  ·exact le_trans c (f i (j - 1) u q (by omega) (by omega) f1 e2)
  ·have:i = j := by lia
   subst this
   rw [e1] at f1
   cases f1
   exact KeyOrd.kle_refl _
theorem Fal.turn {x:Nat} (f:Fal C Z x) (hx:x ≤ Z.length):((rnd Z 0 x).take x).Pairwise (le C) := by
 have e:(rnd Z 0 x).take x = (Z.take x).reverse := by
  unfold rnd
  rw [List.take_zero,List.nil_append,List.drop_zero,List.take_append_of_le_length (by rw [List.length_reverse,List.length_take]; lia),List.take_of_length_le (by rw [List.length_reverse,List.length_take]; lia)]
 rw [e,List.pairwise_reverse,List.pairwise_iff_getElem]
 intro i j hi hj hij
 rw [List.length_take] at hi hj
 exact f i j _ _ (by lia) (by lia) (by rw [← List.getElem?_take_of_lt (show i < x by lia)]; exact List.getElem?_eq_getElem _) (by rw [← List.getElem?_take_of_lt (show j < x by lia)]; exact List.getElem?_eq_getElem _)
theorem up_more {x:Nat} (so:(Z.take x).Pairwise (le C)) (h0:0 < x) {p q:Keyed} (e1:Z[x]? = some p) (e2:Z[x - 1]? = some q) (c:le C q p):(Z.take (x + 1)).Pairwise (le C) := by
 rw [List.take_succ,e1,List.pairwise_append]
 refine ⟨so,by simp,fun u hu v hv => ?_⟩
 have hv':v = p := by simpa using hv
 subst hv'
 obtain ⟨j,j1,j2⟩ := at_pre (xs := Z.toArray) (n := x) (y := u) (by simpa using hu)
 have j3:Z[j]? = some u := by simpa using j2
 exact le_trans (le_mem so (i := j) (j := x - 1) (by omega) (by rw [List.getElem?_take_of_lt j1]; exact j3) (by rw [List.getElem?_take_of_lt (by omega)]; exact e2)) c
end
theorem mir_rnd {P Z R:List Keyed} {xs:Array Keyed} (e:xs.toList = P ++ Z ++ R) {i j lo a b:Nat} (hlo:lo = P.length) (hi:i = lo + a) (hj:j = lo + b) (hab:a ≤ b) (hb:b ≤ Z.length):(mirror xs i j ((j - i) / 2)).toList = P ++ rnd Z a b ++ R := by
 have z := mir_list (xs := xs) (P := P ++ Z.take a) (V := (Z.take b).drop a) (R := Z.drop b ++ R) (by
  rw [e]
  conv => lhs; rw [rnd_cut Z hab]
  simp only [List.append_assoc]) (i := i) (j := j) (by rw [List.length_append,List.length_take]; lia) (by rw [List.length_append,List.length_take,List.length_drop,List.length_take]; lia)
 rw [z]
 unfold rnd
 simp only [List.append_assoc]
end
end Tim
namespace Tim
open PySem PyProof.Rows
section
variable {prog:Program} {w:World} {A:Around} {E:Value → Shared → Prop} {s:Shared}
theorem cnt_ok {C:Cmp prog w A E s} {st:SortSt} {lo n:Nat} {P X R:List Keyed} {Q:Option Nat → SortSt → Prop} (hF:∀ (xs:Array Keyed),C.F (setArr st xs)) (hl:(arrOf st).toList = P ++ X ++ R) (hlo:lo = P.length) (hn:n = X.length) (h1:1 ≤ n)
  (hS:∀ p ∈ X,C.S p) (h:∀ (m:Nat) (xs:Array Keyed) (Z:List Keyed),1 ≤ m → m ≤ n → xs.toList = P ++ Z ++ R → Z.Perm X → (Z.take m).Pairwise (le C) → Q (some m) (setArr st xs)):wpS (model prog w) A E s (countRun' lo n) Q st := by
 have at_:∀ (xs:Array Keyed) (Z:List Keyed) (j:Nat),xs.toList = P ++ Z ++ R → Z.Perm X → j < n → ∃ p,xs[lo + j]? = some p ∧ Z[j]? = some p ∧ C.S p := fun xs Z j e pm hj => by
  have hj2:j < Z.length := by have := pm.length_eq; lia
  have f:xs[lo + j]? = Z[j]? := seg e hlo hj2
  rw [List.getElem?_eq_getElem hj2] at f
  exact ⟨_,f,List.getElem?_eq_getElem hj2,hS _ (pm.mem_iff.mp (List.getElem_mem hj2))⟩
 refine wpS_bind (wpS_mono (wpS_forRange (I := fun x c st' => st' = st ∧ c = (none,x) ∧ (X.take x).Pairwise (le C))
  (Q := fun c st' => st' = st ∧ ∃ m,c = (none,m) ∧ 1 ≤ m ∧ m ≤ n ∧ (X.take m).Pairwise (le C) ∧ (m = n ∨ ∃ p q,X[m]? = some p ∧ X[m - 1]? = some q ∧ C.O.blt (C.key p) (C.key q) = true)) ?oS ?oE ⟨rfl,rfl,?oI⟩) ?oP)
 case oI =>
  match X with
  | [] => simp
  | y :: Y => simp
 case oE =>
  rintro c st' ⟨rfl,rfl,sx⟩
  exact ⟨rfl,_,rfl,by lia,by lia,sx,.inl (by lia)⟩
 case oS =>
  rintro x c st' hx1 hx2 ⟨rfl,rfl,sx⟩
  obtain ⟨p,e1,e2,Sp⟩ := at_ _ X x hl (.refl _) hx2
  obtain ⟨q,f1,f2,Sq⟩ := at_ _ X (x - 1) hl (.refl _) (by omega)
  dsimp only
  refine wpS_bind (ltAt_ok (hF (arrOf st')) e1 (by rw [show lo + x - 1 = lo + (x - 1) by lia]; exact f1) Sp Sq ?_)
  dsimp only
  cases e0:C.O.blt (C.key p) (C.key q) with
  | true => exact wpS_pure ⟨rfl,x,rfl,hx1,by lia,sx,.inr ⟨p,q,e2,f2,e0⟩⟩
  | false => exact wpS_pure ⟨rfl,rfl,up_more sx (by lia) e2 f2 (le_of_not e0)⟩
 case oP =>
  rintro c st' ⟨rfl,m,rfl,m1,m2,sx,hb⟩
  dsimp only
  by_cases z1:m = n
  ·rw [if_pos (by simpa using z1)]
   exact wpS_pure (h m (arrOf st') X m1 m2 hl (.refl _) sx)
  rw [if_neg (by simpa using z1)]
  obtain ⟨pm,pm1,epm,epm1,hlt⟩ := hb.resolve_left z1
  rename SortSt => st
  by_cases hm:m > 1
  ·rw [if_pos hm]
   obtain ⟨p0,g1,g2,Sp0⟩ := at_ _ X 0 hl (.refl _) (by lia)
   obtain ⟨pl,k1,k2,Spl⟩ := at_ _ X (m - 1) hl (.refl _) (by omega)
   rw [Nat.add_zero] at g1
   refine wpS_bind (ltAt_ok (hF (arrOf st)) g1 (by rw [show lo + m - 1 = lo + (m - 1) by lia]; exact k1) Sp0 Spl ?_)
   dsimp only
   cases e0:C.O.blt (C.key p0) (C.key pl) with
   | true => exact wpS_pure (h m (arrOf st) X m1 m2 hl (.refl _) sx)
   | false =>
    rw [if_neg Bool.false_ne_true]
    have up:∀ i j p q,i ≤ j → j < m → X[i]? = some p → X[j]? = some q → le C p q := fun i j p q hij hj f1 f2 => le_mem sx hij (by rw [List.getElem?_take_of_lt (by lia)]; exact f1) (by rw [List.getElem?_take_of_lt hj]; exact f2)
    have al0:Alk C X 0 m := fun i j p q _ i2 _ j2 f1 f2 => le_trans (up i (m - 1) p pl (by omega) (by omega) f1 k2) (le_trans (le_of_not e0) (up 0 j p0 q (Nat.zero_le _) j2 g2 f2))
    have fX:Fal C X m := fun i j p q hij hj f1 f2 => al0 j i q p (Nat.zero_le _) hj (Nat.zero_le _) (by lia) f2 f1
    have fZ := (fX.more (by lia) epm epm1 (le_of_lt hlt)).turned (lo := 0) (hi := m) (Nat.zero_le _) (by lia) al0
    have eZ := mir_rnd (i := lo) (j := lo + m) hl hlo (a := 0) (b := m) (by lia) rfl (Nat.zero_le _) (by lia)
    have pZ := rnd_perm X (lo := 0) (hi := m) (Nat.zero_le _)
    refine wpS_bind (wpS_modify ?_)
    refine wpS_bind (wpS_lift (wpAny_rule ⟨rfl,?_⟩))
    refine wpS_bind (wpS_mono (wpS_forRange (I := fun x c st' => ∃ (xs:Array Keyed) (Z:List Keyed) (k:Nat),st' = setArr st xs ∧ c = (none,x,k) ∧ xs.toList = P ++ Z ++ R ∧ Z.Perm X ∧ Fal C Z x ∧ k + 1 ≤ x ∧ Alk C Z (x - (k + 1)) x)
     (Q := fun c st' => ∃ (xs:Array Keyed) (Z:List Keyed) (x k:Nat),st' = setArr st xs ∧ c = (none,x,k) ∧ m + 1 ≤ x ∧ x ≤ n ∧ xs.toList = P ++ Z ++ R ∧ Z.Perm X ∧ Fal C Z x ∧ k + 1 ≤ x ∧ Alk C Z (x - (k + 1)) x) (fun x c st' hx1 hx2 hI => ?_) (fun c st' hI => ?_) ⟨_,_,0,rfl,rfl,eZ,pZ,fZ,by lia,fun i j p q i1 i2 j1 j2 f1 f2 => by
      have:i = j := by lia
      subst this
      rw [f1] at f2
      cases f2
      exact KeyOrd.kle_refl _⟩) fun c st' hI => ?_)
    ·obtain ⟨xs2,Z2,k,rfl,rfl,e2',pm2,f2',k1,al⟩ := hI
     have hz2 := pm2.length_eq
     obtain ⟨p,e1,e2,Sp⟩ := at_ _ Z2 x e2' pm2 hx2
     obtain ⟨q,f1,f2,Sq⟩ := at_ _ Z2 (x - 1) e2' pm2 (by omega)
     dsimp only
     refine wpS_bind (ltAt_ok (hF xs2) e1 (by rw [show lo + x - 1 = lo + (x - 1) by lia]; exact f1) Sp Sq ?_)
     dsimp only
     have one:∀ (W:List Keyed),Alk C W (x + 1 - (0 + 1)) (x + 1) := fun W i j p q i1 i2 j1 j2 f1 f2 => by
      have:i = j := by lia
      subst this
      rw [f1] at f2
      cases f2
      exact KeyOrd.kle_refl _
     cases e0:C.O.blt (C.key p) (C.key q) with
     | true =>
      rw [if_pos rfl]
      by_cases hk:k > 0
      ·rw [if_pos hk]
       refine wpS_bind (wpS_modify (wpS_pure ⟨_,rnd Z2 (x - (k + 1)) x,0,rfl,rfl,mir_rnd e2' hlo (by omega) rfl (by omega) (by lia),(rnd_perm _ (by omega)).trans pm2,(f2'.more (by lia) e2 f2 (le_of_lt e0)).turned (by omega) (by lia) al,by lia,one _⟩))
      ·rw [if_neg hk]
       exact wpS_pure ⟨xs2,Z2,0,rfl,rfl,e2',pm2,f2'.more (by lia) e2 f2 (le_of_lt e0),by lia,one _⟩
     | false =>
      rw [if_neg Bool.false_ne_true]
      refine wpS_bind (ltAt_ok (hF xs2) (by rw [show lo + x - 1 = lo + (x - 1) by lia]; exact f1) e1 Sq Sp ?_)
      dsimp only
      cases e0':C.O.blt (C.key q) (C.key p) with
      | true => exact wpS_pure ⟨xs2,Z2,x,k,rfl,rfl,by omega,by lia,e2',pm2,f2',k1,al⟩
      | false =>
       refine wpS_pure ⟨xs2,Z2,k + 1,rfl,rfl,e2',pm2,f2'.more (by lia) e2 f2 (le_of_not e0'),by lia,fun i j u v i1 i2 j1 j2 g1 g2 => ?_⟩
       have toq:∀ i u,x - (k + 1) ≤ i → i < x + 1 → Z2[i]? = some u → le C u q ∧ le C q u := fun i u i1 i2 g => by
        by_cases hi:i < x
        ·exact ⟨al i (x - 1) u q i1 hi (by omega) (by omega) g f2,al (x - 1) i q u (by omega) (by omega) i1 hi f2 g⟩
        ·have:i = x := by lia
         subst this
         rw [e2] at g
         cases g
         exact ⟨le_of_not e0',le_of_not e0⟩
       exact le_trans (toq i u (by lia) i2 g1).1 (toq j v (by lia) j2 g2).2
    ·obtain ⟨xs2,Z2,k,rfl,rfl,e2',pm2,f2',k1,al⟩ := hI
     exact ⟨xs2,Z2,_,k,rfl,rfl,by omega,by omega,e2',pm2,f2',k1,al⟩
    ·obtain ⟨xs2,Z2,x,k,rfl,rfl,x1,x2,e2',pm2,f2',k1,al⟩ := hI
     have hz2 := pm2.length_eq
     dsimp only
     by_cases hk:k > 0
     ·rw [if_pos hk]
      refine wpS_bind (wpS_modify (wpS_bind (wpS_modify ?_)))
      have eA := mir_rnd (i := lo + x - (k + 1)) (j := lo + x) e2' hlo (a := x - (k + 1)) (b := x) (by omega) rfl (by omega) (by lia)
      have pA := (rnd_perm Z2 (lo := x - (k + 1)) (hi := x) (by omega)).trans pm2
      have fA := f2'.turned (lo := x - (k + 1)) (hi := x) (by omega) (by lia) al
      have hzA := pA.length_eq
      have eB := mir_rnd (i := lo) (j := lo + x) eA hlo (a := 0) (b := x) (by lia) rfl (by lia) (by lia)
      have pB := (rnd_perm (rnd Z2 (x - (k + 1)) x) (lo := 0) (hi := x) (by lia)).trans pA
      have sB := fA.turn (by lia)
      refine wpS_bind (wpS_mono (wpS_forRange (I := fun y c st' => ∃ (xs:Array Keyed) (Z:List Keyed),st' = setArr st xs ∧ c = (none,y) ∧ xs.toList = P ++ Z ++ R ∧ Z.Perm X ∧ (Z.take y).Pairwise (le C))
       (Q := fun c st' => ∃ (xs:Array Keyed) (Z:List Keyed) (y:Nat),st' = setArr st xs ∧ c = (none,y) ∧ 1 ≤ y ∧ y ≤ n ∧ xs.toList = P ++ Z ++ R ∧ Z.Perm X ∧ (Z.take y).Pairwise (le C)) (fun y c st' hy1 hy2 hI => ?_) (fun c st' hI => ?_) ⟨_,_,rfl,rfl,eB,pB,sB⟩) fun c st' hI => ?_)
      ·obtain ⟨xs3,Z3,rfl,rfl,e3,pm3,s3⟩ := hI
       obtain ⟨p,e1,e2,Sp⟩ := at_ _ Z3 y e3 pm3 hy2
       obtain ⟨q,f1,f2,Sq⟩ := at_ _ Z3 (y - 1) e3 pm3 (by omega)
       dsimp only
       refine wpS_bind (ltAt_ok (hF xs3) e1 (by rw [show lo + y - 1 = lo + (y - 1) by lia]; exact f1) Sp Sq ?_)
       dsimp only
       cases e0:C.O.blt (C.key p) (C.key q) with
       | true => exact wpS_pure ⟨xs3,Z3,y,rfl,rfl,by lia,by lia,e3,pm3,s3⟩
       | false => exact wpS_pure ⟨xs3,Z3,rfl,rfl,e3,pm3,up_more s3 (by lia) e2 f2 (le_of_not e0)⟩
      ·obtain ⟨xs3,Z3,rfl,rfl,e3,pm3,s3⟩ := hI
       exact ⟨xs3,Z3,_,rfl,rfl,by lia,by lia,e3,pm3,s3⟩
      ·obtain ⟨xs3,Z3,y,rfl,rfl,y1,y2,e3,pm3,s3⟩ := hI
       exact wpS_pure (h y xs3 Z3 y1 y2 e3 pm3 s3)
     ·rw [if_neg hk]
      refine wpS_bind (wpS_modify ?_)
      have eB := mir_rnd (i := lo) (j := lo + x) e2' hlo (a := 0) (b := x) (by lia) rfl (by lia) (by lia)
      have pB := (rnd_perm Z2 (lo := 0) (hi := x) (by lia)).trans pm2
      have sB := f2'.turn (by lia)
      refine wpS_bind (wpS_mono (wpS_forRange (I := fun y c st' => ∃ (xs:Array Keyed) (Z:List Keyed),st' = setArr st xs ∧ c = (none,y) ∧ xs.toList = P ++ Z ++ R ∧ Z.Perm X ∧ (Z.take y).Pairwise (le C))
       (Q := fun c st' => ∃ (xs:Array Keyed) (Z:List Keyed) (y:Nat),st' = setArr st xs ∧ c = (none,y) ∧ 1 ≤ y ∧ y ≤ n ∧ xs.toList = P ++ Z ++ R ∧ Z.Perm X ∧ (Z.take y).Pairwise (le C)) (fun y c st' hy1 hy2 hI => ?_) (fun c st' hI => ?_) ⟨_,_,rfl,rfl,eB,pB,sB⟩) fun c st' hI => ?_)
      ·obtain ⟨xs3,Z3,rfl,rfl,e3,pm3,s3⟩ := hI
       obtain ⟨p,e1,e2,Sp⟩ := at_ _ Z3 y e3 pm3 hy2
       obtain ⟨q,f1,f2,Sq⟩ := at_ _ Z3 (y - 1) e3 pm3 (by omega)
       dsimp only
       refine wpS_bind (ltAt_ok (hF xs3) e1 (by rw [show lo + y - 1 = lo + (y - 1) by lia]; exact f1) Sp Sq ?_)
       dsimp only
       cases e0:C.O.blt (C.key p) (C.key q) with
       | true => exact wpS_pure ⟨xs3,Z3,y,rfl,rfl,by lia,by lia,e3,pm3,s3⟩
       | false => exact wpS_pure ⟨xs3,Z3,rfl,rfl,e3,pm3,up_more s3 (by lia) e2 f2 (le_of_not e0)⟩
      ·obtain ⟨xs3,Z3,rfl,rfl,e3,pm3,s3⟩ := hI
       exact ⟨xs3,Z3,_,rfl,rfl,by lia,by lia,e3,pm3,s3⟩
      ·obtain ⟨xs3,Z3,y,rfl,rfl,y1,y2,e3,pm3,s3⟩ := hI
       exact wpS_pure (h y xs3 Z3 y1 y2 e3 pm3 s3)
  ·rw [if_neg hm]
   have hm1:m = 1 := by lia
   have fX:Fal C X m := fun i j p q hij hj f1 f2 => by
    have:i = j := by lia
    subst this
    rw [f1] at f2
    cases f2
    exact KeyOrd.kle_refl _
   have fZ := fX.more (by lia) epm epm1 (le_of_lt hlt)
   refine wpS_bind (wpS_lift (wpAny_rule ⟨rfl,?_⟩))
   refine wpS_bind (wpS_mono (wpS_forRange (I := fun x c st' => ∃ (xs:Array Keyed) (Z:List Keyed) (k:Nat),st' = setArr st xs ∧ c = (none,x,k) ∧ xs.toList = P ++ Z ++ R ∧ Z.Perm X ∧ Fal C Z x ∧ k + 1 ≤ x ∧ Alk C Z (x - (k + 1)) x)
    (Q := fun c st' => ∃ (xs:Array Keyed) (Z:List Keyed) (x k:Nat),st' = setArr st xs ∧ c = (none,x,k) ∧ m + 1 ≤ x ∧ x ≤ n ∧ xs.toList = P ++ Z ++ R ∧ Z.Perm X ∧ Fal C Z x ∧ k + 1 ≤ x ∧ Alk C Z (x - (k + 1)) x) (fun x c st' hx1 hx2 hI => ?_) (fun c st' hI => ?_) ⟨(arrOf st),X,0,rfl,rfl,hl,(.refl _),fZ,by lia,fun i j p q i1 i2 j1 j2 f1 f2 => by
     have:i = j := by lia
     subst this
     rw [f1] at f2
     cases f2
     exact KeyOrd.kle_refl _⟩) fun c st' hI => ?_)
   ·obtain ⟨xs2,Z2,k,rfl,rfl,e2',pm2,f2',k1,al⟩ := hI
    have hz2 := pm2.length_eq
    obtain ⟨p,e1,e2,Sp⟩ := at_ _ Z2 x e2' pm2 hx2
    obtain ⟨q,f1,f2,Sq⟩ := at_ _ Z2 (x - 1) e2' pm2 (by omega)
    dsimp only
    refine wpS_bind (ltAt_ok (hF xs2) e1 (by rw [show lo + x - 1 = lo + (x - 1) by lia]; exact f1) Sp Sq ?_)
    dsimp only
    have one:∀ (W:List Keyed),Alk C W (x + 1 - (0 + 1)) (x + 1) := fun W i j p q i1 i2 j1 j2 f1 f2 => by
     have:i = j := by lia
     subst this
     rw [f1] at f2
     cases f2
     exact KeyOrd.kle_refl _
    cases e0:C.O.blt (C.key p) (C.key q) with
    | true =>
     rw [if_pos rfl]
     by_cases hk:k > 0
     ·rw [if_pos hk]
      refine wpS_bind (wpS_modify (wpS_pure ⟨_,rnd Z2 (x - (k + 1)) x,0,rfl,rfl,mir_rnd e2' hlo (by omega) rfl (by omega) (by lia),(rnd_perm _ (by omega)).trans pm2,(f2'.more (by lia) e2 f2 (le_of_lt e0)).turned (by omega) (by lia) al,by lia,one _⟩))
     ·rw [if_neg hk]
      exact wpS_pure ⟨xs2,Z2,0,rfl,rfl,e2',pm2,f2'.more (by lia) e2 f2 (le_of_lt e0),by lia,one _⟩
    | false =>
     rw [if_neg Bool.false_ne_true]
     refine wpS_bind (ltAt_ok (hF xs2) (by rw [show lo + x - 1 = lo + (x - 1) by lia]; exact f1) e1 Sq Sp ?_)
     dsimp only
     cases e0':C.O.blt (C.key q) (C.key p) with
     | true => exact wpS_pure ⟨xs2,Z2,x,k,rfl,rfl,by omega,by lia,e2',pm2,f2',k1,al⟩
     | false =>
      refine wpS_pure ⟨xs2,Z2,k + 1,rfl,rfl,e2',pm2,f2'.more (by lia) e2 f2 (le_of_not e0'),by lia,fun i j u v i1 i2 j1 j2 g1 g2 => ?_⟩
      have toq:∀ i u,x - (k + 1) ≤ i → i < x + 1 → Z2[i]? = some u → le C u q ∧ le C q u := fun i u i1 i2 g => by
       by_cases hi:i < x
       ·exact ⟨al i (x - 1) u q i1 hi (by omega) (by omega) g f2,al (x - 1) i q u (by omega) (by omega) i1 hi f2 g⟩
       ·have:i = x := by lia
        subst this
        rw [e2] at g
        cases g
        exact ⟨le_of_not e0',le_of_not e0⟩
      exact le_trans (toq i u (by lia) i2 g1).1 (toq j v (by lia) j2 g2).2
   ·obtain ⟨xs2,Z2,k,rfl,rfl,e2',pm2,f2',k1,al⟩ := hI
    exact ⟨xs2,Z2,_,k,rfl,rfl,by omega,by omega,e2',pm2,f2',k1,al⟩
   ·obtain ⟨xs2,Z2,x,k,rfl,rfl,x1,x2,e2',pm2,f2',k1,al⟩ := hI
    have hz2 := pm2.length_eq
    dsimp only
    by_cases hk:k > 0
    ·rw [if_pos hk]
     refine wpS_bind (wpS_modify (wpS_bind (wpS_modify ?_)))
     have eA := mir_rnd (i := lo + x - (k + 1)) (j := lo + x) e2' hlo (a := x - (k + 1)) (b := x) (by omega) rfl (by omega) (by lia)
     have pA := (rnd_perm Z2 (lo := x - (k + 1)) (hi := x) (by omega)).trans pm2
     have fA := f2'.turned (lo := x - (k + 1)) (hi := x) (by omega) (by lia) al
     have hzA := pA.length_eq
     have eB := mir_rnd (i := lo) (j := lo + x) eA hlo (a := 0) (b := x) (by lia) rfl (by lia) (by lia)
     have pB := (rnd_perm (rnd Z2 (x - (k + 1)) x) (lo := 0) (hi := x) (by lia)).trans pA
     have sB := fA.turn (by lia)
     refine wpS_bind (wpS_mono (wpS_forRange (I := fun y c st' => ∃ (xs:Array Keyed) (Z:List Keyed),st' = setArr st xs ∧ c = (none,y) ∧ xs.toList = P ++ Z ++ R ∧ Z.Perm X ∧ (Z.take y).Pairwise (le C))
      (Q := fun c st' => ∃ (xs:Array Keyed) (Z:List Keyed) (y:Nat),st' = setArr st xs ∧ c = (none,y) ∧ 1 ≤ y ∧ y ≤ n ∧ xs.toList = P ++ Z ++ R ∧ Z.Perm X ∧ (Z.take y).Pairwise (le C)) (fun y c st' hy1 hy2 hI => ?_) (fun c st' hI => ?_) ⟨_,_,rfl,rfl,eB,pB,sB⟩) fun c st' hI => ?_)
     ·obtain ⟨xs3,Z3,rfl,rfl,e3,pm3,s3⟩ := hI
      obtain ⟨p,e1,e2,Sp⟩ := at_ _ Z3 y e3 pm3 hy2
      obtain ⟨q,f1,f2,Sq⟩ := at_ _ Z3 (y - 1) e3 pm3 (by omega)
      dsimp only
      refine wpS_bind (ltAt_ok (hF xs3) e1 (by rw [show lo + y - 1 = lo + (y - 1) by lia]; exact f1) Sp Sq ?_)
      dsimp only
      cases e0:C.O.blt (C.key p) (C.key q) with
      | true => exact wpS_pure ⟨xs3,Z3,y,rfl,rfl,by lia,by lia,e3,pm3,s3⟩
      | false => exact wpS_pure ⟨xs3,Z3,rfl,rfl,e3,pm3,up_more s3 (by lia) e2 f2 (le_of_not e0)⟩
     ·obtain ⟨xs3,Z3,rfl,rfl,e3,pm3,s3⟩ := hI
      exact ⟨xs3,Z3,_,rfl,rfl,by lia,by lia,e3,pm3,s3⟩
     ·obtain ⟨xs3,Z3,y,rfl,rfl,y1,y2,e3,pm3,s3⟩ := hI
      exact wpS_pure (h y xs3 Z3 y1 y2 e3 pm3 s3)
    ·rw [if_neg hk]
     refine wpS_bind (wpS_modify ?_)
     have eB := mir_rnd (i := lo) (j := lo + x) e2' hlo (a := 0) (b := x) (by lia) rfl (by lia) (by lia)
     have pB := (rnd_perm Z2 (lo := 0) (hi := x) (by lia)).trans pm2
     have sB := f2'.turn (by lia)
     refine wpS_bind (wpS_mono (wpS_forRange (I := fun y c st' => ∃ (xs:Array Keyed) (Z:List Keyed),st' = setArr st xs ∧ c = (none,y) ∧ xs.toList = P ++ Z ++ R ∧ Z.Perm X ∧ (Z.take y).Pairwise (le C))
      (Q := fun c st' => ∃ (xs:Array Keyed) (Z:List Keyed) (y:Nat),st' = setArr st xs ∧ c = (none,y) ∧ 1 ≤ y ∧ y ≤ n ∧ xs.toList = P ++ Z ++ R ∧ Z.Perm X ∧ (Z.take y).Pairwise (le C)) (fun y c st' hy1 hy2 hI => ?_) (fun c st' hI => ?_) ⟨_,_,rfl,rfl,eB,pB,sB⟩) fun c st' hI => ?_)
     ·obtain ⟨xs3,Z3,rfl,rfl,e3,pm3,s3⟩ := hI
      obtain ⟨p,e1,e2,Sp⟩ := at_ _ Z3 y e3 pm3 hy2
      obtain ⟨q,f1,f2,Sq⟩ := at_ _ Z3 (y - 1) e3 pm3 (by omega)
      dsimp only
      refine wpS_bind (ltAt_ok (hF xs3) e1 (by rw [show lo + y - 1 = lo + (y - 1) by lia]; exact f1) Sp Sq ?_)
      dsimp only
      cases e0:C.O.blt (C.key p) (C.key q) with
      | true => exact wpS_pure ⟨xs3,Z3,y,rfl,rfl,by lia,by lia,e3,pm3,s3⟩
      | false => exact wpS_pure ⟨xs3,Z3,rfl,rfl,e3,pm3,up_more s3 (by lia) e2 f2 (le_of_not e0)⟩
     ·obtain ⟨xs3,Z3,rfl,rfl,e3,pm3,s3⟩ := hI
      exact ⟨xs3,Z3,_,rfl,rfl,by lia,by lia,e3,pm3,s3⟩
     ·obtain ⟨xs3,Z3,y,rfl,rfl,y1,y2,e3,pm3,s3⟩ := hI
      exact wpS_pure (h y xs3 Z3 y1 y2 e3 pm3 s3)
end
end Tim
namespace Tim
open PySem PyProof.Rows
section
variable {prog:Program} {w:World} {A:Around} {E:Value → Shared → Prop} {s:Shared}
inductive Runs (C:Cmp prog w A E s):Nat → List (Nat × Nat × Nat) → List (List Keyed) → Prop
 | nil (lo:Nat):Runs C lo [] []
 | cons {lo n pw:Nat} {X:List Keyed} {ps:List (Nat × Nat × Nat)} {Xs:List (List Keyed)}:n = X.length → 0 < n → X.Pairwise (le C) → Runs C (lo + n) ps Xs → Runs C lo ((lo,n,pw) :: ps) (X :: Xs)
variable {C:Cmp prog w A E s}
theorem Runs.len {lo:Nat} {ps:List (Nat × Nat × Nat)} {Xs:List (List Keyed)} (h:Runs C lo ps Xs):ps.length = Xs.length := by
 induction h with
 | nil => rfl
 | cons _ _ _ _ ih => rw [List.length_cons,List.length_cons,ih]
theorem Runs.snoc {lo:Nat} {ps:List (Nat × Nat × Nat)} {Xs:List (List Keyed)} (h:Runs C lo ps Xs) {X:List Keyed} {at_ n pw:Nat} (ha:at_ = lo + Xs.flatten.length) (hn:n = X.length) (h0:0 < n) (so:X.Pairwise (le C)):Runs C lo (ps ++ [(at_,n,pw)]) (Xs ++ [X]) := by
 induction h with
 | nil lo =>
  simp only [List.flatten_nil,List.length_nil,Nat.add_zero] at ha
  subst ha
  exact .cons hn h0 so (.nil _)
 | cons a b c _ ih =>
  refine .cons a b c (ih ?_)
  rw [ha,List.flatten_cons,List.length_append]
  lia
theorem Runs.power {lo:Nat} {ps:List (Nat × Nat × Nat)} {Xs:List (List Keyed)} (h:Runs C lo ps Xs) (pw:Nat):∀ j,Runs C lo (ps.modify j fun x => (x.1,x.2.1,pw)) Xs := by
 induction h with
 | nil lo => intro j; cases j <;> exact .nil _
 | cons a b c t ih =>
  intro j
  cases j with
  | zero => exact .cons a b c t
  | succ j => exact .cons a b c (ih j)
theorem Runs.pair {lo:Nat} {ps:List (Nat × Nat × Nat)} {Xs:List (List Keyed)} (h:Runs C lo ps Xs):∀ {i:Nat} {a b:Nat × Nat × Nat},ps[i]? = some a → ps[i + 1]? = some b → ∃ (L:List (List Keyed)) (X Y:List Keyed) (M:List (List Keyed)),Xs = L ++ X :: Y :: M ∧ a.1 = lo + L.flatten.length ∧ a.2.1 = X.length ∧ b.1 = a.1 + a.2.1 ∧ b.2.1 = Y.length ∧ 0 < a.2.1 ∧ 0 < b.2.1 ∧ X.Pairwise (le C) ∧ Y.Pairwise (le C) ∧
  ∀ Z:List Keyed,Z.length = X.length + Y.length → Z.Pairwise (le C) → Runs C lo ((ps.set i (a.1,a.2.1 + b.2.1,a.2.2)).eraseIdx (i + 1)) (L ++ Z :: M) := by
 induction h with
 | nil lo => intro i a b e _; simp at e
 | @cons lo n pw X ps Xs hn h0 so t ih =>
  intro i a b e1 e2
  cases i with
  | zero =>
   cases t with
   | nil _ => simp at e2
   | @cons _ n2 pw2 Y ps2 Xs2 hn2 h02 so2 t2 =>
    simp at e1 e2
    subst e1 e2
    refine ⟨[],X,Y,Xs2,rfl,by simp,hn,rfl,hn2,h0,h02,so,so2,fun Z hz sz => ?_⟩
    refine .cons (by dsimp only; lia) (by dsimp only; lia) sz ?_
    have:lo + (n + n2) = lo + n + n2 := by lia
    dsimp only
    rw [this]
    exact t2
  | succ i =>
   obtain ⟨L,X',Y',M,r1,r2,r3,r4,r5,r6,r7,r8,r9,r10⟩ := ih (i := i) (a := a) (b := b) (by simpa using e1) (by simpa using e2)
   subst r1
   refine ⟨X :: L,X',Y',M,rfl,by rw [r2,List.flatten_cons,List.length_append]; lia,r3,r4,r5,r6,r7,r8,r9,fun Z hz sz => ?_⟩
   exact .cons hn h0 so (r10 Z hz sz)
structure SR (C:Cmp prog w A E s) (kd:SortKind) (X0:List Keyed) (rest:List Keyed) (k:Nat) (st:SortSt):Prop where
 kd:kindOf st = kd
 fl:failedOf st = none
 pm:(arrOf st).toList.Perm X0
 rn:∃ Xs,Runs C 0 (pendingOf st).toList Xs ∧ (arrOf st).toList = Xs.flatten ++ rest
 sz:(pendingOf st).size = k
theorem mrg_ok {kd:SortKind} {X0 rest:List Keyed} {k i:Nat} {st:SortSt} {Q:Bool → SortSt → Prop} (hF:∀ (xs:Array Keyed) (p:Array (Nat × Nat × Nat)) (g:Nat),C.F (SortSt.mk' kd xs p g none)) (hS:∀ p ∈ X0,C.S p) (S:SR C kd X0 rest k st) (hi:i + 1 < k)
  (h:∀ st',SR C kd X0 rest (k - 1) st' → Q true st'):wpS (model prog w) A E s (mergeAt' i) Q st := by
 obtain ⟨hkd,hfl,hpm,⟨Xs,hR,hl⟩,hsz⟩ := S
 have g1:i < (pendingOf st).size := by lia
 have g2:i + 1 < (pendingOf st).size := by lia
 have e1:(pendingOf st)[i]? = some (pendingOf st)[i] := Array.getElem?_eq_getElem g1
 have e2:(pendingOf st)[i + 1]? = some (pendingOf st)[i + 1] := Array.getElem?_eq_getElem g2
 obtain ⟨L,X,Y,M,rfl,q1,q2,q3,q4,q5,q6,q7,q8,q9⟩ := hR.pair (i := i) (by rw [Array.getElem?_toList]; exact e1) (by rw [Array.getElem?_toList]; exact e2)
 rw [Nat.zero_add] at q1
 refine mat_ok (P := L.flatten) (X := X) (Y := Y) (R := M.flatten ++ rest) (sa := (pendingOf st)[i].1) (na := (pendingOf st)[i].2.1) (pw := (pendingOf st)[i].2.2) (sb := (pendingOf st)[i + 1].1) (nb := (pendingOf st)[i + 1].2.1) (pw' := (pendingOf st)[i + 1].2.2)
  (fun p g => by rw [hkd,hfl]; exact hF _ p g) hfl e1 e2 (by rw [hl]; simp) (fun p hp => hS p (hpm.mem_iff.mp hp)) q1 q2 q3 q4 q5 q6 q7 q8 fun xs Z g ex pz sz => h _ ⟨hkd,hfl,?_,⟨L ++ Z :: M,?_,?_⟩,?_⟩
 ·show xs.toList.Perm X0
  refine List.Perm.trans ?_ hpm
  rw [ex,hl]
  simp only [List.flatten_append,List.flatten_cons,List.append_assoc]
  refine List.Perm.append_left _ ?_
  rw [← List.append_assoc X Y]
  exact pz.append_right _
 ·show Runs C 0 ((Array.eraseIdxIfInBounds _ _).toList) _
  have hlen:i + 1 < ((pendingOf st).setIfInBounds i ((pendingOf st)[i].1,(pendingOf st)[i].2.1 + (pendingOf st)[i + 1].2.1,(pendingOf st)[i].2.2)).size := by rw [Array.size_setIfInBounds]; exact g2
  have z := q9 Z (by have := pz.length_eq; rw [List.length_append] at this; exact this) sz
  have e:(((pendingOf st).setIfInBounds i ((pendingOf st)[i].1,(pendingOf st)[i].2.1 + (pendingOf st)[i + 1].2.1,(pendingOf st)[i].2.2)).eraseIdxIfInBounds (i + 1)).toList = ((pendingOf st).toList.set i ((pendingOf st)[i].1,(pendingOf st)[i].2.1 + (pendingOf st)[i + 1].2.1,(pendingOf st)[i].2.2)).eraseIdx (i + 1) := by
   rw [Array.toList_eraseIdxIfInBounds,Array.toList_setIfInBounds]
  rw [e]
  exact z
 ·show xs.toList = _
  rw [ex]
  simp
 ·show (Array.eraseIdxIfInBounds _ _).size = k - 1
  rw [← Array.length_toList,Array.toList_eraseIdxIfInBounds,List.length_eraseIdx,Array.length_toList,Array.size_setIfInBounds,if_pos g2,hsz]
end
end Tim
namespace Tim
open PySem PyProof.Rows
section
variable {prog:Program} {w:World} {A:Around} {E:Value → Shared → Prop} {s:Shared} {C:Cmp prog w A E s}
theorem wpS_ite {α:Type} {c:Prop} [Decidable c] {x y:StateT SortSt Sem α} {Q:α → SortSt → Prop} {st:SortSt} (h1:c → wpS (model prog w) A E s x Q st) (h2:¬ c → wpS (model prog w) A E s y Q st):wpS (model prog w) A E s (if c then x else y) Q st := by
 by_cases h:c
 ·rw [if_pos h]; exact h1 h
 ·rw [if_neg h]; exact h2 h
theorem SR.one {kd:SortKind} {X0:List Keyed} {k:Nat} {st:SortSt} (S:SR C kd X0 [] k st) (hk:k ≤ 1):(arrOf st).toList.Pairwise (le C) := by
 obtain ⟨Xs,hR,hl⟩ := S.rn
 have hlen := hR.len
 rw [Array.length_toList,S.sz] at hlen
 rw [hl,List.append_nil]
 clear hl
 generalize (pendingOf st).toList = ps at hR
 cases hR with
 | nil => simp
 | cons a b c t =>
  cases t with
  | nil => simpa using c
  | cons _ _ _ _ => simp only [List.length_cons] at hlen; lia
theorem SR.push {kd:SortKind} {X0 U V:List Keyed} {k lo n:Nat} {st:SortSt} (S:SR C kd X0 (U ++ V) k st) (hlo:lo + (U ++ V).length = X0.length) (hn:n = U.length) (h0:0 < n) (so:U.Pairwise (le C)):SR C kd X0 V (k + 1) (setPending st ((pendingOf st).push (lo,n,0))) := by
 obtain ⟨hkd,hfl,hpm,⟨Xs,hR,hl⟩,hsz⟩ := S
 have hlen := hpm.length_eq
 rw [hl,List.length_append] at hlen
 refine ⟨hkd,hfl,hpm,⟨Xs ++ [U],?_,?_⟩,?_⟩
 ·show Runs C 0 (((pendingOf st).push (lo,n,0)).toList) _
  rw [Array.toList_push]
  exact hR.snoc (by lia) hn h0 so
 ·show (arrOf st).toList = _
  rw [hl]
  simp
 ·show ((pendingOf st).push (lo,n,0)).size = k + 1
  rw [Array.size_push,hsz]
theorem SR.pow {kd:SortKind} {X0 R:List Keyed} {k j pw:Nat} {st:SortSt} (S:SR C kd X0 R k st):SR C kd X0 R k (setPending st ((pendingOf st).modify j fun x => (x.1,x.2.1,pw))) := by
 obtain ⟨hkd,hfl,hpm,⟨Xs,hR,hl⟩,hsz⟩ := S
 refine ⟨hkd,hfl,hpm,⟨Xs,?_,hl⟩,?_⟩
 ·show Runs C 0 (((pendingOf st).modify j fun x => (x.1,x.2.1,pw)).toList) _
  rw [Array.toList_modify]
  exact hR.power pw j
 ·show ((pendingOf st).modify j fun x => (x.1,x.2.1,pw)).size = k
  rw [Array.size_modify,hsz]
theorem srt_ok {st:SortSt} {Q:Unit → SortSt → Prop} (hF:∀ (xs:Array Keyed) (p:Array (Nat × Nat × Nat)) (g:Nat),C.F (SortSt.mk' (kindOf st) xs p g none)) (hf:failedOf st = none) (hp:pendingOf st = #[]) (hS:∀ p ∈ (arrOf st).toList,C.S p)
  (h:∀ st',(arrOf st').toList.Perm (arrOf st).toList → (arrOf st').toList.Pairwise (le C) → failedOf st' = none → Q () st'):wpS (model prog w) A E s sortRuns' Q st := by
 refine wpS_bind (wpS_get ?_)
 dsimp only
 refine wpS_bind (wpS_mono (wpS_forRange (I := fun x c st' => ∃ (lo k:Nat) (rest:List Keyed),c = (none,lo) ∧ SR C (kindOf st) (arrOf st).toList rest k st' ∧ lo + rest.length = (arrOf st).size ∧ x ≤ lo ∧ k ≤ lo)
  (Q := fun c st' => ∃ (lo k:Nat),c = (none,lo) ∧ SR C (kindOf st) (arrOf st).toList [] k st' ∧ k ≤ (arrOf st).size) ?oS ?oE ⟨0,0,(arrOf st).toList,rfl,⟨rfl,hf,.refl _,⟨[],by rw [hp]; exact .nil _,rfl⟩,by rw [hp]; rfl⟩,by simp,Nat.le_refl _,Nat.le_refl _⟩) ?oP)
 case oE =>
  rintro c st' ⟨lo,k,rest,rfl,S,q1,q2,q3⟩
  have q2':max 0 (arrOf st).size ≤ lo := q2
  have:rest = [] := List.length_eq_zero_iff.mp (by lia)
  subst this
  exact ⟨lo,k,rfl,S,by have:([]:List Keyed).length = 0 := rfl; lia⟩
 case oP =>
  rintro c st' ⟨lo,k,rfl,S,q1⟩
  dsimp only
  refine wpS_bind (wpS_mono (wpS_forRange (I := fun x c st' => c = (none,()) ∧ ∃ k,SR C (kindOf st) (arrOf st).toList [] k st' ∧ (k + x ≤ (arrOf st).size ∨ k ≤ 1))
   (Q := fun c st' => c = (none,()) ∧ ∃ k,SR C (kindOf st) (arrOf st).toList [] k st' ∧ k ≤ 1) ?fS ?fE ⟨rfl,k,S,.inl (by omega)⟩) ?fP)
  case fP =>
   rintro c st' ⟨rfl,k,S,q⟩
   exact wpS_pure (h st' S.pm (S.one q) S.fl)
  case fE =>
   rintro c st' ⟨rfl,k,S,q⟩
   have q':k + max 0 (arrOf st).size ≤ (arrOf st).size ∨ k ≤ 1 := q
   exact ⟨rfl,k,S,by lia⟩
  case fS =>
   rintro x c st' _ hx ⟨rfl,k,S,q⟩
   refine wpS_bind (wpS_get ?_)
   refine wpS_ite (fun hc => wpS_pure ⟨rfl,k,S,?_⟩) fun hc => ?_
   ·have hsz := S.sz
    have hc':(pendingOf st').size ≤ 1 := hc
    lia
   ·have hsz := S.sz
    have hc':¬ (pendingOf st').size ≤ 1 := hc
    refine wpS_bind (mrg_ok hF hS S ?_ fun st2 S2 => ?_)
    ·have key:∀ (b:Bool) (n:Nat),n = k → (if b = true then n - 2 - 1 else n - 2) + 1 < k := fun b n hn => by
      cases b
      ·rw [if_neg Bool.false_ne_true]; lia
      ·rw [if_pos rfl]; omega
     exact key _ _ hsz
    ·exact wpS_pure ⟨rfl,k - 1,S2,by lia⟩
 case oS =>
  rintro x c st' _ hx ⟨lo,k,rest,rfl,S,q1,q2,q3⟩
  dsimp only
  refine wpS_ite (fun hc => ?_) fun hc => ?_
  ·have hc':lo ≥ (arrOf st).size := hc
   have:rest = [] := List.length_eq_zero_iff.mp (by lia)
   subst this
   exact wpS_pure ⟨lo,k,rfl,S,by lia⟩
  have hc':¬ lo ≥ (arrOf st).size := hc
  obtain ⟨hkd,hfl,hpm,⟨Xs,hR,hl⟩,hsz⟩ := S
  have hz0:(arrOf st).toList.length = (arrOf st).size := Array.length_toList
  have hlen := hpm.length_eq
  rw [hl,List.length_append,hz0] at hlen
  have hFs:∀ xs,C.F (setArr st' xs) := fun xs => by
   show C.F (SortSt.mk' (kindOf st') xs (pendingOf st') (gallopOf st') (failedOf st'))
   rw [hkd,hfl]
   exact hF xs _ _
  have hSr:∀ p ∈ rest,C.S p := fun p hp' => hS p (hpm.mem_iff.mp (by rw [hl]; exact List.mem_append_right _ hp'))
  refine wpS_bind (cnt_ok (C := C) (P := Xs.flatten) (X := rest) (R := []) hFs (by rw [hl,List.append_nil]) (show lo = Xs.flatten.length by lia) (show (arrOf st).size - lo = rest.length by lia) (show 1 ≤ (arrOf st).size - lo by lia) hSr fun m xs Z m1 m2 ex pz sz => ?_)
  have m2':m ≤ (arrOf st).size - lo := m2
  have hzl := pz.length_eq
  have hpx:∀ W:List Keyed,W.Perm Z → (Xs.flatten ++ W).Perm (arrOf st).toList := fun W hW => (((hW.trans pz).append_left Xs.flatten).trans (by rw [hl])).trans hpm
  rw [List.append_nil] at ex
  dsimp only
  refine wpS_ite (fun hm => ?_) (fun hm => ?_)
  ·have hm':m < minRun' (arrOf st).size (arrOf st).size 0 := hm
   refine wpS_bind (wpS_lift (wpAny_rule ⟨rfl,?_⟩))
   refine wpS_bind (bin_ok (C := C) (st := setArr st' xs) (n := (min ((arrOf st).size - lo) (minRun' (arrOf st).size (arrOf st).size 0))) (P := Xs.flatten) (X := Z.take (min ((arrOf st).size - lo) (minRun' (arrOf st).size (arrOf st).size 0))) (R := Z.drop (min ((arrOf st).size - lo) (minRun' (arrOf st).size (arrOf st).size 0))) (fun ys => hFs ys) (by show xs.toList = _; rw [ex,List.append_assoc,List.take_append_drop]) (show lo = Xs.flatten.length by lia) (by rw [List.length_take]; lia) (by omega) (fun p hp' => hSr p (pz.mem_iff.mp (List.mem_of_mem_take hp'))) (by rw [List.take_take,Nat.min_eq_left (by omega)]; exact sz) fun ys U ey pu su => ?_)
   refine wpS_ite (fun hb => absurd hb (by decide)) fun _ => ?_
   have hul := pu.length_eq
   rw [List.length_take] at hul
   have S1:SR C (kindOf st) (arrOf st).toList (U ++ Z.drop (min ((arrOf st).size - lo) (minRun' (arrOf st).size (arrOf st).size 0))) k (setArr st' ys) := ⟨hkd,hfl,by
    show ys.toList.Perm _
    rw [ey,List.append_assoc]
    refine hpx _ ?_
    conv => rhs; rw [← List.take_append_drop (min ((arrOf st).size - lo) (minRun' (arrOf st).size (arrOf st).size 0)) Z]
    exact pu.append_right _,⟨Xs,hR,by show ys.toList = _; rw [ey,List.append_assoc]⟩,hsz⟩
   have hUl:(min ((arrOf st).size - lo) (minRun' (arrOf st).size (arrOf st).size 0)) = U.length := by lia
   have hU0:0 < (min ((arrOf st).size - lo) (minRun' (arrOf st).size (arrOf st).size 0)) := by lia
   have hUs := su
   have hz1:(U ++ Z.drop (min ((arrOf st).size - lo) (minRun' (arrOf st).size (arrOf st).size 0))).length = rest.length := by rw [List.length_append,List.length_drop]; lia
   have hrest:(Z.drop (min ((arrOf st).size - lo) (minRun' (arrOf st).size (arrOf st).size 0))).length + (min ((arrOf st).size - lo) (minRun' (arrOf st).size (arrOf st).size 0)) = rest.length := by rw [List.length_drop]; lia
   refine wpS_bind (wpS_get ?_)
   cases hb:(pendingOf st').back? with
   | none =>
    dsimp only
    exact wpS_bind (wpS_modify (wpS_pure ⟨lo + (min ((arrOf st).size - lo) (minRun' (arrOf st).size (arrOf st).size 0)),k + 1,(Z.drop (min ((arrOf st).size - lo) (minRun' (arrOf st).size (arrOf st).size 0))),rfl,S1.push (by rw [hz1]; omega) hUl hU0 hUs,by lia,by lia,by lia⟩))
   | some bk =>
    obtain ⟨s1,n1,p1⟩ := bk
    dsimp only
    refine wpS_bind (wpS_mono (wpS_forRange (I := fun y c st2 => c = (none,()) ∧ ∃ k2,SR C (kindOf st) (arrOf st).toList (U ++ (Z.drop (min ((arrOf st).size - lo) (minRun' (arrOf st).size (arrOf st).size 0)))) k2 st2 ∧ k2 ≤ k) (Q := fun c st2 => c = (none,()) ∧ ∃ k2,SR C (kindOf st) (arrOf st).toList (U ++ (Z.drop (min ((arrOf st).size - lo) (minRun' (arrOf st).size (arrOf st).size 0)))) k2 st2 ∧ k2 ≤ k) (fun y c st2 _ hy hI => ?_) (fun c st2 hI => hI) ⟨rfl,k,S1,Nat.le_refl _⟩) fun c st2 hI => ?_)
    ·obtain ⟨rfl,k2,S2,hk2⟩ := hI
     have hs2 := S2.sz
     refine wpS_bind (wpS_get ?_)
     by_cases hg:(pendingOf st2).size > 1
     ·obtain ⟨⟨o1,o2,o3⟩,eo⟩:∃ o,(if (pendingOf st2).size > 1 then (pendingOf st2)[(pendingOf st2).size - 2]? else none) = some o := by
       rw [if_pos hg]
       exact ⟨_,Array.getElem?_eq_getElem (by lia)⟩
      erw [eo]
      dsimp only
      refine wpS_ite (fun _ => wpS_pure ⟨rfl,k2,S2,hk2⟩) fun _ => ?_
      refine wpS_bind (mrg_ok hF hS S2 (show (pendingOf st2).size - 2 + 1 < k2 by lia) fun st3 S3 => ?_)
      exact wpS_pure ⟨rfl,k2 - 1,S3,by lia⟩
     ·have eo:(if (pendingOf st2).size > 1 then (pendingOf st2)[(pendingOf st2).size - 2]? else none) = none := if_neg hg
      erw [eo]
      exact wpS_pure ⟨rfl,k2,S2,hk2⟩
    ·obtain ⟨rfl,k2,S2,hk2⟩ := hI
     dsimp only
     exact wpS_bind (wpS_modify (wpS_bind (wpS_modify (wpS_pure ⟨lo + (min ((arrOf st).size - lo) (minRun' (arrOf st).size (arrOf st).size 0)),k2 + 1,(Z.drop (min ((arrOf st).size - lo) (minRun' (arrOf st).size (arrOf st).size 0))),rfl,S2.pow.push (by rw [hz1]; omega) hUl hU0 hUs,by lia,by lia,by lia⟩))))
  ·have S1:SR C (kindOf st) (arrOf st).toList (Z.take m ++ Z.drop m) k (setArr st' xs) := ⟨hkd,hfl,by
    show xs.toList.Perm _
    rw [ex]
    exact hpx _ (.refl _),⟨Xs,hR,by show xs.toList = _; rw [ex,List.take_append_drop]⟩,hsz⟩
   have hUl:m = (Z.take m).length := by rw [List.length_take]; lia
   have hU0:0 < m := by lia
   have hUs := sz
   have hz1:(Z.take m ++ Z.drop m).length = rest.length := by rw [List.take_append_drop]; omega
   have hrest:(Z.drop m).length + m = rest.length := by rw [List.length_drop]; lia
   refine wpS_bind (wpS_get ?_)
   cases hb:(pendingOf st').back? with
   | none =>
    dsimp only
    exact wpS_bind (wpS_modify (wpS_pure ⟨lo + m,k + 1,(Z.drop m),rfl,S1.push (by rw [hz1]; omega) hUl hU0 hUs,by lia,by lia,by lia⟩))
   | some bk =>
    obtain ⟨s1,n1,p1⟩ := bk
    dsimp only
    refine wpS_bind (wpS_mono (wpS_forRange (I := fun y c st2 => c = (none,()) ∧ ∃ k2,SR C (kindOf st) (arrOf st).toList ((Z.take m) ++ (Z.drop m)) k2 st2 ∧ k2 ≤ k) (Q := fun c st2 => c = (none,()) ∧ ∃ k2,SR C (kindOf st) (arrOf st).toList ((Z.take m) ++ (Z.drop m)) k2 st2 ∧ k2 ≤ k) (fun y c st2 _ hy hI => ?_) (fun c st2 hI => hI) ⟨rfl,k,S1,Nat.le_refl _⟩) fun c st2 hI => ?_)
    ·obtain ⟨rfl,k2,S2,hk2⟩ := hI
     have hs2 := S2.sz
     refine wpS_bind (wpS_get ?_)
     by_cases hg:(pendingOf st2).size > 1
     ·obtain ⟨⟨o1,o2,o3⟩,eo⟩:∃ o,(if (pendingOf st2).size > 1 then (pendingOf st2)[(pendingOf st2).size - 2]? else none) = some o := by
       rw [if_pos hg]
       exact ⟨_,Array.getElem?_eq_getElem (by lia)⟩
      erw [eo]
      dsimp only
      refine wpS_ite (fun _ => wpS_pure ⟨rfl,k2,S2,hk2⟩) fun _ => ?_
      refine wpS_bind (mrg_ok hF hS S2 (show (pendingOf st2).size - 2 + 1 < k2 by lia) fun st3 S3 => ?_)
      exact wpS_pure ⟨rfl,k2 - 1,S3,by lia⟩
     ·have eo:(if (pendingOf st2).size > 1 then (pendingOf st2)[(pendingOf st2).size - 2]? else none) = none := if_neg hg
      erw [eo]
      exact wpS_pure ⟨rfl,k2,S2,hk2⟩
    ·obtain ⟨rfl,k2,S2,hk2⟩ := hI
     dsimp only
     exact wpS_bind (wpS_modify (wpS_bind (wpS_modify (wpS_pure ⟨lo + m,k2 + 1,(Z.drop m),rfl,S2.pow.push (by rw [hz1]; omega) hUl hU0 hUs,by lia,by lia,by lia⟩))))
end
end Tim
namespace Tim
open PySem PyProof.Rows
section
variable {prog:Program} {w:World} {A:Around} {E:Value → Shared → Prop} {s:Shared}
noncomputable def intOrd:KeyOrd where
 α := Int
 blt a b := decide (a < b)
 irrefl a := by simp
 trans a b c h1 h2 := by simp at h1 h2 ⊢; lia
 negTrans a b c h := by simp at h ⊢; omega
 total a b h1 h2 := by simp at h1 h2; lia
theorem lt_int {st:SortSt} {x y:Keyed} {a b:Int} {t u:Tok} {Q:Option Bool → SortSt → Prop} (hk:kindOf st = oneType') (ex:x.1 = .int a t) (ey:y.1 = .int b u) (h:Q (some (decide (a < b))) st):wpS (model prog w) A E s (lt' x y) Q st := by
 rw [lt'_eq]
 refine wpS_bind (wpS_get ?_)
 rw [hk,keyLt'_oneType,ex,ey]
 exact wpS_bind (wpS_lift (wpAny_attempt (oneLt_int ⟨rfl,wpS_pure h⟩)))
noncomputable def intCmp (prog:Program) (w:World) (A:Around) (E:Value → Shared → Prop) (s:Shared):Cmp prog w A E s where
 O := intOrd
 key p := numOf p.1
 S p := ∃ n t,p.1 = .int n t
 F st := kindOf st = oneType'
 ok st p q Q hF hp hq h := by
  obtain ⟨a,t,ea⟩ := hp
  obtain ⟨b,u,eb⟩ := hq
  refine lt_int hF ea eb ?_
  rw [ea,eb] at h
  exact h
theorem srt_int {st:SortSt} {Q:Unit → SortSt → Prop} (hk:kindOf st = oneType') (hf:failedOf st = none) (hp:pendingOf st = #[]) (hS:∀ p ∈ (arrOf st).toList,∃ n t,p.1 = .int n t)
  (h:∀ st',(arrOf st').toList.Perm (arrOf st).toList → (arrOf st').toList.Pairwise (fun p q => numOf p.1 ≤ numOf q.1) → failedOf st' = none → Q () st'):wpS (model prog w) A E s sortRuns' Q st := by
 refine srt_ok (C := intCmp prog w A E s) (fun xs p g => hk) hf hp hS fun st' h1 h2 h3 => h st' h1 (h2.imp fun {p q} hpq => ?_) h3
 have z:decide (numOf q.1 < numOf p.1) = false := hpq
 simp at z
 omega
end
end Tim
namespace Tim
open PySem PyProof.Rows
section
variable {prog:Program} {w:World} {A:Around} {E:Value → Shared → Prop} {s:Shared}
end
end Tim
namespace L2
open PySem PySem.Spec PyProof.Rows
theorem Paired.snoc {α β:Type} {F:α → β → Prop} {a:α} {b:β} (r:F a b):∀ {l₁:List α} {l₂:List β},Paired F l₁ l₂ → Paired F (l₁ ++ [a]) (l₂ ++ [b])
 | _,_,.nil => .cons r .nil
 | _,_,.cons q t => .cons q (Paired.snoc r t)
theorem Paired.inl {α β:Type} {F:α → β → Prop} {x:α}:∀ {xs:List α} {ys:List β},Paired F xs ys → x ∈ xs → ∃ y,y ∈ ys ∧ F x y
 | _,_,.nil,h => by cases h
 | _,_,.cons r t,h => by
  rcases List.mem_cons.mp h with e | h
  ·subst e; exact ⟨_,List.mem_cons_self,r⟩
  ·obtain ⟨y,h1,h2⟩ := Paired.inl t h
   exact ⟨y,List.mem_cons_of_mem _ h1,h2⟩
section
variable {P:Program} {w:World} {H H':Hp} {h h1 h2:Heap} {a:Addr} {o:HO} {fs:List Addr}
end
section
variable {X:Cx} {pins:List (Addr × Obj)} {σ:St} {H:Hp} {sB s:Shared} {D kS:Addr} {e1 e:Nat} {J:Hp → Prop} {kf:V → Int × Int} {xs:List V} {its:List Value} {A:Around} {E:Value → Shared → Prop} {f:Value} {Hi:Hp} {kA:Array Value} {P:PySem.Fin → Shared → Prop}
end
section
variable {X:Cx} {pins:List (Addr × Obj)} {σ:St} {H:Hp} {s:Shared} {l:Addr} {J:Hp → Prop} {kf:V → Int × Int} {xs:List V} {f:Addr} {Q:VK}
end
end L2
namespace L2
open PySem PySem.Spec PyProof.Rows
end L2
namespace L2
open PySem PySem.Spec PyProof.Rows
theorem vals_of:∀ {xs:List V} {us:List Value},xs.length = us.length → (∀ (i:Nat) x u,xs[i]? = some x → us[i]? = some u → RelV x u) → Vals xs us
 | [],[],_,_ => .nil
 | [],_ :: _,h,_ => by simp at h
 | _ :: _,[],h,_ => by simp at h
 | x :: xs,u :: us,h,f => .cons (f 0 x u rfl rfl) (vals_of (by simpa using h) fun i y v e1 e2 => f (i + 1) y v (by simpa using e1) (by simpa using e2))
theorem key_rel {P:Program} {w:World} {k:Key} {v:Value} (h:(mixKind P w).is k v = true):RelV (kV k) v := by
 rcases keyIs_shape h with ⟨i,t,rfl,rfl⟩ | ⟨x,t,rfl,rfl⟩
 ·exact ⟨t,rfl⟩
 ·exact ⟨t,rfl⟩
theorem keys_vals {P:Program} {w:World} {kvs:List (Key × V)} {vs:List (Key × Value)} {acc:Array Value} (rel:KV kvs vs) (h:ItemsOf (fun i v => ∃ k x,vs[i]? = some (k,x) ∧ (mixKind P w).is k v = true) acc vs.length):Vals (kvs.map fun kv => kV kv.1) acc.toList := by
 refine vals_of (by rw [List.length_map,rel.length,Array.length_toList]; exact h.1.symm) fun i x u e1 e2 => ?_
 rw [Array.getElem?_toList] at e2
 obtain ⟨k,y,hv,hk⟩ := h.2 i u e2
 have e3 := congrArg (fun l => l[i]?) rel.keys
 simp only [List.getElem?_map] at e1 e3
 rw [hv] at e3
 cases q:kvs[i]? with
 | none => rw [q] at e1; simp at e1
 | some kv =>
  rw [q] at e1 e3
  simp only [Option.map_some,Option.some.injEq] at e1 e3
  rw [← e1,e3]
  exact key_rel hk
section
variable {X:Cx}
noncomputable def rListD:List V → Hp → VK → Prop := fun xs H Q => ∃ a kvs,xs = [.ref a] ∧ Rd H a (.dK kvs) ∧ ∀ l,H l = none → Q (.ref l) (upd H l (.lst (kvs.map fun kv => kV kv.1)))
theorem call_listD (hc:X.calm = true):CallR X (.type "list") rListD := by
 intro pins s σ H xs us Q I r h
 obtain ⟨a,kvs,rfl,e,q⟩ := h
 obtain ⟨u,rfl,rx⟩ := Vals.one r
 cases rx
 obtain ⟨z,hd,vs,rel,o,es,ep,d1,d2⟩ := dk_rd I.hok e
 refine PySem.W.kdl_call (PySem.W.kdl_dict (knd := mixKind X.prog X.w) (kvs := vs) (ep := ep) hd) (I.ok.hd hc) ⟨o,es,d1,d2⟩ (by rw [← rel.length]; exact z) fun h' tk acc' c' hk hS hacc => ?_
 refine ⟨.ref _,_,I.laid (t' := tk) (o := .lst (kvs.map fun kv => kV kv.1)) hk (Nat.le_refl _) ⟨by rw [List.length_map]; exact z,acc'.toList,c',keys_vals rel hacc,by simpa using hS⟩,rfl,q _ (I.hok.fresh (Nat.le_refl _))⟩
noncomputable def rUpdD:V → List V → Hp → VK → Prop := fun x vs H Q => ∃ a b kvs more,x = .ref a ∧ vs = [.ref b] ∧ a ≠ b ∧ H a = some (.dK kvs) ∧ H b = some (.dK more) ∧ kvs.length + more.length ≤ 1000 ∧ Q .non (upd H a (.dK (mergeK kvs more)))
theorem mt_dupdate:MtM X "dict.update" rUpdD := by
 intro pins s σ H x xs v us Q I rx rv h
 obtain ⟨a,b,kvs,more,rfl,rfl,hne,ha,hb,hl,q⟩ := h
 cases rx
 obtain ⟨u,rfl,rb⟩ := Vals.one rv
 cases rb
 obtain ⟨z,hd,vs,rel,dd⟩ := dk_of I.hok ha
 obtain ⟨z2,hd2,ms,rel2,dd2⟩ := dk_of I.hok hb
 have e1 := rel.length
 have e2 := rel2.length
 have lim:kvs.length + more.length ≤ sizeLine := Nat.le_trans hl (by decide)
 refine call_meetsIn PySem.F.slot_dict_update dd.typeIs PySem.F.entry_dict_update (PySem.F.args_dict_update_2 _ _) (meets_dict_update (mixKind X.prog X.w) a b hne hd2) ⟨vs,ms,dd,dd2,by lia,fun h' dd' _ hs => ?_⟩
 have he:∃ q,h'.get? a = some q := let ⟨q,_,_,hq,_⟩ := dd'; ⟨q,hq⟩
 exact ⟨.non,_,d_write (t' := s.toks) I (by rw [ha]; exact True.intro) hs he (dk_new (Nat.le_trans (length_mergeK _ _) lim) hd (KV.merge rel2 rel) dd'),rfl,q⟩
noncomputable def rCopyD:List V → Hp → VK → Prop := fun xs H Q => ∃ a kvs,xs = [.ref a] ∧ Rd H a (.dK kvs) ∧ ∀ p,H p = none → Q (.ref p) (upd H p (.dK kvs))
theorem call_copyD:CallR X (.type "dict") rCopyD := by
 intro pins s σ H xs us Q I r h
 obtain ⟨a,kvs,rfl,e,q⟩ := h
 obtain ⟨u,rfl,rx⟩ := Vals.one r
 cases rx
 exact d_copyOf I e fun p s' hp I' => ⟨.ref p,_,I',rfl,q p hp⟩
noncomputable def rLenD:List V → Hp → VK → Prop := fun xs H Q => ∃ a kvs,xs = [.ref a] ∧ Rd H a (.dK kvs) ∧ Q (.int kvs.length) H
theorem call_lenD:CallR X (.builtin "len") rLenD := by
 intro pins s σ H xs us Q I r h
 obtain ⟨a,kvs,rfl,e,q⟩ := h
 obtain ⟨u,rfl,rx⟩ := Vals.one r
 cases rx
 exact d_len I e fun t s' I' => ⟨.int kvs.length,H,I',⟨t,rfl⟩,q⟩
end
section
variable {prog:Program} {w:World} {A:Around} {E:Value → Shared → Prop} {s:Shared}
theorem srn_tree {a:Addr} {vs:List Value} {ns:List Int} {n:Nat} {P:PySem.Fin → Shared → Prop} (ho:s.heap.get? a = some (seqObj "list" vs.toArray n)) (hI:IntsAre vs ns) (hz:vs.length ≤ sizeLine)
  (h:∀ (out:Array Value) (ns':List Int),IntsAre out.toList ns' → ns'.Perm ns → ns'.Pairwise (· ≤ ·) → P (.done (.ret .none)) { s with heap := sortedHeap s.heap a vs out }):wpAny (model prog w) A (Builtin.«list.sort» ⟨[.ref a],[]⟩) P E s := by
 rw [list_sort_plain]
 have ha:a < s.heap.objs.size := Heap.lt_size ho
 have hsz:vs.toArray.size = vs.length := by simp
 refine wpAny_bind (listItems_at ho rfl ?_)
 refine wpAny_bind (listUpdate_at ho rfl ?_ (by rw [hsz]; exact hz) (Nat.zero_le _))
 obtain ⟨e1,ho1⟩:∃ e1,(s.heap.update a (Obj.mapSeq fun _ => (#[]:Array Value))).get? a = some (seqObj "list" #[] e1) := ⟨_,get?_update_seq ho (fun _ => #[])⟩
 refine wpAny_bind (seqEpoch_at ho1 rfl ?_)
 refine wpAny_bind (wpAny_newTuple ?_ (by show vs.length ≤ _; exact hz))
 refine wpAny_bind (wpAny_newList ?_ (Nat.zero_le _))
 refine wpAny_holding ?_
 have ho6:(((s.heap.update a (Obj.mapSeq fun _ => (#[]:Array Value))).push (seqObj "tuple" vs.toArray 0)).push (seqObj "list" #[] 0)).get? a = some (seqObj "list" #[] e1) := Heap.get?_push_of_some _ (Heap.get?_push_of_some _ ho1)
 show wpAny (model prog w) A _ P E { s with heap := ((s.heap.update a (Obj.mapSeq fun _ => (#[]:Array Value))).push (seqObj "tuple" vs.toArray 0)).push (seqObj "list" #[] 0) }
 dsimp only
 have ez:(vs.toArray.zip vs.toArray).toList = vs.zip vs := by simp
 have fin:∀ st':SortSt,(arrOf st').toList.Perm (vs.zip vs) → (arrOf st').toList.Pairwise (fun p q => numOf p.1 ≤ numOf q.1) → P (.done (.ret .none)) { s with heap := sortedHeap s.heap a vs ((arrOf st').map (·.2)) } := fun st' hp hs => by
  have hmem:∀ p,p ∈ (arrOf st').toList → p.1 = p.2 ∧ p.1 ∈ vs := fun p hp' => mem_zip_self (hp.mem_iff.mp hp')
  have eo:((arrOf st').map (·.2)).toList = (arrOf st').toList.map (·.1) := by
   rw [Array.toList_map]
   exact List.map_congr_left fun p hp' => (hmem p hp').1.symm
  refine h _ ((arrOf st').toList.map fun p => numOf p.1) ?_ ?_ ?_
  ·rw [eo]
   have h1 := intsAre_map ((arrOf st').toList.map (·.1)) (fun v hv => by
    obtain ⟨p,hp',rfl⟩ := List.mem_map.mp hv
    exact hI.all _ (hmem p hp').2)
   rwa [List.map_map] at h1
  ·have h1 := hp.map fun p => numOf p.1
   have e2:((vs.zip vs).map fun p => numOf p.1) = ns := by
    have:((vs.zip vs).map fun p => numOf p.1) = ((vs.zip vs).map Prod.fst).map numOf := by rw [List.map_map]; rfl
    rw [this,List.map_fst_zip (Nat.le_refl _),hI.nums]
   rwa [e2] at h1
  ·rw [List.pairwise_map]
   exact hs
 have szo:∀ st':SortSt,(arrOf st').toList.Perm (vs.zip vs) → ((arrOf st').map (·.2)).size ≤ sizeLine + 1 := fun st' hp => by
  have := hp.length_eq
  rw [Array.length_toList,List.length_zip,Nat.min_self] at this
  rw [Array.size_map]
  lia
 by_cases h2:vs.toArray.size < 2
 ·rw [if_pos h2,if_pos h2]
  refine wpAny_bind (wpAny_pure ?_)
  rw [StateT.run_pure]
  refine wpAny_bind (wpAny_pure ?_)
  dsimp only
  have hp0:(arrOf (SortSt.mk' general' (vs.toArray.zip vs.toArray) #[] 7 none)).toList.Perm (vs.zip vs) := by
   show (vs.toArray.zip vs.toArray).toList.Perm _
   rw [ez]
  refine wpAny_bind (seqEpoch_at ho6 rfl ?_)
  refine wpAny_bind (listUpdate_at ho6 rfl ?_ (Nat.zero_le _) (szo _ hp0))
  simp only [bne_self_eq_false,Bool.false_eq_true,if_false]
  refine wpAny_pure (fin (SortSt.mk' general' (vs.toArray.zip vs.toArray) #[] 7 none) hp0 ?_)
  show (vs.toArray.zip vs.toArray).toList.Pairwise _
  rw [ez]
  rw [hsz] at h2
  match vs,h2 with
  | [],_ => exact .nil
  | [v],_ => exact List.pairwise_singleton _ _
  | _ :: _ :: _,h2 => simp at h2; lia
 ·rw [if_neg h2,if_neg h2]
  rw [ksk_kind (by simpa using hI) (by omega)]
  refine wpAny_bind (wpAny_pure ?_)
  refine wpAny_bind (wpAny_mono (Tim.srt_int (st := SortSt.mk' oneType' (vs.toArray.zip vs.toArray) #[] 7 none)
   (Q := fun _ st' => (arrOf st').toList.Perm (vs.zip vs) ∧ (arrOf st').toList.Pairwise (fun p q => numOf p.1 ≤ numOf q.1) ∧ failedOf st' = none) rfl rfl rfl (fun p hp => ?_) fun st' a1 a2 a3 => ⟨by rw [← ez]; exact a1,a2,a3⟩) ?_ fun _ _ e => e)
  ·have hp':p ∈ (vs.toArray.zip vs.toArray).toList := hp
   rw [ez] at hp'
   exact hI.all _ (mem_zip_self hp').2
  ·rintro ⟨⟨⟩,st'⟩ s' ⟨rfl,hp,hs,hf⟩
   dsimp only
   refine wpAny_bind (seqEpoch_at ho6 rfl ?_)
   refine wpAny_bind (listUpdate_at ho6 rfl ?_ (Nat.zero_le _) (szo _ hp))
   rw [hf]
   simp only [bne_self_eq_false,Bool.false_eq_true,if_false]
   exact wpAny_pure (fin st' hp hs)
end
noncomputable def Collects (X:Cx) (pins:List (Addr × Obj)) (σ:St) (H:Hp) (s:Shared) (v:Value) (ns:List Int):Prop :=
 ∀ (Q':List Value → Shared → Prop) (E:Value → Shared → Prop),(∀ (s1:Shared) (vs:List Value),Inv X pins σ H s1 → Vals (ns.map V.int) vs → Q' vs s1) → wpAny (model X.prog X.w) X.A.in1 (collect v) Q' E s
theorem ints_of:∀ {ns:List Int} {vs:List Value},Vals (ns.map V.int) vs → IntsAre vs ns
 | [],_,.nil => .nil
 | n :: ns,_,.cons r t => by
  obtain ⟨tk,rfl⟩ := r
  exact .cons n tk (ints_of t)
theorem of_ints:∀ {ns:List Int} {vs:List Value},IntsAre vs ns → Vals (ns.map V.int) vs
 | _,_,.nil => .nil
 | _,_,.cons n t h => .cons ⟨t,rfl⟩ (of_ints h)
theorem iadd_dict {P:Program} {w:World} {A:Around} {s:Shared} {R:Result → Shared → Prop} {a S:Addr} {vs:List (Key × Value)} {ep c₀:Nat} (hd:(a == sysModules) = false) (hh:A.handled = none) (dA:s.heap.DictAt (mixKind P w) a vs ep) (hSa:S ≠ a)
  (hS:s.heap.get? S = some { cls := .type "list",data := .seq #[] c₀ }) (hz:vs.length ≤ sizeLine)
  (hR:∀ h' tk acc' c',(∀ b o,b ≠ S → s.heap.get? b = some o → h'.get? b = some o) → h'.get? S = some { cls := .type "list",dict := none,data := .seq acc' c',slots := #[] } →
   ItemsOf (fun i v => ∃ k x,vs[i]? = some (k,x) ∧ (mixKind P w).is k v = true) acc' vs.length → R (.ok (.ret (.ref S))) { s with heap := h',toks := tk }) :
  codeAny (model P w) A (.builtin "list.__iadd__" ⟨[.ref S,.ref a],[]⟩) R s := by
 refine codeAny_builtin entry_list_iadd' ?_
 rw [Around.under_plainId PySem.F.plain_list_iadd _]
 exact PySem.W.kdl_extend (PySem.W.kdl_dict (knd := mixKind P w) (kvs := vs) (ep := ep) hd) hh dA S hSa hSa _ c₀ hS hR hz
section
variable {X:Cx} {pins:List (Addr × Obj)} {σ:St} {H:Hp} {s:Shared} {v:Value} {ns:List Int} {Q:VK}
theorem sorted_of (C:Collects X pins σ H s v ns) (hz:ns.length ≤ sizeLine) (h:∀ (l:Addr) (ns':List Int),H l = none → ns'.Perm ns → ns'.Pairwise (· ≤ ·) → Q (.ref l) (upd H l (.lst (ns'.map V.int)))) :
  wpAny (model X.prog X.w) X.A (call (.builtin "sorted") [v]) (EP X pins σ Q) X.xe s := by
 refine Calls.call_function_entry kind_sorted plain_sorted entry_sorted (args_sorted1 _) ?_
 unfold Builtin.«sorted»
 refine wpAny_bind (m := checkCount "sorted" 1 1 _) (wpAny_pure ?_)
 refine wpAny_bind (C _ _ fun s1 vs I1 rv => ?_)
 have vl := rv.length
 rw [List.length_map] at vl
 refine wpAny_bind (wpAny_newList ?_ (by lia))
 have hoL:(s1.heap.push (seqObj "list" vs.toArray 0)).get? s1.heap.objs.size = some (seqObj "list" vs.toArray 0) := Heap.get?_push_size _ rfl
 refine wpAny_bind (wpAny_holding (wpAny_call_entry slot_list_sort ⟨_,hoL,rfl⟩ entry_list_sort (srn_tree (s := { s1 with heap := s1.heap.push (seqObj "list" vs.toArray 0) }) hoL (ints_of rv) (by lia) fun out ns' a1 a2 a3 => ⟨_,rfl,?_⟩) (args_list_sort _)))
 refine wpAny_pure ⟨_,rfl,.ref s1.heap.objs.size,_,?_,rfl,h _ ns' (I1.hok.fresh (Nat.le_refl _)) a2 a3⟩
 obtain ⟨c,hc⟩ := sortedHeap_at (vs := vs) (out := out) hoL
 refine I1.laid (t' := s1.toks) (o := .lst (ns'.map V.int)) (fun b u e => ?_) (Nat.le_refl _) ⟨by rw [List.length_map,a2.length_eq]; exact hz,out.toList,c,of_ints a1,by simpa using hc⟩
 have hlt:b < s1.heap.objs.size := Heap.lt_size e
 rw [sortedHeap_old (Nat.ne_of_lt hlt) (by rw [size_push']; exact Nat.lt_succ_of_lt hlt)]
 exact Heap.get?_push_of_some _ e
theorem collects_list {l:Addr} (I:Inv X pins σ H s) (hl:SqL X.K H l (ns.map V.int)):Collects X pins σ H s (.ref l) ns := by
 intro Q' E h
 obtain ⟨its,rv,pl,hz⟩ := I.list hl
 have vl := rv.length
 refine collect_list pl.isList (h _ its (I.kept (t' := s.toks) fun b o q => ?_) rv) (by lia)
 have hlt:b < s.heap.objs.size := Heap.lt_size q
 rw [Heap.get?_update_ne _ _ _ _ (Nat.ne_of_lt hlt),Heap.get?_push_ne _ _ _ (Nat.ne_of_lt hlt)]
 exact q
theorem collects_dict {a:Addr} {kvs:List (Key × V)} (hc:X.calm = true) (I:Inv X pins σ H s) (e:Rd H a (.dK kvs)) (hk:(kvs.map fun kv => kV kv.1) = ns.map V.int):Collects X pins σ H s (.ref a) ns := by
 intro Q' E h
 obtain ⟨z,hd,vs,rel,o,es,ep,d1,d2⟩ := dk_rd I.hok e
 have dA:s.heap.DictAt (mixKind X.prog X.w) a vs ep := ⟨o,es,d1,d2⟩
 have hlt:a < s.heap.objs.size := dA.lt_size
 unfold collect
 refine wpAny_bind (wpAny_runValue (codeAny_builtin entry_proto_collect' ?_))
 show wpAny _ _ (do again (.builtin "list.__iadd__" ⟨[← newList [],.ref a],[]⟩)) _ _ s
 refine wpAny_bind (wpAny_newList (wpAny_pure ⟨Code.quiet_builtin _ (by decide +kernel),iadd_dict hd (I.ok.hd hc) (dA.at' fun o q => Heap.get?_push_of_some _ q) (Nat.ne_of_gt hlt) (Heap.get?_push_size _ rfl) (by rw [← rel.length]; exact z) fun h' tk acc' c' hkp hS hacc => ?_⟩))
 refine wpAny_bind (wpAny_load hS ?_)
 refine wpAny_pure (h _ _ (I.kept (t' := tk) fun b o q => hkp b o (Nat.ne_of_lt (Heap.lt_size q)) (Heap.get?_push_of_some _ q)) ?_)
 rw [← hk]
 exact keys_vals rel hacc
end
section
variable {X:Cx}
noncomputable def rSortL (K:PySem.W.Frag):List V → Hp → VK → Prop := fun xs H Q => ∃ (a:Addr) (ns:List Int),xs = [.ref a] ∧ SqL K H a (ns.map V.int) ∧ ns.length ≤ 1000 ∧ ∀ (l:Addr) (ns':List Int),H l = none → ns'.Perm ns → ns'.Pairwise (· ≤ ·) → Q (.ref l) (upd H l (.lst (ns'.map V.int)))
theorem call_sortL:CallR X (.builtin "sorted") (rSortL X.K) := by
 intro pins s σ H xs us Q I r h
 obtain ⟨a,ns,rfl,hl,hz,q⟩ := h
 obtain ⟨u,rfl,rx⟩ := Vals.one r
 cases rx
 exact sorted_of (collects_list I hl) (Nat.le_trans hz (by decide)) q
noncomputable def rSortD:List V → Hp → VK → Prop := fun xs H Q => ∃ (a:Addr) (kvs:List (Key × V)) (ns:List Int),xs = [.ref a] ∧ Rd H a (.dK kvs) ∧ (kvs.map fun kv => kV kv.1) = ns.map V.int ∧ ns.length ≤ 1000 ∧ ∀ (l:Addr) (ns':List Int),H l = none → ns'.Perm ns → ns'.Pairwise (· ≤ ·) → Q (.ref l) (upd H l (.lst (ns'.map V.int)))
theorem call_sortD (hc:X.calm = true):CallR X (.builtin "sorted") rSortD := by
 intro pins s σ H xs us Q I r h
 obtain ⟨a,kvs,ns,rfl,e,hk,hz,q⟩ := h
 obtain ⟨u,rfl,rx⟩ := Vals.one r
 cases rx
 exact sorted_of (collects_dict hc I e hk) (Nat.le_trans hz (by decide)) q
end
end L2
namespace Flw
noncomputable def b2i (b:Bool):Int := if b then 1 else 0
noncomputable def cnt:Nat → (Nat → Bool) → Int
 | 0,_ => 0
 | n + 1,p => cnt n p + b2i (p n)
theorem b2i_nn (b:Bool):0 ≤ b2i b := by cases b <;> decide
theorem cnt_congr {n:Nat} {p q:Nat → Bool} (h:∀ x,x < n → p x = q x):cnt n p = cnt n q := by
 induction n with
 | zero => rfl
 | succ n ih => show cnt n p + _ = cnt n q + _; rw [ih fun x hx => h x (Nat.lt_succ_of_lt hx),h n (Nat.lt_succ_self n)]
theorem cnt_upd {n x:Nat} {p q:Nat → Bool} (hx:x < n) (h:∀ y,y ≠ x → q y = p y):cnt n q = cnt n p + b2i (q x) - b2i (p x) := by
 induction n with
 | zero => lia
 | succ n ih =>
  show cnt n q + _ = cnt n p + _ + _ - _
  by_cases e:x = n
  ·subst e
   rw [cnt_congr (p := q) (q := p) fun y hy => h y (Nat.ne_of_lt hy)]
   lia
  ·rw [ih (by lia),h n fun z => e z.symm]
   lia
noncomputable def sm:Nat → (Nat → Int) → Int
 | 0,_ => 0
 | n + 1,f => sm n f + f n
structure Net where
 n:Nat
 m:Nat
 k:Nat
 seats:Nat → List Nat
 own:Nat → Nat
 cap:Nat → Int
 lim:Nat → Int
noncomputable abbrev Wh := Nat → Option Nat
section
variable (N:Net) (W:Wh)
noncomputable def atS (s x:Nat):Bool := decide (W x = some s)
noncomputable def atO (w x:Nat):Bool := match W x with
 | some s => decide (N.own s = w)
 | none => false
noncomputable def cS (s:Nat):Int := cnt N.n (atS W s)
noncomputable def cO (w:Nat):Int := cnt N.n (atO N W w)
structure Valid:Prop where
 inl:∀ x s,W x = some s → s ∈ N.seats x ∧ x < N.n
 slot:∀ s,cS N W s ≤ N.cap s
 ownr:∀ w,cO N W w ≤ N.lim w
noncomputable def full (s:Nat):Prop := N.cap s ≤ cS N W s
noncomputable def ofull (w:Nat):Prop := N.lim w ≤ cO N W w
noncomputable def room (s:Nat):Prop := ¬ full N W s ∧ ¬ ofull N W (N.own s)
noncomputable def Push (s x:Nat):Prop := (full N W s ∧ W x = some s) ∨ (¬ full N W s ∧ ∃ t,W x = some t ∧ N.own t = N.own s)
end
noncomputable def move (W:Wh) (x s:Nat):Wh := fun y => if y = x then some s else W y
theorem move_same {W:Wh} {x s:Nat}:move W x s x = some s := by unfold move; rw [if_pos rfl]
theorem move_ne {W:Wh} {x s y:Nat} (h:y ≠ x):move W x s y = W y := by unfold move; rw [if_neg h]
section
variable {N:Net} {W:Wh} {x s:Nat}
theorem atS_move (s' y:Nat):atS (move W x s) s' y = if y = x then decide (s = s') else atS W s' y := by
 unfold atS move
 by_cases e:y = x <;> simp [e]
theorem cS_move (hx:x < N.n) (s':Nat):cS N (move W x s) s' = cS N W s' + b2i (decide (s = s')) - b2i (decide (W x = some s')) := by
 unfold cS
 rw [cnt_upd (p := atS W s') hx fun y hy => by rw [atS_move,if_neg hy]]
 rw [atS_move,if_pos rfl]
 rfl
theorem cO_move (hx:x < N.n) (w:Nat):cO N (move W x s) w = cO N W w + b2i (decide (N.own s = w)) - b2i (atO N W w x) := by
 unfold cO
 rw [cnt_upd (p := atO N W w) hx fun y hy => by unfold atO; rw [move_ne hy]]
 have:atO N (move W x s) w x = decide (N.own s = w) := by unfold atO; rw [move_same]
 rw [this]
theorem b2i_t {p:Prop} [Decidable p] (h:p):b2i (decide p) = 1 := by rw [decide_eq_true h]; rfl
theorem b2i_f {p:Prop} [Decidable p] (h:¬ p):b2i (decide p) = 0 := by rw [decide_eq_false h]; rfl
theorem b2i_le {b:Bool}:b2i b ≤ 1 := by cases b <;> decide
theorem Valid.move (V:Valid N W) (hx:x < N.n) (hs:s ∈ N.seats x) (hr:room N W s):Valid N (move W x s) := by
 refine ⟨fun y u e => ?_,fun u => ?_,fun w => ?_⟩
 ·by_cases z:y = x
  ·subst z; rw [move_same] at e; cases e; exact ⟨hs,hx⟩
  ·rw [move_ne z] at e; exact V.inl y u e
 ·rw [cS_move hx]
  have h1 := V.slot u
  have h2 := b2i_nn (decide (W x = some u))
  by_cases z:s = u
  ·subst z
   have:cS N W s < N.cap s := Int.not_le.mp hr.1
   have := b2i_le (b := decide (s = s))
   lia
  ·rw [b2i_f z]; lia
 ·rw [cO_move hx]
  have h1 := V.ownr w
  have h2 := b2i_nn (atO N W w x)
  by_cases z:N.own s = w
  ·subst z
   have:cO N W (N.own s) < N.lim (N.own s) := Int.not_le.mp hr.2
   have := b2i_le (b := decide (N.own s = N.own s))
   lia
  ·rw [b2i_f z]; lia
end
noncomputable def moves (W:Wh):List (Nat × Nat) → Wh
 | [] => W
 | (x,s) :: r => moves (move W x s) r
noncomputable def Good (N:Net) (W:Wh) (start:Nat):List (Nat × Nat) → Prop
  | [] => False
  | (x,s) :: r => s ∈ N.seats x ∧ x < N.n ∧ (match r with
    | [] => x = start
    | (y,u) :: r' => ¬ room N W u ∧ Push N W u x ∧ (∀ p ∈ r',¬ Push N W p.2 x) ∧ (∀ p ∈ (y,u) :: r',x ≠ p.1)) ∧ (r = [] ∨ Good N W start r)
theorem moves_out {x:Nat}:∀ {c:List (Nat × Nat)} {W:Wh},(∀ p ∈ c,x ≠ p.1) → moves W c x = W x
 | [],_,_ => rfl
 | (y,s) :: r,W,h => by
  show moves (move W y s) r x = W x
  rw [moves_out fun p hp => h p (List.mem_cons_of_mem _ hp),move_ne (h _ List.mem_cons_self)]
section
variable {N:Net} {start:Nat}
theorem Push.at_ {W:Wh} {u x:Nat} (h:Push N W u x):∃ t,W x = some t ∧ N.own t = N.own u := by
 rcases h with ⟨_,e⟩ | ⟨_,t,e,z⟩
 ·exact ⟨u,e,rfl⟩
 ·exact ⟨t,e,z⟩
theorem full_kept {W:Wh} {x s t u:Nat} (hx:x < N.n) (ht:W x = some t) (h1:t ≠ u) (h2:s ≠ u):full N (move W x s) u ↔ full N W u := by
 unfold full
 rw [cS_move hx,b2i_f h2,b2i_f fun e => h1 (by rw [ht] at e; exact Option.some.inj e)]
 lia
theorem atO_some {W:Wh} {x t w:Nat} (h:W x = some t):atO N W w x = decide (N.own t = w) := by unfold atO; rw [h]
theorem atO_none {W:Wh} {x w:Nat} (h:W x = none):atO N W w x = false := by unfold atO; rw [h]
theorem kept_at {W:Wh} {x s t v:Nat} (hx:x < N.n) (ht:W x = some t) (hs:room N W s) (hv:¬ room N W v) (hp:¬ Push N W v x) :
  (full N (move W x s) v ↔ full N W v) ∧ ¬ room N (move W x s) v ∧ ∀ y,y ≠ x → (Push N (move W x s) v y ↔ Push N W v y) := by
 have key:(full N (move W x s) v ↔ full N W v) ∧ ¬ room N (move W x s) v := by
  by_cases hf:full N W v
  ·have h1:t ≠ v := fun e => hp (.inl ⟨hf,by rw [ht,e]⟩)
   have h2:s ≠ v := fun e => hs.1 (by rw [e]; exact hf)
   have k := full_kept (N := N) hx ht h1 h2
   exact ⟨k,fun r => r.1 (k.mpr hf)⟩
  ·have ho:ofull N W (N.own v) := Classical.byContradiction fun z => hv ⟨hf,z⟩
   have h1:N.own t ≠ N.own v := fun e => hp (.inr ⟨hf,t,ht,e⟩)
   have h2:N.own s ≠ N.own v := fun e => hs.2 (by rw [e]; exact ho)
   have k := full_kept (N := N) hx ht (fun e:t = v => h1 (by rw [e])) (fun e:s = v => h2 (by rw [e]))
   refine ⟨k,fun r => r.2 ?_⟩
   unfold ofull
   rw [cO_move hx,b2i_f h2,atO_some ht,b2i_f h1]
   unfold ofull at ho
   lia
 refine ⟨key.1,key.2,fun y hy => ?_⟩
 unfold Push
 rw [key.1,move_ne hy]
theorem Good.kept {W:Wh} {x s t:Nat} (hx:x < N.n) (ht:W x = some t) (hs:room N W s):∀ {r:List (Nat × Nat)},Good N W start r → (∀ p ∈ r,x ≠ p.1) → (∀ p ∈ r.tail,¬ Push N W p.2 x) → Good N (move W x s) start r
 | [],g,_,_ => g
 | [(y,u)],g,_,_ => ⟨g.1,g.2.1,g.2.2.1,.inl rfl⟩
 | (y,u) :: (z,v) :: r,g,hd,hp => by
  obtain ⟨g1,g2,⟨g3,g4,g5,g6⟩,g7⟩ := g
  have g7:Good N W start ((z,v) :: r) := by
   rcases g7 with e | e
   ·cases e
   ·exact e
  have hy:y ≠ x := fun e => hd _ List.mem_cons_self e.symm
  have kv := kept_at (N := N) hx ht hs g3 (hp _ List.mem_cons_self)
  have rm:∀ p ∈ r,¬ room N W p.2 := by
   intro p hp
   have:∀ {c:List (Nat × Nat)},Good N W start c → ∀ p ∈ c.tail,¬ room N W p.2 := by
    intro c
    induction c with
    | nil => intro _ p h; cases h
    | cons a c ih =>
     obtain ⟨a1,a2⟩ := a
     intro g p h
     cases c with
     | nil => cases h
     | cons b c =>
      obtain ⟨b1,b2⟩ := b
      obtain ⟨_,_,⟨q,_⟩,g'⟩ := g
      rcases List.mem_cons.mp h with e | h
      ·rw [e]; exact q
      ·rcases g' with e | g'
       ·cases e
       ·exact ih g' p h
   exact this g7 p hp
  refine ⟨g1,g2,⟨kv.2.1,(kv.2.2 y hy).mpr g4,fun p hpr q => ?_,g6⟩,.inr (Good.kept hx ht hs g7 (fun p h => hd p (List.mem_cons_of_mem _ h)) fun p h => hp p (List.mem_cons_of_mem _ h))⟩
  have kp := kept_at (N := N) hx ht hs (rm p hpr) (hp p (List.mem_cons_of_mem _ hpr))
  exact g5 p hpr ((kp.2.2 y hy).mp q)
theorem aug:∀ {c:List (Nat × Nat)} {W:Wh},Valid N W → W start = none → Good N W start c → (∀ x s r,c = (x,s) :: r → room N W s) →
  Valid N (moves W c) ∧ ∀ y,moves W c y ≠ none ↔ (W y ≠ none ∨ y = start)
 | [],_,_,_,g,_ => g.elim
 | [(x,s)],W,V,h0,g,hr => by
  obtain ⟨g1,g2,g3,_⟩ := g
  have g3:x = start := g3
  subst g3
  refine ⟨V.move g2 g1 (hr x s [] rfl),fun y => ?_⟩
  show move W x s y ≠ none ↔ _
  by_cases e:y = x
  ·subst e; simp [move_same]
  ·simp [move_ne e,e]
 | (x,s) :: (y,u) :: r,W,V,h0,g,hr => by
  have hs := hr x s _ rfl
  obtain ⟨g1,g2,⟨g3,g4,g5,g6⟩,g7⟩ := g
  have g7:Good N W start ((y,u) :: r) := by
   rcases g7 with e | e
   ·cases e
   ·exact e
  obtain ⟨t,ht,ho⟩ := g4.at_
  have hxs:start ≠ x := fun e => by rw [e,ht] at h0; cases h0
  have V1 := V.move g2 g1 hs
  have ru:room N (move W x s) u := by
   rcases g4 with ⟨hf,e⟩ | ⟨hf,t',e,z⟩
   ·rw [ht] at e
    cases e
    have hsu:s ≠ u := fun e => hs.1 (by rw [e]; exact hf)
    refine ⟨fun q => ?_,fun q => ?_⟩
    ·unfold full at q
     rw [cS_move g2,b2i_f hsu,b2i_t ht] at q
     have := V.slot u
     lia
    ·unfold ofull at q
     rw [cO_move g2,atO_some ht,b2i_t rfl] at q
     have h1 := V.ownr (N.own u)
     by_cases z:N.own s = N.own u
     ·have h2 := Int.not_le.mp hs.2
      rw [z] at h2
      rw [b2i_t z] at q
      lia
     ·rw [b2i_f z] at q
      lia
   ·rw [ht] at e
    cases e
    have hof:ofull N W (N.own u) := Classical.byContradiction fun q => g3 ⟨hf,q⟩
    have hso:N.own s ≠ N.own u := fun e => hs.2 (by rw [e]; exact hof)
    refine ⟨fun q => hf ?_,fun q => ?_⟩
    ·unfold full at q ⊢
     rw [cS_move g2,b2i_f (fun e => hso (by rw [e]))] at q
     have := b2i_nn (decide (W x = some u))
     lia
    ·unfold ofull at q
     rw [cO_move g2,b2i_f hso,atO_some ht,b2i_t z] at q
     have h1 := V.ownr (N.own u)
     lia
  have A := aug V1 (by rw [move_ne hxs]; exact h0) (g7.kept g2 ht hs g6 g5) fun x' s' r' e => by cases e; exact ru
  refine ⟨A.1,fun z => ?_⟩
  show moves (move W x s) ((y,u) :: r) z ≠ none ↔ _
  rw [A.2 z]
  by_cases e:z = x
  ·subst e; simp [move_same,ht]
  ·rw [move_ne e]
end
noncomputable def Reach (N:Net) (W:Wh) (u t:Nat):Prop := (full N W u ∧ t = u) ∨ (¬ full N W u ∧ t < N.m ∧ N.own t = N.own u)
theorem Push.reach {N:Net} {W:Wh} {u x t:Nat} (h:Push N W u x) (e:W x = some t) (ht:t < N.m):Reach N W u t := by
 rcases h with ⟨hf,z⟩ | ⟨hf,t',z,o⟩
 ·rw [e] at z; cases z; exact .inl ⟨hf,rfl⟩
 ·rw [e] at z; cases z; exact .inr ⟨hf,ht,o⟩
noncomputable abbrev Par := Nat → Option (Option (Nat × Nat))
structure Bfs (N:Net) (W:Wh) (shut:Nat → Prop) (start:Nat) (seen:Nat → Prop) (par:Par) (tm:Nat → Nat) (now:Nat):Prop where
 st:par start = some none
 t0:tm start < now
 sn:∀ s,shut s → seen s
 pn:∀ x,par x = some none → x = start
 lt:∀ x,par x ≠ none → x < N.n
 pr:∀ x v,par x = some (some v) → par v.1 ≠ none ∧ v.2 ∈ N.seats v.1 ∧ ¬ room N W v.2 ∧ ¬ shut v.2 ∧ Push N W v.2 x ∧ (∀ t,Reach N W v.2 t → seen t) ∧ tm v.1 < tm x ∧ tm x < now
 ps:∀ x v,par x = some (some v) → ∃ t,W x = some t ∧ seen t ∧ ¬ shut t
 dd:∀ x z v u,par x = some (some v) → par z = some (some u) → tm z < tm x → ¬ Push N W u.2 x
 nw:∀ t x,seen t → ¬ shut t → W x = some t → par x ≠ none
 cl:∀ t,seen t → ¬ shut t → full N W t ∨ (ofull N W (N.own t) ∧ ∀ t',t' < N.m → N.own t' = N.own t → seen t')
section
variable {N:Net} {W:Wh} {shut seen seen':Nat → Prop} {start now:Nat} {par par':Par} {tm:Nat → Nat}
theorem Bfs.ini (hs:start < N.n) (h0:W start = none) (hp:∀ x,par x = if x = start then some none else none):Bfs N W shut start shut par (fun _ => 0) 1 := by
 have nv:∀ x v,par x ≠ some (some v) := fun x v e => by
  rw [hp x] at e
  split at e
  ·cases e
  ·cases e
 refine ⟨by rw [hp,if_pos rfl],Nat.lt_succ_self 0,fun _ h => h,fun x e => ?_,fun x e => ?_,fun x v e => (nv x v e).elim,fun x v e => (nv x v e).elim,fun x z v u e => (nv x v e).elim,fun t x h1 h2 => (h2 h1).elim,fun t h1 h2 => (h2 h1).elim⟩
 ·rw [hp x] at e
  split at e
  ·assumption
  ·cases e
 ·rw [hp x] at e
  split at e
  ·rename_i z; rw [z]; exact hs
  ·exact (e rfl).elim
noncomputable def Fresh (N:Net) (W:Wh) (seen:Nat → Prop) (s x:Nat):Prop := ∃ t,W x = some t ∧ Reach N W s t ∧ ¬ seen t
theorem Bfs.old (B:Bfs N W shut start seen par tm now) (h0:W start = none) {x s:Nat} (h:par x ≠ none):¬ Fresh N W seen s x := by
 rintro ⟨t,e,_,ns⟩
 cases q:par x with
 | none => exact h q
 | some v =>
  cases v with
  | none => rw [B.pn x q,h0] at e; cases e
  | some v =>
   obtain ⟨t',e',sn,_⟩ := B.ps x v q
   rw [e] at e'
   cases e'
   exact ns sn
theorem Bfs.tlt (B:Bfs N W shut start seen par tm now) {x:Nat} (h:par x ≠ none):tm x < now := by
 cases q:par x with
 | none => exact (h q).elim
 | some v =>
  cases v with
  | none => rw [B.pn x q]; exact B.t0
  | some v => exact (B.pr x v q).2.2.2.2.2.2.2
theorem Bfs.step (B:Bfs N W shut start seen par tm now) (h0:W start = none) (hV:∀ x t,W x = some t → t < N.m ∧ x < N.n) {y s:Nat} (hy:par y ≠ none) (hs:s ∈ N.seats y) (hsm:s < N.m) (ns:¬ seen s) (nr:¬ room N W s)
  (hseen:∀ t,seen' t ↔ (seen t ∨ Reach N W s t)) (hnew:∀ x,Fresh N W seen s x → par' x = some (some (y,s))) (hold:∀ x,¬ Fresh N W seen s x → par' x = par x) :
  ∃ tm',Bfs N W shut start seen' par' tm' (now + 1) := by
 have nsh:¬ shut s := fun h => ns (B.sn s h)
 have up:∀ t,seen t → seen' t := fun t h => (hseen t).mpr (.inl h)
 have keep:∀ x,par x ≠ none → par' x = par x := fun x h => hold x (B.old h0 h)
 have inv:∀ x v,par' x = some (some v) → (Fresh N W seen s x ∧ v = (y,s)) ∨ (¬ Fresh N W seen s x ∧ par x = some (some v)) := fun x v e => by
  by_cases f:Fresh N W seen s x
  ·rw [hnew x f] at e
   cases e
   exact .inl ⟨f,rfl⟩
  ·rw [hold x f] at e
   exact .inr ⟨f,e⟩
 have some':∀ x,par x ≠ none → par' x ≠ none := fun x h => by rw [keep x h]; exact h
 have nofr:∀ {x v},par x = some (some v) → par x ≠ none := fun e z => by rw [e] at z; cases z
 classical
 refine ⟨fun x => if Fresh N W seen s x then now else tm x,?_,?_,fun t h => up t (B.sn t h),fun x e => ?_,fun x e => ?_,fun x v e => ?_,fun x v e => ?_,fun x z v u ex ez lt => ?_,fun t x h1 h2 h3 => ?_,fun t h1 h2 => ?_⟩
 ·rw [keep start (by rw [B.st]; simp),B.st]
 ·rw [if_neg (B.old h0 (by rw [B.st]; simp))]
  exact Nat.lt_succ_of_lt B.t0
 ·by_cases f:Fresh N W seen s x
  ·rw [hnew x f] at e; cases e
  ·rw [hold x f] at e; exact B.pn x e
 ·by_cases f:Fresh N W seen s x
  ·obtain ⟨t,et,_⟩ := f
   exact (hV x t et).2
  ·rw [hold x f] at e; exact B.lt x e
 ·rcases inv x v e with ⟨f,rfl⟩ | ⟨f,e⟩
  ·refine ⟨some' y hy,hs,nr,nsh,?_,fun t h => (hseen t).mpr (.inr h),?_,?_⟩
   ·obtain ⟨t,et,h,_⟩ := f
    rcases h with ⟨hf,rfl⟩ | ⟨hf,_,o⟩
    ·exact .inl ⟨hf,et⟩
    ·exact .inr ⟨hf,t,et,o⟩
   ·rw [if_pos f,if_neg (B.old h0 hy)]
    exact B.tlt hy
   ·rw [if_pos f]; exact Nat.lt_succ_self _
  ·obtain ⟨p1,p2,p3,p4,p5,p6,p7,p8⟩ := B.pr x v e
   refine ⟨some' v.1 p1,p2,p3,p4,p5,fun t h => up t (p6 t h),?_,?_⟩
   ·rw [if_neg f,if_neg (B.old h0 p1)]; exact p7
   ·rw [if_neg f]; exact Nat.lt_succ_of_lt p8
 ·rcases inv x v e with ⟨f,rfl⟩ | ⟨f,e⟩
  ·obtain ⟨t,et,h,nst⟩ := f
   exact ⟨t,et,(hseen t).mpr (.inr h),fun z => nst (B.sn t z)⟩
  ·obtain ⟨t,h1,h2,h3⟩ := B.ps x v e
   exact ⟨t,h1,up t h2,h3⟩
 ·rcases inv z u ez with ⟨fz,rfl⟩ | ⟨fz,ez⟩
  ·rw [if_pos fz] at lt
   by_cases fx:Fresh N W seen s x
   ·rw [if_pos fx] at lt; lia
   ·rw [if_neg fx] at lt
    rcases inv x v ex with ⟨fx',_⟩ | ⟨_,ex⟩
    ·exact (fx fx').elim
    ·have := B.tlt (nofr ex); lia
  ·rcases inv x v ex with ⟨fx,rfl⟩ | ⟨fx,ex⟩
   ·intro hp
    obtain ⟨t,et,h,nst⟩ := fx
    exact nst ((B.pr z u ez).2.2.2.2.2.1 t (hp.reach et (hV x t et).1))
   ·rw [if_neg fz,if_neg fx] at lt
    exact B.dd x z v u ex ez lt
 ·by_cases hst:seen t
  ·exact some' x (B.nw t x hst h2 h3)
  ·rcases (hseen t).mp h1 with z | z
   ·exact (hst z).elim
   ·rw [hnew x ⟨t,h3,z,hst⟩]; simp
 ·by_cases hst:seen t
  ·rcases B.cl t hst h2 with z | ⟨z,w⟩
   ·exact .inl z
   ·exact .inr ⟨z,fun t' h h' => up t' (w t' h h')⟩
  ·rcases (hseen t).mp h1 with z | z
   ·exact (hst z).elim
   ·rcases z with ⟨hf,rfl⟩ | ⟨hf,htm,o⟩
    ·exact .inl hf
    ·have ho:ofull N W (N.own s) := Classical.byContradiction fun q => nr ⟨hf,q⟩
     rw [o]
     exact .inr ⟨ho,fun t' h h' => (hseen t').mpr (.inr (.inr ⟨hf,h,h'⟩))⟩
inductive Ch (par:Par):Nat → List (Nat × Nat) → Prop
 | nil {x:Nat}:par x = some none → Ch par x []
 | cons {x:Nat} {v:Nat × Nat} {c:List (Nat × Nat)}:par x = some (some v) → Ch par v.1 c → Ch par x (v :: c)
theorem Bfs.chain (B:Bfs N W shut start seen par tm now):∀ (k x:Nat),tm x ≤ k → par x ≠ none → ∃ c,Ch par x c
 | k,x,hk,hx => by
  cases q:par x with
  | none => exact (hx q).elim
  | some v =>
   cases v with
   | none => exact ⟨[],.nil q⟩
   | some v =>
    obtain ⟨p1,_,_,_,_,_,p7,_⟩ := B.pr x v q
    match k with
    | 0 => lia
    | k + 1 =>
     obtain ⟨c,hc⟩ := B.chain k v.1 (by lia) p1
     exact ⟨v :: c,.cons q hc⟩
theorem Ch.mem {x:Nat} {c:List (Nat × Nat)} (h:Ch par x c) (B:Bfs N W shut start seen par tm now):∀ p ∈ c,∃ z,par z = some (some p) ∧ tm z ≤ tm x := by
 induction h with
 | nil _ => intro p hp; cases hp
 | cons e _ ih =>
  intro p hp
  rcases List.mem_cons.mp hp with z | z
  ·subst z; exact ⟨_,e,Nat.le_refl _⟩
  ·obtain ⟨z,h1,h2⟩ := ih p z
   exact ⟨z,h1,Nat.le_trans h2 (Nat.le_of_lt (B.pr _ _ e).2.2.2.2.2.2.1)⟩
theorem Ch.good {x:Nat} {c:List (Nat × Nat)} (h:Ch par x c) (B:Bfs N W shut start seen par tm now):∀ {s:Nat},s ∈ N.seats x → Good N W start ((x,s) :: c) := by
 induction h with
 | nil e => intro s hs; exact ⟨hs,B.lt _ (by rw [e]; simp),B.pn _ e,.inl rfl⟩
 | @cons x v c e hc ih =>
  intro s hs
  obtain ⟨y,u⟩ := v
  obtain ⟨p1,p2,p3,p4,p5,p6,p7,p8⟩ := B.pr _ _ e
  refine ⟨hs,B.lt _ (by rw [e]; simp),⟨p3,p5,fun p hp => ?_,fun p hp z => ?_⟩,.inr (ih p2)⟩
  ·obtain ⟨z,h1,h2⟩ := hc.mem B p hp
   exact B.dd x z _ _ e h1 (Nat.lt_of_le_of_lt h2 p7)
  ·rcases List.mem_cons.mp hp with q | q
   ·subst q
    rw [z] at p7
    exact Nat.lt_irrefl _ p7
   ·obtain ⟨w,h1,h2⟩ := hc.mem B p q
    have := (B.pr _ _ h1).2.2.2.2.2.2.1
    rw [← z] at this
    lia
end
structure Cut (N:Net) (W:Wh) (Sh shut:Nat → Prop) (i:Nat):Prop where
 i1:∀ x s,Sh x → s ∈ N.seats x → shut s
 i2:∀ x s,shut s → W x = some s → Sh x
 i3:∀ s,shut s → full N W s ∨ (ofull N W (N.own s) ∧ ∀ x t,W x = some t → N.own t = N.own s → Sh x)
 i4:∀ x,x < i → W x = none → Sh x
 i5:∀ x,Sh x → x < i
 i6:∀ x,W x ≠ none → x < i
section
variable {N:Net} {W:Wh} {Sh shut seen Sh' shut':Nat → Prop} {i now:Nat} {par:Par} {tm:Nat → Nat}
theorem Cut.ini (h:∀ x,W x = none) (hs:∀ x,¬ Sh x) (ht:∀ s,¬ shut s):Cut N W Sh shut 0 :=
 ⟨fun x _ z => (hs x z).elim,fun _ s z => (ht s z).elim,fun s z => (ht s z).elim,fun _ z => absurd z (Nat.not_lt_zero _),fun x z => (hs x z).elim,fun x z => (z (h x)).elim⟩
theorem Cut.fail (C:Cut N W Sh shut i) (V:Valid N W) (hV:∀ x t,W x = some t → t < N.m) (B:Bfs N W shut i seen par tm now) (hc:∀ y,par y ≠ none → ∀ s,s ∈ N.seats y → seen s)
  (hSh:∀ x,Sh' x ↔ (Sh x ∨ par x ≠ none)) (hsh:∀ s,shut' s ↔ (shut s ∨ ∃ y,par y ≠ none ∧ s ∈ N.seats y)):Cut N W Sh' shut' (i + 1) := by
 refine ⟨fun x s h1 h2 => ?_,fun x s h1 h2 => ?_,fun s h => ?_,fun x h1 h2 => ?_,fun x h => ?_,fun x h => Nat.lt_succ_of_lt (C.i6 x h)⟩
 ·rcases (hSh x).mp h1 with z | z
  ·exact (hsh s).mpr (.inl (C.i1 x s z h2))
  ·exact (hsh s).mpr (.inr ⟨x,z,h2⟩)
 ·by_cases q:shut s
  ·exact (hSh x).mpr (.inl (C.i2 x s q h2))
  ·rcases (hsh s).mp h1 with z | ⟨y,z1,z2⟩
   ·exact (q z).elim
   ·exact (hSh x).mpr (.inr (B.nw s x (hc y z1 s z2) q h2))
 ·by_cases q:shut s
  ·rcases C.i3 s q with z | ⟨z,w⟩
   ·exact .inl z
   ·exact .inr ⟨z,fun x t h1 h2 => (hSh x).mpr (.inl (w x t h1 h2))⟩
  ·rcases (hsh s).mp h with z | ⟨y,z1,z2⟩
   ·exact (q z).elim
   ·rcases B.cl s (hc y z1 s z2) q with z | ⟨z,w⟩
    ·exact .inl z
    ·refine .inr ⟨z,fun x t h1 h2 => ?_⟩
     have st := w t (hV x t h1) h2
     by_cases qt:shut t
     ·exact (hSh x).mpr (.inl (C.i2 x t qt h1))
     ·exact (hSh x).mpr (.inr (B.nw t x st qt h1))
 ·by_cases e:x = i
  ·subst e
   exact (hSh x).mpr (.inr (by rw [B.st]; simp))
  ·exact (hSh x).mpr (.inl (C.i4 x (by lia) h2))
 ·rcases (hSh x).mp h with z | z
  ·exact Nat.lt_succ_of_lt (C.i5 x z)
  ·cases q:par x with
   | none => exact (z q).elim
   | some v =>
    cases v with
    | none => rw [B.pn x q]; exact Nat.lt_succ_self _
    | some v =>
     obtain ⟨t,e,_⟩ := B.ps x v q
     exact Nat.lt_succ_of_lt (C.i6 x (by rw [e]; simp))
theorem moves_in {x:Nat}:∀ {c:List (Nat × Nat)} {W:Wh},(∃ p ∈ c,x = p.1) → ∃ s,(x,s) ∈ c ∧ moves W c x = some s
 | [],_,⟨_,h,_⟩ => by cases h
 | (y,s) :: r,W,h => by
  show ∃ s',(x,s') ∈ (y,s) :: r ∧ moves (move W y s) r x = some s'
  by_cases q:∃ p ∈ r,x = p.1
  ·obtain ⟨s',h1,h2⟩ := moves_in (W := move W y s) q
   exact ⟨s',List.mem_cons_of_mem _ h1,h2⟩
  ·obtain ⟨p,hp,e⟩ := h
   rcases List.mem_cons.mp hp with z | z
   ·subst z
    have e:x = y := e
    subst e
    exact ⟨s,List.mem_cons_self,by rw [moves_out fun p hp z => q ⟨p,hp,z⟩,move_same]⟩
   ·exact (q ⟨p,z,e⟩).elim
theorem Cut.next (C:Cut N W Sh shut i) (V:Valid N W) (h0:W i = none) (B:Bfs N W shut i seen par tm now) {x s:Nat} {c:List (Nat × Nat)} (hc:Ch par x c) (hx:par x ≠ none) (hs:s ∈ N.seats x) (hr:room N W s) (ns:¬ shut s) :
  Cut N (moves W ((x,s) :: c)) Sh shut (i + 1) := by
 have G := hc.good B hs
 have A := aug V h0 G fun x' s' r' e => by cases e; exact hr
 have sl:∀ p ∈ (x,s) :: c,¬ shut p.2 := fun p hp => by
  rcases List.mem_cons.mp hp with z | z
  ·subst z; exact ns
  ·obtain ⟨z,h1,_⟩ := hc.mem B p z
   exact (B.pr z p h1).2.2.2.1
 have pp:∀ p ∈ (x,s) :: c,par p.1 ≠ none := fun p hp => by
  rcases List.mem_cons.mp hp with z | z
  ·subst z; exact hx
  ·obtain ⟨z,h1,_⟩ := hc.mem B p z
   exact (B.pr z p h1).1
 have nsh:∀ y,par y ≠ none → ¬ Sh y := fun y hy q => by
  cases e:par y with
  | none => exact hy e
  | some v =>
   cases v with
   | none => have := C.i5 y q; rw [B.pn y e] at this; exact Nat.lt_irrefl _ this
   | some v =>
    obtain ⟨t,et,_,nt⟩ := B.ps y v e
    exact nt (C.i1 y t q (V.inl y t et).1)
 have nch:∀ y,Sh y → ∀ p ∈ (x,s) :: c,y ≠ p.1 := fun y hy p hp z => nsh p.1 (pp p hp) (z ▸ hy)
 have back:∀ y u,shut u → moves W ((x,s) :: c) y = some u → W y = some u := fun y u hu e => by
  by_cases q:∃ p ∈ (x,s) :: c,y = p.1
  ·obtain ⟨s',h1,h2⟩ := moves_in (W := W) q
   rw [e] at h2
   cases h2
   exact (sl _ h1 hu).elim
  ·rw [moves_out fun p hp z => q ⟨p,hp,z⟩] at e
   exact e
 have fwd:∀ y u,shut u → W y = some u → moves W ((x,s) :: c) y = some u := fun y u hu e => by
  rw [moves_out (nch y (C.i2 y u hu e))]
  exact e
 refine ⟨C.i1,fun y u h1 h2 => C.i2 y u h1 (back y u h1 h2),fun u hu => ?_,fun y h1 h2 => ?_,fun y h => Nat.lt_succ_of_lt (C.i5 y h),fun y h => ?_⟩
 ·rcases C.i3 u hu with z | ⟨z,w⟩
  ·refine .inl ?_
   have e:cS N (moves W ((x,s) :: c)) u = cS N W u := cnt_congr fun y _ => by
    unfold atS
    exact decide_eq_decide.mpr ⟨back y u hu,fwd y u hu⟩
   unfold full
   rw [e]
   exact z
  ·-- the owner is full,and nobody comes or goes there
   have ow:∀ y t,moves W ((x,s) :: c) y = some t → N.own t = N.own u → Sh y ∧ W y = some t := fun y t e o => by
    by_cases q:∃ p ∈ (x,s) :: c,y = p.1
    ·obtain ⟨s',h1,h2⟩ := moves_in (W := W) q
     rw [e] at h2
     cases h2
     exfalso
     rcases List.mem_cons.mp h1 with k | k
     ·cases k
      exact hr.2 (by rw [o]; exact z)
     ·obtain ⟨y',h3,_⟩ := hc.mem B _ k
      obtain ⟨_,_,_,_,pu,_⟩ := B.pr _ _ h3
      obtain ⟨t',e',o'⟩ := pu.at_
      exact nsh y' (by rw [h3]; simp) (w y' t' e' (o'.trans o))
    ·rw [moves_out fun p hp z => q ⟨p,hp,z⟩] at e
     exact ⟨w y t e o,e⟩
   refine .inr ⟨?_,fun y t e o => (ow y t e o).1⟩
   have e:cO N (moves W ((x,s) :: c)) (N.own u) = cO N W (N.own u) := cnt_congr fun y _ => by
    by_cases q:∃ t,moves W ((x,s) :: c) y = some t ∧ N.own t = N.own u
    ·obtain ⟨t,e,o⟩ := q
     rw [atO_some e,atO_some (ow y t e o).2]
    ·have h1:atO N (moves W ((x,s) :: c)) (N.own u) y = false := by
      cases e:moves W ((x,s) :: c) y with
      | none => exact atO_none e
      | some t => rw [atO_some e]; exact decide_eq_false fun o => q ⟨t,e,o⟩
     have h2:atO N W (N.own u) y = false := by
      cases e:W y with
      | none => exact atO_none e
      | some t =>
       rw [atO_some e]
       refine decide_eq_false fun o => q ⟨t,?_,o⟩
       rw [moves_out (nch y (w y t e o))]
       exact e
     rw [h1,h2]
   unfold ofull
   rw [e]
   exact z
 ·by_cases e:y = i
  ·exact ((A.2 y).mpr (.inr e) h2).elim
  ·have:W y = none := Classical.byContradiction fun q => (A.2 y).mpr (.inl q) h2
   exact C.i4 y (by lia) this
 ·rcases (A.2 y).mp h with z | z
  ·exact Nat.lt_succ_of_lt (C.i6 y z)
  ·rw [z]; exact Nat.lt_succ_self _
noncomputable def asked (N:Net) (S:Nat → Bool) (s:Nat):Int := cnt N.n fun x => S x && decide (s ∈ N.seats x)
noncomputable def bear (N:Net) (S:Nat → Bool) (w:Nat):Int := sm N.m fun s => if N.own s = w then min (N.cap s) (asked N S s) else 0
noncomputable def borne (N:Net) (S:Nat → Bool):Int := sm N.k fun w => min (bear N S w) (N.lim w)
structure Net.Ok (N:Net):Prop where
 sl:∀ x s,s ∈ N.seats x → s < N.m
 ow:∀ s,s < N.m → N.own s < N.k
end
end Flw
set_option maxHeartbeats 4000000
namespace My
open PySem L2
noncomputable def plN (n:Nat) (k:Nat):List Nat := (List.range k).filter fun i => n.testBit i
noncomputable def pl (n:Int):List Int := (plN n.toNat 40).map fun i:Nat => (i:Int)
end My
set_option maxHeartbeats 1000000
namespace My
open PySem L2
noncomputable def ri (D:Nat) (f:Nat → Int):List Int := (List.range D).map f
theorem ri_len (D:Nat) (f:Nat → Int):(ri D f).length = D := by unfold ri; simp
theorem ri_get {D:Nat} {f:Nat → Int} {d:Nat} (h:d < D):(ri D f)[d]? = some (f d) := by unfold ri; simp [h]
theorem ri_congr {D:Nat} {f g:Nat → Int} (h:∀ d,d < D → f d = g d):ri D f = ri D g := List.map_congr_left fun d hd => h d (List.mem_range.mp hd)
theorem ri_set (D:Nat) (f:Nat → Int) (d:Nat) (v:Int):(ri D f).set d v = ri D fun x => if x = d then v else f x := by
 refine List.ext_getElem? fun i => ?_
 rw [List.getElem?_set]
 by_cases hi:i < D
 ·rw [ri_get hi (f := fun x => if x = d then v else f x),ri_get hi (f := f)]
  by_cases e:d = i
  ·subst e
   rw [if_pos rfl,if_pos (by rw [ri_len]; exact hi),if_pos rfl]
  ·have e':¬ i = d := fun z => e z.symm
   rw [if_neg e,if_neg e']
 ·rw [List.getElem?_eq_none (l := ri D fun x => if x = d then v else f x) (by rw [ri_len]; lia)]
  by_cases e:d = i
  ·subst e
   rw [if_pos rfl,if_neg (by rw [ri_len]; exact hi)]
  ·rw [if_neg e,List.getElem?_eq_none (by rw [ri_len]; lia)]
noncomputable def tg (n D:Nat) (g:Nat → Nat → Int):List (List Int) := (List.range n).map fun j => ri D (g j)
noncomputable def put (g:Nat → Nat → Int) (j d:Nat) (v:Int):Nat → Nat → Int := fun x y => if x = j ∧ y = d then v else g x y
section
variable {H H':Hp} {r t:Addr} {us:List V} {n D:Nat} {g f:Nat → Nat → Int} {j d:Nat}
theorem rv_get (hd:d < D) {q:Nat → Int}:((ri D q).map V.int)[d]? = some (.int (q d)) := by rw [List.getElem?_map,ri_get hd]; rfl
end
noncomputable def df (g f:Nat → Nat → Int) (h d:Nat):Bool := !decide (g h d = f h d)
noncomputable def dayC (g f:Nat → Nat → Int) (d j:Nat):List (Int × Int) := ((List.range j).filter fun h => df g f h d).map fun h:Nat => ((h:Int),(d:Int))
noncomputable def dm (g f:Nat → Nat → Int) (n i:Nat):List (Int × Int) := (List.range i).flatMap fun d => dayC g f d n
section
variable {g f:Nat → Nat → Int}
end
noncomputable def cellOf (H:Hp) (v:V):Int × Int := match v with
 | .ref t => (match H t with
  | some (.tup [.int a,.int b]) => (a,b)
  | _ => (0,0))
 | _ => (0,0)
section
variable {K:PySem.W.Frag} {H H':Hp} {a:Addr} {ns:List Int} {p p2 pa pb ph:Addr} {us us2 usa usb:List V} {n D:Nat} {g f:Nat → Nat → Int}
end
end My
namespace My
open PySem L2
noncomputable def netOf (seats:List (List Int)) (qs:List (Int × Int)) (lim:List Int):Flw.Net where
 n := seats.length
 m := qs.length
 k := lim.length
 seats x := (seats[x]?.getD []).map Int.toNat
 own s := (qs[s]?.getD (0,0)).1.toNat
 cap s := (qs[s]?.getD (0,0)).2
 lim w := lim[w]?.getD 0
noncomputable def oN:Option Nat → V
 | none => .non
 | some s => .int s
noncomputable def whL (n:Nat) (W:Flw.Wh):List V := (List.range n).map fun x => oN (W x)
theorem whL_len (n:Nat) (W:Flw.Wh):(whL n W).length = n := by unfold whL; simp
theorem whL_get {n:Nat} {W:Flw.Wh} {x:Nat} (h:x < n):(whL n W)[x]? = some (oN (W x)) := by unfold whL; simp [h]
theorem whL_move (n:Nat) (W:Flw.Wh) (x s:Nat):(whL n W).set x (.int s) = whL n (Flw.move W x s) := by
 refine List.ext_getElem? fun i => ?_
 rw [List.getElem?_set]
 by_cases hi:i < n
 ·rw [whL_get hi (W := Flw.move W x s),whL_get hi (W := W)]
  by_cases e:x = i
  ·subst e
   rw [if_pos rfl,if_pos (by rw [whL_len]; exact hi),Flw.move_same]
   rfl
  ·rw [if_neg e,Flw.move_ne fun z => e z.symm]
 ·rw [List.getElem?_eq_none (l := whL n (Flw.move W x s)) (by rw [whL_len]; lia)]
  by_cases e:x = i
  ·subst e
   rw [if_pos rfl,if_neg (by rw [whL_len]; exact hi)]
  ·rw [if_neg e,List.getElem?_eq_none (by rw [whL_len]; lia)]
noncomputable def dkN (v:V) (xs:List Nat):List (Key × V) := xs.map fun x:Nat => (Sum.inl (x:Int),v)
theorem dkN_len (v:V) (xs:List Nat):(dkN v xs).length = xs.length := by unfold dkN; simp
theorem dkN_val (v:V) (x:Nat):∀ xs:List Nat,valV (dkN v xs) (Sum.inl (x:Int)) = if x ∈ xs then some v else none
 | [] => rfl
 | y :: r => by
  show valV ((Sum.inl (y:Int),v) :: dkN v r) (Sum.inl (x:Int)) = _
  by_cases e:x = y
  ·subst e
   rw [valV_pos rfl,if_pos List.mem_cons_self]
  ·rw [valV_neg (fun z => e (by have := Sum.inl.inj z; lia)),dkN_val v x r]
   by_cases h:x ∈ r
   ·rw [if_pos h,if_pos (List.mem_cons_of_mem _ h)]
   ·rw [if_neg h,if_neg fun z => (List.mem_cons.mp z).elim e h]
theorem dkN_put (v:V) {x:Nat} {xs:List Nat} (h:x ∉ xs):putK (dkN v xs) (Sum.inl (x:Int)) v = dkN v (xs ++ [x]) := by
 rw [putK_new v (by rw [dkN_val,if_neg h])]
 unfold dkN
 rw [List.map_append]
 rfl
theorem dkN_drop (v:V) (x:Nat) (xs:List Nat):dropK (dkN v xs) (Sum.inl (x:Int)) = dkN v (xs.filter fun y => decide (y ≠ x)) := by
 unfold dropK dkN
 rw [List.filter_map]
 congr 1
 refine List.filter_congr fun y _ => ?_
 show decide ((Sum.inl (y:Int):Key) ≠ Sum.inl (x:Int)) = decide (y ≠ x)
 refine decide_eq_decide.mpr ⟨fun h e => h (by rw [e]),fun h e => h ?_⟩
 have := Sum.inl.inj e
 lia
theorem dkN_keys (v:V) (xs:List Nat):((dkN v xs).map fun kv => kV kv.1) = (xs.map fun x:Nat => (x:Int)).map V.int := by
 unfold dkN
 rw [List.map_map,List.map_map]
 rfl
noncomputable def hf (a1 a2 a3 a4 a5 a6 a7:Addr):List (Str × V) := putF "owned" (.ref a7) (putF "borne" (.ref a6) (putF "sitting" (.ref a5) (putF "where" (.ref a4) (putF "caps" (.ref a3) (putF "slots" (.ref a2) (putF "seats" (.ref a1) []))))))
section
variable (a1 a2 a3 a4 a5 a6 a7:Addr)
theorem hf_seats:(hf a1 a2 a3 a4 a5 a6 a7).lookup ("seats":Str) = some (.ref a1) := by
 unfold hf
 rw [lookup_putF,if_neg (by decide +kernel),lookup_putF,if_neg (by decide +kernel),lookup_putF,if_neg (by decide +kernel),lookup_putF,if_neg (by decide +kernel),lookup_putF,if_neg (by decide +kernel),lookup_putF,if_neg (by decide +kernel),lookup_putF,if_pos rfl]
theorem hf_slots:(hf a1 a2 a3 a4 a5 a6 a7).lookup ("slots":Str) = some (.ref a2) := by
 unfold hf
 rw [lookup_putF,if_neg (by decide +kernel),lookup_putF,if_neg (by decide +kernel),lookup_putF,if_neg (by decide +kernel),lookup_putF,if_neg (by decide +kernel),lookup_putF,if_neg (by decide +kernel),lookup_putF,if_pos rfl]
theorem hf_caps:(hf a1 a2 a3 a4 a5 a6 a7).lookup ("caps":Str) = some (.ref a3) := by
 unfold hf
 rw [lookup_putF,if_neg (by decide +kernel),lookup_putF,if_neg (by decide +kernel),lookup_putF,if_neg (by decide +kernel),lookup_putF,if_neg (by decide +kernel),lookup_putF,if_pos rfl]
theorem hf_where:(hf a1 a2 a3 a4 a5 a6 a7).lookup ("where":Str) = some (.ref a4) := by
 unfold hf
 rw [lookup_putF,if_neg (by decide +kernel),lookup_putF,if_neg (by decide +kernel),lookup_putF,if_neg (by decide +kernel),lookup_putF,if_pos rfl]
theorem hf_sitting:(hf a1 a2 a3 a4 a5 a6 a7).lookup ("sitting":Str) = some (.ref a5) := by
 unfold hf
 rw [lookup_putF,if_neg (by decide +kernel),lookup_putF,if_neg (by decide +kernel),lookup_putF,if_pos rfl]
theorem hf_borne:(hf a1 a2 a3 a4 a5 a6 a7).lookup ("borne":Str) = some (.ref a6) := by
 unfold hf
 rw [lookup_putF,if_neg (by decide +kernel),lookup_putF,if_pos rfl]
theorem hf_owned:(hf a1 a2 a3 a4 a5 a6 a7).lookup ("owned":Str) = some (.ref a7) := by
 unfold hf
 rw [lookup_putF,if_pos rfl]
theorem hf_no {m:Str} (h:m = "move" ∨ m = "is_full" ∨ m = "has_room" ∨ m = "making_room"):(hf a1 a2 a3 a4 a5 a6 a7).lookup m = none := by
 unfold hf
 rcases h with rfl | rfl | rfl | rfl <;> (rw [lookup_putF,if_neg (by decide +kernel),lookup_putF,if_neg (by decide +kernel),lookup_putF,if_neg (by decide +kernel),lookup_putF,if_neg (by decide +kernel),lookup_putF,if_neg (by decide +kernel),lookup_putF,if_neg (by decide +kernel),lookup_putF,if_neg (by decide +kernel)]; rfl)
end
structure Geo where
 seats:List (List Int)
 qs:List (Int × Int)
 lim:List Int
 us:List V
 ts:List V
 os:List V
 ds:List Addr
 a1:Addr
 a2:Addr
 a3:Addr
 a4:Addr
 a5:Addr
 a6:Addr
 a7:Addr
noncomputable def Geo.net (G:Geo):Flw.Net := netOf G.seats G.qs G.lim
noncomputable def Geo.mut (G:Geo):List Addr := G.a4 :: G.a6 :: G.ds
noncomputable def ownedL (N:Flw.Net):List (List Int) := (List.range N.k).map fun w => ((List.range N.m).filter fun s => decide (N.own s = w)).map fun s:Nat => (s:Int)
theorem ownedL_get {N:Flw.Net} {w:Nat} (h:w < N.k):(ownedL N)[w]? = some (((List.range N.m).filter fun s => decide (N.own s = w)).map fun s:Nat => (s:Int)) := by unfold ownedL; simp [h]
structure HallS (C:Addr) (H:Hp) (x:Addr) (G:Geo):Prop where
 ins:∃ dx,H x = some (.ins C dx (hf G.a1 G.a2 G.a3 G.a4 G.a5 G.a6 G.a7))
 s1:H G.a1 = some (.lst G.us)
 r1:Rows H G.us G.seats
 s2:H G.a2 = some (.lst G.ts)
 r2:Cells H G.ts G.qs
 s3:H G.a3 = some (.lst (G.lim.map V.int))
 s5:H G.a5 = some (.lst (G.ds.map V.ref))
 dl:G.ds.length = G.qs.length
 nd:G.mut.Nodup
 s7:H G.a7 = some (.lst G.os)
 r7:Rows H G.os (ownedL G.net)
 nm:∀ c ∈ G.mut,c ≠ x ∧ c ≠ G.a1 ∧ c ≠ G.a2 ∧ c ≠ G.a3 ∧ c ≠ G.a5 ∧ c ≠ G.a7 ∧ V.ref c ∉ G.us ∧ V.ref c ∉ G.ts ∧ V.ref c ∉ G.os
structure HallD (H:Hp) (G:Geo) (W:Flw.Wh) (sit:Nat → List Nat):Prop where
 s4:H G.a4 = some (.lst (whL G.seats.length W))
 s6:H G.a6 = some (.lst ((ri G.lim.length (Flw.cO G.net W)).map V.int))
 d5:∀ s d,G.ds[s]? = some d → H d = some (.dK (dkN (.bl true) (sit s)))
 sw:∀ s y,y ∈ sit s ↔ W y = some s
 sn:∀ s,(sit s).Nodup
 wl:∀ y s,W y = some s → y < G.seats.length ∧ s < G.qs.length
theorem rows_fr {H H':Hp} {us:List V} {rows:List (List Int)} (h:Rows H us rows):(∀ t o,V.ref t ∈ us → H t = some o → H' t = some o) → Rows H' us rows := by
 induction h with
 | nil => intro _; exact .nil
 | cons a _ ih =>
  intro k
  obtain ⟨t,rfl,e⟩ := a
  exact .cons ⟨t,rfl,k t _ List.mem_cons_self e⟩ (ih fun t o ht => k t o (List.mem_cons_of_mem _ ht))
theorem cells_fr {H H':Hp} {us:List V} {qs:List (Int × Int)} (h:Cells H us qs):(∀ t o,V.ref t ∈ us → H t = some o → H' t = some o) → Cells H' us qs := by
 induction h with
 | nil => intro _; exact .nil
 | cons a _ ih =>
  intro k
  obtain ⟨t,rfl,e⟩ := a
  exact .cons ⟨t,rfl,k t _ List.mem_cons_self e⟩ (ih fun t o ht => k t o (List.mem_cons_of_mem _ ht))
section
variable {C x:Addr} {H H':Hp} {G:Geo} {W:Flw.Wh} {sit:Nat → List Nat}
theorem HallS.off (S:HallS C H x G) (k:∀ c o,H c = some o → c ∉ G.mut → H' c = some o):HallS C H' x G := by
 obtain ⟨dx,e⟩ := S.ins
 have st:∀ {c o},H c = some o → (∀ d ∈ G.mut,d ≠ c) → H' c = some o := fun e h => k _ _ e fun z => h _ z rfl
 refine ⟨⟨dx,st e fun d hd => (S.nm d hd).1⟩,st S.s1 fun d hd => (S.nm d hd).2.1,rows_fr S.r1 fun t o ht q => st q fun d hd z => (S.nm d hd).2.2.2.2.2.2.1 (by rw [z]; exact ht),st S.s2 fun d hd => (S.nm d hd).2.2.1,
  cells_fr S.r2 fun t o ht q => st q fun d hd z => (S.nm d hd).2.2.2.2.2.2.2.1 (by rw [z]; exact ht),st S.s3 fun d hd => (S.nm d hd).2.2.2.1,st S.s5 fun d hd => (S.nm d hd).2.2.2.2.1,S.dl,S.nd,st S.s7 fun d hd => (S.nm d hd).2.2.2.2.2.1,
  rows_fr S.r7 fun t o ht q => st q fun d hd z => (S.nm d hd).2.2.2.2.2.2.2.2 (by rw [z]; exact ht),S.nm⟩
theorem HallS.mono (S:HallS C H x G) (g:Same H H'):HallS C H' x G := S.off fun c o e _ => g c o e
theorem HallD.mono (D:HallD H G W sit) (g:Same H H'):HallD H' G W sit := ⟨g _ _ D.s4,g _ _ D.s6,fun s d h => g _ _ (D.d5 s d h),D.sw,D.sn,D.wl⟩
theorem HallS.put (S:HallS C H x G) {c:Addr} (hc:c ∈ G.mut) (o:HO):HallS C (upd H c o) x G := S.off fun c' o' e n => by
 have ne:c' ≠ c := fun z => n (by rw [z]; exact hc)
 rw [upd_ne ne]
 exact e
end
theorem cnt_list {p:Nat → Bool}:∀ (n:Nat) (L:List Nat),L.Nodup → (∀ y,y ∈ L ↔ (y < n ∧ p y = true)) → (L.length:Int) = Flw.cnt n p
 | 0,L,_,h => by
  cases L with
  | nil => rfl
  | cons y r => exact absurd ((h y).mp List.mem_cons_self).1 (Nat.not_lt_zero _)
 | n + 1,L,nd,h => by
  show _ = Flw.cnt n p + Flw.b2i (p n)
  cases e:p n with
  | false =>
   have ih := cnt_list (p := p) n L nd fun y => by
    rw [h y]
    constructor
    ·rintro ⟨h1,h2⟩
     refine ⟨?_,h2⟩
     by_cases z:y = n
     ·rw [z,e] at h2; cases h2
     ·lia
    ·rintro ⟨h1,h2⟩
     exact ⟨by lia,h2⟩
   show _ = Flw.cnt n p + 0
   lia
  | true =>
   have hn:n ∈ L := (h n).mpr ⟨Nat.lt_succ_self n,e⟩
   have hl := List.length_erase_of_mem hn
   have hpos:0 < L.length := List.length_pos_of_mem hn
   have ih := cnt_list (p := p) n (L.erase n) (nd.erase n) fun y => by
    rw [nd.mem_erase_iff,h y]
    constructor
    ·rintro ⟨h1,h2,h3⟩
     exact ⟨by lia,h3⟩
    ·rintro ⟨h1,h2⟩
     exact ⟨by lia,by lia,h2⟩
   show _ = Flw.cnt n p + 1
   lia
theorem cnt_le (n:Nat) (p:Nat → Bool):Flw.cnt n p ≤ (n:Int) := by
 induction n with
 | zero => exact Int.le_refl 0
 | succ n ih =>
  have := Flw.b2i_le (b := p n)
  show Flw.cnt n p + Flw.b2i (p n) ≤ ((n + 1:Nat):Int)
  lia
theorem nodup_le {L:List Nat} {n:Nat} (nd:L.Nodup) (h:∀ y ∈ L,y < n):L.length ≤ n := by
 have h1 := cnt_list (p := fun y => decide (y ∈ L)) n L nd fun y => ⟨fun z => ⟨h y z,decide_eq_true z⟩,fun z => of_decide_eq_true z.2⟩
 have h2 := cnt_le n fun y => decide (y ∈ L)
 lia
theorem HallD.len {H:Hp} {G:Geo} {W:Flw.Wh} {sit:Nat → List Nat} (D:HallD H G W sit) (s:Nat):((sit s).length:Int) = Flw.cS G.net W s := by
 refine cnt_list _ _ (D.sn s) fun y => ?_
 unfold Flw.atS
 rw [D.sw s y,decide_eq_true_eq]
 exact ⟨fun e => ⟨(D.wl y s e).1,e⟩,fun e => e.2⟩
structure Fm (G:Geo) (H H':Hp):Prop where
 keep:∀ c o,H c = some o → c ∉ G.mut → H' c = some o
 free:∀ c,H c = none → H' c = none
section
variable {C x:Addr} {H H1 H2:Hp} {G:Geo} {W:Flw.Wh} {sit:Nat → List Nat}
theorem Fm.refl:Fm G H H := ⟨fun _ _ h _ => h,fun _ h => h⟩
theorem Fm.trans (a:Fm G H H1) (b:Fm G H1 H2):Fm G H H2 := ⟨fun c o h n => b.keep c o (a.keep c o h n) n,fun c h => b.free c (a.free c h)⟩
theorem Fm.put {c:Addr} {u:HO} (a:Fm G H H1) (hc:c ∈ G.mut) (hu:H1 c = some u) (o:HO):Fm G H (upd H1 c o) := by
 refine a.trans ⟨fun c' o' h n => ?_,fun c' h => ?_⟩
 ·have ne:c' ≠ c := fun z => n (by rw [z]; exact hc)
  rw [upd_ne ne]
  exact h
 ·have ne:c' ≠ c := fun z => by rw [z,hu] at h; cases h
  rw [upd_ne ne]
  exact h
theorem mut4:G.a4 ∈ G.mut := List.mem_cons_self
theorem mut6:G.a6 ∈ G.mut := List.mem_cons_of_mem _ List.mem_cons_self
theorem mutd {s:Nat} {d:Addr} (h:G.ds[s]? = some d):d ∈ G.mut := List.mem_cons_of_mem _ (List.mem_cons_of_mem _ (List.mem_of_getElem? h))
theorem HallS.n46 (S:HallS C H x G):G.a4 ≠ G.a6 := fun z => (List.nodup_cons.mp S.nd).1 (by rw [z]; exact List.mem_cons_self)
theorem HallS.n4d (S:HallS C H x G) {s:Nat} {d:Addr} (h:G.ds[s]? = some d):G.a4 ≠ d := fun z => (List.nodup_cons.mp S.nd).1 (by rw [z]; exact List.mem_cons_of_mem _ (List.mem_of_getElem? h))
theorem HallS.n6d (S:HallS C H x G) {s:Nat} {d:Addr} (h:G.ds[s]? = some d):G.a6 ≠ d := fun z => (List.nodup_cons.mp (List.nodup_cons.mp S.nd).2).1 (by rw [z]; exact List.mem_of_getElem? h)
theorem HallS.dinj (S:HallS C H x G) {s t:Nat} {d:Addr} (h:G.ds[s]? = some d) (h':G.ds[t]? = some d):s = t := by
 have nd := (List.nodup_cons.mp (List.nodup_cons.mp S.nd).2).2
 obtain ⟨h1,e1⟩ := List.getElem?_eq_some_iff.mp h
 obtain ⟨h2,e2⟩ := List.getElem?_eq_some_iff.mp h'
 exact (List.getElem_inj nd).mp (e1.trans e2.symm)
end
section
variable {C x d:Addr} {H H':Hp} {G:Geo} {W:Flw.Wh} {sit:Nat → List Nat} {kvs:List (Key × V)}
theorem HallS.kept (S:HallS C H x G) (hd:H d = some (.dK kvs)) (k:∀ c o,H c = some o → c ≠ d → H' c = some o):HallS C H' x G := by
 obtain ⟨dx,e⟩ := S.ins
 have st:∀ {c o},H c = some o → (∀ l,o ≠ .dK l) → H' c = some o := fun {c o} e n => k _ _ e fun z => n kvs (by rw [z,hd] at e; exact (Option.some.inj e).symm)
 have rw':∀ {us:List V} {rows:List (List Int)},Rows H us rows → Rows H' us rows := fun r => Paired.mapP r fun v row ⟨t,e1,e2⟩ => ⟨t,e1,st e2 fun l z => (nomatch z)⟩
 refine ⟨⟨dx,st e fun l z => (nomatch z)⟩,st S.s1 fun l z => (nomatch z),rw' S.r1,st S.s2 fun l z => (nomatch z),Paired.mapP S.r2 fun v row ⟨t,e1,e2⟩ => ⟨t,e1,st e2 fun l z => (nomatch z)⟩,st S.s3 fun l z => (nomatch z),st S.s5 fun l z => (nomatch z),S.dl,S.nd,st S.s7 fun l z => (nomatch z),rw' S.r7,S.nm⟩
theorem HallD.kept (D:HallD H G W sit) (dm:d ∉ G.mut) (k:∀ c o,H c = some o → c ≠ d → H' c = some o):HallD H' G W sit := by
 have ne:∀ c ∈ G.mut,c ≠ d := fun c hc z => dm (z ▸ hc)
 exact ⟨k _ _ D.s4 (ne _ mut4),k _ _ D.s6 (ne _ mut6),fun s d' h => k _ _ (D.d5 s d' h) (ne _ (mutd h)),D.sw,D.sn,D.wl⟩
theorem HallD.tracked (D:HallD H G W sit) {c:Addr} (hc:c ∈ G.mut):H c ≠ none := by
 rcases List.mem_cons.mp hc with e | hc
 ·rw [e,D.s4]; simp
 ·rcases List.mem_cons.mp hc with e | hc
  ·rw [e,D.s6]; simp
  ·obtain ⟨j,hj,e⟩ := List.mem_iff_getElem.mp hc
   rw [← e,D.d5 j _ (List.getElem?_eq_getElem hj)]; simp
end
structure HallL (H:Hp) (G:Geo) (W:Flw.Wh) (y:Nat) (sit:Nat → List Nat):Prop where
 s4:H G.a4 = some (.lst (whL G.seats.length W))
 s6:H G.a6 = some (.lst ((ri G.lim.length fun w => Flw.cO G.net W w - Flw.b2i (Flw.atO G.net W w y)).map V.int))
 d5:∀ s d,G.ds[s]? = some d → H d = some (.dK (dkN (.bl true) (sit s)))
 sw:∀ s z,z ∈ sit s ↔ (z ≠ y ∧ W z = some s)
 sn:∀ s,(sit s).Nodup
section
variable {C x:Addr} {H:Hp} {G:Geo} {W:Flw.Wh} {sit:Nat → List Nat} {y:Nat}
theorem HallD.none (D:HallD H G W sit) (h:W y = none):HallL H G W y sit := by
 refine ⟨D.s4,?_,D.d5,fun s z => ?_,D.sn⟩
 ·rw [D.s6]
  refine congrArg (fun l => some (HO.lst (l.map V.int))) (ri_congr fun w _ => ?_)
  rw [Flw.atO_none h]
  show _ = _ - (0:Int)
  lia
 ·rw [D.sw]
  exact ⟨fun e => ⟨fun q => (by rw [q,h] at e; cases e),e⟩,fun e => e.2⟩
theorem HallD.leave (D:HallD H G W sit) (S:HallS C H x G) {b:Nat} {d:Addr} (h:W y = some b) (hd:G.ds[b]? = some d) :
  HallL (upd (upd H d (.dK (dropK (dkN (.bl true) (sit b)) (Sum.inl (y:Int))))) G.a6 (.lst (((ri G.lim.length (Flw.cO G.net W)).map V.int).set (G.net.own b) (.int (Flw.cO G.net W (G.net.own b) - 1))))) G W y fun s => (sit s).filter fun z => decide (z ≠ y) := by
 refine ⟨?_,?_,fun s d' hd' => ?_,fun s z => ?_,fun s => (D.sn s).filter _⟩
 ·rw [upd_ne S.n46,upd_ne (S.n4d hd)]
  exact D.s4
 ·rw [upd_same,← List.map_set,ri_set]
  refine congrArg (fun l => some (HO.lst (l.map V.int))) (ri_congr fun w _ => ?_)
  rw [Flw.atO_some h]
  by_cases e:w = G.net.own b
  ·rw [if_pos e,e,Flw.b2i_t rfl]
  ·rw [if_neg e,Flw.b2i_f fun z => e z.symm]
   lia
 ·rw [upd_ne fun z => S.n6d hd' z.symm]
  by_cases e:d' = d
  ·subst e
   rw [upd_same,S.dinj hd' hd,dkN_drop]
  ·rw [upd_ne e,D.d5 s d' hd']
   have hsb:s ≠ b := fun z => e (by rw [z,hd] at hd'; cases hd'; rfl)
   rw [List.filter_eq_self.mpr fun z hz => ?_]
   refine decide_eq_true fun q => ?_
   rw [q,D.sw,h] at hz
   exact hsb (Option.some.inj hz).symm
 ·rw [List.mem_filter,D.sw,decide_eq_true_eq]
  exact ⟨fun e => ⟨e.2,e.1⟩,fun e => ⟨e.2,e.1⟩⟩
theorem HallL.takes (L:HallL H G W y sit) (S:HallS C H x G) (wl:∀ y s,W y = some s → y < G.seats.length ∧ s < G.qs.length) {s:Nat} {d:Addr} (hy:y < G.seats.length) (hs:s < G.qs.length) (hd:G.ds[s]? = some d) :
  HallD (upd (upd (upd H G.a4 (.lst ((whL G.seats.length W).set y (.int s)))) d (.dK (putK (dkN (.bl true) (sit s)) (Sum.inl (y:Int)) (.bl true)))) G.a6
   (.lst (((ri G.lim.length fun w => Flw.cO G.net W w - Flw.b2i (Flw.atO G.net W w y)).map V.int).set (G.net.own s) (.int (Flw.cO G.net W (G.net.own s) - Flw.b2i (Flw.atO G.net W (G.net.own s) y) + 1))))) G (Flw.move W y s)
   fun t => if t = s then sit s ++ [y] else sit t := by
 have ny:y ∉ sit s := fun z => ((L.sw s y).mp z).1 rfl
 refine ⟨?_,?_,fun t d' hd' => ?_,fun t z => ?_,fun t => ?_,fun z t e => ?_⟩
 ·rw [upd_ne S.n46,upd_ne (S.n4d hd),upd_same,whL_move]
 ·rw [upd_same,← List.map_set,ri_set]
  refine congrArg (fun l => some (HO.lst (l.map V.int))) (ri_congr fun w _ => ?_)
  rw [Flw.cO_move (N := G.net) hy]
  by_cases e:w = G.net.own s
  ·rw [if_pos e,e,Flw.b2i_t rfl]
   lia
  ·rw [if_neg e,Flw.b2i_f fun z => e z.symm]
   lia
 ·rw [upd_ne fun z => S.n6d hd' z.symm]
  by_cases e:d' = d
  ·subst e
   rw [upd_same,if_pos (S.dinj hd' hd),dkN_put _ ny]
  ·have hts:t ≠ s := fun z => e (by rw [z,hd] at hd'; cases hd'; rfl)
   rw [upd_ne e,upd_ne fun z => S.n4d hd' z.symm,if_neg hts]
   exact L.d5 t d' hd'
 ·by_cases e:t = s
  ·subst e
   rw [if_pos rfl,List.mem_append,List.mem_singleton,L.sw]
   by_cases q:z = y
   ·subst q
    rw [Flw.move_same]
    simp
   ·rw [Flw.move_ne q]
    simp [q]
  ·rw [if_neg e,L.sw]
   by_cases q:z = y
   ·subst q
    rw [Flw.move_same]
    constructor
    ·exact fun h => (h.1 rfl).elim
    ·exact fun h => (e (Option.some.inj h).symm).elim
   ·rw [Flw.move_ne q]
    simp [q]
 ·by_cases e:t = s
  ·rw [if_pos e,List.nodup_append]
   refine ⟨L.sn s,by simp,fun a ha b hb q => ?_⟩
   rw [List.mem_singleton.mp hb] at q
   exact ny (q ▸ ha)
  ·rw [if_neg e]
   exact L.sn t
 ·by_cases q:z = y
  ·subst q
   rw [Flw.move_same] at e
   cases e
   exact ⟨hy,hs⟩
  ·rw [Flw.move_ne q] at e
   exact wl z t e
end
end My
namespace My
open PySem L2
noncomputable abbrev Psh := List (Nat × Option (Nat × Nat))
noncomputable def parOf (ps:Psh):Flw.Par := fun x => (ps.find? fun p => decide (p.1 = x)).map (·.2)
theorem parOf_nil (x:Nat):parOf [] x = none := rfl
theorem parOf_pos {p:Nat × Option (Nat × Nat)} {r:Psh} {x:Nat} (e:p.1 = x):parOf (p :: r) x = some p.2 := by simp [parOf,List.find?_cons,e]
theorem parOf_neg {p:Nat × Option (Nat × Nat)} {r:Psh} {x:Nat} (e:¬ p.1 = x):parOf (p :: r) x = parOf r x := by simp [parOf,List.find?_cons,e]
theorem parOf_snoc (y:Nat) (v:Option (Nat × Nat)) (x:Nat):∀ ps:Psh,parOf ps y = none → parOf (ps ++ [(y,v)]) x = if x = y then some v else parOf ps x
 | [],_ => by
  by_cases e:x = y
  ·rw [if_pos e]; exact parOf_pos e.symm
  ·rw [if_neg e]; exact parOf_neg fun z => e z.symm
 | p :: r,h => by
  show parOf (p :: (r ++ [(y,v)])) x = _
  have hp:¬ p.1 = y := fun z => by rw [parOf_pos z] at h; cases h
  rw [parOf_neg hp] at h
  by_cases e:p.1 = x
  ·rw [parOf_pos e,if_neg (fun z => hp (e.trans z)),parOf_pos e]
  ·rw [parOf_neg e,parOf_snoc y v x r h,parOf_neg e]
theorem parOf_none {ps:Psh} {x:Nat}:parOf ps x = none ↔ x ∉ ps.map (·.1) := by
 induction ps with
 | nil => simp [parOf_nil]
 | cons p r ih =>
  by_cases e:p.1 = x
  ·rw [parOf_pos e]
   simp [e]
  ·rw [parOf_neg e,ih]
   have e':¬ x = p.1 := fun z => e z.symm
   simp [e']
noncomputable def PdV (H:Hp):Option (Nat × Nat) → V → Prop
 | none,v => v = .non
 | some q,v => ∃ t,v = .ref t ∧ H t = some (.tup [.int q.1,.int q.2])
noncomputable def PdR (H:Hp) (p:Nat × Option (Nat × Nat)) (kv:Key × V):Prop := kv.1 = Sum.inl (p.1:Int) ∧ PdV H p.2 kv.2
structure PdAt (H:Hp) (pd:Addr) (ps:Psh):Prop where
 ex:∃ kvs,H pd = some (.dK kvs) ∧ Paired (PdR H) ps kvs
theorem PdV.mono {H H':Hp} (k:∀ t xs,H t = some (.tup xs) → H' t = some (.tup xs)):∀ {q:Option (Nat × Nat)} {v:V},PdV H q v → PdV H' q v
 | none,_,h => h
 | some _,_,⟨t,e,h⟩ => ⟨t,e,k t _ h⟩
theorem pd_val {H:Hp} {x:Nat}:∀ {ps:Psh} {kvs:List (Key × V)},Paired (PdR H) ps kvs → (parOf ps x = none → valV kvs (Sum.inl (x:Int)) = none) ∧ ∀ q,parOf ps x = some q → ∃ v,valV kvs (Sum.inl (x:Int)) = some v ∧ PdV H q v
 | _,_,.nil => ⟨fun _ => rfl,fun q h => by rw [parOf_nil] at h; cases h⟩
 | p :: r,kv :: kvs,.cons a t => by
  obtain ⟨a1,a2⟩ := a
  have ih := pd_val (x := x) t
  by_cases e:p.1 = x
  ·rw [parOf_pos e]
   have:kv.1 = Sum.inl (x:Int) := by rw [a1,e]
   refine ⟨fun z => (nomatch z),fun q h => ?_⟩
   cases h
   exact ⟨kv.2,valV_pos this,a2⟩
  ·rw [parOf_neg e]
   have:¬ kv.1 = Sum.inl (x:Int) := fun z => e (by rw [a1] at z; have := Sum.inl.inj z; lia)
   rw [valV_neg this]
   exact ih
theorem PdAt.keep {H H':Hp} {pd:Addr} {ps:Psh} (P:PdAt H pd ps) (k:∀ kvs,H pd = some (.dK kvs) → H' pd = some (.dK kvs)) (kt:∀ t xs,H t = some (.tup xs) → H' t = some (.tup xs)):PdAt H' pd ps := by
 obtain ⟨kvs,e,r⟩ := P.ex
 exact ⟨kvs,k kvs e,Paired.mapP r fun p kv h => ⟨h.1,h.2.mono kt⟩⟩
noncomputable def StepV (H:Hp) (ps:Psh):List (Nat × Nat) → V → Prop
 | [],v => v = .non
 | p :: r,v => ∃ t,v = .ref t ∧ H t = some (.tup [.int p.1,.int p.2]) ∧ Flw.Ch (parOf ps) p.1 r
theorem HallD.nt {H:Hp} {G:Geo} {W:Flw.Wh} {sit:Nat → List Nat} (D:HallD H G W sit) {t:Addr} {xs:List V} (h:H t = some (.tup xs)):t ∉ G.mut := fun z => by
 rcases List.mem_cons.mp z with e | z
 ·rw [e,D.s4] at h; cases h
 ·rcases List.mem_cons.mp z with e | z
  ·rw [e,D.s6] at h; cases h
  ·obtain ⟨j,hj,e⟩ := List.mem_iff_getElem.mp z
   rw [← e,D.d5 j _ (List.getElem?_eq_getElem hj)] at h; cases h
noncomputable def newP (q:Nat × Nat) (fl:List Nat):Psh := fl.map fun y => (y,some q)
theorem parOf_app (q:Nat × Nat) (x:Nat):∀ (fl:List Nat) (ps:Psh),fl.Nodup → (∀ y ∈ fl,parOf ps y = none) → parOf (ps ++ newP q fl) x = if x ∈ fl then some (some q) else parOf ps x
 | [],ps,_,_ => by unfold newP; simp
 | y :: fl,ps,nd,h => by
  obtain ⟨n1,n2⟩ := List.nodup_cons.mp nd
  have e:ps ++ newP q (y :: fl) = (ps ++ [(y,some q)]) ++ newP q fl := by unfold newP; simp
  have hy := h y List.mem_cons_self
  rw [e,parOf_app q x fl _ n2 fun z hz => ?_]
  ·rw [parOf_snoc y (some q) x ps hy]
   by_cases e1:x ∈ fl
   ·rw [if_pos e1,if_pos (List.mem_cons_of_mem _ e1)]
   ·rw [if_neg e1]
    by_cases e2:x = y
    ·rw [if_pos e2,if_pos (by rw [e2]; exact List.mem_cons_self)]
    ·rw [if_neg e2,if_neg fun z => (List.mem_cons.mp z).elim e2 e1]
  ·rw [parOf_snoc y (some q) z ps hy,if_neg fun w => n1 (by rw [← w]; exact hz)]
   exact h z (List.mem_cons_of_mem _ hz)
theorem newP_keys (q:Nat × Nat) (fl:List Nat):(newP q fl).map (·.1) = fl := by unfold newP; rw [List.map_map]; exact List.map_id' fl
theorem newP_len (q:Nat × Nat) (fl:List Nat):(newP q fl).length = fl.length := by unfold newP; simp
theorem newP_snoc (q:Nat × Nat) (fl:List Nat) (y:Nat):newP q (fl ++ [y]) = newP q fl ++ [(y,some q)] := by unfold newP; simp
theorem PdAt.put {H H1:Hp} {pd t:Addr} {ps:Psh} {y:Nat} {q:Nat × Nat} (P:PdAt H pd ps) (hn:parOf ps y = none) (kt:∀ t xs,H t = some (.tup xs) → H1 t = some (.tup xs)) (k:∀ kvs,H pd = some (.dK kvs) → H1 pd = some (.dK kvs)) (ht:H1 t = some (.tup [.int q.1,.int q.2])) (hl:ps.length ≤ 900) :
  ∃ H2,DPut H1 pd (.int (y:Int)) (.ref t) H2 ∧ PdAt H2 pd (ps ++ [(y,some q)]) ∧ (∀ c o,H1 c = some o → c ≠ pd → H2 c = some o) ∧ ∀ c,c ≠ pd → H2 c = H1 c := by
 obtain ⟨kvs,e,r⟩ := P.ex
 have e1 := k kvs e
 have len := Paired.length r
 have r1:Paired (PdR H1) ps kvs := Paired.mapP r fun p kv h => ⟨h.1,h.2.mono kt⟩
 have hv := (pd_val r1).1 hn
 refine ⟨_,DPut.k (k := Sum.inl (y:Int)) e1 (small1000 (by lia)),⟨_,upd_same,?_⟩,fun c o h n => by rw [upd_ne n]; exact h,fun c n => upd_ne n⟩
 rw [putK_new _ hv]
 have kt3:∀ t' xs,H1 t' = some (.tup xs) → upd H1 pd (.dK (kvs ++ [(Sum.inl (y:Int),V.ref t)])) t' = some (.tup xs) := fun t' xs h => by
  have ne:t' ≠ pd := fun z => by rw [z,e1] at h; cases h
  rw [upd_ne ne]
  exact h
 have last:PdR (upd H1 pd (.dK (kvs ++ [(Sum.inl (y:Int),V.ref t)]))) (y,some q) (Sum.inl (y:Int),V.ref t) := ⟨rfl,t,rfl,kt3 _ _ ht⟩
 exact L2.Paired.snoc last (Paired.mapP r1 fun p kv h => ⟨h.1,h.2.mono kt3⟩)
theorem while_of {c:TT} {tb:TS} {D:Ends} {σ:St} {H:Hp} (h:∀ B:TS,B = tb → tWhile c B D σ H):tWhile c tb D σ H := h tb rfl
structure PuI (H:Hp) (G:Geo) (W:Flw.Wh) (shL:List Nat) (i:Nat) (d pd pr:Addr) (ex:Nat → Prop) (H':Hp) (snL:List Nat) (ps:Psh) (rw:List Nat):Prop where
 same:Same H H'
 ed:H' d = some (.dK (dkN (.bl true) snL))
 er:H' pr = some (.lst ((rw.map fun y:Nat => (y:Int)).map V.int))
 pa:PdAt H' pd ps
 bf:∃ tm now,Flw.Bfs G.net W (fun t => t ∈ shL) i (fun t => t ∈ snL) (parOf ps) tm now
 nd:snL.Nodup
 lt:∀ t ∈ snL,t < G.qs.length
 kn:(ps.map (·.1)).Nodup
 rl:rw.length ≤ ps.length
 rp:∀ y ∈ rw,parOf ps y ≠ none
 dn:∀ y,parOf ps y ≠ none → y ∉ rw → ¬ ex y → ∀ s,s ∈ G.net.seats y → s ∈ snL
theorem PuI.len {H H':Hp} {G:Geo} {W:Flw.Wh} {shL snL rw:List Nat} {i:Nat} {d pd pr:Addr} {ex:Nat → Prop} {ps:Psh} (P:PuI H G W shL i d pd pr ex H' snL ps rw):ps.length ≤ G.seats.length := by
 obtain ⟨tm,now,B⟩ := P.bf
 have := nodup_le (n := G.seats.length) P.kn fun y hy => B.lt y fun z => parOf_none.mp z hy
 simpa using this
theorem seats_of {G:Geo} {y:Nat} {row:List Int} (h:G.seats[y]? = some row):G.net.seats y = row.map Int.toNat := by
 show (G.seats[y]?.getD []).map Int.toNat = _
 rw [h]
 rfl
end My
namespace L2
open PySem PySem.Spec PyProof.Rows
noncomputable def Itk (d:Addr) (ob:Obj) (kvs:List (Key × V)):It :=
 ⟨fun i H => H d = some (.frz ob (.dK kvs)) ∧ i < kvs.length,fun i H x H' => H' = H ∧ ∃ k v,kvs[i]? = some (k,v) ∧ x = kV k,fun i H => H d = some (.frz ob (.dK kvs)) ∧ kvs.length ≤ i⟩
theorem turn_dictK {P:Program} {w:World} {K:PySem.W.Frag} {tg:Expr} (d it:Addr) (ob:Obj) (es:Array DictEntry) (ep:Nat) (kvs:List (Key × V)) (hdat:ob.data = .dict es ep) (hsz:es.size = kvs.length) :
  Turn P w K tg (Itk d ob kvs) [it] it (fun i h => h.IsKeyIter it d i es.size ep) where
 mem := by simp
 obj := fun i h st b hb => by
  have e:b = it := by simpa using hb
  subst e
  obtain ⟨o,e,c,dd⟩ := st
  exact ⟨o,e,fun v z => by rw [dd] at z; cases z⟩
 keep := fun i h h' st k => st.at fun o e => k it (by simp) o e
 item := by
  intro X hP hw hK hc i pins s σ H E I hf st hg
  subst hP hw hK
  obtain ⟨hH,hlt⟩ := hg
  obtain ⟨f0,f1,f2,f3,f4,f5⟩ := hf it (by simp)
  obtain ⟨hob,hz,hsm,vs,rel,o',es',ep',g1,g2,g3,g4,g5,g6⟩ := (show ObjOk X.prog X.w H s.heap d (.frz ob (.dK kvs)) from I.hok d _ hH)
  rw [hob] at g1
  cases g1
  rw [hdat] at g3
  cases g3
  have hlt':i < es.size := by lia
  refine raw_next st hob hdat hlt' fun h' st' sb => ?_
  have I1:Inv X pins σ H { s with heap := h' } := I.turned (t' := s.toks) (fun b o hb e => (sb.2 b hb).trans e) f0 f1 f3 f4 f5
  have hki:kvs[i]? = some kvs[i] := List.getElem?_eq_getElem hlt
  have hr:RelV (kV kvs[i].1) es[i].key := by
   obtain ⟨v,hv,e1,_⟩ := Paired.get' rel hki
   have e2:es.toList[i]? = some es[i] := by rw [Array.getElem?_toList,Array.getElem?_eq_getElem hlt']
   have h3 := (g5.get? e2 (show vs[i]? = some (v.1,v.2) from hv)).1
   rw [e1]
   exact key_rel h3
  obtain ⟨oi,ei,ci,di⟩ := id st'
  exact ⟨_,rfl,go_of (s := { s with heap := h' }) ei ci di (by decide) ⟨kV kvs[i].1,H,I1,hr,⟨rfl,kvs[i].1,kvs[i].2,hki,rfl⟩,st',fun b hb => (hf b hb).1⟩⟩
 done := by
  intro X hP hw hK hc i pins s σ H E I hf st hg
  subst hP hw hK
  obtain ⟨hH,hge⟩ := hg
  obtain ⟨f0,f1,f2,f3,f4,f5⟩ := hf it (by simp)
  obtain ⟨hob,_⟩ := (show ObjOk X.prog X.w H s.heap d (.frz ob (.dK kvs)) from I.hok d _ hH)
  exact raw_end (I.ok.hd hc) st hob hdat (by lia) fun h' eb => ⟨rfl,I.turned (t' := s.toks) (fun b o hb e => eb b o hb e) f0 f1 f3 f4 f5⟩
 self := fun _ _ _ _ _ st h => wpAny_pyIter_keyiter st h
section
variable {X:Cx} {pins:List (Addr × Obj)} {σ:St} {H:Hp} {s:Shared} {d:Addr} {kvs:List (Key × V)}
theorem Inv.freezeK {ob:Obj} (I:Inv X pins σ H s) (e:H d = some (.dK kvs)) (g:s.heap.get? d = some ob):Inv X pins σ (upd H d (.frz ob (.dK kvs))) s :=
 I.write (t' := s.toks) (x := d) (e := d) (by rw [e]; exact True.intro) (.inl rfl) (fun _ _ _ q => q) ⟨_,g⟩ ⟨g,I.hok d _ e⟩
theorem Inv.thawK {ob:Obj} (I:Inv X pins σ H s) (e:H d = some (.frz ob (.dK kvs))) (hb:∀ o u,X.H₀ d ≠ some (.frz o u)):Inv X pins σ (upd H d (.dK kvs)) s := by
 have up:∀ b u,H b = some u → b ≠ d → upd H d (.dK kvs) b = some u := fun b u q z => by rw [upd_ne z]; exact q
 have no:∀ b,H b = none → upd H d (.dK kvs) b = none := fun b q => by rw [upd_ne fun z => by rw [z,e] at q; cases q]; exact q
 refine ⟨I.ok,I.os,I.bare,⟨I.base.keep,I.base.slot,fun b o e1 n hx => no b (I.base.free b o e1 n hx),I.base.there,fun b xs q => ?_,fun b o u q => ?_,fun b ps q => ?_⟩,I.loc,I.cell,no _ I.free,fun x c q => no _ (I.freeC x c q),fun p hp => ?_,fun b u q => ?_,I.len⟩
 ·have z := I.base.tups b xs q
  exact up b _ z fun y => by rw [y,e] at z; cases z
 ·exact up b _ (I.base.frzs b o u q) fun y => hb o u (by rw [← y]; exact q)
 ·obtain ⟨m,z⟩ := I.base.tbls b ps q
  exact ⟨m,up b _ z fun y => by rw [y,e] at z; cases z⟩
 ·obtain ⟨p1,p2,p3⟩ := I.pin p hp
  exact ⟨p1,no _ p2,p3⟩
 ·by_cases z:b = d
  ·subst z
   rw [upd_same] at q
   cases q
   exact (show ObjOk X.prog X.w H s.heap b (.frz ob (.dK kvs)) from I.hok b _ e).2
  ·rw [upd_ne z] at q
   exact (I.hok b u q).stay (fun c v _ y => y) (fun c y => up _ _ y fun w => by rw [w,e] at y; cases y) fun c xs y => up _ _ y fun w => by rw [w,e] at y; cases y
end
noncomputable def iDK (te:TE):TI := fun σ H R => te σ H fun x H1 => ∃ d kvs,x = .ref d ∧ H1 d = some (.dK kvs) ∧ ∀ ob,R (Itk d ob kvs) (upd H1 d (.frz ob (.dK kvs)))
theorem pi_dictK {X:Cx} {tg:Expr} {e:Expr} {te:TE} (he:PE X e te):PI X tg e (iDK te) := by
 intro pins s σ H R I h
 refine thn (he pins s σ H _ I h) fun v s1 ⟨x,H1,I1,r1,q1⟩ => ?_
 obtain ⟨d,kvs,rfl,hd,q⟩ := q1
 cases r1
 obtain ⟨hz,hsm,vs,rel,o,es,ep,g1,g2,g3,g4,g5,g6⟩ := id (show ObjOk X.prog X.w H1 s1.heap d (.dK kvs) from I1.hok d _ hd)
 have hsz:es.size = kvs.length := by
  rw [rel.length,← g5.length,Array.length_toList]
 have hty:s1.TypeIs (.ref d) "dict" := ⟨o,g1,g2.1⟩
 have I2 := I1.freezeK hd g1
 refine raw_iter hsm g1 g2 hty g3 ?_
 refine ⟨s1.heap.objs.size,[s1.heap.objs.size],_,_,_,rfl,I2.kept (t' := s1.toks) fun b o e => Heap.get?_push_of_some _ e,turn_dictK d _ o es ep kvs g3 hsz,⟨_,Heap.get?_push_size _ rfl,rfl,rfl⟩,fun b hb => ?_,q o⟩
 have e:b = s1.heap.objs.size := by simpa using hb
 subst e
 exact I2.fpOk (Nat.le_refl _) (I2.hok.fresh (Nat.le_refl _))
noncomputable def tThawK (H0:Hp) (t:TS):TS := fun D σ H => ∃ d ob kvs,H d = some (.frz ob (.dK kvs)) ∧ (∀ o u,H0 d ≠ some (.frz o u)) ∧ t D σ (upd H d (.dK kvs))
theorem pss_thawK {X:Cx} {sts:List Stmt} {t:TS} (h:PSs X sts t):PSs X sts (tThawK X.H₀ t) := by
 intro pins s σ H D I hq
 obtain ⟨d,ob,kvs,e,hb,q⟩ := hq
 exact h pins s σ _ D (I.thawK e hb) q
end L2
namespace My
open PySem L2
theorem for_dictK {d:Addr} {ob:Obj} {kvs:List (Key × V)} {σ:St} {H:Hp} {DN:St → Hp → Prop} {B:(St → Hp → Prop) → V → St → Hp → Prop} (Pv:Nat → St → Hp → Prop) (h0:Pv 0 σ H)
  (hl:∀ i σ H,i ≤ kvs.length → Pv i σ H → H d = some (.frz ob (.dK kvs)))
  (hs:∀ i k v σ H,kvs[i]? = some (k,v) → Pv i σ H → B (Pv (i + 1)) (kV k) σ H) (hd:∀ σ H,Pv kvs.length σ H → DN σ H) :
  ∃ W:Nat → Nat → St → Hp → Prop,(∃ m,W 0 m σ H) ∧ ∀ i m σ H,W i m σ H →
   ((Itk d ob kvs).stop i H ∧ DN σ H) ∨ ((Itk d ob kvs).go i H ∧ ∃ N:St → Hp → Prop,(∀ σ' H',N σ' H' → ∃ m',m' < m ∧ W (i + 1) m' σ' H') ∧ ∀ x H',(Itk d ob kvs).yld i H x H' → B N x σ H') := by
 refine ⟨fun i m σ H => m = kvs.length - i ∧ i ≤ kvs.length ∧ Pv i σ H,⟨kvs.length,by simp,Nat.zero_le _,h0⟩,?_⟩
 rintro i m σ H ⟨rfl,hi,p⟩
 have q := hl i σ H hi p
 by_cases hlt:i < kvs.length
 ·refine .inr ⟨⟨q,hlt⟩,Pv (i + 1),fun σ' H' p' => ⟨kvs.length - (i + 1),by omega,rfl,hlt,p'⟩,fun x H' y => ?_⟩
  obtain ⟨e,k,v,h1,h2⟩ := y
  subst e h2
  exact hs i k v σ _ h1 p
 ·have e:i = kvs.length := by lia
  subst e
  exact .inl ⟨⟨q,Nat.le_refl _⟩,hd σ H p⟩
theorem dkN_put' (v:V) (x:Nat) (xs:List Nat):putK (dkN v xs) (Sum.inl (x:Int)) v = dkN v (if x ∈ xs then xs else xs ++ [x]) := by
 by_cases h:x ∈ xs
 ·rw [if_pos h]
  unfold putK
  rw [valV_any,dkN_val,if_pos h,if_pos (show (some v).isSome = true from rfl)]
  unfold dkN
  rw [List.map_map]
  refine List.map_congr_left fun y _ => ?_
  show (if ((Sum.inl (y:Int):Key)) = Sum.inl (x:Int) then ((Sum.inl (y:Int):Key),v) else (Sum.inl (y:Int),v)) = _
  split <;> rfl
 ·rw [if_neg h,dkN_put v h]
theorem mem_add {x y:Nat} {xs:List Nat}:(y ∈ if x ∈ xs then xs else xs ++ [x]) ↔ (y ∈ xs ∨ y = x) := by
 by_cases h:x ∈ xs
 ·rw [if_pos h]
  exact ⟨.inl,fun z => z.elim id fun e => e ▸ h⟩
 ·rw [if_neg h,List.mem_append,List.mem_singleton]
theorem nodup_add {x:Nat} {xs:List Nat} (nd:xs.Nodup):(if x ∈ xs then xs else xs ++ [x]).Nodup := by
 by_cases h:x ∈ xs
 ·rw [if_pos h]; exact nd
 ·rw [if_neg h,List.nodup_append]
  refine ⟨nd,by simp,fun a ha b hb e => ?_⟩
  rw [List.mem_singleton.mp hb] at e
  exact h (e ▸ ha)
end My
namespace My
open PySem L2
structure IniI (H:Hp) (C x dx:Addr) (fs:List (Str × V)) (H':Hp):Prop where
 k:∀ c o,H c = some o → c ≠ x → H' c = some o
 x_:H' x = some (.ins C dx fs)
 z:∀ c,H' c = none → H c = none
section
variable {H H':Hp} {C x dx p:Addr} {fs:List (Str × V)}
theorem IniI.new (I:IniI H C x dx fs H') (hp:H' p = none) (o:HO):IniI H C x dx fs (upd H' p o) := by
 have g := same_new hp o
 exact ⟨fun c u e n => g _ _ (I.k c u e n),g _ _ I.x_,fun c e => I.z c (g.free e)⟩
theorem IniI.fld (I:IniI H C x dx fs H') (f:Str) (v:V):IniI H C x dx (putF f v fs) (upd H' x (.ins C dx (putF f v fs))) := by
 refine ⟨fun c u e n => by rw [upd_ne n]; exact I.k c u e n,upd_same,fun c e => ?_⟩
 by_cases n:c = x
 ·rw [n,upd_same] at e; cases e
 ·rw [upd_ne n] at e; exact I.z c e
theorem IniI.put (I:IniI H C x dx fs H') {o u:HO} (hn:H p = none) (hp:H' p = some u) (hx:p ≠ x):IniI H C x dx fs (upd H' p o) := by
 refine ⟨fun c v e n => by rw [upd_ne (ne_of_none e hn)]; exact I.k c v e n,by rw [upd_ne hx.symm]; exact I.x_,fun c e => ?_⟩
 by_cases n:c = p
 ·rw [n,upd_same] at e; cases e
 ·rw [upd_ne n] at e; exact I.z c e
end
theorem rep_flat {α:Type} (n:Nat) (a:α):(List.replicate n [a]).flatten = List.replicate n a := by
 induction n with
 | zero => rfl
 | succ n ih => rw [List.replicate_succ,List.flatten_cons,ih,List.replicate_succ]; rfl
theorem whL_none (n:Nat):List.replicate n V.non = whL n fun _ => none := by
 unfold whL
 show _ = (List.range n).map fun _ => V.non
 rw [List.map_const',List.length_range]
theorem ri_zero (k:Nat):List.replicate k (V.int 0) = (ri k fun _ => 0).map V.int := by
 unfold ri
 rw [List.map_map]
 show _ = (List.range k).map fun _ => V.int 0
 rw [List.map_const',List.length_range]
structure MkI (H:Hp) (L:Addr) (P:Hp → Addr → Prop) (i:Nat) (H':Hp) (ds:List Addr):Prop where
 same:Same H H'
 at_:H' L = some (.lst (ds.map V.ref))
 len:ds.length = i
 nd:ds.Nodup
 fr:∀ d ∈ ds,H d = none ∧ d ≠ L
 pr:∀ d ∈ ds,P H' d
theorem MkI.ini {H:Hp} {L:Addr} {P:Hp → Addr → Prop} (hL:H L = none):MkI H L P 0 (upd H L (.lst [])) [] :=
 ⟨same_new hL _,upd_same,rfl,List.nodup_nil,(fun d z => by cases z),(fun d z => by cases z)⟩
theorem MkI.step {H H':Hp} {L p:Addr} {i:Nat} {ds:List Addr} {o:HO} (M:MkI H L (fun H d => H d = some o) i H' ds) (hL:H L = none) (hp:H' p = none) :
  MkI H L (fun H d => H d = some o) (i + 1) (upd (upd H' p o) L (.lst (ds.map V.ref ++ [.ref p]))) (ds ++ [p]) := by
 have g := same_new hp o
 have nL:p ≠ L := fun z => by rw [z,M.at_] at hp; cases hp
 have ndp:p ∉ ds := fun z => by have := M.pr p z; rw [hp] at this; cases this
 refine ⟨same_upd hL (M.same.trans g) _,by rw [upd_same,List.map_append]; rfl,by rw [List.length_append,M.len]; rfl,?_,fun d hd => ?_,fun d hd => ?_⟩
 ·rw [List.nodup_append]
  refine ⟨M.nd,by simp,fun a ha b hb e => ?_⟩
  rw [List.mem_singleton.mp hb] at e
  exact ndp (e ▸ ha)
 ·rcases List.mem_append.mp hd with z | z
  ·exact M.fr d z
  ·rw [List.mem_singleton.mp z]
   exact ⟨M.same.free hp,nL⟩
 ·rcases List.mem_append.mp hd with z | z
  ·show upd _ L _ d = _
   rw [upd_ne (M.fr d z).2]
   exact g _ _ (M.pr d z)
  ·rw [List.mem_singleton.mp z]
   show upd _ L _ p = _
   rw [upd_ne nL,upd_same]
theorem IniI.mono {H H' H2:Hp} {C x dx:Addr} {fs:List (Str × V)} (I:IniI H C x dx fs H') (g:Same H' H2):IniI H C x dx fs H2 := ⟨fun c o e n => g _ _ (I.k c o e n),g _ _ I.x_,fun c e => I.z c (g.free e)⟩
noncomputable def ownedT (N:Flw.Net) (i:Nat):List (List Int) := (List.range N.k).map fun w => ((List.range i).filter fun s => decide (N.own s = w)).map fun s:Nat => (s:Int)
theorem ownedT_len (N:Flw.Net) (i:Nat):(ownedT N i).length = N.k := by unfold ownedT; simp
theorem ownedT_get {N:Flw.Net} {i w:Nat} (h:w < N.k):(ownedT N i)[w]? = some (((List.range i).filter fun s => decide (N.own s = w)).map fun s:Nat => (s:Int)) := by unfold ownedT; simp [h]
theorem ownedT_zero (N:Flw.Net):ownedT N 0 = List.replicate N.k [] := by
 unfold ownedT
 show (List.range N.k).map (fun _ => []) = _
 rw [List.map_const',List.length_range]
theorem ownedT_succ (N:Flw.Net) (i:Nat) (h:N.own i < N.k):(ownedT N i).set (N.own i) ((((List.range i).filter fun s => decide (N.own s = N.own i)).map fun s:Nat => (s:Int)) ++ [(i:Int)]) = ownedT N (i + 1) := by
 refine List.ext_getElem? fun w => ?_
 rw [List.getElem?_set]
 by_cases hw:w < N.k
 ·rw [ownedT_get hw (i := i + 1),ownedT_get hw (i := i),List.range_succ,List.filter_append,List.map_append]
  by_cases e:N.own i = w
  ·rw [if_pos e,if_pos (by rw [ownedT_len]; omega)]
   subst e
   simp
  ·rw [if_neg e]
   simp [e]
 ·rw [List.getElem?_eq_none (l := ownedT N (i + 1)) (by rw [ownedT_len]; lia)]
  by_cases e:N.own i = w
  ·omega
  ·rw [if_neg e,List.getElem?_eq_none (by rw [ownedT_len]; lia)]
theorem rows_new {H:Hp}:∀ {es:List Addr},(∀ d ∈ es,H d = some (.lst [])) → Rows H (es.map V.ref) (List.replicate es.length [])
 | [],_ => .nil
 | d :: es,h => .cons ⟨d,rfl,h d List.mem_cons_self⟩ (rows_new fun d' hd => h d' (List.mem_cons_of_mem _ hd))
theorem cO_zero (N:Flw.Net) (w:Nat):Flw.cO N (fun _ => none) w = 0 := by
 unfold Flw.cO
 have:∀ n,Flw.cnt n (Flw.atO N (fun _ => none) w) = 0 := fun n => by
  induction n with
  | zero => rfl
  | succ n ih =>
   show Flw.cnt n _ + Flw.b2i false = 0
   rw [ih]
   rfl
 exact this _
structure HalI (H:Hp) (C x dx a1 a2 a3 a4 a5 a6 a7:Addr) (n k:Nat) (ds es:List Addr) (H':Hp):Prop where
 i:IniI H C x dx (hf a1 a2 a3 a4 a5 a6 a7) H'
 e4:H' a4 = some (.lst (whL n fun _ => none))
 e5:H' a5 = some (.lst (ds.map V.ref))
 e6:H' a6 = some (.lst ((ri k fun _ => 0).map V.int))
 e7:H' a7 = some (.lst (es.map V.ref))
 ed:∀ d ∈ ds,H' d = some (.dK [])
section
variable {H H' H2:Hp} {C x dx a1 a2 a3 a4 a5 a6 a7:Addr} {n k:Nat} {ds es:List Addr}
theorem HalI.mono (J:HalI H C x dx a1 a2 a3 a4 a5 a6 a7 n k ds es H') (g:Same H' H2):HalI H C x dx a1 a2 a3 a4 a5 a6 a7 n k ds es H2 :=
 ⟨J.i.mono g,g _ _ J.e4,g _ _ J.e5,g _ _ J.e6,g _ _ J.e7,fun d hd => g _ _ (J.ed d hd)⟩
theorem HalI.row (J:HalI H C x dx a1 a2 a3 a4 a5 a6 a7 n k ds es H') {t:Addr} {u:List V} (hn:H t = none) (hu:H' t = some (.lst u)) (n4:a4 ≠ t) (n5:a5 ≠ t) (n6:a6 ≠ t) (n7:a7 ≠ t) (l:List V):HalI H C x dx a1 a2 a3 a4 a5 a6 a7 n k ds es (upd H' t (.lst l)) := by
 have nx:t ≠ x := fun z => by rw [z,J.i.x_] at hu; cases hu
 refine ⟨J.i.put hn hu nx,by rw [upd_ne n4]; exact J.e4,by rw [upd_ne n5]; exact J.e5,by rw [upd_ne n6]; exact J.e6,by rw [upd_ne n7]; exact J.e7,fun d hd => ?_⟩
 have nd:d ≠ t := fun z => by have := J.ed d hd; rw [z,hu] at this; cases this
 rw [upd_ne nd]
 exact J.ed d hd
end
end My
namespace My
open PySem L2
noncomputable def addA (xs ys:List Nat):List Nat := ys.foldl (fun acc y => if y ∈ acc then acc else acc ++ [y]) xs
theorem addA_mem {z:Nat}:∀ {ys xs:List Nat},z ∈ addA xs ys ↔ (z ∈ xs ∨ z ∈ ys)
 | [],xs => by simp [addA]
 | y :: ys,xs => by
  show z ∈ addA (if y ∈ xs then xs else xs ++ [y]) ys ↔ _
  rw [addA_mem,mem_add,List.mem_cons,or_assoc]
theorem addA_nodup:∀ {ys xs:List Nat},xs.Nodup → (addA xs ys).Nodup
 | [],_,h => h
 | y :: ys,xs,h => by
  show (addA (if y ∈ xs then xs else xs ++ [y]) ys).Nodup
  exact addA_nodup (nodup_add h)
theorem merge_dkN (v:V):∀ (ys xs:List Nat),mergeK (dkN v xs) (dkN v ys) = dkN v (addA xs ys)
 | [],_ => rfl
 | y :: ys,xs => by
  show mergeK (putK (dkN v xs) (Sum.inl (y:Int)) v) (dkN v ys) = dkN v (addA (if y ∈ xs then xs else xs ++ [y]) ys)
  rw [dkN_put',merge_dkN v ys]
noncomputable def KN (kvs:List (Key × V)) (L:List Nat):Prop := kvs.map (·.1) = L.map fun y:Nat => (Sum.inl (y:Int):Key)
theorem KN.mem {kvs:List (Key × V)} {L:List Nat} (h:KN kvs L) (y:Nat):(kvs.any fun kv => decide (kv.1 = (Sum.inl (y:Int):Key))) = decide (y ∈ L) := by
 have e:(kvs.any fun kv => decide (kv.1 = (Sum.inl (y:Int):Key))) = ((kvs.map (·.1)).any fun k => decide (k = (Sum.inl (y:Int):Key))) := by rw [List.any_map]; rfl
 rw [e,h,List.any_map]
 clear e h
 induction L with
 | nil => rfl
 | cons z r ih =>
  rw [List.any_cons,ih]
  have:(decide ((Sum.inl (z:Int):Key) = Sum.inl (y:Int))) = decide (y = z) := decide_eq_decide.mpr ⟨fun q => by have := Sum.inl.inj q; lia,fun q => by rw [q]⟩
  show (decide ((Sum.inl (z:Int):Key) = Sum.inl (y:Int)) || _) = _
  rw [this]
  by_cases e1:y = z <;> by_cases e2:y ∈ r <;> simp [e1,e2]
theorem KN.put {kvs:List (Key × V)} {L:List Nat} (h:KN kvs L) (y:Nat) (v:V):KN (putK kvs (Sum.inl (y:Int)) v) (if y ∈ L then L else L ++ [y]) := by
 unfold putK
 rw [h.mem]
 by_cases e:y ∈ L
 ·rw [if_pos e,if_pos (decide_eq_true e)]
  unfold KN
  rw [List.map_map,← h]
  refine List.map_congr_left fun kv _ => ?_
  show (if kv.1 = (Sum.inl (y:Int):Key) then (kv.1,v) else kv).1 = kv.1
  split <;> rfl
 ·rw [if_neg e,if_neg (by rw [decide_eq_false e]; simp)]
  unfold KN
  rw [List.map_append,List.map_append,h]
  rfl
theorem KN.merge:∀ {more kvs:List (Key × V)} {M L:List Nat},KN kvs L → KN more M → KN (mergeK kvs more) (addA L M)
 | [],kvs,M,L,h,hm => by
  have:M = [] := by
   unfold KN at hm
   cases M with
   | nil => rfl
   | cons _ _ => simp at hm
  subst this
  exact h
 | kv :: more,kvs,M,L,h,hm => by
  cases M with
  | nil => unfold KN at hm; simp at hm
  | cons y M =>
   unfold KN at hm
   rw [List.map_cons,List.map_cons,List.cons.injEq] at hm
   obtain ⟨e1,e2⟩ := hm
   show KN (mergeK (putK kvs kv.1 kv.2) more) (addA (if y ∈ L then L else L ++ [y]) M)
   rw [e1]
   exact KN.merge (h.put y kv.2) e2
theorem PdAt.keys {H:Hp} {pd:Addr} {ps:Psh} (P:PdAt H pd ps):∃ kvs,H pd = some (.dK kvs) ∧ KN kvs (ps.map (·.1)) := by
 obtain ⟨kvs,e,r⟩ := P.ex
 refine ⟨kvs,e,?_⟩
 clear e P
 unfold KN
 induction r with
 | nil => rfl
 | cons a _ ih => rw [List.map_cons,List.map_cons,List.map_cons,ih,a.1]
theorem KN.len {kvs:List (Key × V)} {L:List Nat} (h:KN kvs L):kvs.length = L.length := by
 have := congrArg List.length h
 simpa using this
theorem KN.ints {kvs:List (Key × V)} {L:List Nat} (h:KN kvs L):(kvs.map fun kv => kV kv.1) = (L.map fun y:Nat => (y:Int)).map V.int := by
 have:(kvs.map fun kv => kV kv.1) = (kvs.map (·.1)).map kV := by rw [List.map_map]; rfl
 rw [this,h,List.map_map,List.map_map]
 rfl
theorem valid_none {seats:List (List Int)} {qs:List (Int × Int)} {lim:List Int} (hc:∀ q ∈ qs,0 ≤ q.2) (hl:∀ l ∈ lim,0 ≤ l):Flw.Valid (netOf seats qs lim) fun _ => none := by
 have z:∀ n (p:Nat → Bool),(∀ x,p x = false) → Flw.cnt n p = 0 := fun n p h => by
  induction n with
  | zero => rfl
  | succ n ih => show Flw.cnt n p + Flw.b2i (p n) = 0; rw [ih,h]; rfl
 refine ⟨(fun x s e => by cases e),fun s => ?_,fun w => ?_⟩
 ·unfold Flw.cS
  rw [z _ (Flw.atS (fun _ => none) s) fun x => rfl]
  show 0 ≤ (qs[s]?.getD (0,0)).2
  cases e:qs[s]? with
  | none => exact Int.le_refl 0
  | some q => exact hc q (List.mem_of_getElem? e)
 ·unfold Flw.cO
  rw [z _ (Flw.atO (netOf seats qs lim) (fun _ => none) w) fun x => rfl]
  show 0 ≤ lim[w]?.getD 0
  cases e:lim[w]? with
  | none => exact Int.le_refl 0
  | some l => exact hl l (List.mem_of_getElem? e)
theorem net_ok {seats:List (List Int)} {qs:List (Int × Int)} {lim:List Int} (st:Stg seats qs lim):(netOf seats qs lim).Ok := by
 refine ⟨fun x s h => ?_,fun s h => ?_⟩
 ·have h:s ∈ (seats[x]?.getD []).map Int.toNat := h
  cases e:seats[x]? with
  | none => rw [e] at h; simp at h
  | some row =>
   rw [e] at h
   obtain ⟨z,hz,rfl⟩ := List.mem_map.mp h
   have := (st.row row (List.mem_of_getElem? e)).2.2 z hz
   show z.toNat < qs.length
   omega
 ·have h:s < qs.length := h
  have := st.own _ (List.getElem_mem h)
  show (qs[s]?.getD (0,0)).1.toNat < lim.length
  rw [List.getElem?_eq_getElem h,Option.getD_some]
  omega
theorem sorted_nat {L:List Nat} {ns:List Int} (hp:ns.Perm (L.map fun y:Nat => (y:Int))) (ho:ns.Pairwise (· ≤ ·)) (nd:L.Nodup):∃ L':List Nat,ns = (L'.map fun y:Nat => (y:Int)) ∧ L'.Pairwise (· < ·) ∧ ∀ y,y ∈ L' ↔ y ∈ L := by
 have nn:∀ z ∈ ns,0 ≤ z := fun z hz => by
  obtain ⟨y,_,rfl⟩ := List.mem_map.mp (hp.mem_iff.mp hz)
  lia
 have e:ns = ((ns.map Int.toNat).map fun y:Nat => (y:Int)) := by
  rw [List.map_map]
  refine (List.map_id' ns).symm.trans (List.map_congr_left fun z hz => ?_)
  have := nn z hz
  show z = ((z.toNat:Nat):Int)
  lia
 have ndm:(L.map fun y:Nat => (y:Int)).Nodup := by
  unfold List.Nodup
  rw [List.pairwise_map]
  exact nd.imp fun {a b} h q => h (by lia)
 have ndn:ns.Nodup := hp.nodup_iff.mpr ndm
 refine ⟨ns.map Int.toNat,e,?_,fun y => ?_⟩
 ·rw [List.pairwise_map]
  refine (List.Pairwise.and_mem.mp (ho.and ndn)).imp fun {a b} h => ?_
  have h1 := nn a h.1
  have h2 := nn b h.2.1
  have h3 := h.2.2.1
  have h4 := h.2.2.2
  lia
 ·rw [List.mem_map]
  constructor
  ·rintro ⟨z,hz,rfl⟩
   obtain ⟨y,hy,rfl⟩ := List.mem_map.mp (hp.mem_iff.mp hz)
   exact hy
  ·intro hy
   exact ⟨(y:Int),hp.mem_iff.mpr (List.mem_map.mpr ⟨y,hy,rfl⟩),rfl⟩
end My
namespace My
open PySem L2
theorem mem_seats {seats:List (List Int)} {qs:List (Int × Int)} {lim:List Int} (st:Stg seats qs lim) (y s:Nat):(s:Int) ∈ rowAt seats (y:Int) ↔ s ∈ (netOf seats qs lim).seats y := by
 have e:rowAt seats (y:Int) = seats[y]?.getD [] := by
  unfold rowAt
  rw [Int.toNat_natCast,List.getD_eq_getElem?_getD]
 rw [e]
 show _ ↔ s ∈ (seats[y]?.getD []).map Int.toNat
 rw [List.mem_map]
 constructor
 ·exact fun h => ⟨_,h,rfl⟩
 ·rintro ⟨z,hz,rfl⟩
  cases q:seats[y]? with
  | none => rw [q] at hz; simp at hz
  | some row =>
   rw [q] at hz
   have := ((st.row row (List.mem_of_getElem? q)).2.2 z hz).1
   rw [Int.toNat_of_nonneg this]
   exact hz
end My
namespace L2
open PySem PySem.Spec PyProof.Rows
section
variable {X:Cx}
theorem count_eqU {x:V}:∀ {xs:List V} {us:List Value},Vals xs us → xs.all flatV = true → us.countP (eqU x) = xs.countP fun y => eqV y x
 | _,_,.nil,_ => rfl
 | y :: xs,u :: us,.cons r t,f => by
  rw [List.all_cons,Bool.and_eq_true] at f
  rw [List.countP_cons,List.countP_cons,eqU_of r f.1,count_eqU t f.2]
noncomputable def rCount:V → List V → Hp → VK → Prop := fun x vs H Q => ∃ l xs y,x = .ref l ∧ vs = [y] ∧ H l = some (.lst xs) ∧ flatV y = true ∧ xs.all flatV = true ∧ Q (.int ((xs.countP fun z => eqV z y:Nat):Int)) H
theorem mt_count:MtM X "list.count" rCount := by
 intro pins s σ H x vs v us Q I rx rv h
 obtain ⟨l,xs,y,rfl,rfl,hH,fy,fs,q⟩ := h
 cases rx
 obtain ⟨u,rfl,ru⟩ := vals1 rv
 obtain ⟨z,its,n,r,hl,e⟩ := I.lstM hH
 refine call_meets F.slot_list_count ⟨_,e,rfl⟩ F.entry_list_count (F.args_list_count_2 _ _) (SeqAt.list_countAt l its.toArray n none #[] u (eqU y)) ⟨e,fun w hw => mem_eqAt ru fy r fs w (by simpa using hw),?_⟩
 refine ⟨.int _,H,I.tok _,⟨_,rfl⟩,?_⟩
 rw [show its.toArray.toList = its by simp,count_eqU r fs]
 exact q
end
end L2
namespace My
noncomputable abbrev Off := Option Int × Int
end My
namespace My
open PySem L2
noncomputable def fD (f:Off):DV := .tup [(match f.1 with | none => .non | some i => .int i),.int f.2]
theorem den_non {K:PySem.W.Frag} {H:Hp} {n:Nat}:Den K H n .non .non := by cases n <;> trivial
end My
namespace My
open PySem L2
theorem whL_succ (n:Nat) (W:Flw.Wh):whL (n + 1) W = whL n W ++ [oN (W n)] := by
 unfold whL
 rw [List.range_succ,List.map_append]
 rfl
theorem whL_flat (n:Nat) (W:Flw.Wh):(whL n W).all flatV = true := by
 rw [List.all_eq_true]
 intro v hv
 unfold whL at hv
 obtain ⟨x,_,rfl⟩ := List.mem_map.mp hv
 cases W x <;> rfl
theorem oN_eq (o:Option Nat) (s:Nat):eqV (oN o) (.int s) = decide (o = some s) := by
 cases o with
 | none => rfl
 | some t =>
  show eqV (.int (t:Int)) (.int (s:Int)) = _
  show decide ((t:Int) = (s:Int)) = _
  by_cases e:t = s
  ·subst e; simp
  ·have:¬ (t:Int) = s := by lia
   simp [e,this]
theorem whL_count (W:Flw.Wh) (s:Nat):∀ n,(((whL n W).countP fun z => eqV z (.int (s:Int)):Nat):Int) = Flw.cnt n (Flw.atS W s)
 | 0 => rfl
 | n + 1 => by
  rw [whL_succ,List.countP_append]
  show _ = Flw.cnt n _ + _
  rw [← whL_count W s n,List.countP_cons,List.countP_nil,oN_eq]
  unfold Flw.atS Flw.b2i
  by_cases e:W n = some s <;> simp [e]
theorem cnt_no {n:Nat} {p:Nat → Bool} (h:∀ x,p x = false):Flw.cnt n p = 0 := by
 induction n with
 | zero => rfl
 | succ n ih => show Flw.cnt n p + Flw.b2i (p n) = 0; rw [ih,h]; rfl
noncomputable def roomF (N:Flw.Net) (W:Flw.Wh) (s:Nat):Int := N.cap s - Flw.cS N W s
noncomputable def sparF (N:Flw.Net) (W:Flw.Wh) (w:Nat):Int := N.lim w - Flw.cO N W w
theorem roomF0 (N:Flw.Net) (s:Nat):roomF N (fun _ => none) s = N.cap s := by
 unfold roomF Flw.cS
 rw [cnt_no fun x => by unfold Flw.atS; simp]
 lia
theorem sparF0 (N:Flw.Net) (w:Nat):sparF N (fun _ => none) w = N.lim w := by
 unfold sparF Flw.cO
 rw [cnt_no fun x => by unfold Flw.atO; rfl]
 lia
theorem lim_il (seats:List (List Int)) (qs:List (Int × Int)) (lim:List Int):lim = il lim.length (sparF (netOf seats qs lim) fun _ => none) := by
 refine List.ext_getElem? fun i => ?_
 unfold il
 rw [List.getElem?_map]
 by_cases h:i < lim.length
 ·rw [List.getElem?_range h,Option.map_some,sparF0,List.getElem?_eq_getElem h]
  show _ = some (lim[i]?.getD 0)
  rw [List.getElem?_eq_getElem h]
  rfl
 ·rw [List.getElem?_eq_none (by lia),List.getElem?_eq_none (by rw [List.length_range]; lia)]
  rfl
theorem room_move {N:Flw.Net} {W:Flw.Wh} {x s:Nat} (n:Nat) (hx:x < N.n) (h0:W x = none):(il n (roomF N W)).set s (roomF N W s - 1) = il n (roomF N (Flw.move W x s)) := by
 rw [il_set]
 refine il_congr fun u _ => ?_
 unfold roomF
 rw [Flw.cS_move hx,h0,Flw.b2i_f (p := (none:Option Nat) = some u) (fun z => nomatch z)]
 by_cases e:u = s
 ·subst e
  rw [if_pos rfl,Flw.b2i_t rfl]
  lia
 ·rw [if_neg e,Flw.b2i_f fun z => e z.symm]
  lia
theorem spar_move {N:Flw.Net} {W:Flw.Wh} {x s:Nat} (n:Nat) (hx:x < N.n) (h0:W x = none):(il n (sparF N W)).set (N.own s) (sparF N W (N.own s) - 1) = il n (sparF N (Flw.move W x s)) := by
 rw [il_set]
 refine il_congr fun u _ => ?_
 unfold sparF
 rw [Flw.cO_move hx,Flw.atO_none h0]
 by_cases e:u = N.own s
 ·subst e
  rw [if_pos rfl,Flw.b2i_t rfl]
  show _ = _ - (_ + 1 - (0:Int))
  lia
 ·rw [if_neg e,Flw.b2i_f fun z => e z.symm]
  show _ = _ - (_ + 0 - (0:Int))
  lia
end My
namespace My
open PySem L2
theorem Rows.dropLast {H:Hp}:∀ {us:List V} {rows:List (List Int)},Rows H us rows → Rows H us.dropLast rows.dropLast
 | _,_,.nil => .nil
 | _,_,.cons _ .nil => .nil
 | _,_,.cons a (.cons b t) => .cons a (Rows.dropLast (.cons b t))
section
variable {H H':Hp} {s q l pa pq pl ph:Addr} {us usa ts:List V} {seats:List (List Int)} {qs:List (Int × Int)} {lim:List Int}
end
theorem rising_nodup {L:List Nat} (h:L.Pairwise (· < ·)):L.Nodup := h.imp fun z e => by lia
end My
namespace Flw
section
variable {N:Net} {W:Wh} {shut seen:Nat → Prop} {start now:Nat} {par:Par} {tm:Nat → Nat}
end
end Flw
namespace My
open PySem L2
structure GathN (H:Hp) (L:Addr) (Pr:List Int → Prop) (i:Nat) (H':Hp):Prop where
 ex:∃ (us:List V) (rows:List (List Int)),rows.length = i ∧ Same H H' ∧ H' L = some (.lst us) ∧ Rows H' us rows ∧ (∀ row ∈ rows,Pr row) ∧ us.Nodup ∧ ∀ t,V.ref t ∈ us → t ≠ L ∧ H t = none
theorem GathN.start {H:Hp} {L:Addr} {Pr:List Int → Prop} (hL:H L = none):GathN H L Pr 0 (upd H L (.lst [])) :=
 ⟨[],[],rfl,same_new hL _,upd_same,.nil,(fun r z => by cases z),List.nodup_nil,fun t z => by cases z⟩
theorem GathN.same {H H':Hp} {L:Addr} {Pr:List Int → Prop} {i:Nat} (h:GathN H L Pr i H'):Same H H' := by
 obtain ⟨_,_,_,g,_⟩ := h.ex
 exact g
theorem nodup_snoc {α:Type} {xs:List α} {x:α} (h:xs.Nodup) (n:x ∉ xs):(xs ++ [x]).Nodup := by
 rw [List.nodup_append]
 exact ⟨h,by simp,fun a ha b hb => by rw [List.mem_singleton.mp hb]; exact fun z => n (z ▸ ha)⟩
theorem GathN.step {H H' H2:Hp} {L l:Addr} {Pr:List Int → Prop} {i:Nat} {row:List Int} (h:GathN H L Pr i H') (hL:H L = none) (hi:i ≤ 900) (g2:Same H' H2) (hl:H' l = none) (hl2:H2 l = some (.lst (row.map V.int))) (hp:Pr row) :
  ∃ xs,H2 L = some (.lst xs) ∧ xs.length < sizeLine ∧ GathN H L Pr (i + 1) (upd H2 L (.lst (xs ++ [.ref l]))) := by
 obtain ⟨us,rows,hr,g,e,hR,hP,nd,fr⟩ := h.ex
 have hul := hR.len
 have ne:L ≠ l := ne_of_none e hl
 refine ⟨us,g2 _ _ e,small1000 (by lia),us ++ [.ref l],rows ++ [row],by rw [List.length_append,hr]; rfl,same_upd hL (g.trans g2) _,upd_same,?_,fun r hr' => ?_,nodup_snoc nd (hR.notin hl),fun t ht => ?_⟩
 ·refine Rows.off (Rows.snoc (hR.mono g2) ⟨l,rfl,hl2⟩) fun z => ?_
  rcases List.mem_append.mp z with z | z
  ·exact (fr L z).1 rfl
  ·exact ne (V.ref.inj (List.mem_singleton.mp z))
 ·rcases List.mem_append.mp hr' with z | z
  ·exact hP r z
  ·rw [List.mem_singleton.mp z]; exact hp
 ·rcases List.mem_append.mp ht with z | z
  ·exact fr t z
  ·rw [V.ref.inj (List.mem_singleton.mp z)]
   exact ⟨ne.symm,g.free hl⟩
structure Stag (H:Hp) (s q l:Addr) (us ts:List V) (seats:List (List Int)) (qs:List (Int × Int)) (lim:List Int):Prop where
 hs:H s = some (.lst us)
 hR:Rows H us seats
 hq:H q = some (.lst ts)
 hC:Cells H ts qs
 hl:H l = some (.lst (lim.map V.int))
 nd:us.Nodup
 nu:∀ t,V.ref t ∈ us → t ≠ s ∧ t ≠ q ∧ t ≠ l
 nsq:s ≠ q
 nsl:s ≠ l
 nql:q ≠ l
 sg:Stg seats qs lim
 qn:∀ q ∈ qs,0 ≤ q.2
 ln:∀ y ∈ lim,0 ≤ y
theorem Stag.mono {H H':Hp} {s q l:Addr} {us ts:List V} {seats:List (List Int)} {qs:List (Int × Int)} {lim:List Int} (h:Stag H s q l us ts seats qs lim) (g:Same H H'):Stag H' s q l us ts seats qs lim :=
 ⟨g _ _ h.hs,h.hR.mono g,g _ _ h.hq,h.hC.mono g,g _ _ h.hl,h.nd,h.nu,h.nsq,h.nsl,h.nql,h.sg,h.qn,h.ln⟩
theorem row_le {row:List Int} {m:Nat} (nd:row.Nodup) (h:∀ x ∈ row,0 ≤ x ∧ x < (m:Int)):row.length ≤ m := by
 have e:row = (row.map Int.toNat).map fun y:Nat => (y:Int) := by
  have h2:row.map id = (row.map Int.toNat).map fun y:Nat => (y:Int) := by
   rw [List.map_map]
   exact List.map_congr_left fun x hx => by
    have := (h x hx).1
    show x = ((x.toNat:Nat):Int)
    lia
  rw [List.map_id] at h2
  exact h2
 have nd2:(row.map Int.toNat).Nodup := by
  rw [e] at nd
  exact List.Pairwise.of_map (R := (· ≠ ·)) (S := (· ≠ ·)) (f := fun y:Nat => (y:Int)) (fun a b hab z => hab (by rw [z])) nd
 have := nodup_le nd2 (n := m) fun y hy => by
  obtain ⟨x,hx,rfl⟩ := List.mem_map.mp hy
  have := h x hx
  omega
 rw [List.length_map] at this
 exact this
theorem nodup_sub {A:List Nat}:∀ {B:List Int},A.Nodup → (∀ y ∈ A,(y:Int) ∈ B) → A.length ≤ B.length := by
 induction A with
 | nil => exact fun _ _ => Nat.zero_le _
 | cons a t ih =>
  intro B nd h
  obtain ⟨n1,n2⟩ := List.nodup_cons.mp nd
  have h1 := h a List.mem_cons_self
  have h2 := ih (B := B.erase (a:Int)) n2 fun y hy => by
   have ne:(y:Int) ≠ (a:Int) := fun z => n1 (by
    have:y = a := by lia
    rw [← this]; exact hy)
   exact (List.mem_erase_of_ne ne).mpr (h y (List.mem_cons_of_mem _ hy))
  have h3 := List.length_erase_of_mem h1
  have h4 := List.length_pos_of_mem h1
  simp only [List.length_cons]
  lia
end My
namespace My
open PySem L2
section
variable {H':Hp} {s q l pb pm:Addr} {us ts':List V} {seats':List (List Int)} {qs qs':List (Int × Int)} {lim lim' mb mm:List Int} {nc nl:Nat → Int} {i j:Nat}
end
end My
namespace My
open PySem L2
end My
namespace My
open PySem L2
end My
namespace My
open PySem L2
end My
namespace L2
open PySem PySem.Spec PyProof.Rows
end L2
namespace My
open PySem L2
end My
namespace My
open PySem L2
end My
namespace My
open PySem L2
end My
namespace My
open PySem L2
noncomputable def oD:Option Int → DV
 | none => .non
 | some i => .int i
end My
namespace L2
open PySem
noncomputable def rIndexH:V → List V → Hp → VK → Prop := fun x vs H Q => ∃ l xs y z,∃ j:Nat,x = .ref l ∧ vs = [y] ∧ H l = some (.lst xs) ∧ flatV y = true ∧ xs.all flatV = true ∧ j < 1000 ∧ xs[j]? = some z ∧ eqV z y = true ∧ (∀ m z,m < j → xs[m]? = some z → eqV z y = false) ∧ Q (.int (j:Int)) H
end L2
namespace My
open PySem L2
end My
namespace My
open PySem L2
theorem whL_countN (W:Flw.Wh):∀ n,(((whL n W).countP fun z => eqV z .non:Nat):Int) = Flw.cnt n fun x => (W x).isNone
 | 0 => rfl
 | n + 1 => by
  rw [whL_succ,List.countP_append]
  show _ = Flw.cnt n _ + _
  rw [← whL_countN W n,List.countP_cons,List.countP_nil]
  cases e:W n with
  | none =>
   rw [if_pos (show eqV (oN none) V.non = true from rfl)]
   show _ = _ + Flw.b2i (W n).isNone
   rw [e]
   simp [Flw.b2i]
  | some t =>
   rw [if_neg (show ¬ eqV (oN (some t)) V.non = true from fun z => by cases z)]
   show _ = _ + Flw.b2i (W n).isNone
   rw [e]
   simp [Flw.b2i]
theorem eqD_nil {ds:List DV} (h:eqD (.lst ds) (.lst (([]:List Int).map DV.int)) = true):ds = [] := by
 simp only [eqD,decide_eq_true_eq] at h
 cases h
 rfl
end My
namespace My
open PySem L2
noncomputable def oI:Option Int → V
 | none => .non
 | some z => .int z
noncomputable def wI (ws:List (Option Int)):List V := ws.map oI
theorem wI_len (ws:List (Option Int)):(wI ws).length = ws.length := List.length_map ..
theorem wI_get {ws:List (Option Int)} {i:Nat} {o:Option Int} (h:ws[i]? = some o):(wI ws)[i]? = some (oI o) := by unfold wI; rw [List.getElem?_map,h]; rfl
theorem wI_item {ws:List (Option Int)} {i:Nat} {v:V} (h:(wI ws)[i]? = some v):∃ o,ws[i]? = some o ∧ v = oI o := by
 unfold wI at h
 rw [List.getElem?_map] at h
 cases e:ws[i]? with
 | none => rw [e] at h; cases h
 | some o => rw [e] at h; exact ⟨o,rfl,(Option.some.inj h).symm⟩
noncomputable def whO (n:Nat) (W:Flw.Wh):List (Option Int) := (List.range n).map fun x => (W x).map fun s:Nat => (s:Int)
theorem whO_len (n:Nat) (W:Flw.Wh):(whO n W).length = n := by unfold whO; simp
theorem wI_whO (n:Nat) (W:Flw.Wh):wI (whO n W) = whL n W := by
 unfold wI whO whL
 rw [List.map_map]
 refine List.map_congr_left fun x _ => ?_
 show oI ((W x).map fun s:Nat => (s:Int)) = oN (W x)
 cases W x <;> rfl
noncomputable def Wof (ws:List (Option Int)):Flw.Wh := fun x => (ws[x]?.getD none).map Int.toNat
structure May (seats:List (List Int)) (ws:List (Option Int)):Prop where
 len:ws.length = seats.length
 mem:∀ (i:Nat) z,ws[i]? = some (some z) → z ∈ seats[i]?.getD []
theorem May.wh {seats:List (List Int)} {qs:List (Int × Int)} {lim:List Int} {ws:List (Option Int)} (sg:Stg seats qs lim) (h:May seats ws) :
  wI ws = whL seats.length (Wof ws) ∧ ∀ x s,Wof ws x = some s → s ∈ (netOf seats qs lim).seats x ∧ x < seats.length := by
 have nn:∀ (i:Nat) z,ws[i]? = some (some z) → 0 ≤ z := fun i z e => by
  have hi:i < seats.length := by rw [← h.len]; exact (List.getElem?_eq_some_iff.mp e).1
  have hm := h.mem i z e
  rw [List.getElem?_eq_getElem hi,Option.getD_some] at hm
  exact ((sg.row _ (List.getElem_mem hi)).2.2 z hm).1
 constructor
 ·refine List.ext_getElem? fun i => ?_
  by_cases hi:i < ws.length
  ·rw [wI_get (List.getElem?_eq_getElem hi),whL_get (by rw [← h.len]; exact hi)]
   congr 1
   show oI ws[i] = oN ((ws[i]?.getD none).map Int.toNat)
   rw [List.getElem?_eq_getElem hi,Option.getD_some]
   cases e:ws[i] with
   | none => rfl
   | some z =>
    have := nn i z (by rw [List.getElem?_eq_getElem hi,e])
    show V.int z = V.int ((z.toNat:Nat):Int)
    rw [Int.toNat_of_nonneg this]
  ·rw [List.getElem?_eq_none (by rw [wI_len]; lia),List.getElem?_eq_none (by rw [whL_len,← h.len]; lia)]
 ·intro x s e
  have e':(ws[x]?.getD none).map Int.toNat = some s := e
  cases q:ws[x]? with
  | none => rw [q] at e'; cases e'
  | some o =>
   rw [q,Option.getD_some] at e'
   cases o with
   | none => cases e'
   | some z =>
    cases e'
    refine ⟨?_,by rw [← h.len]; exact (List.getElem?_eq_some_iff.mp q).1⟩
    show z.toNat ∈ (seats[x]?.getD []).map Int.toNat
    exact List.mem_map.mpr ⟨z,h.mem x z q,rfl⟩
structure Wi (seats:List (List Int)) (qs:List (Int × Int)) (lim:List Int) (W:Flw.Wh):Prop where
 sl:∀ s,s < qs.length → Flw.cS (netOf seats qs lim) W s ≤ (netOf seats qs lim).cap s
 ow:∀ w,w < lim.length → Flw.cO (netOf seats qs lim) W w ≤ (netOf seats qs lim).lim w
noncomputable def risF (n:Int):Int → List Int → Bool
 | _,[] => true
 | last,x :: xs => decide (last < x) && (decide (x < n) && risF n x xs)
theorem risF_in {n:Int}:∀ {xs:List Int} {last:Int},risF n last xs = true → ∀ x ∈ xs,last < x ∧ x < n
 | [],_,_,_,hx => by cases hx
 | y :: ys,last,h,x,hx => by
  unfold risF at h
  rw [Bool.and_eq_true,Bool.and_eq_true,decide_eq_true_eq,decide_eq_true_eq] at h
  rcases List.mem_cons.mp hx with z | z
  ·rw [z]; exact ⟨h.1,h.2.1⟩
  ·have := risF_in h.2.2 x z
   exact ⟨by omega,this.2⟩
theorem risF_step {n last:Int} {xs:List Int} {i:Nat} {x:Int} (h:xs[i]? = some x):risF n last (xs.drop i) = (decide (last < x) && (decide (x < n) && risF n x (xs.drop (i + 1)))) := by
 have e:xs.drop i = x :: xs.drop (i + 1) := by rw [List.drop_eq_getElem?_toList_append,h]; rfl
 rw [e]
 rfl
structure Fit (seats:List (List Int)) (qs:List (Int × Int)) (lim:List Int) (ws:List (Option Int)) (xs:List Int):Prop where
 may:May seats ws
 wi:Wi seats qs lim (Wof ws)
 ris:risF seats.length (-1) xs = true
 eq:(Flw.cnt seats.length fun x => (Wof ws x).isNone) = (xs.length:Int) - heldT qs lim (cntS seats xs) lim.length
theorem ris_in {n:Nat} {xs:List Int} (h:risF n (-1) xs = true) (hl:xs.length ≤ 200):InS n xs := ⟨hl,fun x hx => by have := risF_in h x hx; lia⟩
structure Bls (P:Nat → Prop) (i:Nat) (bs:List Bool):Prop where
 len:bs.length = i
 at_:∀ (j:Nat) b,bs[j]? = some b → (b = true ↔ P j)
theorem Bls.nil {P:Nat → Prop}:Bls P 0 [] := ⟨rfl,fun j b h => by simp at h⟩
theorem Bls.snoc {P:Nat → Prop} {i:Nat} {bs:List Bool} {b:Bool} (h:Bls P i bs) (hb:b = true ↔ P i):Bls P (i + 1) (bs ++ [b]) := by
 refine ⟨by rw [List.length_append,h.len]; rfl,fun j b' e => ?_⟩
 by_cases z:j < i
 ·rw [List.getElem?_append_left (by rw [h.len]; exact z)] at e
  exact h.at_ j b' e
 ·rw [List.getElem?_append_right (by rw [h.len]; lia),h.len] at e
  have hj := (List.getElem?_eq_some_iff.mp e).1
  simp at hj
  have:j = i := by lia
  subst this
  rw [Nat.sub_self] at e
  cases e
  exact hb
theorem Bls.all {P:Nat → Prop} {n:Nat} {bs:List Bool} (h:Bls P n bs):bs.all id = true ↔ ∀ j,j < n → P j := by
 rw [List.all_eq_true]
 constructor
 ·intro a j hj
  have hj':j < bs.length := by rw [h.len]; exact hj
  exact (h.at_ j bs[j] (List.getElem?_eq_getElem hj')).mp (a _ (List.getElem_mem hj'))
 ·intro a b hb
  obtain ⟨j,hj⟩ := List.getElem?_of_mem hb
  exact (h.at_ j b hj).mpr (a j (by rw [← h.len]; exact (List.getElem?_eq_some_iff.mp hj).1))
end My
namespace L2
open PySem
noncomputable def isI:Expr → Option Int
 | .Constant (.int i) _ _ => some i
 | _ => none
theorem isI_eq {e:Expr} {i:Int} (h:isI e = some i):∃ j q,e = .Constant (.int i) j q := by
 unfold isI at h
 split at h
 ·cases h
  exact ⟨_,_,rfl⟩
 ·cases h
noncomputable def cInts (es:List Expr):Option (List Int) := es.foldr (fun e r => (isI e).bind fun i => r.map (i :: ·)) (some [])
noncomputable def tInts (is:List Int):TA := fun _ H Q => Q (is.map V.int) H
theorem pa_ints {X:Cx} {es:List Expr}:∀ {is:List Int},cInts es = some is → PA X es (tInts is) := by
 induction es with
 | nil =>
  intro is h
  cases h
  exact pa_nil
 | cons e es ih =>
  intro is h
  obtain ⟨i,h1,h2⟩ := Option.bind_eq_some_iff.mp h
  obtain ⟨ks,h3,rfl⟩ := Option.map_eq_some_iff.mp h2
  obtain ⟨j,q,rfl⟩ := isI_eq h1
  exact pa_cons pe_int (ih h3)
theorem ifs_of {c:TT} {ta tb:TS} {D:Ends} {σ:St} {H:Hp} (h:∀ A:TS,A = ta → tIfS c A tb D σ H):tIfS c ta tb D σ H := h ta rfl
theorem pe_lstC {X:Cx} {es:List Expr} {is:List Int} {pos:Pos} (h:cInts es = some is):PE X (.List es pos) (tLst (tInts is)) := pe_lst (pa_ints h)
theorem ps_setIC {X:Cx} {i:Nat} {x:Str} {es:List Expr} {is:List Int} {b:Expr} {tb:TE} {p1 p2 pos' pos:Pos} (hN:X.N.Nodup) (hi:X.N[i]? = some x) (hx:Loc X.env.scope x) (h:cInts es = some is) (hb:PE X b tb) (hp:PlainIx b) (hs:swapsWith (.Subscript (.List es p1) b p2) (some (.Name x pos')) pos.line X.env = pure false := by rfl) (hf:X.fn x = true ∨ X.env.scope.names.lookup x = some .local := by first | exact .inl rfl | exact .inr rfl | assumption) :
  PS X (.Assign [.Name x pos'] (.Subscript (.List es p1) b p2) pos) (tAsg (tOp (rIxL X.K) (tLst (tInts is)) tb) (gName i)) := ps_set hN hi hx (pe_ix ix_list (pe_lstC h) hb hp) hs hf
end L2
namespace My
open PySem L2
structure Pr5 (H:Hp) (s q l wa sa:Addr) (us ts:List V) (seats:List (List Int)) (qs:List (Int × Int)) (lim:List Int) (ws:List (Option Int)) (xs:List Int):Prop where
 hs:H s = some (.lst us)
 hR:Rows H us seats
 hq:H q = some (.lst ts)
 hC:Cells H ts qs
 hl:H l = some (.lst (lim.map V.int))
 sg:Stg seats qs lim
 hw:H wa = some (.lst (wI ws))
 hx:H sa = some (.lst (xs.map V.int))
 wl:ws.length = seats.length
 xl:xs.length ≤ 110
 sl:seats.length ≤ 110
 nw:wa ≠ s ∧ wa ≠ q ∧ wa ≠ l ∧ wa ≠ sa
 nx:sa ≠ s ∧ sa ≠ q ∧ sa ≠ l
 nu:V.ref wa ∉ us ∧ V.ref sa ∉ us
theorem Pr5.mono {H H':Hp} {s q l wa sa:Addr} {us ts:List V} {seats:List (List Int)} {qs:List (Int × Int)} {lim:List Int} {ws:List (Option Int)} {xs:List Int} (h:Pr5 H s q l wa sa us ts seats qs lim ws xs) (g:Same H H'):Pr5 H' s q l wa sa us ts seats qs lim ws xs :=
 ⟨g _ _ h.hs,h.hR.mono g,g _ _ h.hq,h.hC.mono g,g _ _ h.hl,h.sg,g _ _ h.hw,g _ _ h.hx,h.wl,h.xl,h.sl,h.nw,h.nx,h.nu⟩
theorem Pr5.of {H0 H:Hp} {s q l wa sa:Addr} {us ts:List V} {seats:List (List Int)} {qs:List (Int × Int)} {lim:List Int} {ws:List (Option Int)} {xs:List Int} (g:Same H0 H)
  (hs:H0 s = some (.lst us)) (hR:Rows H0 us seats) (hq:H0 q = some (.lst ts)) (hC:Cells H0 ts qs) (hl:H0 l = some (.lst (lim.map V.int))) (sg:Stg seats qs lim) (sl:seats.length ≤ 110)
  (fw:H0 wa = none) (fx:H0 sa = none) (ne:wa ≠ sa) (hw:H wa = some (.lst (wI ws))) (hx:H sa = some (.lst (xs.map V.int))) (wl:ws.length = seats.length) (xl:xs.length ≤ 110):Pr5 H s q l wa sa us ts seats qs lim ws xs :=
 ⟨g _ _ hs,hR.mono g,g _ _ hq,hC.mono g,g _ _ hl,sg,hw,hx,wl,xl,sl,⟨(ne_of_none hs fw).symm,(ne_of_none hq fw).symm,(ne_of_none hl fw).symm,ne⟩,⟨(ne_of_none hs fx).symm,(ne_of_none hq fx).symm,(ne_of_none hl fx).symm⟩,hR.notin fw,hR.notin fx⟩
theorem rising_le {n:Nat}:∀ {L:List Nat},L.Pairwise (· < ·) → (∀ y ∈ L,y < n) → L.length ≤ n := fun {L} h hb => by
 have nd := rising_nodup h
 have := nodup_sub (A := L) (B := (List.range n).map fun i:Nat => (i:Int)) nd fun y hy => List.mem_map.mpr ⟨y,List.mem_range.mpr (hb y hy),rfl⟩
 rw [List.length_map,List.length_range] at this
 exact this
theorem Cells.fr {H H':Hp} {w:Addr} {x0 ts:List V} {qs:List (Int × Int)} (hw:H w = some (.lst x0)) (f:∀ c o,H c = some o → c ≠ w → H' c = some o) (h:Cells H ts qs):Cells H' ts qs := Paired.mapP h fun _ _ ⟨t,e,q⟩ => ⟨t,e,f _ _ q fun z => by rw [z,hw] at q; cases q⟩
theorem nat_of {is:List Int} (h:∀ x ∈ is,0 ≤ x) {k:Nat} (hk:k < is.length):∃ w:Nat,(is.map V.int)[k]? = some (.int (w:Int)) := by
 refine ⟨is[k].toNat,?_⟩
 rw [List.getElem?_map,List.getElem?_eq_getElem hk,Int.toNat_of_nonneg (h _ (List.getElem_mem hk))]
 rfl
end My
set_option maxHeartbeats 4000000
namespace My
open PySem L2
noncomputable def top (i:Nat):Stmt := PySem.Challenge.pw_rotaward_k45_what_is_a_right_pair.main.body.getD i (.Pass ⟨0,0,0,0⟩)
noncomputable abbrev s_held:Stmt := top 1
noncomputable abbrev zv_:Stmt := top 2
noncomputable abbrev zm_:Stmt := top 3
noncomputable abbrev zw_:Stmt := top 4
noncomputable abbrev zx_:Stmt := top 5
noncomputable abbrev zi_:Stmt := inClass (top 7) 0
noncomputable abbrev zJ_:Stmt := inClass (top 7) 1
noncomputable abbrev zn_:Stmt := inClass (top 7) 2
noncomputable abbrev zj_:Stmt := inClass (top 7) 3
noncomputable abbrev zf_:Stmt := inClass (top 7) 4
noncomputable abbrev zal_:Stmt := top 8
noncomputable abbrev zk_:Stmt := top 9
noncomputable abbrev zam_:Stmt := top 10
noncomputable abbrev zV_:Stmt := top 11
noncomputable abbrev zan_:Stmt := top 12
noncomputable abbrev zo_:Stmt := top 14
noncomputable abbrev zr_:Stmt := top 15
noncomputable abbrev zy_:Stmt := top 16
noncomputable abbrev zW_:Stmt := top 17
noncomputable abbrev zK_:Stmt := top 18
noncomputable abbrev zz_:Stmt := top 19
noncomputable abbrev zA_:Stmt := top 20
noncomputable abbrev zs_:Stmt := top 21
noncomputable abbrev zt_:Stmt := top 22
noncomputable abbrev zB_:Stmt := top 23
noncomputable abbrev zX_:Stmt := top 24
noncomputable abbrev zd_:Stmt := top 25
noncomputable abbrev ze_:Stmt := top 26
noncomputable abbrev zL_:Stmt := top 27
noncomputable abbrev s_law:Stmt := top 28
structure Txt (K:PySem.W.Frag) (mg:Str → Option Value) (C_Hall:Addr):Prop where
 all:mg "all" = none
 bool:mg "bool" = none
 dict:mg "dict" = none
 enumerate:mg "enumerate" = none
 int:mg "int" = none
 isinstance:mg "isinstance" = none
 len:mg "len" = none
 list:mg "list" = none
 max:mg "max" = none
 min:mg "min" = none
 range:mg "range" = none
 reversed:mg "reversed" = none
 sorted:mg "sorted" = none
 sum:mg "sum" = none
 tuple:mg "tuple" = none
 zip:mg "zip" = none
 cl_Hall:Cls K C_Hall
 n_Hall_seats:NoAttr K C_Hall "seats"
 n_Hall_slots:NoAttr K C_Hall "slots"
 n_Hall_caps:NoAttr K C_Hall "caps"
 n_Hall_where:NoAttr K C_Hall "where"
 n_Hall_sitting:NoAttr K C_Hall "sitting"
 n_Hall_borne:NoAttr K C_Hall "borne"
 n_Hall_owned:NoAttr K C_Hall "owned"
section
variable {P:Program} {w:World} {K:PySem.W.Frag} {mg:Str → Option Value} {base:Heap}
local macro_rules | `(tactic| walk_at "rd") => `(tactic| try simp only [tSeq,tRet,tRetN,tIfS,tNext,tDrop,tOp,tUn,tVar,tC,rI0,rI,rU,rEq,rNe,L2.start,tAsg,gName,tTest,tB,tCB,tCons,tNil,rIxL,rIxT,tNot,tAnd,tOr,tNotV,tAndV,tOrV,tCall,rIsi,iRng1,tFor,tWhile,tTup,tLst,tComp,tBlk,compSt,tTrue,Cx.comp,List.replicate_one,List.replicate_zero,Option.getD_some,tBM,tBM0,rLen,rListOf,tFld,tMeth,tMake,sFld,iEnL,gTup,gCons,gNil,gSub,rSetL,rCat,rInsert,tSl,tNoPart,tPart,rSlL,rAppend,rClear,iList,cxOf,Cx.nox,List.map_cons,List.map_nil,List.length_cons,List.length_nil,Nat.reduceAdd,Nat.reduceSub,List.reduceReplicate,List.cons_append,List.nil_append,List.append_nil,List.getElem?_cons_zero,List.getElem?_cons_succ,List.set_cons_zero,List.set_cons_succ,Option.some.injEq,V.int.injEq,V.bl.injEq,V.ref.injEq,V.ty.injEq,List.cons.injEq,and_true,true_and,and_assoc,exists_eq_left,exists_eq_left',exists_eq_right,exists_eq,exists_eq',exists_and_left,exists_const,decide_eq_true_eq,scal_ii,scal_bb,Bool.not_eq_true',Bool.not_eq_true,decide_eq_false_iff_not,if_true,if_false,Bool.false_eq_true,reduceIte,tyN_int,tyN_bl,tyN_ref,okT_int,okT_bool,okT_str,okT_list,okT_tuple,subN_ii,subN_ib,subN_bb,subN_bi,subN_ss,subN_ll,subN_tt,Bool.not_true,Bool.not_false,not_true_eq_false,rRep,iZip,tLRev,rIn,rLenD,rListD,rUpdD,rCopyD,rSortD,tDGet,tDNotIn,sDPut,tDPop1,tDNewK,tDisp,tPairs,rPopAt,rExtend,iDK,tThawK,rCount])
noncomputable def zag_ (K:PySem.W.Frag) (C_Hall:Addr):Sp := fun vs H Q _ => ∃ (x:Addr) (G:Geo) (W:Flw.Wh) (sit:Nat → List Nat) (y s:Nat),vs = [.ref x,.int y,.int s] ∧ HallS C_Hall H x G ∧ HallD H G W sit ∧ y < G.seats.length ∧ s < G.qs.length ∧ Stg G.seats G.qs G.lim ∧
 ∀ (sit':Nat → List Nat) (H':Hp),Fm G H H' → HallS C_Hall H' x G → HallD H' G (Flw.move W y s) sit' → Q .non H'
theorem zaY_:FnScope ["self","seat","slot","before"] ["self","seat","slot"] (defScope zJ_) := ⟨rfl,rfl,rfl,by decide +kernel,rfl,by decide +kernel,by decide +kernel⟩
theorem zbB_ {C_Hall:Addr} {f:Addr} {fd:FuncData} (F:Fun K "move" "Hall.move" zJ_ f fd) (T:Txt K mg C_Hall) :FnOk P w K mg base CX0 1 f fd ["self","seat","slot"] (zag_ K C_Hall) := by
 refine F.ok zaY_ (fun vs H Q E h => ?_) (fun cdv A outer s H vs Q E hr h => ?_)
 ·obtain ⟨x,G,W,sit,y,s,rfl,_⟩ := h
  rfl
 ·obtain ⟨x,G,W,sit,y,s,rfl,S,D,hy,hs,st,q⟩ := h
  refine ⟨_,(pss_cons (ps_set (i := 3) zaY_.nd rfl (Or.inl rfl) (pe_ix ix_list (pe_fld (pv 0) rfl) (pv 1) (fun _ _ => rfl)))
  (pss_cut (ps_if (pt_cmpR op_notN (pv 3) pe_non (nomark _)) (pss_cons (ps_expr (pe_dpop1 (pe_ix ix_list (pe_fld (pv 0) rfl) (pv 3) (fun _ _ => rfl)) (pv 1) ⟨rfl,rfl,rfl,rfl⟩))
   (pss_one (ps_asg (pe_op op_sub (pe_ix ix_list (pe_fld (pv 0) rfl) (pe_ix ix_tup (pe_ix ix_list (pe_fld (pv 0) rfl) (pv 3) (fun _ _ => rfl)) pe_int (fun _ _ => rfl)) (fun _ _ => rfl)) pe_int) (pg_sub (pe_fld (pv 0) rfl) (pe_ix ix_tup (pe_ix ix_list (pe_fld (pv 0) rfl) (pv 3) (fun _ _ => rfl)) pe_int (fun _ _ => rfl)) set_list)))) pss_nil)
  (pss_cons (ps_asg (pv 2) (pg_sub (pe_fld (pv 0) rfl) (pv 1) set_list))
  (pss_cons (ps_dput (hu_of hr) (pe_ix ix_list (pe_fld (pv 0) rfl) (pv 2) (fun _ _ => rfl)) (pv 1) pe_bl rfl)
  (pss_one (ps_asg (pe_op op_add (pe_ix ix_list (pe_fld (pv 0) rfl) (pe_ix ix_tup (pe_ix ix_list (pe_fld (pv 0) rfl) (pv 2) (fun _ _ => rfl)) pe_int (fun _ _ => rfl)) (fun _ _ => rfl)) pe_int) (pg_sub (pe_fld (pv 0) rfl) (pe_ix ix_tup (pe_ix ix_list (pe_fld (pv 0) rfl) (pv 2) (fun _ _ => rfl)) pe_int (fun _ _ => rfl)) set_list))))))),?_⟩
  obtain ⟨dx,hi⟩ := S.ins
  refine seq_of fun U1 u1 => ?_
  walk_at "rd"
  refine ⟨_,_,_,hi,T.cl_Hall,T.n_Hall_where,_,hf_where _ _ _ _ _ _ _,_,rfl,_,SqL.of D.s4,_,atI_nat (whL_get hy),?_⟩
  rw [u1]; clear u1
  refine cut_of (fun σ H1 => ∃ sit1,Fm G H H1 ∧ HallS C_Hall H1 x G ∧ HallL H1 G W y sit1 ∧ σ = [some (.ref x),some (.int y),some (.int s),some (oN (W y))]) ?_ ?_
  ·walk_at "rd"
   cases ew:W y with
   | none =>
    rw [if_neg (fun z => z rfl)]
    exact ⟨.refl,S,_,D.none ew⟩
   | some b =>
    rw [if_pos (fun z => (nomatch z))]
    have hb := (D.wl y b ew).2
    have hdb:b < G.ds.length := by rw [S.dl]; exact hb
    have hd := List.getElem?_eq_getElem hdb
    have yb:y ∈ sit b := (D.sw b y).mpr ew
    obtain ⟨_,at_,t,rfl,ht⟩ := Paired.getR S.r2 (List.getElem?_eq_getElem hb)
    obtain ⟨o0,o1⟩ := st.own _ (List.getElem_mem hb)
    obtain ⟨o,ho⟩:∃ o:Nat,G.qs[b].1 = (o:Int) := ⟨G.qs[b].1.toNat,by lia⟩
    have hol:o < G.lim.length := by lia
    have hown:G.net.own b = o := by
     show (G.qs[b]?.getD (0,0)).1.toNat = o
     rw [List.getElem?_eq_getElem hb,Option.getD_some,ho]
     rfl
    refine ⟨_,_,_,hi,T.cl_Hall,T.n_Hall_sitting,_,hf_sitting _ _ _ _ _ _ _,_,rfl,_,_,rfl,SqL.of S.s5,.ref G.ds[b],atI_nat (by rw [List.getElem?_map,hd]; rfl),_,rfl,.inl ⟨_,.inl (D.d5 b _ hd)⟩,_,D.d5 b _ hd,Sum.inl (y:Int),rfl,_,by rw [dkN_val,if_pos yb],?_⟩
    have Sa := S.put (mutd hd) (.dK (dropK (dkN (.bl true) (sit b)) (Sum.inl (y:Int))))
    have Fa := Fm.refl.put (H := H) (mutd hd) (D.d5 b _ hd) (.dK (dropK (dkN (.bl true) (sit b)) (Sum.inl (y:Int))))
    have LL := D.leave S ew hd
    have e6:upd H G.ds[b] (.dK (dropK (dkN (.bl true) (sit b)) (Sum.inl (y:Int)))) G.a6 = some (.lst ((ri G.lim.length (Flw.cO G.net W)).map V.int)) := by rw [upd_ne (S.n6d hd)]; exact D.s6
    obtain ⟨dxa,hia⟩ := Sa.ins
    have hta := Paired.getR Sa.r2 (List.getElem?_eq_getElem hb)
    obtain ⟨_,ata,ta,rfl,hta⟩ := hta
    rw [hown] at LL
    refine ⟨_,_,_,hia,T.cl_Hall,T.n_Hall_borne,_,hf_borne _ _ _ _ _ _ _,_,_,_,hia,T.cl_Hall,T.n_Hall_slots,_,hf_slots _ _ _ _ _ _ _,_,rfl,_,_,rfl,SqL.of Sa.s2,_,atI_nat ata,ta,rfl,_,SqT.of hta,.int G.qs[b].1,rfl,?_⟩
    rw [ho]
    refine ⟨_,rfl,_,_,rfl,SqL.of e6,_,atI_nat (rv_get hol),_,rfl,_,_,_,hia,T.cl_Hall,T.n_Hall_borne,_,hf_borne _ _ _ _ _ _ _,_,_,_,hia,T.cl_Hall,T.n_Hall_slots,_,hf_slots _ _ _ _ _ _ _,_,rfl,_,_,rfl,SqL.of Sa.s2,_,atI_nat ata,ta,rfl,_,SqT.of hta,.int G.qs[b].1,rfl,?_⟩
    rw [ho]
    exact ⟨_,rfl,_,_,rfl,e6,o,ixN_lt (by rw [List.length_map,ri_len]; exact hol),Fa.put mut6 e6 _,Sa.put mut6 _,_,LL⟩
  rintro σ H1 ⟨sit1,F1,S1,L,rfl⟩
  obtain ⟨dx1,hi1⟩ := S1.ins
  have hds:s < G.ds.length := by rw [S.dl]; exact hs
  have hd := List.getElem?_eq_getElem hds
  obtain ⟨o0,o1⟩ := st.own _ (List.getElem_mem hs)
  obtain ⟨o,ho⟩:∃ o:Nat,G.qs[s].1 = (o:Int) := ⟨G.qs[s].1.toNat,by lia⟩
  have hol:o < G.lim.length := by lia
  have hown:G.net.own s = o := by
   show (G.qs[s]?.getD (0,0)).1.toNat = o
   rw [List.getElem?_eq_getElem hs,Option.getD_some,ho]
   rfl
  have LT := L.takes S1 D.wl hy hs hd
  rw [hown] at LT
  refine seq_of fun U1 u1 => ?_
  walk_at "rd"
  refine ⟨_,_,_,hi1,T.cl_Hall,T.n_Hall_where,_,hf_where _ _ _ _ _ _ _,_,rfl,_,L.s4,y,ixN_lt (by rw [whL_len]; exact hy),?_⟩
  have S2 := S1.put mut4 (.lst ((whL G.seats.length W).set y (.int s)))
  have F2 := F1.put mut4 L.s4 (.lst ((whL G.seats.length W).set y (.int s)))
  have e2:upd H1 G.a4 (.lst ((whL G.seats.length W).set y (.int s))) G.ds[s] = some (.dK (dkN (.bl true) (sit1 s))) := by rw [upd_ne fun z => S1.n4d hd z.symm]; exact L.d5 s _ hd
  obtain ⟨dx2,hi2⟩ := S2.ins
  rw [u1]; clear u1
  refine seq_of fun U1 u1 => ?_
  walk_at "rd"
  refine ⟨_,_,_,hi2,T.cl_Hall,T.n_Hall_sitting,_,hf_sitting _ _ _ _ _ _ _,_,rfl,_,SqL.of S2.s5,.ref G.ds[s],atI_nat (by rw [List.getElem?_map,hd]; rfl),?_⟩
  have sl := st.sl
  have ll:(sit1 s).length ≤ G.seats.length := nodup_le (L.sn s) fun z hz => (D.wl z s ((L.sw s z).mp hz).2).1
  refine ⟨_,rfl,_,DPut.k (k := Sum.inl (y:Int)) e2 (small1000 (by rw [dkN_len]; lia)),?_⟩
  have S3 := S2.put (mutd hd) (.dK (putK (dkN (.bl true) (sit1 s)) (Sum.inl (y:Int)) (.bl true)))
  have F3 := F2.put (mutd hd) e2 (.dK (putK (dkN (.bl true) (sit1 s)) (Sum.inl (y:Int)) (.bl true)))
  have e3:upd (upd H1 G.a4 (.lst ((whL G.seats.length W).set y (.int s)))) G.ds[s] (.dK (putK (dkN (.bl true) (sit1 s)) (Sum.inl (y:Int)) (.bl true))) G.a6 = some (.lst ((ri G.lim.length fun w => Flw.cO G.net W w - Flw.b2i (Flw.atO G.net W w y)).map V.int)) := by
   rw [upd_ne (S1.n6d hd),upd_ne S1.n46.symm]
   exact L.s6
  obtain ⟨dx3,hi3⟩ := S3.ins
  obtain ⟨_,at3,t3,rfl,ht3⟩ := Paired.getR S3.r2 (List.getElem?_eq_getElem hs)
  rw [u1]; clear u1
  walk_at "rd"
  refine ⟨_,_,_,hi3,T.cl_Hall,T.n_Hall_borne,_,hf_borne _ _ _ _ _ _ _,_,_,_,hi3,T.cl_Hall,T.n_Hall_slots,_,hf_slots _ _ _ _ _ _ _,_,rfl,_,SqL.of S3.s2,_,atI_nat at3,t3,rfl,_,SqT.of ht3,.int G.qs[s].1,rfl,?_⟩
  rw [ho]
  refine ⟨_,rfl,_,_,rfl,SqL.of e3,_,atI_nat (rv_get hol),_,rfl,_,_,_,hi3,T.cl_Hall,T.n_Hall_borne,_,hf_borne _ _ _ _ _ _ _,_,_,_,hi3,T.cl_Hall,T.n_Hall_slots,_,hf_slots _ _ _ _ _ _ _,_,rfl,_,SqL.of S3.s2,_,atI_nat at3,t3,rfl,_,SqT.of ht3,.int G.qs[s].1,rfl,?_⟩
  rw [ho]
  refine ⟨_,rfl,_,_,rfl,e3,o,ixN_lt (by rw [List.length_map,ri_len]; exact hol),?_⟩
  exact q _ _ (F3.put mut6 e3 _) (S3.put mut6 _) LT
noncomputable def zab_ (K:PySem.W.Frag) (C_Hall:Addr):Sp := fun vs H Q _ => ∃ (x dx a1 a2 a3 wa:Addr) (us ts:List V) (seats:List (List Int)) (qs:List (Int × Int)) (lim:List Int) (nw:Nat) (W0:Flw.Wh),vs = [.ref x,.ref a1,.ref a2,.ref a3,.ref wa] ∧ H x = some (.ins C_Hall dx []) ∧ H a1 = some (.lst us) ∧ Rows H us seats ∧ H a2 = some (.lst ts) ∧ Cells H ts qs ∧ H a3 = some (.lst (lim.map V.int)) ∧ Stg seats qs lim ∧
 H wa = some (.lst (whL nw W0)) ∧ nw ≤ seats.length ∧ (∀ y s,W0 y = some s → y < nw ∧ s < qs.length) ∧
 ∀ (G:Geo) (sit:Nat → List Nat) (H':Hp),G.seats = seats → G.qs = qs → G.lim = lim → (∀ c o,H c = some o → c ≠ x → H' c = some o) → HallS C_Hall H' x G → HallD H' G W0 sit → (∀ c ∈ G.mut,H c = none) → Q .non H'
theorem zq_:FnScope ["self","seats","slots","caps","where","number","slot","seat"] ["self","seats","slots","caps","where"] (defScope zi_) := ⟨rfl,rfl,rfl,by decide +kernel,rfl,by decide +kernel,by decide +kernel⟩
theorem zbd_ {C_Hall:Addr} {f:Addr} {fd:FuncData} (F:Fun K "__init__" "Hall.__init__" zi_ f fd) (T:Txt K mg C_Hall) (zM_:CalM P w K mg base C_Hall "move" ["self","seat","slot"] 1 (zag_ K C_Hall)):FnOk P w K mg base CX0 2 f fd ["self","seats","slots","caps","where"] (zab_ K C_Hall) := by
 refine F.ok zq_ (fun vs H Q E h => ?_) (fun cdv A outer s H vs Q E hr h => ?_)
 ·obtain ⟨x,dx,a1,a2,a3,wa,us,ts,seats,qs,lim,nw,W0,rfl,_⟩ := h
  rfl
 ·obtain ⟨x,dx,a1,a2,a3,wa,us,ts,seats,qs,lim,nw,W0,rfl,hx,h1,r1,h2,r2,h3,st,hw,nwl,w0,q⟩ := h
  refine ⟨_,(pss_cons (ps_fld (pv 0) (pv 1) rfl)
  (pss_cons (ps_fld (pv 0) (pv 2) rfl)
  (pss_cons (ps_fld (pv 0) (pv 3) rfl)
  (pss_cons (ps_fld (pv 0) (pe_op op_rep (pe_lst (pa_cons pe_non pa_nil)) (pe_callB (call_lenK (K := K) rfl) (by rfl) T.len PySem.boot_len (pa_cons (pv 1) pa_nil))) rfl)
  (pss_cons (ps_fld (pv 0) (pe_comp (own := ["slot"]) (fnames := []) (fr := []) (N' := ["slot"]) ⟨rfl,rfl,rfl,rfl,rfl,rfl,rfl⟩ rfl (pi_list (pv 2)) (fun s0 H0 fp0 C0 => ⟨(pg_name (i := 0) (by show (["slot"]:List Str).Nodup; decide +kernel) rfl (Or.inl rfl)),pts_nil,pe_dnewK⟩)) rfl)
  (pss_cons (ps_fld (pv 0) (pe_op op_rep (pe_lst (pa_cons pe_int pa_nil)) (pe_callB (call_lenK (K := K) rfl) (by rfl) T.len PySem.boot_len (pa_cons (pv 3) pa_nil))) rfl)
  (pss_cons (ps_fld (pv 0) (pe_comp (own := ["cap"]) (fnames := []) (fr := []) (N' := ["cap"]) ⟨rfl,rfl,rfl,rfl,rfl,rfl,rfl⟩ rfl (pi_list (pv 3)) (fun s0 H0 fp0 C0 => ⟨(pg_name (i := 0) (by show (["cap"]:List Str).Nodup; decide +kernel) rfl (Or.inl rfl)),pts_nil,(pe_lst pa_nil)⟩)) rfl)
  (pss_cons (ps_for PassesOwn.never rfl (pi_enum_list rfl T.enumerate (pv 2)) (pg_tup (n := 2) rfl (pgs_cons (pg_name (i := 5) zq_.nd rfl (Or.inl rfl)) (pgs_cons (pg_name (i := 6) zq_.nd rfl (Or.inl rfl)) pgs_nil)))
   (pss_one (ps_expr (pe_bm PySem.F.plainAttrs_list PySem.F.slot_list_append PySem.F.type_list_append mt_append (pe_ix ix_list (pe_fld (pv 0) rfl) (pe_ix ix_tup (pv 6) pe_int (fun _ _ => rfl)) (fun _ _ => rfl)) (pa_cons (pv 5) pa_nil)))))
  (pss_one (ps_for PassesOwn.never rfl (pi_enum_list rfl T.enumerate (pv 4)) (pg_tup (n := 2) rfl (pgs_cons (pg_name (i := 7) zq_.nd rfl (Or.inl rfl)) (pgs_cons (pg_name (i := 6) zq_.nd rfl (Or.inl rfl)) pgs_nil)))
   (pss_one (ps_if (pt_cmpR op_notN (pv 6) pe_non (nomark _)) (pss_one (ps_expr (pe_methC zM_ (hr.mono (by decide)) (pv 0) (pa_cons (pv 7) (pa_cons (pv 6) pa_nil))))) pss_nil)))))))))))),?_⟩
  have sl := st.sl
  have ql := st.ql
  have ll := st.ll
  refine seq_of fun U1 u1 => ?_
  walk_at "rd"
  refine ⟨C_Hall,dx,_,hx,T.cl_Hall,T.n_Hall_seats,by decide,?_⟩
  have k1:∀ c o,H c = some o → c ≠ x → upd H x (.ins C_Hall dx (putF "seats" (.ref a1) [])) c = some o := fun c o e n => by rw [upd_ne n]; exact e
  rw [u1]; clear u1
  refine seq_of fun U1 u1 => ?_
  walk_at "rd"
  refine ⟨C_Hall,dx,_,upd_same,T.cl_Hall,T.n_Hall_slots,Nat.lt_of_le_of_lt (length_putF _ _ _) (by show 1 < 1000; decide),?_⟩
  rw [upd_upd]
  rw [u1]; clear u1
  refine seq_of fun U1 u1 => ?_
  walk_at "rd"
  refine ⟨C_Hall,dx,_,upd_same,T.cl_Hall,T.n_Hall_caps,Nat.lt_of_le_of_lt (Nat.le_trans (length_putF _ _ _) (Nat.succ_le_succ (length_putF _ _ _))) (by show 2 < 1000; decide),?_⟩
  rw [upd_upd]
  have f3:(putF "caps" (.ref a3) (putF "slots" (.ref a2) (putF "seats" (.ref a1) []))).length ≤ 3 := Nat.le_trans (length_putF _ _ _) (Nat.succ_le_succ (Nat.le_trans (length_putF _ _ _) (Nat.succ_le_succ (length_putF _ _ _))))
  have I3:IniI H C_Hall x dx (putF "caps" (.ref a3) (putF "slots" (.ref a2) (putF "seats" (.ref a1) []))) (upd H x (.ins C_Hall dx (putF "caps" (.ref a3) (putF "slots" (.ref a2) (putF "seats" (.ref a1) []))))) :=
   ⟨fun c o e n => by rw [upd_ne n]; exact e,upd_same,fun c e => by
    by_cases n:c = x
    ·rw [n,upd_same] at e; cases e
    ·rw [upd_ne n] at e; exact e⟩
  obtain ⟨H3,e3⟩:∃ H3,H3 = upd H x (.ins C_Hall dx (putF "caps" (.ref a3) (putF "slots" (.ref a2) (putF "seats" (.ref a1) [])))) := ⟨_,rfl⟩
  rw [← e3] at I3 ⊢
  clear e3 k1
  have nl:∀ {c:Addr} {l:List V},H c = some (.lst l) → c ≠ x := fun e z => by rw [z,hx] at e; cases e
  have ul := r1.len
  have tl := r2.len
  rw [u1]; clear u1
  refine seq_of fun U1 u1 => ?_
  walk_at "rd"
  refine ⟨by decide,fun b4 hb4 => ?_⟩
  have I4 := I3.new hb4 (.lst [.non])
  refine ⟨_,.inl (SqL.of (I4.k _ _ h1 (nl h1))),_,upd_same,by lia,by lia,small1000' (by simp only [List.length_cons,List.length_nil]; lia),fun a4 ha4 => ?_⟩
  rw [rep_flat,Int.toNat_natCast,ul,whL_none]
  have I5 := I4.new ha4 (.lst (whL seats.length fun _ => none))
  have z4:H a4 = none := I4.z _ ha4
  refine ⟨_,_,_,I5.x_,T.cl_Hall,T.n_Hall_where,Nat.lt_of_le_of_lt f3 (by decide),?_⟩
  have I6 := I5.fld "where" (.ref a4)
  have n4:a4 ≠ x := fun z => by rw [z,I4.x_] at ha4; cases ha4
  have f4 := Nat.le_trans (length_putF "where" (.ref a4) _) (Nat.succ_le_succ f3)
  have e4:upd (upd (upd H3 b4 (.lst [.non])) a4 (.lst (whL seats.length fun _ => none))) x (.ins C_Hall dx (putF "where" (.ref a4) (putF "caps" (.ref a3) (putF "slots" (.ref a2) (putF "seats" (.ref a1) []))))) a4 = some (.lst (whL seats.length fun _ => none)) := by rw [upd_ne n4,upd_same]
  generalize upd (upd (upd H3 b4 (.lst [.non])) a4 (.lst (whL seats.length fun _ => none))) x (.ins C_Hall dx (putF "where" (.ref a4) (putF "caps" (.ref a3) (putF "slots" (.ref a2) (putF "seats" (.ref a1) []))))) = H6 at I6 e4 ⊢
  clear I3 I4 I5 ha4 hb4
  rw [u1]; clear u1
  refine seq_of fun U1 u1 => ?_
  walk_at "rd"
  refine ⟨⟨_,SqL.of (I6.k _ _ h2 (nl h2))⟩,fun a5 ha5 => for_listW (xs := ts) (fun j σ H' => ∃ (ds:List Addr) (v:Option V),MkI H6 a5 (fun H d => H d = some (.dK [])) j H' ds ∧ σ = [v]) ⟨[],none,MkI.ini ha5,rfl⟩ (fun j σ H' _ ⟨_,_,M,_⟩ => SqL.of (M.same _ _ (I6.k _ _ h2 (nl h2)))) ?_ ?_⟩
  ·rintro j v σ H' hv ⟨ds,w,M,rfl⟩
   have hj:j < ts.length := (List.getElem?_eq_some_iff.mp hv).1
   walk_at "rd"
   intro p hp
   exact ⟨_,(same_new hp _) _ _ M.at_,small1000 (by rw [List.length_map,M.len]; lia),ds ++ [p],M.step ha5 hp⟩
  rintro σ H7 ⟨ds,v0,M,rfl⟩
  rw [tl] at M
  have I7 := I6.mono M.same
  have z5:H a5 = none := I6.z _ ha5
  have n5:a5 ≠ x := fun z => by rw [z,I6.x_] at ha5; cases ha5
  have dz:∀ d ∈ ds,H d = none := fun d hd => I6.z _ (M.fr d hd).1
  have n45:a4 ≠ a5 := fun z => by rw [← z,e4] at ha5; cases ha5
  have e4 := M.same _ _ e4
  have n4d:∀ d ∈ ds,d ≠ a4 := fun d hd z => by have := M.pr d hd; rw [z] at this; have this:H7 a4 = some (.dK []) := this; rw [e4] at this; cases this
  walk_at "rd"
  refine ⟨_,_,_,I7.x_,T.cl_Hall,T.n_Hall_sitting,Nat.lt_of_le_of_lt f4 (by decide),?_⟩
  have I8 := I7.fld "sitting" (.ref a5)
  have f5 := Nat.le_trans (length_putF "sitting" (.ref a5) _) (Nat.succ_le_succ f4)
  have e5:upd H7 x (.ins C_Hall dx (putF "sitting" (.ref a5) (putF "where" (.ref a4) (putF "caps" (.ref a3) (putF "slots" (.ref a2) (putF "seats" (.ref a1) [])))))) a5 = some (.lst (ds.map V.ref)) := by rw [upd_ne n5]; exact M.at_
  have e4:upd H7 x (.ins C_Hall dx (putF "sitting" (.ref a5) (putF "where" (.ref a4) (putF "caps" (.ref a3) (putF "slots" (.ref a2) (putF "seats" (.ref a1) [])))))) a4 = some (.lst (whL seats.length fun _ => none)) := by rw [upd_ne n4]; exact e4
  have ed:∀ d ∈ ds,upd H7 x (.ins C_Hall dx (putF "sitting" (.ref a5) (putF "where" (.ref a4) (putF "caps" (.ref a3) (putF "slots" (.ref a2) (putF "seats" (.ref a1) [])))))) d = some (.dK []) := fun d hd => by
   have nx:d ≠ x := fun z => by have := M.pr d hd; rw [z] at this; have this:H7 x = some (.dK []) := this; rw [I7.x_] at this; cases this
   rw [upd_ne nx]
   exact M.pr d hd
  have dl := M.len
  have dnd := M.nd
  clear M
  generalize upd H7 x (.ins C_Hall dx (putF "sitting" (.ref a5) (putF "where" (.ref a4) (putF "caps" (.ref a3) (putF "slots" (.ref a2) (putF "seats" (.ref a1) [])))))) = H8 at I8 e5 e4 ed ⊢
  clear I6 I7 ha5
  rw [u1]; clear u1
  refine seq_of fun U1 u1 => ?_
  walk_at "rd"
  refine ⟨by decide,fun b6 hb6 => ?_⟩
  have I9 := I8.new hb6 (.lst [.int 0])
  have g9 := same_new hb6 (.lst [.int 0])
  refine ⟨_,.inl (SqL.of (I9.k _ _ h3 (nl h3))),_,upd_same,by lia,by rw [List.length_map]; lia,small1000' (by simp only [List.length_cons,List.length_nil,List.length_map]; lia),fun a6 ha6 => ?_⟩
  rw [rep_flat,Int.toNat_natCast,List.length_map,ri_zero]
  have I10 := I9.new ha6 (.lst ((ri lim.length fun _ => 0).map V.int))
  have g10 := g9.trans (same_new ha6 (.lst ((ri lim.length fun _ => 0).map V.int)))
  have z6:H a6 = none := I9.z _ ha6
  have n6:a6 ≠ x := fun z => by rw [z,I9.x_] at ha6; cases ha6
  have n46:a4 ≠ a6 := ne_of_none (g9 _ _ e4) ha6
  have n56:a5 ≠ a6 := ne_of_none (g9 _ _ e5) ha6
  have n6d:∀ d ∈ ds,d ≠ a6 := fun d hd => ne_of_none (g9 _ _ (ed d hd)) ha6
  refine ⟨_,_,_,I10.x_,T.cl_Hall,T.n_Hall_borne,Nat.lt_of_le_of_lt f5 (by decide),?_⟩
  have I11 := I10.fld "borne" (.ref a6)
  have f6 := Nat.le_trans (length_putF "borne" (.ref a6) _) (Nat.succ_le_succ f5)
  have k11:∀ {c:Addr} {o:HO},H8 c = some o → c ≠ x → upd (upd (upd H8 b6 (.lst [.int 0])) a6 (.lst ((ri lim.length fun _ => 0).map V.int))) x (.ins C_Hall dx (putF "borne" (.ref a6) (putF "sitting" (.ref a5) (putF "where" (.ref a4) (putF "caps" (.ref a3) (putF "slots" (.ref a2) (putF "seats" (.ref a1) []))))))) c = some o := fun e n => by rw [upd_ne n]; exact g10 _ _ e
  have e4 := k11 e4 n4
  have e5 := k11 e5 n5
  have ed:∀ d ∈ ds,_ = some (HO.dK []) := fun d hd => k11 (ed d hd) fun z => by have := ed d hd; rw [z,I8.x_] at this; cases this
  have e6:upd (upd (upd H8 b6 (.lst [.int 0])) a6 (.lst ((ri lim.length fun _ => 0).map V.int))) x (.ins C_Hall dx (putF "borne" (.ref a6) (putF "sitting" (.ref a5) (putF "where" (.ref a4) (putF "caps" (.ref a3) (putF "slots" (.ref a2) (putF "seats" (.ref a1) []))))))) a6 = some (.lst ((ri lim.length fun _ => 0).map V.int)) := by rw [upd_ne n6,upd_same]
  generalize upd (upd (upd H8 b6 (.lst [.int 0])) a6 (.lst ((ri lim.length fun _ => 0).map V.int))) x (.ins C_Hall dx (putF "borne" (.ref a6) (putF "sitting" (.ref a5) (putF "where" (.ref a4) (putF "caps" (.ref a3) (putF "slots" (.ref a2) (putF "seats" (.ref a1) []))))))) = H11 at I11 e4 e5 e6 ed ⊢
  clear I8 I9 I10 ha6 hb6 g9 g10 k11
  rw [u1]; clear u1
  refine seq_of fun U1 u1 => ?_
  walk_at "rd"
  refine ⟨⟨_,SqL.of (I11.k _ _ h3 (nl h3))⟩,fun a7 ha7 => for_listW (xs := lim.map V.int) (fun j σ H' => ∃ (es:List Addr) (v:Option V),MkI H11 a7 (fun H d => H d = some (.lst [])) j H' es ∧ σ = [v]) ⟨[],none,MkI.ini ha7,rfl⟩ (fun j σ H' _ ⟨_,_,M,_⟩ => SqL.of (M.same _ _ (I11.k _ _ h3 (nl h3)))) ?_ ?_⟩
  ·rintro j v σ H' hv ⟨es,w,M,rfl⟩
   have hj:j < (lim.map V.int).length := (List.getElem?_eq_some_iff.mp hv).1
   rw [List.length_map] at hj
   walk_at "rd"
   refine ⟨Nat.zero_le _,fun p hp => ?_⟩
   exact ⟨_,(same_new hp _) _ _ M.at_,small1000 (by rw [List.length_map,M.len]; lia),es ++ [p],M.step ha7 hp⟩
  rintro σ H12 ⟨es,v0,M,rfl⟩
  rw [List.length_map] at M
  have z7:H a7 = none := I11.z _ ha7
  have n7:a7 ≠ x := fun z => by rw [z,I11.x_] at ha7; cases ha7
  have ez:∀ d ∈ es,H d = none := fun d hd => I11.z _ (M.fr d hd).1
  have I12 := I11.mono M.same
  walk_at "rd"
  refine ⟨_,_,_,I12.x_,T.cl_Hall,T.n_Hall_owned,Nat.lt_of_le_of_lt f6 (by decide),?_⟩
  have ex:∀ d ∈ es,d ≠ x := fun d hd z => by have := M.pr d hd; rw [z] at this; have this:H12 x = some (.lst []) := this; rw [I12.x_] at this; cases this
  have dxx:∀ d ∈ ds,d ≠ x := fun d hd z => by have := ed d hd; rw [z,I11.x_] at this; cases this
  have kx:∀ {c:Addr} {o:HO},H12 c = some o → c ≠ x → upd H12 x (.ins C_Hall dx (hf a1 a2 a3 a4 a5 a6 a7)) c = some o := fun e n => by rw [upd_ne n]; exact e
  have J:HalI H C_Hall x dx a1 a2 a3 a4 a5 a6 a7 seats.length lim.length ds es (upd H12 x (.ins C_Hall dx (hf a1 a2 a3 a4 a5 a6 a7))) := ⟨I12.fld "owned" (.ref a7),kx (M.same _ _ e4) n4,kx (M.same _ _ e5) n5,kx (M.same _ _ e6) n6,kx M.at_ n7,fun d hd => kx (M.same _ _ (ed d hd)) (dxx d hd)⟩
  have er:∀ d ∈ es,upd H12 x (.ins C_Hall dx (hf a1 a2 a3 a4 a5 a6 a7)) d = some (.lst []) := fun d hd => kx (M.pr d hd) (ex d hd)
  have n47:a4 ≠ a7 := ne_of_none e4 ha7
  have n57:a5 ≠ a7 := ne_of_none e5 ha7
  have n67:a6 ≠ a7 := ne_of_none e6 ha7
  have n4e:∀ d ∈ es,a4 ≠ d := fun d hd => ne_of_none e4 (M.fr d hd).1
  have n5e:∀ d ∈ es,a5 ≠ d := fun d hd => ne_of_none e5 (M.fr d hd).1
  have n6e:∀ d ∈ es,a6 ≠ d := fun d hd => ne_of_none e6 (M.fr d hd).1
  have n7e:∀ d ∈ es,a7 ≠ d := fun d hd => (M.fr d hd).2.symm
  have el := M.len
  have ndE := M.nd
  have R0 := rows_new er
  rw [el] at R0
  change U1 _ _ (upd H12 x (.ins C_Hall dx (hf a1 a2 a3 a4 a5 a6 a7)))
  generalize upd H12 x (.ins C_Hall dx (hf a1 a2 a3 a4 a5 a6 a7)) = H13 at J er R0 ⊢
  clear I11 I12 M kx ha7 e4 e5 e6 ed
  obtain ⟨N,eN⟩:∃ N,N = netOf seats qs lim := ⟨_,rfl⟩
  have Nk:N.k = lim.length := by rw [eN]; rfl
  have Nm:N.m = qs.length := by rw [eN]; rfl
  rw [← Nk,← ownedT_zero] at R0
  have esn:(es.map V.ref).Nodup := by
   unfold List.Nodup
   rw [List.pairwise_map]
   exact ndE.imp fun {a b} h e => h (V.ref.inj e)
  rw [u1]; clear u1
  refine seq_of fun U1 u1 => for_of fun B1 b1 => ?_
  walk_at "rd"
  refine ⟨⟨_,SqL.of (J.i.k _ _ h2 (nl h2))⟩,for_enumW (xs := ts) (fun j σ H' => ∃ (v5 v6:Option V),HalI H C_Hall x dx a1 a2 a3 a4 a5 a6 a7 seats.length lim.length ds es H' ∧ Rows H' (es.map V.ref) (ownedT N j) ∧ σ = [some (.ref x),some (.ref a1),some (.ref a2),some (.ref a3),some (.ref wa),v5,v6,none]) ⟨none,none,J,R0,rfl⟩ (fun j σ H' _ ⟨_,_,J',_⟩ => SqL.of (J'.i.k _ _ h2 (nl h2))) ?_ ?_⟩
  ·rintro j v σ H' tt hv ⟨v5,v6,J',R',rfl⟩ htt
   obtain ⟨q1,hq1,tq,rfl,htq⟩ := r2.get' hv
   have hj:j < qs.length := (List.getElem?_eq_some_iff.mp hq1).1
   obtain ⟨o0,o1⟩ := st.own q1 (List.mem_of_getElem? hq1)
   obtain ⟨o,ho⟩:∃ o:Nat,q1.1 = (o:Int) := ⟨q1.1.toNat,by lia⟩
   have hown:N.own j = o := by
    rw [eN]
    show (qs[j]?.getD (0,0)).1.toNat = o
    rw [hq1,Option.getD_some,ho]
    rfl
   have gt := same_new htt (.tup [.int (j:Int),.ref tq])
   have J2 := J'.mono gt
   have R2 := R'.mono gt
   have hok:o < N.k := by lia
   have htq':H tq = some _ := htq
   have ntx:tq ≠ x := fun z => by rw [z,hx] at htq; cases htq
   obtain ⟨tr,e1,htr⟩ := R2.get (ownedT_get (i := j) hok)
   have tre:tr ∈ es := by
    obtain ⟨d,hd,e⟩ := List.mem_map.mp (List.mem_of_getElem? e1)
    cases e
    exact hd
   rw [Nat.zero_add]
   walk_at "rd"
   refine ⟨_,SqT.of upd_same,rfl,_,_,rfl,_,_,rfl,rfl,?_⟩
   rw [b1]
   walk_at "rd"
   refine ⟨_,_,_,J2.i.x_,T.cl_Hall,T.n_Hall_owned,_,hf_owned _ _ _ _ _ _ _,_,SqT.of (J2.i.k _ _ htq ntx),.int q1.1,rfl,?_⟩
   rw [ho]
   have fl:((List.range j).filter fun s => decide (N.own s = o)).length ≤ j := by
    have := List.length_filter_le (fun s => decide (N.own s = o)) (List.range j)
    rwa [List.length_range] at this
   refine ⟨_,rfl,_,_,rfl,SqL.of J2.e7,_,atI_nat e1,.inl ⟨rfl,_,SqL.of htr⟩,tr,rfl,_,htr,small1000 (by simp only [List.length_map]; lia),J2.row (ez tr tre) htr (n4e tr tre) (n5e tr tre) (n6e tr tre) (n7e tr tre) _,?_⟩
   have R3 := R2.put (row := (((List.range j).filter fun s => decide (N.own s = o)).map fun s:Nat => (s:Int)) ++ [(j:Int)]) esn e1
   rw [List.map_append] at R3
   have es2 := ownedT_succ N j (by rw [hown]; exact hok)
   rw [hown] at es2
   rw [es2] at R3
   exact R3
  rintro σ H14 ⟨v5,v6,J',R',rfl⟩
  rw [tl,← Nm] at R'
  have mz:∀ c ∈ a4 :: a6 :: ds,H c = none := fun c hc => by
   rcases List.mem_cons.mp hc with e | hc
   ·rw [e]; exact z4
   ·rcases List.mem_cons.mp hc with e | hc
    ·rw [e]; exact z6
    ·exact dz c hc
  have rx:∀ t o,V.ref t ∈ us → H t = some o → H14 t = some o := fun t o ht e => J'.i.k t o e fun z => by
   obtain ⟨row,e'⟩ := r1.tracked ht
   rw [z,hx] at e'
   cases e'
  have cx:∀ t o,V.ref t ∈ ts → H t = some o → H14 t = some o := fun t o ht e => J'.i.k t o e fun z => by
   obtain ⟨q1,_,t',e1,e2⟩ := L2.Paired.inl r2 ht
   cases e1
   rw [z,hx] at e2
   cases e2
  have Sx:HallS C_Hall H14 x ⟨seats,qs,lim,us,ts,es.map V.ref,ds,a1,a2,a3,a4,a5,a6,a7⟩ := by
   refine ⟨⟨dx,J'.i.x_⟩,J'.i.k _ _ h1 (nl h1),rows_fr r1 rx,J'.i.k _ _ h2 (nl h2),cells_fr r2 cx,J'.i.k _ _ h3 (nl h3),J'.e5,dl,?_,J'.e7,by rw [eN] at R'; exact R',fun c hc => ?_⟩
   ·show (a4 :: a6 :: ds).Nodup
    rw [List.nodup_cons,List.nodup_cons]
    exact ⟨fun z => (List.mem_cons.mp z).elim n46 fun z => n4d a4 z rfl,fun z => n6d a6 z rfl,dnd⟩
   ·have hz := mz c hc
    have g5:c ≠ a5 := by
     rcases List.mem_cons.mp hc with e | hc
     ·rw [e]; exact n45
     ·rcases List.mem_cons.mp hc with e | hc
      ·rw [e]; exact n56.symm
      ·exact fun z => by have := J'.ed c hc; rw [z,J'.e5] at this; cases this
    have g7:c ≠ a7 := by
     rcases List.mem_cons.mp hc with e | hc
     ·rw [e]; exact n47
     ·rcases List.mem_cons.mp hc with e | hc
      ·rw [e]; exact n67
      ·exact fun z => by have := J'.ed c hc; rw [z,J'.e7] at this; cases this
    have go:V.ref c ∉ es.map V.ref := fun z => by
     obtain ⟨d,hd,e⟩ := List.mem_map.mp z
     cases e
     rcases List.mem_cons.mp hc with e | hc
     ·exact n4e c hd e.symm
     ·rcases List.mem_cons.mp hc with e | hc
      ·exact n6e c hd e.symm
      ·obtain ⟨row,e'⟩ := R'.tracked z
       rw [J'.ed c hc] at e'
       cases e'
    refine ⟨(ne_of_none hx hz).symm,(ne_of_none h1 hz).symm,(ne_of_none h2 hz).symm,(ne_of_none h3 hz).symm,g5,g7,fun z => ?_,fun z => ?_,go⟩
    ·obtain ⟨row,e'⟩ := r1.tracked z
     rw [hz] at e'
     cases e'
    ·obtain ⟨q1,_,t',e1,e2⟩ := L2.Paired.inl r2 z
     cases e1
     rw [hz] at e2
     cases e2
  have Dx:HallD H14 ⟨seats,qs,lim,us,ts,es.map V.ref,ds,a1,a2,a3,a4,a5,a6,a7⟩ (fun _ => none) fun _ => [] := by
   refine ⟨J'.e4,?_,fun s d hd => J'.ed d (List.mem_of_getElem? hd),fun s y => ?_,fun s => List.nodup_nil,fun y s e => by cases e⟩
   ·show H14 a6 = _
    rw [J'.e6]
    exact congrArg (fun l => some (HO.lst (l.map V.int))) (ri_congr fun w _ => (cO_zero _ w).symm)
   ·simp
  rw [u1]; clear u1
  refine for_of fun B1 b1 => ?_
  walk_at "rd"
  have wx:wa ≠ x := nl hw
  refine ⟨⟨_,SqL.of (J'.i.k _ _ hw wx)⟩,for_enumW (xs := whL nw W0) (fun j σ H' => ∃ (sit:Nat → List Nat) (v5 v6 v7:Option V),(∀ c o,H c = some o → c ≠ x → H' c = some o) ∧ HallS C_Hall H' x ⟨seats,qs,lim,us,ts,es.map V.ref,ds,a1,a2,a3,a4,a5,a6,a7⟩ ∧ HallD H' ⟨seats,qs,lim,us,ts,es.map V.ref,ds,a1,a2,a3,a4,a5,a6,a7⟩ (fun y => if y < j then W0 y else none) sit ∧ σ = [some (.ref x),some (.ref a1),some (.ref a2),some (.ref a3),some (.ref wa),v5,v6,v7])
   ⟨_,v5,v6,none,J'.i.k,Sx,by simpa using Dx,rfl⟩ (fun j σ H' _ ⟨_,_,_,_,k,_⟩ => SqL.of (k _ _ hw wx)) ?_ ?_⟩
  ·rintro j v σ H' tt hv ⟨sit,v5,v6,v7,k,S',D',rfl⟩ htt
   have hj:j < nw := by have := (List.getElem?_eq_some_iff.mp hv).1; rwa [whL_len] at this
   rw [whL_get hj] at hv
   cases hv
   have gt := same_new htt (.tup [.int (j:Int),oN (W0 j)])
   have S2 := S'.mono gt
   have D2 := D'.mono gt
   obtain ⟨dx2,hi2⟩ := S2.ins
   rw [Nat.zero_add]
   walk_at "rd"
   refine ⟨_,SqT.of upd_same,rfl,_,_,rfl,_,_,rfl,rfl,?_⟩
   rw [b1]
   walk_at "rd"
   cases ew:W0 j with
   | none =>
    rw [if_neg (fun z => z rfl)]
    rw [ew] at gt S2 D2
    have eW:(fun y => if y < j + 1 then W0 y else none) = fun y => if y < j then W0 y else none := by
     funext y
     by_cases e:y = j
     ·subst e
      simp [ew]
     ·have:(y < j + 1) ↔ (y < j) := by lia
      simp [this]
    exact ⟨fun c o e n => gt _ _ (k c o e n),S2,sit,by rw [eW]; exact D2⟩
   | some s =>
    rw [if_pos (fun z => (nomatch z))]
    rw [ew] at gt S2 D2 hi2
    have eW:Flw.move (fun y => if y < j then W0 y else none) j s = fun y => if y < j + 1 then W0 y else none := by
     funext y
     by_cases e:y = j
     ·subst e
      rw [Flw.move_same]
      simp [ew]
     ·rw [Flw.move_ne e]
      have:(y < j + 1) ↔ (y < j) := by lia
      simp [this]
    refine ⟨_,_,hi2,hf_no _ _ _ _ _ _ _ (.inl rfl),x,_,_,sit,j,s,rfl,S2,D2,Nat.lt_of_lt_of_le hj nwl,(w0 j s ew).2,st,fun sit' H3 F3 S3 D3 => ⟨fun c o e n => F3.keep _ _ (gt _ _ (k c o e n)) (fun z => by rw [mz c z] at e; cases e),S3,sit',?_⟩⟩
    rw [eW] at D3
    exact D3
  rintro σ H' ⟨sit,v5,v6,v7,k,S',D',rfl⟩
  rw [whL_len] at D'
  have eW:(fun y => if y < nw then W0 y else none) = W0 := by
   funext y
   by_cases e:y < nw
   ·rw [if_pos e]
   ·rw [if_neg e]
    cases z:W0 y with
    | none => rfl
    | some s => exact (e (w0 y s z).1).elim
  rw [eW] at D'
  exact q _ sit H' rfl rfl rfl k S' D' mz
noncomputable def zQ_ (K:PySem.W.Frag) (C_Hall:Addr):Sp := fun vs H Q _ => ∃ (x:Addr) (G:Geo) (W:Flw.Wh) (sit:Nat → List Nat) (s:Nat),vs = [.ref x,.int s] ∧ HallS C_Hall H x G ∧ HallD H G W sit ∧ s < G.qs.length ∧ ∀ b:Bool,(b = true ↔ Flw.full G.net W s) → Q (.bl b) H
theorem zbj_:FnScope ["self","slot"] ["self","slot"] (defScope zn_) := ⟨rfl,rfl,rfl,by decide +kernel,rfl,by decide +kernel,by decide +kernel⟩
theorem zbk_ {C_Hall:Addr} {f:Addr} {fd:FuncData} (F:Fun K "is_full" "Hall.is_full" zn_ f fd) (T:Txt K mg C_Hall) :FnOk P w K mg base CX0 1 f fd ["self","slot"] (zQ_ K C_Hall) := by
 refine F.ok zbj_ (fun vs H Q E h => ?_) (fun cdv A outer s H vs Q E hr h => ?_)
 ·obtain ⟨x,G,W,sit,s,rfl,_⟩ := h
  rfl
 ·obtain ⟨x,G,W,sit,s,rfl,S,D,hs,q⟩ := h
  refine ⟨_,(pss_one (ps_ret (pe_cmpR op_ge (pe_callB call_lenD (by rfl) T.len PySem.boot_len (pa_cons (pe_ix ix_list (pe_fld (pv 0) rfl) (pv 1) (fun _ _ => rfl)) pa_nil)) (pe_ix ix_tup (pe_ix ix_list (pe_fld (pv 0) rfl) (pv 1) (fun _ _ => rfl)) pe_int (fun _ _ => rfl)) (nomark _)))),?_⟩
  obtain ⟨dx,hi⟩ := S.ins
  have hds:s < G.ds.length := by rw [S.dl]; exact hs
  have hd := List.getElem?_eq_getElem hds
  obtain ⟨_,at_,t,rfl,ht⟩ := Paired.getR S.r2 (List.getElem?_eq_getElem hs)
  walk_at "rd"
  refine ⟨_,_,_,hi,T.cl_Hall,T.n_Hall_sitting,_,hf_sitting _ _ _ _ _ _ _,_,rfl,_,SqL.of S.s5,.ref G.ds[s],atI_nat (by rw [List.getElem?_map,hd]; rfl),_,rfl,_,.inl (D.d5 s _ hd),_,_,_,hi,T.cl_Hall,T.n_Hall_slots,_,hf_slots _ _ _ _ _ _ _,_,rfl,_,SqL.of S.s2,_,atI_nat at_,_,rfl,_,SqT.of ht,.int G.qs[s].2,rfl,_,rfl,?_⟩
  refine q _ ?_
  rw [decide_eq_true_eq,dkN_len,D.len]
  show G.qs[s].2 ≤ _ ↔ (G.qs[s]?.getD (0,0)).2 ≤ _
  rw [List.getElem?_eq_getElem hs]
  exact Iff.rfl
noncomputable def zac_ (K:PySem.W.Frag) (C_Hall:Addr):Sp := fun vs H Q _ => ∃ (x:Addr) (G:Geo) (W:Flw.Wh) (sit:Nat → List Nat) (s:Nat),vs = [.ref x,.int s] ∧ HallS C_Hall H x G ∧ HallD H G W sit ∧ s < G.qs.length ∧ Stg G.seats G.qs G.lim ∧ ∀ b:Bool,(b = true ↔ Flw.room G.net W s) → Q (.bl b) H
theorem zaD_:FnScope ["self","slot","owner"] ["self","slot"] (defScope zj_) := ⟨rfl,rfl,rfl,by decide +kernel,rfl,by decide +kernel,by decide +kernel⟩
theorem zbe_ {C_Hall:Addr} {f:Addr} {fd:FuncData} (F:Fun K "has_room" "Hall.has_room" zj_ f fd) (T:Txt K mg C_Hall) (zp_:CalM P w K mg base C_Hall "is_full" ["self","slot"] 1 (zQ_ K C_Hall)):FnOk P w K mg base CX0 2 f fd ["self","slot"] (zac_ K C_Hall) := by
 refine F.ok zaD_ (fun vs H Q E h => ?_) (fun cdv A outer s H vs Q E hr h => ?_)
 ·obtain ⟨x,G,W,sit,s,rfl,_⟩ := h
  rfl
 ·obtain ⟨x,G,W,sit,s,rfl,S,D,hs,st,q⟩ := h
  refine ⟨_,(pss_cons (ps_set (i := 2) zaD_.nd rfl (Or.inl rfl) (pe_ix ix_tup (pe_ix ix_list (pe_fld (pv 0) rfl) (pv 1) (fun _ _ => rfl)) pe_int (fun _ _ => rfl)))
  (pss_one (ps_ret (pe_and (pe_not (pe_methC zp_ (hr.mono (by decide)) (pv 0) (pa_cons (pv 1) pa_nil))) (pe_one (pe_cmpR op_lt (pe_ix ix_list (pe_fld (pv 0) rfl) (pv 2) (fun _ _ => rfl)) (pe_ix ix_list (pe_fld (pv 0) rfl) (pv 2) (fun _ _ => rfl)) (nomark _))))))),?_⟩
  obtain ⟨dx,hi⟩ := S.ins
  obtain ⟨_,at_,t,rfl,ht⟩ := Paired.getR S.r2 (List.getElem?_eq_getElem hs)
  obtain ⟨o0,o1⟩ := st.own _ (List.getElem_mem hs)
  obtain ⟨o,ho⟩:∃ o:Nat,G.qs[s].1 = (o:Int) := ⟨G.qs[s].1.toNat,by lia⟩
  have hol:o < G.lim.length := by lia
  have hown:G.net.own s = o := by
   show (G.qs[s]?.getD (0,0)).1.toNat = o
   rw [List.getElem?_eq_getElem hs,Option.getD_some,ho]
   rfl
  walk_at "rd"
  refine ⟨_,_,_,hi,T.cl_Hall,T.n_Hall_slots,_,hf_slots _ _ _ _ _ _ _,_,rfl,_,SqL.of S.s2,_,atI_nat at_,_,rfl,_,SqT.of ht,.int G.qs[s].1,rfl,?_⟩
  rw [ho]
  refine ⟨_,_,hi,hf_no _ _ _ _ _ _ _ (.inr (.inl rfl)),x,G,W,sit,s,rfl,S,D,hs,fun b hb => ?_⟩
  walk_at "rd"
  have el:G.net.lim o = G.lim[o] := by
   show G.lim[o]?.getD 0 = _
   rw [List.getElem?_eq_getElem hol]
   rfl
  split
  ·rename_i hbf
   have hf:¬ Flw.full G.net W s := fun z => by rw [hb.mpr z] at hbf; cases hbf
   refine ⟨_,_,_,hi,T.cl_Hall,T.n_Hall_borne,_,hf_borne _ _ _ _ _ _ _,_,rfl,_,SqL.of D.s6,_,atI_nat (rv_get hol),_,_,_,hi,T.cl_Hall,T.n_Hall_caps,_,hf_caps _ _ _ _ _ _ _,_,rfl,_,SqL.of S.s3,.int G.lim[o],atI_nat (by rw [List.getElem?_map,List.getElem?_eq_getElem hol]; rfl),_,rfl,_,rfl,q _ ?_⟩
   rw [decide_eq_true_eq]
   unfold Flw.room Flw.ofull
   rw [hown,el]
   exact ⟨fun z => ⟨hf,by lia⟩,fun z => by have := z.2; lia⟩
  ·rename_i hbt
   have hf:Flw.full G.net W s := hb.mp (by simpa using hbt)
   exact q false ⟨fun z => (nomatch z),fun z => (z.1 hf).elim⟩
noncomputable def zN_ (K:PySem.W.Frag) (C_Hall:Addr):Sp := fun vs H Q _ => ∃ (x:Addr) (G:Geo) (W:Flw.Wh) (sit:Nat → List Nat) (s:Nat),vs = [.ref x,.int s] ∧ HallS C_Hall H x G ∧ HallD H G W sit ∧ s < G.qs.length ∧ Stg G.seats G.qs G.lim ∧
 ∀ (p:Addr) (ls:List Nat) (H':Hp),Same H H' → H' p = some (.lst ((ls.map fun t:Nat => (t:Int)).map V.int)) → (∀ t,t ∈ ls ↔ Flw.Reach G.net W s t) → (∀ t ∈ ls,t < G.qs.length) → (H p = none ∨ V.ref p ∈ G.os) → Q (.ref p) H'
theorem zaW_:FnScope ["self","slot"] ["self","slot"] (defScope zf_) := ⟨rfl,rfl,rfl,by decide +kernel,rfl,by decide +kernel,by decide +kernel⟩
theorem zaX_ {C_Hall:Addr} {f:Addr} {fd:FuncData} (F:Fun K "making_room" "Hall.making_room" zf_ f fd) (T:Txt K mg C_Hall) (zp_:CalM P w K mg base C_Hall "is_full" ["self","slot"] 1 (zQ_ K C_Hall)):FnOk P w K mg base CX0 2 f fd ["self","slot"] (zN_ K C_Hall) := by
 refine F.ok zaW_ (fun vs H Q E h => ?_) (fun cdv A outer s H vs Q E hr h => ?_)
 ·obtain ⟨x,G,W,sit,s,rfl,_⟩ := h
  rfl
 ·obtain ⟨x,G,W,sit,s,rfl,S,D,hs,st,q⟩ := h
  refine ⟨_,(pss_cons (ps_if (pt_val (pe_methC zp_ (hr.mono (by decide)) (pv 0) (pa_cons (pv 1) pa_nil))) (pss_one (ps_ret (pe_lst (pa_cons (pv 1) pa_nil)))) pss_nil)
  (pss_one (ps_ret (pe_ix ix_list (pe_fld (pv 0) rfl) (pe_ix ix_tup (pe_ix ix_list (pe_fld (pv 0) rfl) (pv 1) (fun _ _ => rfl)) pe_int (fun _ _ => rfl)) (fun _ _ => rfl))))),?_⟩
  obtain ⟨dx,hi⟩ := S.ins
  obtain ⟨_,at_,t,rfl,ht⟩ := Paired.getR S.r2 (List.getElem?_eq_getElem hs)
  obtain ⟨o0,o1⟩ := st.own _ (List.getElem_mem hs)
  obtain ⟨o,ho⟩:∃ o:Nat,G.qs[s].1 = (o:Int) := ⟨G.qs[s].1.toNat,by lia⟩
  have hol:o < G.lim.length := by lia
  have hown:G.net.own s = o := by
   show (G.qs[s]?.getD (0,0)).1.toNat = o
   rw [List.getElem?_eq_getElem hs,Option.getD_some,ho]
   rfl
  walk_at "rd"
  refine ⟨_,_,hi,hf_no _ _ _ _ _ _ _ (.inr (.inl rfl)),x,G,W,sit,s,rfl,S,D,hs,fun b hb => ?_⟩
  walk_at "rd"
  split
  ·rename_i hbt
   have hf := hb.mp hbt
   refine ⟨by decide,fun p hp => q p [s] _ (same_new hp _) upd_same (fun t => ?_) (fun t z => ?_) (.inl hp)⟩
   ·rw [List.mem_singleton]
    exact ⟨fun e => .inl ⟨hf,e⟩,fun r => by rcases r with ⟨_,e⟩ | ⟨n,_⟩; exact e; exact (n hf).elim⟩
   ·rw [List.mem_singleton.mp z]; exact hs
  ·rename_i hbf
   have hf:¬ Flw.full G.net W s := fun z => hbf (hb.mpr z)
   refine ⟨_,_,_,hi,T.cl_Hall,T.n_Hall_owned,_,hf_owned _ _ _ _ _ _ _,_,_,_,hi,T.cl_Hall,T.n_Hall_slots,_,hf_slots _ _ _ _ _ _ _,_,rfl,_,SqL.of S.s2,_,atI_nat at_,_,rfl,_,SqT.of ht,.int G.qs[s].1,rfl,?_⟩
   rw [ho]
   obtain ⟨tr,e1,e2⟩ := S.r7.get (ownedL_get (show o < G.net.k from hol))
   refine ⟨_,rfl,_,_,rfl,SqL.of S.s7,_,atI_nat e1,?_⟩
   refine q tr _ H (fun _ _ h => h) e2 (fun t => ?_) (fun t z => ?_) (.inr (List.mem_of_getElem? e1))
   ·rw [List.mem_filter,List.mem_range,decide_eq_true_eq,← hown]
    exact ⟨fun r => .inr ⟨hf,r.1,r.2⟩,fun r => by rcases r with ⟨n,_⟩ | ⟨_,r1,r2⟩; exact (hf n).elim; exact ⟨r1,r2⟩⟩
   ·exact List.mem_range.mp (List.mem_filter.mp z).1
noncomputable def zad_ (K:PySem.W.Frag) (C_Hall:Addr):Sp := fun vs H Q _ => ∃ (x d:Addr) (G:Geo) (W:Flw.Wh) (sit:Nat → List Nat) (s:Nat) (sn:List Nat),vs = [.ref x,.int s,.ref d] ∧ HallS C_Hall H x G ∧ HallD H G W sit ∧ s < G.qs.length ∧ Stg G.seats G.qs G.lim ∧ H d = some (.dK (dkN (.bl true) sn)) ∧ d ∉ G.mut ∧ sn.Nodup ∧ (∀ t ∈ sn,t < G.qs.length) ∧
 ∀ (p:Addr) (fl sn':List Nat) (H':Hp),(∀ c o,H c = some o → c ≠ d → H' c = some o) → H p = none → p ≠ d → H' p = some (.lst ((fl.map fun y:Nat => (y:Int)).map V.int)) → H' d = some (.dK (dkN (.bl true) sn')) → sn'.Nodup → (∀ t ∈ sn',t < G.qs.length) → (∀ t,t ∈ sn' ↔ (t ∈ sn ∨ Flw.Reach G.net W s t)) →
  fl.Nodup → (∀ y,y ∈ fl ↔ Flw.Fresh G.net W (fun t => t ∈ sn) s y) → Q (.ref p) H'
theorem zae_:FnScope ["hall","slot","seen","found","other"] ["hall","slot","seen"] (defScope zk_) := ⟨rfl,rfl,rfl,by decide +kernel,rfl,by decide +kernel,by decide +kernel⟩
theorem zbf_ {C_Hall:Addr} {f:Addr} {fd:FuncData} (F:Fun K "sitting_there" "sitting_there" zk_ f fd) (T:Txt K mg C_Hall) (zS_:CalM P w K mg base C_Hall "making_room" ["self","slot"] 2 (zN_ K C_Hall)):FnOk P w K mg base CX0 3 f fd ["hall","slot","seen"] (zad_ K C_Hall) := by
 refine F.ok zae_ (fun vs H Q E h => ?_) (fun cdv A outer s H vs Q E hr h => ?_)
 ·obtain ⟨x,d,G,W,sit,s,sn,rfl,_⟩ := h
  rfl
 ·obtain ⟨x,d,G,W,sit,s,sn,rfl,S,D,hs,st,hd,dm,nd,lt,q⟩ := h
  refine ⟨_,(pss_cons (ps_set (i := 3) zae_.nd rfl (Or.inl rfl) (pe_lst pa_nil))
  (pss_cons (ps_for PassesOwn.never rfl (pi_list (pe_methC zS_ (hr.mono (by decide)) (pv 0) (pa_cons (pv 1) pa_nil))) (pg_name (i := 4) zae_.nd rfl (Or.inl rfl))
   (pss_one (ps_if (pt_cmp (pc_dnotin (hu_of hr) (pv 4) (pv 2))) (pss_cons (ps_dput (hu_of hr) (pv 2) (pv 4) pe_bl rfl)
     (pss_one (ps_expr (pe_bm PySem.F.plainAttrs_list PySem.F.slot_list_extend PySem.F.type_list_extend mt_extend (pv 3) (pa_cons (pe_callTy (call_listD rfl) (by rfl) T.list PyProof.Rows.boot_list (pa_cons (pe_ix ix_list (pe_fld (pv 0) rfl) (pv 4) (fun _ _ => rfl)) pa_nil)) pa_nil))))) pss_nil)))
  (pss_one (ps_ret (pv 3))))),?_⟩
  refine seq_of fun U1 u1 => ?_
  walk_at "rd"
  refine ⟨Nat.zero_le _,fun p hp => ?_⟩
  have g0 := same_new hp (.lst [])
  have pd:p ≠ d := fun z => by rw [z,hd] at hp; cases hp
  obtain ⟨dx,hi⟩ := S.ins
  rw [u1]; clear u1
  refine seq_of fun U1 u1 => for_of fun B1 b1 => ?_
  walk_at "rd"
  refine ⟨_,_,g0 _ _ hi,hf_no _ _ _ _ _ _ _ (.inr (.inr (.inr rfl))),x,G,W,sit,s,rfl,S.mono g0,D.mono g0,hs,st,fun l ls H2 g2 el hr hls lm => ?_⟩
  have gH := g0.trans g2
  have ep:H2 p = some (.lst []) := g2 _ _ upd_same
  have ed:H2 d = some (.dK (dkN (.bl true) sn)) := gH _ _ hd
  have ld:l ≠ d := fun z => by rw [z,ed] at el; cases el
  have lp:l ≠ p := by
   rcases lm with z | z
   ·exact fun e => by rw [e,upd_same] at z; cases z
   ·obtain ⟨row,e⟩ := S.r7.tracked z
    exact ne_of_none e hp
  walk_at "rd"
  refine ⟨⟨_,SqL.of el⟩,for_listW (xs := (ls.map fun t:Nat => (t:Int)).map V.int) (fun i σ H' => ∃ (fl sn':List Nat) (v4:Option V),(∀ c o,H2 c = some o → c ≠ d → c ≠ p → H' c = some o) ∧ H' p = some (.lst ((fl.map fun y:Nat => (y:Int)).map V.int)) ∧ H' d = some (.dK (dkN (.bl true) sn')) ∧ sn'.Nodup ∧ (∀ t ∈ sn',t < G.qs.length) ∧ (∀ t,t ∈ sn' ↔ (t ∈ sn ∨ t ∈ ls.take i)) ∧ fl.Nodup ∧ (∀ y,y ∈ fl ↔ ∃ t,W y = some t ∧ t ∈ ls.take i ∧ t ∉ sn) ∧ σ = [some (.ref x),some (.int s),some (.ref d),some (.ref p),v4])
   ⟨[],sn,none,fun _ _ h _ _ => h,ep,ed,nd,lt,fun t => by simp,List.nodup_nil,fun y => by simp,rfl⟩ (fun i σ H' _ ⟨_,_,_,k,_⟩ => SqL.of (k _ _ el ld lp)) ?_ ?_⟩
  ·rintro i v σ H' hx ⟨fl,sn',v4,k,e1,e2,nd',lt',hsn,ndf,hfl,rfl⟩
   rw [List.getElem?_map,List.getElem?_map] at hx
   obtain ⟨tt,htt,rfl⟩ := Option.map_eq_some_iff.mp hx
   obtain ⟨t,hti,rfl⟩ := Option.map_eq_some_iff.mp htt
   have htm := hls t (List.mem_of_getElem? hti)
   have et:ls.take (i + 1) = ls.take i ++ [t] := by rw [List.take_add_one,hti]; rfl
   have hdt:t < G.ds.length := by rw [S.dl]; exact htm
   have hdd := List.getElem?_eq_getElem hdt
   have kH:∀ c o,H c = some o → c ≠ d → H' c = some o := fun c o e n => k c o (gH c o e) n (ne_of_none e hp)
   have S' := S.kept hd kH
   have D' := D.kept dm kH
   have ql := st.ql
   have sl := st.sl
   have lsn := nodup_le nd' lt'
   have lfl:fl.length ≤ G.seats.length := nodup_le ndf fun y hy => by
    obtain ⟨t',e',_⟩ := (hfl y).mp hy
    exact (D.wl y t' e').1
   have lst:(sit t).length ≤ G.seats.length := nodup_le (D.sn t) fun y hy => (D.wl y t ((D.sw t y).mp hy)).1
   rw [b1]
   walk_at "rd"
   refine ⟨_,DGet.k (k := Sum.inl (t:Int)) e2,?_⟩
   rw [dkN_val]
   by_cases htn:t ∈ sn'
   ·rw [if_pos htn,if_neg (fun z => (nomatch z))]
    have hmore:t ∈ sn ∨ t ∈ ls.take i := (hsn t).mp htn
    refine ⟨k,fl,e1,sn',e2,nd',lt',fun u => ?_,ndf,fun y => ?_⟩
    ·rw [hsn u,et,List.mem_append,List.mem_singleton]
     constructor
     ·exact fun z => z.elim .inl fun z => .inr (.inl z)
     ·rintro (z | z | z)
      ·exact .inl z
      ·exact .inr z
      ·rw [z]; exact hmore
    ·rw [hfl y,et]
     constructor
     ·rintro ⟨u,h1,h2,h3⟩
      exact ⟨u,h1,List.mem_append_left _ h2,h3⟩
     ·rintro ⟨u,h1,h2,h3⟩
      rcases List.mem_append.mp h2 with z | z
      ·exact ⟨u,h1,z,h3⟩
      ·rw [List.mem_singleton.mp z] at h1 h3
       exact ⟨t,h1,hmore.resolve_left h3,h3⟩
   ·rw [if_neg htn,if_pos (show (none:Option V).isSome = false from rfl)]
    refine ⟨_,DPut.k (k := Sum.inl (t:Int)) e2 (small1000 (by rw [dkN_len]; lia)),?_⟩
    rw [dkN_put _ htn]
    have k3:∀ c o,H' c = some o → c ≠ d → upd H' d (.dK (dkN (.bl true) (sn' ++ [t]))) c = some o := fun c o e n => by rw [upd_ne n]; exact e
    have S3 := S'.kept e2 k3
    have D3 := D'.kept dm k3
    obtain ⟨dx3,hi3⟩ := S3.ins
    refine ⟨.inl ⟨rfl,_,SqL.of (k3 _ _ e1 pd)⟩,_,_,_,hi3,T.cl_Hall,T.n_Hall_sitting,_,hf_sitting _ _ _ _ _ _ _,_,rfl,_,SqL.of S3.s5,.ref G.ds[t],atI_nat (by rw [List.getElem?_map,hdd]; rfl),_,rfl,_,.inl (D3.d5 t _ hdd),fun ll hll => ?_⟩
    rw [dkN_keys]
    have g4 := same_new hll (.lst (((sit t).map fun y:Nat => (y:Int)).map V.int))
    refine ⟨_,g4 _ _ (k3 _ _ e1 pd),_,upd_same,small1000' (by simp only [List.length_map]; lia),fun c o e n1 n2 => ?_,fl ++ sit t,?_,sn' ++ [t],?_,?_,?_,?_,?_,?_⟩
    ·rw [upd_ne n2]
     exact g4 _ _ (k3 c o (k c o e n1 n2) n1)
    ·rw [upd_same,List.map_append,List.map_append]
    ·rw [upd_ne pd.symm]
     exact g4 _ _ upd_same
    ·rw [List.nodup_append]
     refine ⟨nd',by simp,fun a ha b hb q => ?_⟩
     rw [List.mem_singleton.mp hb] at q
     exact htn (q ▸ ha)
    ·intro u hu
     rcases List.mem_append.mp hu with z | z
     ·exact lt' u z
     ·rw [List.mem_singleton.mp z]; exact htm
    ·intro u
     rw [List.mem_append,List.mem_singleton,hsn u,et,List.mem_append,List.mem_singleton,or_assoc]
    ·rw [List.nodup_append]
     refine ⟨ndf,D.sn t,fun a ha b hb q => ?_⟩
     rw [← q,D.sw] at hb
     obtain ⟨u,h1,h2,h3⟩ := (hfl a).mp ha
     rw [hb] at h1
     cases h1
     exact htn ((hsn t).mpr (.inr h2))
    ·intro y
     rw [List.mem_append,hfl y,D.sw,et]
     constructor
     ·rintro (⟨u,h1,h2,h3⟩ | z)
      ·exact ⟨u,h1,List.mem_append_left _ h2,h3⟩
      ·exact ⟨t,z,List.mem_append_right _ List.mem_cons_self,fun q => htn ((hsn t).mpr (.inl q))⟩
     ·rintro ⟨u,h1,h2,h3⟩
      rcases List.mem_append.mp h2 with z | z
      ·exact .inl ⟨u,h1,z,h3⟩
      ·rw [List.mem_singleton.mp z] at h1
       exact .inr h1
  rintro σ H' ⟨fl,sn',v4,k,e1,e2,nd',lt',hsn,ndf,hfl,rfl⟩
  rw [List.length_map,List.length_map,List.take_length] at hsn hfl
  rw [u1]; clear u1
  walk_at "rd"
  refine q p fl sn' H' (fun c o e n => k c o (gH c o e) n (ne_of_none e hp)) hp pd e1 e2 nd' lt' (fun t => by rw [hsn t,hr t]) ndf fun y => ?_
  rw [hfl y]
  exact ⟨fun ⟨t,h1,h2,h3⟩ => ⟨t,h1,(hr t).mp h2,h3⟩,fun ⟨t,h1,h2,h3⟩ => ⟨t,h1,(hr t).mpr h2,h3⟩⟩
noncomputable def zaZ_ (K:PySem.W.Frag) (C_Hall:Addr):Sp := fun vs H Q _ => ∃ (x dsh:Addr) (G:Geo) (W:Flw.Wh) (sit:Nat → List Nat) (i:Nat) (shL:List Nat),vs = [.ref x,.int i,.ref dsh] ∧ HallS C_Hall H x G ∧ HallD H G W sit ∧ Stg G.seats G.qs G.lim ∧ i < G.seats.length ∧ W i = none ∧ H dsh = some (.dK (dkN (.bl true) shL)) ∧ shL.Nodup ∧ (∀ t ∈ shL,t < G.qs.length) ∧
 ∀ (r pd:Addr) (ps:Psh) (sn:List Nat) (tm:Nat → Nat) (now:Nat) (v:V) (H':Hp),Same H H' → H' r = some (.tup [.ref pd,v]) → H pd = none → PdAt H' pd ps → (ps.map (·.1)).Nodup → Flw.Bfs G.net W (fun t => t ∈ shL) i (fun t => t ∈ sn) (parOf ps) tm now →
  ((v = .non ∧ ∀ y,parOf ps y ≠ none → ∀ s,s ∈ G.net.seats y → s ∈ sn) ∨ ∃ (lt:Addr) (y s:Nat),v = .ref lt ∧ H' lt = some (.tup [.int y,.int s]) ∧ parOf ps y ≠ none ∧ s ∈ G.net.seats y ∧ Flw.room G.net W s ∧ s ∉ sn) → Q (.ref r) H'
theorem zT_:FnScope ["hall","start","shut","seen","pushed","row","seat","slot","other"] ["hall","start","shut"] (defScope zal_) := ⟨rfl,rfl,rfl,by decide +kernel,rfl,by decide +kernel,by decide +kernel⟩
theorem zbI_ {C_Hall:Addr} {f:Addr} {fd:FuncData} (F:Fun K "pushes" "pushes" zal_ f fd) (T:Txt K mg C_Hall) (zah_:CalM P w K mg base C_Hall "has_room" ["self","slot"] 2 (zac_ K C_Hall)) (zai_:Cal P w K mg base "sitting_there" ["hall","slot","seen"] 3 (zad_ K C_Hall)):FnOk P w K mg base CX0 4 f fd ["hall","start","shut"] (zaZ_ K C_Hall) := by
 refine F.ok zT_ (fun vs H Q E h => ?_) (fun cdv A outer s H vs Q E hr h => ?_)
 ·obtain ⟨x,dsh,G,W,sit,i,shL,rfl,_⟩ := h
  rfl
 ·obtain ⟨x,dsh,G,W,sit,i,shL,rfl,S,D,st,hi,h0,hsh,shn,shl,q⟩ := h
  refine ⟨_,(pss_cons (ps_set (i := 3) zT_.nd rfl (Or.inl rfl) (pe_callTy call_copyD (by rfl) T.dict PyProof.Rows.boot_dict (pa_cons (pv 2) pa_nil)))
  (pss_cons (ps_set (i := 4) zT_.nd rfl (Or.inl rfl) (pe_disp (pps_cons (pv 1) pe_non pps_nil) rfl rfl (by simp) (by decide)))
  (pss_cons (ps_set (i := 5) zT_.nd rfl (Or.inl rfl) (pe_lst (pa_cons (pv 1) pa_nil)))
  (pss_cons (ps_while PassesOwn.never (pt_truth (pv 5) (fun _ => rfl))
   (pss_cons (ps_set (i := 6) zT_.nd rfl (Or.inl rfl) (pe_bm PySem.F.plainAttrs_list PySem.F.slot_list_pop PySem.F.type_list_pop mt_popAt (pv 5) (pa_cons pe_int pa_nil)))
    (pss_one (ps_for PassesOwn.never rfl (pi_list (pe_ix ix_list (pe_fld (pv 0) rfl) (pv 6) (fun _ _ => rfl))) (pg_name (i := 7) zT_.nd rfl (Or.inl rfl))
     (pss_one (ps_if (pt_cmp (pc_dnotin (hu_of hr) (pv 7) (pv 3))) (pss_cons (ps_if (pt_val (pe_methC zah_ (hr.mono (by decide)) (pv 0) (pa_cons (pv 7) pa_nil))) (pss_one (ps_ret (pe_tup (pa_cons (pv 4) (pa_cons (pe_tup (pa_cons (pv 6) (pa_cons (pv 7) pa_nil))) pa_nil))))) pss_nil)
       (pss_one (ps_for PassesOwn.never rfl (pi_list (pe_cal zai_ (hr.mono (by decide)) rfl (pa_cons (pv 0) (pa_cons (pv 7) (pa_cons (pv 3) pa_nil))))) (pg_name (i := 8) zT_.nd rfl (Or.inl rfl))
        (pss_cons (ps_dput (hu_of hr) (pv 4) (pv 8) (pe_tup (pa_cons (pv 6) (pa_cons (pv 7) pa_nil))) rfl)
         (pss_one (ps_expr (pe_bm PySem.F.plainAttrs_list PySem.F.slot_list_append PySem.F.type_list_append mt_append (pv 5) (pa_cons (pv 8) pa_nil)))))))) pss_nil))))))
  (pss_one (ps_ret (pe_tup (pa_cons (pv 4) (pa_cons pe_non pa_nil))))))))),?_⟩
  refine seq_of fun U1 u1 => ?_
  walk_at "rd"
  refine ⟨_,.inl hsh,fun d hd => ?_⟩
  have g1 := same_new hd (.dK (dkN (.bl true) shL))
  rw [u1]; clear u1
  refine seq_of fun U1 u1 => ?_
  walk_at "rd"
  intro pd hpd
  have ndp:d ≠ pd := fun z => by rw [← z,upd_same] at hpd; cases hpd
  refine ⟨upd_same,[(Sum.inl (i:Int),.non)],rfl,(by show 1 ≤ 15; decide),?_⟩
  rw [show mergeK [] [((Sum.inl (i:Int):Key),V.non)] = [(Sum.inl (i:Int),V.non)] from rfl,upd_upd]
  have g2 := g1.trans (same_new hpd (.dK [((Sum.inl (i:Int):Key),V.non)]))
  have hpd0:H pd = none := g1.free hpd
  rw [u1]; clear u1
  refine seq_of fun U1 u1 => ?_
  walk_at "rd"
  refine ⟨by decide,fun pr hpr => ?_⟩
  have g3 := g2.trans (same_new hpr (.lst [.int (i:Int)]))
  have hpr0:H pr = none := g2.free hpr
  have nrp:pr ≠ pd := fun z => by rw [z,upd_same] at hpr; cases hpr
  have nrd:pr ≠ d := fun z => by rw [z,upd_ne ndp,upd_same] at hpr; cases hpr
  have dm:d ∉ G.mut := fun z => D.tracked z hd
  have sl := st.sl
  have hV:∀ y t,W y = some t → t < G.net.m ∧ y < G.net.n := fun y t e => ⟨(D.wl y t e).2,(D.wl y t e).1⟩
  obtain ⟨H3,e3⟩:∃ H3,H3 = upd (upd (upd H d (.dK (dkN (.bl true) shL))) pd (.dK [((Sum.inl (i:Int):Key),V.non)])) pr (.lst [.int (i:Int)]) := ⟨_,rfl⟩
  have P3:PuI H G W shL i d pd pr (fun _ => False) H3 shL [(i,none)] [i] := by
   have r0:Paired (PdR H3) [(i,none)] [((Sum.inl (i:Int):Key),V.non)] := .cons ⟨rfl,(show PdV H3 none V.non from rfl)⟩ .nil
   have hp1:∀ y,parOf [(i,none)] y = if y = i then some none else none := fun y => by
    by_cases e:y = i
    ·rw [if_pos e]; exact parOf_pos e.symm
    ·rw [if_neg e]; exact parOf_neg fun z => e z.symm
   refine ⟨by rw [e3]; exact g3,by rw [e3,upd_ne nrd.symm,upd_ne ndp,upd_same],by rw [e3,upd_same]; rfl,⟨_,by rw [e3,upd_ne nrp.symm,upd_same],r0⟩,⟨_,_,Flw.Bfs.ini hi h0 hp1⟩,shn,shl,by simp,Nat.le_refl _,fun y hy => ?_,fun y hy n => ?_⟩
   ·rw [List.mem_singleton.mp hy,hp1,if_pos rfl]; simp
   ·rw [hp1] at hy
    by_cases e:y = i
    ·exact (n (by rw [e]; exact List.mem_cons_self)).elim
    ·rw [if_neg e] at hy; exact (hy rfl).elim
  rw [← e3]
  clear e3 g3 hpr g2 hpd g1
  rw [u1]; clear u1
  refine seq_of fun U1 u1 => while_of fun B1 b1 => ?_
  walk_at "rd"
  refine ⟨fun m σ H' => ∃ (snL:List Nat) (ps:Psh) (rw:List Nat) (v6 v7 v8:Option V),PuI H G W shL i d pd pr (fun _ => False) H' snL ps rw ∧ m = rw.length + (G.seats.length - ps.length) ∧ σ = [some (.ref x),some (.int i),some (.ref dsh),some (.ref d),some (.ref pd),some (.ref pr),v6,v7,v8],⟨_,shL,[(i,none)],[i],none,none,none,P3,rfl,rfl⟩,?_⟩
  rintro m σ H' ⟨snL,ps,rw,v6,v7,v8,P,rfl,rfl⟩
  walk_at "rd"
  refine ⟨_,.inl ⟨_,SqL.of P.er,rfl⟩,?_⟩
  cases rw with
  | nil =>
   rw [if_neg (by simp)]
   rw [u1]; clear u1
   walk_at "rd"
   refine ⟨by decide,fun r hr => ?_⟩
   have gr := same_new hr (.tup [.ref pd,.non])
   obtain ⟨tm,now,B⟩ := P.bf
   exact q r pd ps snL tm now .non _ (P.same.trans gr) upd_same hpd0 (P.pa.keep (fun kvs e => gr _ _ e) fun t xs e => gr _ _ e) P.kn B (.inl ⟨rfl,fun y hy => P.dn y hy (by simp) fun z => z⟩)
  | cons y rest =>
   rw [if_pos (by simp)]
   have hy := P.rp y List.mem_cons_self
   obtain ⟨tm,now,B⟩ := P.bf
   have hyn:y < G.seats.length := B.lt y hy
   have plen := P.len
   obtain ⟨row,hrow⟩:∃ row,G.seats[y]? = some row := ⟨_,List.getElem?_eq_getElem hyn⟩
   obtain ⟨rn,rl,rb⟩ := st.row row (List.mem_of_getElem? hrow)
   refine ⟨fun σ' H2 => ∃ (snL2:List Nat) (ps2:Psh) (rw2:List Nat) (v6 v7 v8:Option V),PuI H G W shL i d pd pr (fun _ => False) H2 snL2 ps2 rw2 ∧ rw2.length + (G.seats.length - ps2.length) = rest.length + (G.seats.length - ps.length) ∧ σ' = [some (.ref x),some (.int i),some (.ref dsh),some (.ref d),some (.ref pd),some (.ref pr),v6,v7,v8],?_,?_⟩
   ·rintro σ' H2 ⟨snL2,ps2,rw2,v6,v7,v8,P2,e2,e3⟩
    exact ⟨_,by rw [List.length_cons]; lia,snL2,ps2,rw2,P2,e2.symm,v6,v7,v8,e3⟩
   rw [b1]
   refine seq_of fun U2 u2 => ?_
   walk_at "rd"
   refine ⟨.inl ⟨rfl,_,SqL.of P.er⟩,_,P.er,by decide,by decide,0,?_,.int (y:Int),rfl,?_⟩
   ·unfold seqIndex?
    simp
   have e4:((((y :: rest).map fun y:Nat => (y:Int)).map V.int).eraseIdx 0) = (rest.map fun y:Nat => (y:Int)).map V.int := rfl
   rw [e4]
   obtain ⟨H4,eH4⟩:∃ H4,H4 = upd H' pr (.lst ((rest.map fun y:Nat => (y:Int)).map V.int)) := ⟨_,rfl⟩
   rw [← eH4]
   have P4:PuI H G W shL i d pd pr (fun z => z = y) H4 snL ps rest := by
    refine ⟨by rw [eH4]; exact same_upd hpr0 P.same _,by rw [eH4,upd_ne nrd.symm]; exact P.ed,by rw [eH4,upd_same],P.pa.keep (fun kvs e => by rw [eH4,upd_ne nrp.symm]; exact e) (fun t xs e => ?_),⟨tm,now,B⟩,P.nd,P.lt,P.kn,(by have := P.rl; rw [List.length_cons] at this; lia),fun z hz => P.rp z (List.mem_cons_of_mem _ hz),fun z hz n1 n2 => P.dn z hz (fun w => (List.mem_cons.mp w).elim n2 n1) fun w => w⟩
    have ne:t ≠ pr := fun z => by rw [z,P.er] at e; cases e
    rw [eH4,upd_ne ne]
    exact e
   clear eH4 e4
   obtain ⟨tr,e1,htr⟩ := S.r1.get hrow
   have S4 := S.mono P4.same
   obtain ⟨dx4,hi4⟩ := S4.ins
   rw [u2]; clear u2
   refine for_of fun B2 b2 => ?_
   walk_at "rd"
   refine ⟨_,_,_,hi4,T.cl_Hall,T.n_Hall_seats,_,hf_seats _ _ _ _ _ _ _,_,rfl,_,SqL.of S4.s1,_,atI_nat e1,tr,rfl,⟨_,SqL.of (P4.same _ _ htr)⟩,for_listW (xs := row.map V.int) (fun j σ H2 => ∃ (snL2:List Nat) (ps2:Psh) (rw2:List Nat) (v7 v8:Option V),PuI H G W shL i d pd pr (fun z => z = y) H2 snL2 ps2 rw2 ∧ rw2.length + (G.seats.length - ps2.length) = rest.length + (G.seats.length - ps.length) ∧ parOf ps2 y ≠ none ∧ (∀ z ∈ row.take j,z.toNat ∈ snL2) ∧ σ = [some (.ref x),some (.int i),some (.ref dsh),some (.ref d),some (.ref pd),some (.ref pr),some (.int (y:Int)),v7,v8])
    ⟨snL,ps,rest,v7,v8,P4,rfl,hy,(fun z hz => by simp at hz),rfl⟩ (fun j σ H2 _ ⟨_,_,_,_,_,P2,_⟩ => SqL.of (P2.same _ _ htr)) ?_ ?_⟩
   ·rintro j v σ H2 hx ⟨snL2,ps2,rw2,v7,v8,P2,em,hy2,hsn,rfl⟩
    rw [List.getElem?_map] at hx
    obtain ⟨z,hz,rfl⟩ := Option.map_eq_some_iff.mp hx
    obtain ⟨z0,z1⟩ := rb z (List.mem_of_getElem? hz)
    obtain ⟨s,rfl⟩:∃ s:Nat,z = (s:Int) := ⟨z.toNat,by lia⟩
    have hsm:s < G.qs.length := by lia
    have hss:s ∈ G.net.seats y := by
     rw [seats_of hrow]
     exact List.mem_map.mpr ⟨_,List.mem_of_getElem? hz,rfl⟩
    have et:row.take (j + 1) = row.take j ++ [(s:Int)] := by rw [List.take_add_one,hz]; rfl
    have S2 := S.mono P2.same
    have D2 := D.mono P2.same
    obtain ⟨dx2,hi2⟩ := S2.ins
    rw [b2]
    walk_at "rd"
    refine ⟨_,DGet.k (k := Sum.inl (s:Int)) P2.ed,?_⟩
    rw [dkN_val]
    by_cases hsn2:s ∈ snL2
    ·rw [if_pos hsn2,if_neg (fun z => (nomatch z))]
     refine ⟨snL2,ps2,rw2,P2,em,hy2,fun z hz => ?_⟩
     rw [et] at hz
     rcases List.mem_append.mp hz with w | w
     ·exact hsn z w
     ·rw [List.mem_singleton.mp w]; exact hsn2
    rw [if_neg hsn2,if_pos (show (none:Option V).isSome = false from rfl)]
    refine ⟨_,_,hi2,hf_no _ _ _ _ _ _ _ (.inr (.inr (.inl rfl))),x,G,W,sit,s,rfl,S2,D2,hsm,st,fun b hb => ⟨b,rfl,?_⟩⟩
    obtain ⟨tm2,now2,B2'⟩ := P2.bf
    split
    ·rename_i hbt
     refine ⟨by decide,fun lt hlt => ⟨by decide,fun r hr => ?_⟩⟩
     have ga := same_new hlt (.tup [.int (y:Int),.int (s:Int)])
     have gb := ga.trans (same_new hr (.tup [.ref pd,.ref lt]))
     exact q r pd ps2 snL2 tm2 now2 (.ref lt) _ (P2.same.trans gb) upd_same hpd0 (P2.pa.keep (fun kvs e => gb _ _ e) fun t xs e => gb _ _ e) P2.kn B2' (.inr ⟨lt,y,s,rfl,(same_new hr _) _ _ upd_same,hy2,hss,hb.mp hbt,hsn2⟩)
    ·rename_i hbf
     have nr:¬ Flw.room G.net W s := fun z => hbf (hb.mpr z)
     refine ⟨x,d,G,W,sit,s,snL2,rfl,S2,D2,hsm,st,P2.ed,dm,P2.nd,P2.lt,fun p fl sn' H5 k hp npd ef ed5 nd' lt' hsn' ndf hfl => ⟨p,rfl,⟨_,SqL.of ef⟩,?_⟩⟩
     have fresh:∀ z ∈ fl,parOf ps2 z = none := fun z hz => Classical.byContradiction fun w => B2'.old h0 w ((hfl z).mp hz)
     have npd5:pd ≠ d := ndp.symm
     have P5:PdAt H5 pd ps2 := P2.pa.keep (fun kvs e => k _ _ e npd5) fun t xs e => k _ _ e fun z => by rw [z,P2.ed] at e; cases e
     have er5:H5 pr = some (.lst ((rw2.map fun y:Nat => (y:Int)).map V.int)) := k _ _ P2.er nrd
     have npp:p ≠ pd := fun z => by obtain ⟨kvs,e,_⟩ := P2.pa.ex; rw [z,e] at hp; cases hp
     have npr:p ≠ pr := fun z => by rw [z,P2.er] at hp; cases hp
     have flen:fl.length ≤ G.seats.length := nodup_le ndf fun z hz => by
      obtain ⟨t,e,_⟩ := (hfl z).mp hz
      exact (D.wl z t e).1
     have rlen := P2.rl
     have p2len := P2.len
     refine for_listW (xs := (fl.map fun y:Nat => (y:Int)).map V.int) (fun a σ H6 => ∃ (v8:Option V),(∀ c o,H5 c = some o → c ≠ pd → c ≠ pr → H6 c = some o) ∧ PdAt H6 pd (ps2 ++ newP (y,s) (fl.take a)) ∧ H6 pr = some (.lst (((rw2 ++ fl.take a).map fun y:Nat => (y:Int)).map V.int)) ∧ σ = [some (.ref x),some (.int i),some (.ref dsh),some (.ref d),some (.ref pd),some (.ref pr),some (.int (y:Int)),some (.int (s:Int)),v8])
      ⟨v8,fun _ _ e _ _ => e,by simpa [newP] using P5,by simpa using er5,rfl⟩ (fun a σ H6 _ ⟨_,kk,_⟩ => SqL.of (kk _ _ ef npp npr)) ?_ ?_
     ·rintro a w σ H6 hw ⟨v8,kk,P6,er6,rfl⟩
      rw [List.getElem?_map,List.getElem?_map] at hw
      obtain ⟨u,hu,rfl⟩ := Option.map_eq_some_iff.mp hw
      obtain ⟨z,hz,rfl⟩ := Option.map_eq_some_iff.mp hu
      have ef':fl.take (a + 1) = fl.take a ++ [z] := by rw [List.take_add_one,hz]; rfl
      have ndt:(fl.take (a + 1)).Nodup := ndf.sublist (List.take_sublist _ _)
      rw [ef'] at ndt
      have hnz:parOf (ps2 ++ newP (y,s) (fl.take a)) z = none := by
       rw [parOf_app (y,s) z (fl.take a) ps2 (ndf.sublist (List.take_sublist _ _)) fun c hc => fresh c (List.mem_of_mem_take hc),if_neg fun c => ?_]
       ·exact fresh z (List.mem_of_getElem? hz)
       ·exact (List.nodup_append.mp ndt).2.2 z c z List.mem_cons_self rfl
      walk_at "rd"
      refine ⟨by decide,fun t ht => ?_⟩
      have gt := same_new ht (.tup [.int (y:Int),.int (s:Int)])
      obtain ⟨H7,h1,h2,h3,h4⟩ := P6.put (q := (y,s)) hnz (fun t xs e => gt _ _ e) (fun kvs e => gt _ _ e) upd_same (by rw [List.length_append,newP_len,List.length_take]; omega)
      have e7:H7 pr = some (.lst (((rw2 ++ fl.take a).map fun y:Nat => (y:Int)).map V.int)) := h3 _ _ (gt _ _ er6) nrp
      refine ⟨H7,h1,.inl ⟨rfl,_,SqL.of e7⟩,_,e7,small1000 (by simp only [List.length_map,List.length_append,List.length_take]; lia),fun c o e n1 n2 => ?_,?_,?_⟩
      ·rw [upd_ne n2]
       exact h3 _ _ (gt _ _ (kk c o e n1 n2)) n1
      ·rw [ef',newP_snoc,← List.append_assoc]
       refine h2.keep (fun kvs e => by rw [upd_ne nrp.symm]; exact e) fun t' xs e => ?_
       have ne:t' ≠ pr := fun c => by rw [c,e7] at e; cases e
       rw [upd_ne ne]
       exact e
      ·rw [upd_same,ef',← List.append_assoc,List.map_append (l₂ := [z]),List.map_append (l₂ := List.map _ [z])]
       rfl
     ·rintro σ H6 ⟨v8,kk,P6,er6,rfl⟩
      rw [List.length_map,List.length_map,List.take_length] at P6 er6
      have hpar:∀ c,parOf (ps2 ++ newP (y,s) fl) c = if c ∈ fl then some (some (y,s)) else parOf ps2 c := fun c => parOf_app (y,s) c fl ps2 ndf fresh
      obtain ⟨tm6,B6⟩ := B2'.step (seen' := fun t => t ∈ sn') (par' := parOf (ps2 ++ newP (y,s) fl)) h0 hV hy2 hss hsm hsn2 nr hsn' (fun c hc => by rw [hpar c,if_pos ((hfl c).mpr hc)]) fun c hc => by rw [hpar c,if_neg fun w => hc ((hfl c).mp w)]
      have up:∀ c,parOf ps2 c ≠ none → parOf (ps2 ++ newP (y,s) fl) c ≠ none := fun c hc => by
       rw [hpar c]
       split
       ·simp
       ·exact hc
      have seen2:∀ c,c ∈ snL2 → c ∈ sn' := fun c hc => (hsn' c).mpr (.inl hc)
      have hs':s ∈ sn' := (hsn' s).mpr (.inr (by
       by_cases hf:Flw.full G.net W s
       ·exact .inl ⟨hf,rfl⟩
       ·exact .inr ⟨hf,hsm,rfl⟩))
      have kn6:((ps2 ++ newP (y,s) fl).map (·.1)).Nodup := by
       rw [List.map_append,newP_keys,List.nodup_append]
       exact ⟨P2.kn,ndf,fun a ha b hb e => parOf_none.mp (fresh b hb) (e ▸ ha)⟩
      have P6':PuI H G W shL i d pd pr (fun z => z = y) H6 sn' (ps2 ++ newP (y,s) fl) (rw2 ++ fl) := by
       refine ⟨fun c o e => ?_,kk _ _ ed5 ndp nrd.symm,er6,P6,⟨tm6,_,B6⟩,nd',lt',kn6,?_,fun c hc => ?_,fun c hc n1 n2 u hu => ?_⟩
       ·have e2 := P2.same c o e
        have n1:c ≠ pd := ne_of_none e hpd0
        have n2:c ≠ pr := ne_of_none e hpr0
        have n3:c ≠ d := ne_of_none e hd
        exact kk c o (k c o e2 n3) n1 n2
       ·rw [List.length_append,List.length_append,newP_len]
        have := P2.rl
        lia
       ·rcases List.mem_append.mp hc with w | w
        ·exact up c (P2.rp c w)
        ·rw [hpar c,if_pos w]; simp
       ·have hcf:c ∉ fl := fun w => n1 (List.mem_append_right _ w)
        rw [hpar c,if_neg hcf] at hc
        exact seen2 u (P2.dn c hc (fun w => n1 (List.mem_append_left _ w)) n2 u hu)
      have l6 := P6'.len
      rw [List.length_append,newP_len] at l6
      refine ⟨sn',ps2 ++ newP (y,s) fl,rw2 ++ fl,P6',?_,up y hy2,fun z hz => ?_,_,_,rfl⟩
      ·rw [List.length_append,List.length_append,newP_len,← em]
       lia
      ·rw [et] at hz
       rcases List.mem_append.mp hz with w | w
       ·exact seen2 _ (hsn z w)
       ·rw [List.mem_singleton.mp w]; exact hs'
   ·rintro σ H2 ⟨snL2,ps2,rw2,v7,v8,P2,em,hy2,hsn,rfl⟩
    rw [List.length_map,List.take_length] at hsn
    refine ⟨snL2,ps2,rw2,⟨P2.same,P2.ed,P2.er,P2.pa,P2.bf,P2.nd,P2.lt,P2.kn,P2.rl,P2.rp,fun c hc n1 _ u hu => ?_⟩,em,_,_,_,rfl⟩
    by_cases e:c = y
    ·subst e
     rw [seats_of hrow] at hu
     obtain ⟨z,hz,rfl⟩ := List.mem_map.mp hu
     exact hsn z hz
    ·exact P2.dn c hc n1 e u hu
noncomputable def zba_ (K:PySem.W.Frag) (C_Hall:Addr):Sp := fun vs H Q _ => ∃ (x pd lt:Addr) (G:Geo) (W:Flw.Wh) (sit:Nat → List Nat) (ps:Psh) (y s:Nat) (c:List (Nat × Nat)),vs = [.ref x,.ref pd,.ref lt] ∧ HallS C_Hall H x G ∧ HallD H G W sit ∧ Stg G.seats G.qs G.lim ∧ PdAt H pd ps ∧ pd ∉ G.mut ∧ H lt = some (.tup [.int y,.int s]) ∧ Flw.Ch (parOf ps) y c ∧ (∀ p ∈ (y,s) :: c,p.1 < G.seats.length ∧ p.2 < G.qs.length) ∧
 ∀ (sit':Nat → List Nat) (H':Hp),Fm G H H' → HallS C_Hall H' x G → HallD H' G (Flw.moves W ((y,s) :: c)) sit' → Q .non H'
theorem zbb_:FnScope ["hall","pushed","last","step"] ["hall","pushed","last"] (defScope zam_) := ⟨rfl,rfl,rfl,by decide +kernel,rfl,by decide +kernel,by decide +kernel⟩
theorem zbJ_ {C_Hall:Addr} {f:Addr} {fd:FuncData} (F:Fun K "change" "change" zam_ f fd) (T:Txt K mg C_Hall) (zM_:CalM P w K mg base C_Hall "move" ["self","seat","slot"] 1 (zag_ K C_Hall)):FnOk P w K mg base CX0 2 f fd ["hall","pushed","last"] (zba_ K C_Hall) := by
 refine F.ok zbb_ (fun vs H Q E h => ?_) (fun cdv A outer s H vs Q E hr h => ?_)
 ·obtain ⟨x,pd,lt,G,W,sit,ps,y,s,c,rfl,_⟩ := h
  rfl
 ·obtain ⟨x,pd,lt,G,W,sit,ps,y,s,c,rfl,S,D,st,P,pm,hl,hc,hb,q⟩ := h
  refine ⟨_,(pss_cons (ps_set (i := 3) zbb_.nd rfl (Or.inl rfl) (pv 2))
  (pss_one (ps_while PassesOwn.never (pt_cmpR op_notN (pv 3) pe_non (nomark _))
   (pss_cons (ps_expr (pe_methC zM_ (hr.mono (by decide)) (pv 0) (pa_cons (pe_ix ix_tup (pv 3) pe_int (fun _ _ => rfl)) (pa_cons (pe_ix ix_tup (pv 3) pe_int (fun _ _ => rfl)) pa_nil))))
    (pss_one (ps_set (i := 3) zbb_.nd rfl (Or.inl rfl) (pe_dget (hu_of hr) (pv 1) (pe_ix ix_tup (pv 3) pe_int (fun _ _ => rfl)) (fun _ _ => rfl)))))))),?_⟩
  refine seq_of fun U1 u1 => ?_
  walk_at "rd"
  rw [u1]; clear u1
  walk_at "rd"
  refine ⟨fun m σ H' => ∃ (W':Flw.Wh) (sit':Nat → List Nat) (r:List (Nat × Nat)) (v:V),Fm G H H' ∧ HallS C_Hall H' x G ∧ HallD H' G W' sit' ∧ PdAt H' pd ps ∧ (∀ p ∈ r,p.1 < G.seats.length ∧ p.2 < G.qs.length) ∧ Flw.moves W' r = Flw.moves W ((y,s) :: c) ∧ m = r.length ∧ σ = [some (.ref x),some (.ref pd),some (.ref lt),some v] ∧
   StepV H' ps r v,⟨_,W,sit,(y,s) :: c,.ref lt,.refl,S,D,P,hb,rfl,rfl,rfl,lt,rfl,hl,hc⟩,?_⟩
  rintro m σ H' ⟨W',sit',r,v,F',S',D',P',hb',em,rfl,rfl,hv⟩
  walk_at "rd"
  cases r with
  | nil =>
   have hv:v = .non := hv
   rw [if_neg (fun z => z hv)]
   rw [← em] at q
   exact q _ _ F' S' D'
  | cons p r' =>
   obtain ⟨a,b⟩ := p
   obtain ⟨t,rfl,ht,hch⟩ := hv
   obtain ⟨ha,hbb⟩ := hb' _ List.mem_cons_self
   obtain ⟨dx,hi⟩ := S'.ins
   rw [if_pos (fun z => (nomatch z))]
   refine ⟨fun σ' H2 => ∃ (W2:Flw.Wh) (sit2:Nat → List Nat) (v2:V),Fm G H H2 ∧ HallS C_Hall H2 x G ∧ HallD H2 G W2 sit2 ∧ PdAt H2 pd ps ∧ Flw.moves W2 r' = Flw.moves W ((y,s) :: c) ∧ σ' = [some (.ref x),some (.ref pd),some (.ref lt),some v2] ∧
    StepV H2 ps r' v2,?_,?_⟩
   ·rintro σ' H2 ⟨W2,sit2,v2,f1,f2,f3,f4,f5,f6,f7⟩
    exact ⟨r'.length,Nat.lt_succ_self _,f1,f2,W2,sit2,f3,f4,r',fun p hp => hb' p (List.mem_cons_of_mem _ hp),f5,rfl,v2,f6,f7⟩
   ·refine ⟨_,_,hi,hf_no _ _ _ _ _ _ _ (.inl rfl),t,rfl,_,SqT.of ht,.int (a:Int),rfl,t,rfl,_,SqT.of ht,.int (b:Int),rfl,x,G,W',sit',a,b,rfl,S',D',ha,hbb,st,fun sit2 H2 F2 S2 D2 => ?_⟩
    have kt:∀ t xs,H' t = some (.tup xs) → H2 t = some (.tup xs) := fun t xs h => F2.keep _ _ h (D'.nt h)
    have P2 := P'.keep (fun kvs h => F2.keep _ _ h pm) kt
    obtain ⟨kvs,ek,rk⟩ := P2.ex
    refine ⟨t,rfl,_,SqT.of (kt _ _ ht),.int (a:Int),rfl,?_⟩
    cases hch with
    | nil e =>
     obtain ⟨v2,h1,h2⟩ := (pd_val rk).2 _ e
     have h2:v2 = .non := h2
     refine ⟨v2,?_,_,sit2,v2,F'.trans F2,S2,D2,P2,em,rfl,h2⟩
     rw [← h1]
     exact DGet.k (k := Sum.inl (a:Int)) ek
    | @cons _ u c' e hc' =>
     obtain ⟨v2,h1,t2,h2,h3⟩ := (pd_val rk).2 _ e
     refine ⟨v2,?_,_,sit2,v2,F'.trans F2,S2,D2,P2,em,rfl,t2,h2,h3,hc'⟩
     rw [← h1]
     exact DGet.k (k := Sum.inl (a:Int)) ek
noncomputable def zaN_ (K:PySem.W.Frag) (C_Hall:Addr):Sp := fun vs H Q _ => ∃ (sa pd:Addr) (us:List V) (seats:List (List Int)) (qs:List (Int × Int)) (lim:List Int) (ps:Psh),vs = [.ref sa,.ref pd] ∧ H sa = some (.lst us) ∧ Rows H us seats ∧ PdAt H pd ps ∧ Stg seats qs lim ∧ (∀ p ∈ ps,p.1 < seats.length) ∧
 ∀ (d:Addr) (ls:List Nat) (H':Hp),Same H H' → H d = none → H' d = some (.dK (dkN (.bl true) ls)) → ls.Nodup → (∀ t ∈ ls,t < qs.length) → (∀ t,t ∈ ls ↔ ∃ y,parOf ps y ≠ none ∧ t ∈ (netOf seats qs lim).seats y) → Q (.ref d) H'
theorem zas_:FnScope ["seats","some","slots","seat","slot"] ["seats","some"] (defScope zV_) := ⟨rfl,rfl,rfl,by decide +kernel,rfl,by decide +kernel,by decide +kernel⟩
theorem zbE_ {C_Hall:Addr} {f:Addr} {fd:FuncData} (F:Fun K "slots_of" "slots_of" zV_ f fd) (T:Txt K mg C_Hall) :FnOk P w K mg base CX0 1 f fd ["seats","some"] (zaN_ K C_Hall) := by
 refine F.ok zas_ (fun vs H Q E h => ?_) (fun cdv A outer s H vs Q E hr h => ?_)
 ·obtain ⟨sa,pd,us,seats,qs,lim,ps,rfl,_⟩ := h
  rfl
 ·obtain ⟨sa,pd,us,seats,qs,lim,ps,rfl,hs,hR,P,st,hp,q⟩ := h
  refine ⟨_,(pss_cons (ps_set (i := 2) zas_.nd rfl (Or.inl rfl) pe_dnewK)
  (pss_cons (ps_for PassesOwn.never rfl (pi_dictK (pv 1)) (pg_name (i := 3) zas_.nd rfl (Or.inl rfl))
   (pss_one (ps_for PassesOwn.never rfl (pi_list (pe_ix ix_list (pv 0) (pv 3) (fun _ _ => rfl))) (pg_name (i := 4) zas_.nd rfl (Or.inl rfl))
     (pss_one (ps_dput (hu_of hr) (pv 2) (pv 4) pe_bl rfl)))))
  (pss_thawK (pss_one (ps_ret (pv 2)))))),?_⟩
  obtain ⟨kvs,ek,rk⟩ := P.ex
  have klen := Paired.length rk
  have nsp:sa ≠ pd := fun z => by rw [z,ek] at hs; cases hs
  refine seq_of fun U1 u1 => ?_
  walk_at "rd"
  intro d hd
  have g0 := same_new hd (.dK [])
  have ndp:pd ≠ d := fun z => by rw [z,hd] at ek; cases ek
  rw [u1]; clear u1
  refine seq_of fun U1 u1 => for_of fun B1 b1 => ?_
  walk_at "rd"
  refine ⟨_,g0 _ _ ek,fun ob => for_dictK (fun a σ H' => ∃ (ls:List Nat) (v3 v4:Option V),(∀ c o,H c = some o → c ≠ pd → H' c = some o) ∧ H' pd = some (.frz ob (.dK kvs)) ∧ H' d = some (.dK (dkN (.bl true) ls)) ∧ ls.Nodup ∧ (∀ t ∈ ls,t < qs.length) ∧ (∀ t,t ∈ ls ↔ ∃ p ∈ ps.take a,t ∈ (netOf seats qs lim).seats p.1) ∧ σ = [some (.ref sa),some (.ref pd),some (.ref d),v3,v4])
   ⟨[],none,none,fun c o e n => by rw [upd_ne n]; exact g0 _ _ e,upd_same,by rw [upd_ne ndp.symm]; exact upd_same,List.nodup_nil,(fun t z => by cases z),(fun t => by simp),rfl⟩ (fun a σ H' _ ⟨_,_,_,_,e,_⟩ => e) ?_ ?_⟩
  ·rintro a k v σ H' hk ⟨ls,v3,v4,kk,ef,ed,nd,lt,hls,rfl⟩
   obtain ⟨p,hpa,hkv,_⟩ := Paired.getR rk hk
   have hkv:k = Sum.inl (p.1:Int) := hkv
   subst hkv
   have hp1 := hp p (List.mem_of_getElem? hpa)
   obtain ⟨row,hrow⟩:∃ row,seats[p.1]? = some row := ⟨_,List.getElem?_eq_getElem hp1⟩
   obtain ⟨rn,rl,rb⟩ := st.row row (List.mem_of_getElem? hrow)
   obtain ⟨tr,e1,htr⟩ := hR.get hrow
   have ntr:tr ≠ pd := fun z => by rw [z,ek] at htr; cases htr
   have et:ps.take (a + 1) = ps.take a ++ [p] := by rw [List.take_add_one,hpa]; rfl
   have eN:(netOf seats qs lim).seats p.1 = row.map Int.toNat := by
    show (seats[p.1]?.getD []).map Int.toNat = _
    rw [hrow]
    rfl
   rw [b1]
   refine for_of fun B2 b2 => ?_
   walk_at "rd"
   refine ⟨_,(p.1:Int),rfl,SqL.of (kk _ _ hs nsp),_,atI_nat e1,tr,rfl,⟨_,SqL.of (kk _ _ htr ntr)⟩,for_listW (xs := row.map V.int) (fun j σ H2 => ∃ (ls2:List Nat) (v4:Option V),(∀ c o,H c = some o → c ≠ pd → H2 c = some o) ∧ H2 pd = some (.frz ob (.dK kvs)) ∧ H2 d = some (.dK (dkN (.bl true) ls2)) ∧ ls2.Nodup ∧ (∀ t ∈ ls2,t < qs.length) ∧ (∀ t,t ∈ ls2 ↔ (t ∈ ls ∨ t ∈ (row.take j).map Int.toNat)) ∧ σ = [some (.ref sa),some (.ref pd),some (.ref d),some (kV (Sum.inl (p.1:Int))),v4])
    ⟨ls,v4,kk,ef,ed,nd,lt,(fun t => by simp),rfl⟩ (fun j σ H2 _ ⟨_,_,k2,_⟩ => SqL.of (k2 _ _ htr ntr)) ?_ ?_⟩
   ·rintro j v σ H2 hx ⟨ls2,v4,k2,ef2,ed2,nd2,lt2,hls2,rfl⟩
    rw [List.getElem?_map] at hx
    obtain ⟨z,hz,rfl⟩ := Option.map_eq_some_iff.mp hx
    obtain ⟨z0,z1⟩ := rb z (List.mem_of_getElem? hz)
    obtain ⟨s,rfl⟩:∃ s:Nat,z = (s:Int) := ⟨z.toNat,by lia⟩
    have hsm:s < qs.length := by lia
    have ez:row.take (j + 1) = row.take j ++ [(s:Int)] := by rw [List.take_add_one,hz]; rfl
    have ql := st.ql
    have l2 := nodup_le nd2 lt2
    rw [b2]
    walk_at "rd"
    refine ⟨_,DPut.k (k := Sum.inl (s:Int)) ed2 (small1000 (by rw [dkN_len]; lia)),fun c o e n => ?_,?_,(if s ∈ ls2 then ls2 else ls2 ++ [s]),?_,nodup_add nd2,fun t ht => ?_,fun t => ?_⟩
    ·rw [upd_ne (ne_of_none e hd)]
     exact k2 c o e n
    ·rw [upd_ne ndp]
     exact ef2
    ·rw [upd_same,dkN_put']
    ·rcases mem_add.mp ht with w | w
     ·exact lt2 t w
     ·rw [w]; exact hsm
    ·rw [mem_add,hls2 t,ez,List.map_append,List.mem_append,or_assoc]
     simp
   ·rintro σ H2 ⟨ls2,v4,k2,ef2,ed2,nd2,lt2,hls2,rfl⟩
    rw [List.length_map,List.take_length] at hls2
    refine ⟨k2,ef2,ls2,ed2,nd2,lt2,fun t => ?_,_,_,rfl⟩
    rw [hls2 t,hls t,et,← eN]
    constructor
    ·rintro (⟨p',h1,h2⟩ | w)
     ·exact ⟨p',List.mem_append_left _ h1,h2⟩
     ·exact ⟨p,List.mem_append_right _ List.mem_cons_self,w⟩
    ·rintro ⟨p',h1,h2⟩
     rcases List.mem_append.mp h1 with w | w
     ·exact .inl ⟨p',w,h2⟩
     ·rw [List.mem_singleton.mp w] at h2
      exact .inr h2
  rintro σ H1 ⟨ls,v3,v4,kk,ef,ed,nd,lt,hls,rfl⟩
  rw [← klen,List.take_length] at hls
  rw [u1]; clear u1
  walk_at "rd"
  refine ⟨pd,_,kvs,ef,(fun o u z => by rw [ek] at z; cases z),q d ls _ (fun c o e => ?_) hd (by rw [upd_ne ndp.symm]; exact ed) nd lt fun t => ?_⟩
  ·by_cases n:c = pd
   ·subst n
    rw [upd_same,← e,ek]
   ·rw [upd_ne n]
    exact kk c o e n
  ·rw [hls t]
   constructor
   ·rintro ⟨p,h1,h2⟩
    exact ⟨p.1,fun z => parOf_none.mp z (List.mem_map.mpr ⟨p,h1,rfl⟩),h2⟩
   ·rintro ⟨y,h1,h2⟩
    have:y ∈ ps.map (·.1) := Classical.byContradiction fun z => h1 (parOf_none.mpr z)
    obtain ⟨p,hpm,rfl⟩ := List.mem_map.mp this
    exact ⟨p,hpm,h2⟩
noncomputable def zbc_ (K:PySem.W.Frag) (C_Hall:Addr):Sp := fun vs H Q _ => ∃ (a1 a2 a3:Addr) (us ts:List V) (seats:List (List Int)) (qs:List (Int × Int)) (lim:List Int),vs = [.ref a1,.ref a2,.ref a3] ∧ H a1 = some (.lst us) ∧ Rows H us seats ∧ H a2 = some (.lst ts) ∧ Cells H ts qs ∧ H a3 = some (.lst (lim.map V.int)) ∧ Stg seats qs lim ∧ (∀ q ∈ qs,0 ≤ q.2) ∧ (∀ l ∈ lim,0 ≤ l) ∧
 ∀ (r wa sa:Addr) (W:Flw.Wh) (shut:Nat → Prop) (L:List Nat) (H':Hp),Same H H' → H' r = some (.tup [.ref wa,.ref sa]) → H wa = none → H sa = none → wa ≠ sa → H' wa = some (.lst (whL seats.length W)) → H' sa = some (.lst ((L.map fun y:Nat => (y:Int)).map V.int)) → L.Pairwise (· < ·) →
  Flw.Valid (netOf seats qs lim) W → Flw.Cut (netOf seats qs lim) W (fun x => decide (x ∈ L) = true) shut seats.length → (∀ y s,W y = some s → y < seats.length ∧ s < qs.length) → Q (.ref r) H'
theorem zaf_:FnScope ["seats","slots","caps","hall","shut","short","seat","found"] ["seats","slots","caps"] (defScope zan_) := ⟨rfl,rfl,rfl,by decide +kernel,rfl,by decide +kernel,by decide +kernel⟩
theorem zbK_ {C_Hall:Addr} {f:Addr} {fd:FuncData} (F:Fun K "filled" "filled" zan_ f fd) (T:Txt K mg C_Hall) (I_Hall:CalI P w K mg base "Hall" C_Hall ["self","seats","slots","caps","where"] 2 (zab_ K C_Hall)) (zbg_:Cal P w K mg base "pushes" ["hall","start","shut"] 4 (zaZ_ K C_Hall)) (zbh_:Cal P w K mg base "change" ["hall","pushed","last"] 2 (zba_ K C_Hall)) (zaR_:Cal P w K mg base "slots_of" ["seats","some"] 1 (zaN_ K C_Hall)):FnOk P w K mg base CX0 5 f fd ["seats","slots","caps"] (zbc_ K C_Hall) := by
 refine F.ok zaf_ (fun vs H Q E h => ?_) (fun cdv A outer s H vs Q E hr h => ?_)
 ·obtain ⟨a1,a2,a3,us,ts,seats,qs,lim,rfl,_⟩ := h
  rfl
 ·obtain ⟨a1,a2,a3,us,ts,seats,qs,lim,rfl,h1,r1,h2,r2,h3,st,hc,hl,q⟩ := h
  refine ⟨_,(pss_cons (ps_set (i := 3) zaf_.nd rfl (Or.inl rfl) (pe_makeC I_Hall (hr.mono (by decide)) rfl (pa_cons (pv 0) (pa_cons (pv 1) (pa_cons (pv 2) (pa_cons (pe_lst pa_nil) pa_nil))))))
  (pss_cons (ps_set (i := 4) zaf_.nd rfl (Or.inl rfl) pe_dnewK)
  (pss_cons (ps_set (i := 5) zaf_.nd rfl (Or.inl rfl) pe_dnewK)
  (pss_cons (ps_for PassesOwn.never rfl (pi_range1 rfl T.range (pa_cons (pe_callB (call_lenK (K := K) rfl) (by rfl) T.len PySem.boot_len (pa_cons (pv 0) pa_nil)) pa_nil)) (pg_name (i := 6) zaf_.nd rfl (Or.inl rfl))
   (pss_cons (ps_set (i := 7) zaf_.nd rfl (Or.inl rfl) (pe_cal zbg_ (hr.mono (by decide)) rfl (pa_cons (pv 3) (pa_cons (pv 6) (pa_cons (pv 4) pa_nil)))))
    (pss_one (ps_if (pt_cmpR op_isN (pe_ix ix_tup (pv 7) pe_int (fun _ _ => rfl)) pe_non (nomark _)) (pss_cons (ps_expr (pe_bm PySem.F.plainAttrs_dict PySem.F.slot_dict_update PySem.F.type_dict_update mt_dupdate (pv 5) (pa_cons (pe_ix ix_tup (pv 7) pe_int (fun _ _ => rfl)) pa_nil)))
     (pss_one (ps_expr (pe_bm PySem.F.plainAttrs_dict PySem.F.slot_dict_update PySem.F.type_dict_update mt_dupdate (pv 4) (pa_cons (pe_cal zaR_ (hr.mono (by decide)) rfl (pa_cons (pv 0) (pa_cons (pe_ix ix_tup (pv 7) pe_int (fun _ _ => rfl)) pa_nil))) pa_nil))))) (pss_one (ps_expr (pe_cal zbh_ (hr.mono (by decide)) rfl (pa_cons (pv 3) (pa_cons (pe_ix ix_tup (pv 7) pe_int (fun _ _ => rfl)) (pa_cons (pe_ix ix_tup (pv 7) pe_int (fun _ _ => rfl)) pa_nil))))))))))
  (pss_one (ps_ret (pe_tup (pa_cons (pe_fld (pv 3) rfl) (pa_cons (pe_callB (call_sortD rfl) (by rfl) T.sorted PyProof.Rows.boot_sorted (pa_cons (pv 5) pa_nil)) pa_nil))))))))),?_⟩
  have sl := st.sl
  have ql := st.ql
  have ul := r1.len
  have O := net_ok st
  refine seq_of fun U1 u1 => ?_
  walk_at "rd"
  refine ⟨Nat.zero_le _,fun wl hwl => ?_⟩
  intro x dx hx hdx nx
  have g1 := same_new hwl (.lst [])
  have g2 := g1.trans (same_new hdx (.own x))
  have hx':upd (upd H wl (.lst [])) dx (.own x) x = none := by rw [upd_ne nx.symm]; exact hx
  have g3 := g2.trans (same_new hx' (.ins C_Hall dx []))
  refine ⟨x,dx,a1,a2,a3,wl,us,ts,seats,qs,lim,0,fun _ => none,rfl,upd_same,g3 _ _ h1,r1.mono g3,g3 _ _ h2,r2.mono g3,g3 _ _ h3,st,?_,Nat.zero_le _,(fun y s e => by cases e),fun G sit H1 eS eQ eL k S D mz => ⟨rfl,?_⟩⟩
  ·exact (same_new hx' _) _ _ ((same_new hdx _) _ _ upd_same)
  have gH:Same H H1 := fun c o e => k c o (g3 c o e) fun z => by rw [z,g2.free hx'] at e; cases e
  have mH:∀ c ∈ G.mut,H c = none := fun c hc => g3.free (mz c hc)
  clear g3 g2 g1 k mz hx hx' hwl hdx
  rw [u1]; clear u1
  refine seq_of fun U1 u1 => ?_
  walk_at "rd"
  intro dsh hdsh
  have g4 := same_new hdsh (.dK [])
  rw [u1]; clear u1
  refine seq_of fun U1 u1 => ?_
  walk_at "rd"
  intro dst hdst
  have g5 := g4.trans (same_new hdst (.dK []))
  have nds:dsh ≠ dst := fun z => by rw [← z,upd_same] at hdst; cases hdst
  have zsh:H1 dsh = none := hdsh
  have zst:H1 dst = none := g4.free hdst
  have msh:dsh ∉ G.mut := fun z => D.tracked z zsh
  have mst:dst ∉ G.mut := fun z => D.tracked z zst
  have V0 := valid_none (seats := seats) hc hl
  subst eS eQ eL
  rw [u1]; clear u1
  refine seq_of fun U1 u1 => for_of fun B1 b1 => ?_
  walk_at "rd"
  refine ⟨_,.inl (SqL.of ((gH.trans g5) _ _ h1)),?_⟩
  rw [ul]
  refine ⟨by lia,by lia,for_rangeW (fun i σ H' => ∃ (W:Flw.Wh) (sit:Nat → List Nat) (shL L:List Nat) (kvs:List (Key × V)) (v6 v7:Option V),Same H H' ∧ HallS C_Hall H' x G ∧ HallD H' G W sit ∧ Flw.Valid G.net W ∧ Flw.Cut G.net W (fun y => y ∈ L) (fun t => t ∈ shL) i ∧ H' dsh = some (.dK (dkN (.bl true) shL)) ∧ shL.Nodup ∧ (∀ t ∈ shL,t < G.qs.length) ∧ H' dst = some (.dK kvs) ∧ KN kvs L ∧ L.Nodup ∧ σ = [some (.ref a1),some (.ref a2),some (.ref a3),some (.ref x),some (.ref dsh),some (.ref dst),v6,v7])
   ⟨_,sit,[],[],[],none,none,gH.trans g5,S.mono g5,D.mono g5,V0,Flw.Cut.ini (fun _ => rfl) (fun _ z => by cases z) (fun _ z => by cases z),(same_new hdst _) _ _ upd_same,List.nodup_nil,(fun t z => by cases z),upd_same,rfl,List.nodup_nil,rfl⟩ ?_ ?_⟩
  ·rintro i σ H' hi ⟨W,sit,shL,L,kvs,v6,v7,g,S',D',V,Cu,esh,shn,shl,est,kn,ln,rfl⟩
   rw [show (0 + (i:Int)) = i by lia]
   have hi':i < G.seats.length := by lia
   have h0:W i = none := Classical.byContradiction fun z => Nat.lt_irrefl _ (Cu.i6 i z)
   have hV:∀ y t,W y = some t → t < G.net.m := fun y t e => (D'.wl y t e).2
   rw [b1]
   refine seq_of fun U2 u2 => ?_
   walk_at "rd"
   refine ⟨x,dsh,G,W,sit,i,shL,rfl,S',D',st,hi',h0,esh,shn,shl,fun r pd ps sn tm now v H2 gg hr hpd P kp B res => ?_⟩
   have S2 := S'.mono gg
   have D2 := D'.mono gg
   rw [u2]; clear u2
   walk_at "rd"
   have est2 := gg _ _ est
   have esh2 := gg _ _ esh
   have npd1:pd ≠ dst := fun z => by rw [z,est] at hpd; cases hpd
   have npd2:pd ≠ dsh := fun z => by rw [z,esh] at hpd; cases hpd
   have mpd:pd ∉ G.mut := fun z => D'.tracked z hpd
   have lb:∀ y ∈ L,y < G.seats.length := fun y hy => Nat.lt_trans (Cu.i5 y hy) hi'
   have llen := nodup_le ln lb
   have klen := kn.len
   have plt:∀ y,parOf ps y ≠ none → y < G.seats.length := fun y hy => B.lt y hy
   have pmem:∀ y,y ∈ ps.map (·.1) ↔ parOf ps y ≠ none := fun y => ⟨fun h z => parOf_none.mp z h,fun h => Classical.byContradiction fun z => h (parOf_none.mpr z)⟩
   have pslen := nodup_le kp fun y hy => plt y ((pmem y).mp hy)
   refine ⟨_,SqT.of hr,v,rfl,?_⟩
   rcases res with ⟨rfl,cl⟩ | ⟨lt,y,s,rfl,hlt,hy,hs,rm,ns⟩
   ·rw [if_pos rfl]
    obtain ⟨pk,ep,kpk⟩ := P.keys
    have pkl := kpk.len
    have k3:∀ c o,H2 c = some o → c ≠ dst → upd H2 dst (.dK (mergeK kvs pk)) c = some o := fun c o e n => by rw [upd_ne n]; exact e
    have gHH := g.trans gg
    have na1:a1 ≠ dst := fun z => by have := gHH _ _ h1; rw [z,est2] at this; cases this
    have nr:r ≠ dst := fun z => by rw [z,est2] at hr; cases hr
    have zdsh:H dsh = none := gH.free zsh
    have zdst:H dst = none := gH.free zst
    refine ⟨.inr (.inr (.inl ⟨rfl,.inl ⟨_,est2⟩⟩)),_,SqT.of hr,_,rfl,pd,rfl,npd1.symm,_,est2,_,ep,by lia,.inr (.inr (.inl ⟨rfl,.inl ⟨_,k3 _ _ esh2 nds⟩⟩)),_,SqT.of (k3 _ _ hr nr),_,rfl,?_⟩
    have R3:Rows (upd H2 dst (.dK (mergeK kvs pk))) us G.seats := L2.Paired.mapP (r1.mono gHH) fun w row ⟨t,e1,e2⟩ => ⟨t,e1,k3 _ _ e2 fun z => by rw [z,est2] at e2; cases e2⟩
    have P3:PdAt (upd H2 dst (.dK (mergeK kvs pk))) pd ps := P.keep (fun l e => k3 _ _ e npd1) fun t xs e => k3 _ _ e fun z => by rw [z,est2] at e; cases e
    refine ⟨a1,pd,us,G.seats,G.qs,G.lim,ps,rfl,k3 _ _ (gHH _ _ h1) na1,R3,P3,st,fun p hp => plt _ ((pmem _).mp (List.mem_map.mpr ⟨p,hp,rfl⟩)),fun d ls H4 g4' hd4 ed4 nd4 lt4 hls => ?_⟩
    have esh4 := g4' _ _ (k3 _ _ esh2 nds)
    have ndd:dsh ≠ d := fun z => by rw [← z,k3 _ _ esh2 nds] at hd4; cases hd4
    have k5:∀ c o,H4 c = some o → c ≠ dsh → upd H4 dsh (.dK (mergeK (dkN (.bl true) shL) (dkN (.bl true) ls))) c = some o := fun c o e n => by rw [upd_ne n]; exact e
    have lsl := nodup_le nd4 lt4
    have shll := nodup_le shn shl
    refine ⟨d,rfl,ndd,_,esh4,_,ed4,by rw [dkN_len,dkN_len]; lia,fun c o e => ?_,((S2.kept est2 k3).mono g4').kept esh4 k5,W,sit,((D2.kept mst k3).mono g4').kept msh k5,V,addA shL ls,addA L (ps.map (·.1)),?_,by rw [upd_same,merge_dkN],addA_nodup shn,fun t ht => ?_,mergeK kvs pk,?_,kn.merge kpk,addA_nodup ln⟩
    ·exact k5 _ _ (g4' _ _ (k3 _ _ (gHH _ _ e) (ne_of_none e zdst))) (ne_of_none e zdsh)
    ·exact Cu.fail V hV B cl (fun y => by rw [addA_mem,pmem y]) fun t => by rw [addA_mem,hls t]; exact Iff.rfl
    ·rcases addA_mem.mp ht with z | z
     ·exact shl t z
     ·exact lt4 t z
    ·rw [upd_ne nds.symm]
     exact g4' _ _ upd_same
   ·rw [if_neg (fun z => (nomatch z))]
    obtain ⟨c,hch⟩ := B.chain (tm y) y (Nat.le_refl _) hy
    have bd:∀ p ∈ (y,s) :: c,p.1 < G.seats.length ∧ p.2 < G.qs.length := fun p hp => by
     rcases List.mem_cons.mp hp with e | hp
     ·subst e
      exact ⟨plt y hy,O.sl y s hs⟩
     ·obtain ⟨z,e1,_⟩ := hch.mem B p hp
      obtain ⟨p1,p2,_⟩ := B.pr z p e1
      exact ⟨plt _ p1,O.sl _ _ p2⟩
    refine ⟨_,SqT.of hr,_,rfl,_,SqT.of hr,_,rfl,x,pd,lt,G,W,sit,ps,y,s,c,rfl,S2,D2,st,P,mpd,hlt,hch,bd,fun sit' H3 F3 S3 D3 => ?_⟩
    have nsh:¬ s ∈ shL := fun z => ns (B.sn s z)
    have A := Flw.aug V h0 (hch.good B hs) fun x' s' r' e => by cases e; exact rm
    exact ⟨(fun c' o e => F3.keep _ _ ((g.trans gg) _ _ e) fun z => by rw [mH c' z] at e; cases e),S3,_,sit',D3,A.1,shL,L,Cu.next V h0 B hch hy hs rm nsh,F3.keep _ _ esh2 msh,shn,shl,kvs,F3.keep _ _ est2 mst,kn,ln⟩
  rintro σ H' ⟨W,sit,shL,L,kvs,v6,v7,g,S',D',V,Cu,esh,shn,shl,est,kn,ln,rfl⟩
  rw [u1]; clear u1
  walk_at "rd"
  rw [Int.toNat_natCast] at Cu
  obtain ⟨dx',hi'⟩ := S'.ins
  have lb:∀ y ∈ L,y < G.seats.length := fun y hy => Cu.i5 y hy
  have llen := nodup_le ln lb
  refine ⟨_,_,_,hi',T.cl_Hall,T.n_Hall_where,_,hf_where _ _ _ _ _ _ _,_,.inl est,_,kn.ints,by rw [List.length_map]; lia,fun l ns' hl' hp ho => ⟨by decide,fun r hr => ?_⟩⟩
  obtain ⟨L',rfl,lo,hm⟩ := sorted_nat hp ho ln
  have gl := same_new hl' (.lst ((L'.map fun y:Nat => (y:Int)).map L2.V.int))
  have gr := gl.trans (same_new hr (.tup [.ref G.a4,.ref l]))
  have e4 := gr _ _ D'.s4
  have eC:(fun y => y ∈ L) = fun y => decide (y ∈ L') = true := funext fun y => propext (by rw [decide_eq_true_eq,hm y])
  rw [eC] at Cu
  exact q r G.a4 l W _ L' _ (g.trans gr) upd_same (mH _ mut4) (g.free hl') (ne_of_none D'.s4 hl') e4 ((same_new hr _) _ _ upd_same) lo V Cu D'.wl
noncomputable def zaj_ (K:PySem.W.Frag) (C_Hall:Addr):Sp := fun vs H Q _ => ∃ (s w:Addr) (us:List V) (seats:List (List Int)) (ws:List (Option Int)),vs = [.ref s,.ref w] ∧ H s = some (.lst us) ∧ Rows H us seats ∧ seats.length ≤ 200 ∧ H w = some (.lst (wI ws)) ∧ ∀ (b:Bool) (H':Hp),Same H H' → (b = true ↔ May seats ws) → Q (.bl b) H'
theorem zbl_:FnScope ["seats","where"] ["seats","where"] (defScope zm_) := ⟨rfl,rfl,rfl,by decide +kernel,rfl,by decide +kernel,by decide +kernel⟩
theorem zbm_ {C_Hall:Addr} {f:Addr} {fd:FuncData} (F:Fun K "may_be_taken" "may_be_taken" zm_ f fd) (T:Txt K mg C_Hall) :FnOk P w K mg base CX0 1 f fd ["seats","where"] (zaj_ K C_Hall) := by
 refine F.ok zbl_ (fun vs H Q E h => ?_) (fun cdv A outer s H vs Q E hr h => ?_)
 ·obtain ⟨s,w,us,seats,ws,rfl,_⟩ := h
  rfl
 ·obtain ⟨s,w,us,seats,ws,rfl,hs,hR,sg3,hw,k⟩ := h
  refine ⟨_,(pss_cons (ps_if (pt_cmpR op_ne (pe_callB (call_lenK (K := K) rfl) (by rfl) T.len PySem.boot_len (pa_cons (pv 1) pa_nil)) (pe_callB (call_lenK (K := K) rfl) (by rfl) T.len PySem.boot_len (pa_cons (pv 0) pa_nil)) (nomark _)) (pss_one (ps_ret pe_bl)) pss_nil)
  (pss_one (ps_ret (pe_callB (call_all rfl) (by rfl) T.all PyProof.Rows.boot_all (pa_cons (pe_comp (own := ["slot","choices"]) (fnames := []) (fr := []) (N' := ["slot","choices"]) ⟨rfl,rfl,rfl,rfl,rfl,rfl,rfl⟩ rfl (pi_zip rfl T.zip (pa_cons (pv 1) (pa_cons (pv 0) pa_nil))) (fun s0 H0 fp0 C0 => ⟨(pg_tupK (K := K) (n := 2) rfl rfl (pgs_cons (pg_name (i := 0) (by show (["slot","choices"]:List Str).Nodup; decide +kernel) rfl (Or.inl rfl)) (pgs_cons (pg_name (i := 1) (by show (["slot","choices"]:List Str).Nodup; decide +kernel) rfl (Or.inl rfl)) pgs_nil))),pts_nil,(pe_or (pe_cmpR op_isN (pv 0) pe_non (nomark _)) (pe_one (pe_cmpR (op_in_seqK (K := K) rfl) (pv 0) (pv 1) (by with_unfolding_all rfl))))⟩)) pa_nil))))),?_⟩
  have hul := hR.len
  refine seq_of fun U1 u1 => ?_
  walk_at "rd"
  refine ⟨_,.inl (SqL.of hw),_,.inl (SqL.of hs),?_⟩
  rw [wI_len]
  by_cases hlen:ws.length = seats.length
  case neg =>
   rw [if_pos (by lia)]
   exact k false H (Same.refl _) ⟨fun z => (by cases z),fun z => absurd z.len hlen⟩
  rw [if_neg (by lia)]
  rw [u1]; clear u1
  walk_at "rd"
  refine ⟨⟨_,SqL.of hw⟩,⟨_,SqL.of hs⟩,fun D hD => for_zipW (xs := wI ws) (ys := us) (fun i σ H' => Same H H' ∧ ∃ (bs:List Bool) (v0 v1:Option V),Bls (fun j => ∀ z,ws[j]? = some (some z) → z ∈ seats[j]?.getD []) i bs ∧ H' D = some (.lst (bs.map V.bl)) ∧ σ = [v0,v1]) (by rw [wI_len,hul,hlen]) ⟨same_new hD _,[],none,none,Bls.nil,upd_same,rfl⟩ (fun i σ H' _ hh => ⟨SqL.of (hh.1 _ _ hw),SqL.of (hh.1 _ _ hs)⟩) ?_ ?_⟩
  ·rintro i x y σ H' t hx1 hy1 ⟨g,bs,v0,v1,hb,e,rfl⟩ ht
   obtain ⟨o,ho,rfl⟩ := wI_item hx1
   obtain ⟨row,hrow,t2,rfl,ht2⟩ := hR.at' hy1
   have hi := (List.getElem?_eq_some_iff.mp hrow).1
   have hbl := hb.len
   walk_at "rd"
   refine ⟨_,SqT.of upd_same,rfl,_,_,rfl,_,_,rfl,rfl,?_⟩
   walk_at "rd"
   cases o with
   | none =>
    rw [if_pos (show oI none = V.non from rfl)]
    refine ⟨_,(same_new ht _) _ _ e,small1000 (by rw [List.length_map]; lia),same_upd hD (g.trans (same_new ht _)) _,bs ++ [true],hb.snoc ⟨fun _ z hz => ?_,fun _ => rfl⟩,?_⟩
    ·rw [ho] at hz; cases hz
    ·rw [upd_same,List.map_append]; rfl
   | some z0 =>
    rw [if_neg (fun z => (nomatch z))]
    refine ⟨_,.inl (SqL.of ((same_new ht _) _ _ (g _ _ ht2))),rfl,flat_ints _,?_⟩
    rw [show inV (oI (some z0)) (row.map V.int) = decide (z0 ∈ row) from in_ints z0 row]
    refine ⟨_,(same_new ht _) _ _ e,small1000 (by rw [List.length_map]; lia),same_upd hD (g.trans (same_new ht _)) _,bs ++ [decide (z0 ∈ row)],hb.snoc ?_,?_⟩
    ·rw [decide_eq_true_eq,hrow,Option.getD_some]
     exact ⟨fun m z hz => by rw [ho] at hz; cases hz; exact m,fun m => m z0 ho⟩
    ·rw [upd_same,List.map_append]; rfl
  rintro σ H' ⟨g,bs,v0,v1,hb,e,rfl⟩
  rw [wI_len] at hb
  refine ⟨_,SqL.of e,k _ H' g (hb.all.trans ⟨fun a => ⟨hlen,fun i z hz => a i (List.getElem?_eq_some_iff.mp hz).1 z hz⟩,fun m j _ z hz => m.mem j z hz⟩)⟩
noncomputable def zau_ (K:PySem.W.Frag) (C_Hall:Addr):Sp := fun vs H Q _ => ∃ (q l w:Addr) (ts:List V) (seats:List (List Int)) (qs:List (Int × Int)) (lim:List Int) (W:Flw.Wh),vs = [.ref q,.ref l,.ref w] ∧ H q = some (.lst ts) ∧ Cells H ts qs ∧ H l = some (.lst (lim.map V.int)) ∧ Stg seats qs lim ∧ H w = some (.lst (whL seats.length W)) ∧ (∀ x s,W x = some s → s ∈ (netOf seats qs lim).seats x ∧ x < seats.length) ∧ ∀ (b:Bool) (H':Hp),Same H H' → (b = true ↔ Wi seats qs lim W) → Q (.bl b) H'
theorem zu_:FnScope ["slots","caps","where","taken","borne","slot","owner","in_slots"] ["slots","caps","where"] (defScope zw_) := ⟨rfl,rfl,rfl,by decide +kernel,rfl,by decide +kernel,by decide +kernel⟩
theorem zbt_ {C_Hall:Addr} {f:Addr} {fd:FuncData} (F:Fun K "are_within" "are_within" zw_ f fd) (T:Txt K mg C_Hall) :FnOk P w K mg base CX0 1 f fd ["slots","caps","where"] (zau_ K C_Hall) := by
 refine F.ok zu_ (fun vs H Q E h => ?_) (fun cdv A outer s H vs Q E hr h => ?_)
 ·obtain ⟨q,l,w,ts,seats,qs,lim,W,rfl,_⟩ := h
  rfl
 ·obtain ⟨q,l,w,ts,seats,qs,lim,W,rfl,hq,hC,hl,sg,hw,hV,k⟩ := h
  refine ⟨_,(pss_cons (ps_set (i := 3) zu_.nd rfl (Or.inl rfl) (pe_op op_rep (pe_lst (pa_cons pe_int pa_nil)) (pe_callB (call_lenK (K := K) rfl) (by rfl) T.len PySem.boot_len (pa_cons (pv 0) pa_nil))))
  (pss_cons (ps_set (i := 4) zu_.nd rfl (Or.inl rfl) (pe_op op_rep (pe_lst (pa_cons pe_int pa_nil)) (pe_callB (call_lenK (K := K) rfl) (by rfl) T.len PySem.boot_len (pa_cons (pv 1) pa_nil))))
  (pss_cons (ps_for PassesOwn.never rfl (pi_list (pv 2)) (pg_name (i := 5) zu_.nd rfl (Or.inl rfl))
   (pss_one (ps_if (pt_cmpR op_notN (pv 5) pe_non (nomark _)) (pss_cons (ps_set (i := 6) zu_.nd rfl (Or.inl rfl) (pe_ix ix_tup (pe_ix ix_list (pv 0) (pv 5) (fun _ _ => rfl)) pe_int (fun _ _ => rfl)))
     (pss_cons (ps_asg (pe_op op_add (pe_ix ix_list (pv 3) (pv 5) (fun _ _ => rfl)) pe_int) (pg_sub (pv 3) (pv 5) set_list))
     (pss_one (ps_asg (pe_op op_add (pe_ix ix_list (pv 4) (pv 6) (fun _ _ => rfl)) pe_int) (pg_sub (pv 4) (pv 6) set_list))))) pss_nil)))
  (pss_cons (ps_set (i := 7) zu_.nd rfl (Or.inl rfl) (pe_callB (call_all rfl) (by rfl) T.all PyProof.Rows.boot_all (pa_cons (pe_comp (own := ["many","slot"]) (fnames := []) (fr := []) (N' := ["many","slot"]) ⟨rfl,rfl,rfl,rfl,rfl,rfl,rfl⟩ rfl (pi_zip rfl T.zip (pa_cons (pv 3) (pa_cons (pv 0) pa_nil))) (fun s0 H0 fp0 C0 => ⟨(pg_tupK (K := K) (n := 2) rfl rfl (pgs_cons (pg_name (i := 0) (by show (["many","slot"]:List Str).Nodup; decide +kernel) rfl (Or.inl rfl)) (pgs_cons (pg_name (i := 1) (by show (["many","slot"]:List Str).Nodup; decide +kernel) rfl (Or.inl rfl)) pgs_nil))),pts_nil,(pe_cmpR op_le (pv 0) (pe_ix (ix_tupK (K := K) rfl) (pv 1) pe_int (fun _ _ => rfl)) (nomark _))⟩)) pa_nil)))
  (pss_one (ps_ret (pe_and (pv 7) (pe_one (pe_callB (call_all rfl) (by rfl) T.all PyProof.Rows.boot_all (pa_cons (pe_comp (own := ["many","cap"]) (fnames := []) (fr := []) (N' := ["many","cap"]) ⟨rfl,rfl,rfl,rfl,rfl,rfl,rfl⟩ rfl (pi_zip rfl T.zip (pa_cons (pv 4) (pa_cons (pv 1) pa_nil))) (fun s0 H0 fp0 C0 => ⟨(pg_tupK (K := K) (n := 2) rfl rfl (pgs_cons (pg_name (i := 0) (by show (["many","cap"]:List Str).Nodup; decide +kernel) rfl (Or.inl rfl)) (pgs_cons (pg_name (i := 1) (by show (["many","cap"]:List Str).Nodup; decide +kernel) rfl (Or.inl rfl)) pgs_nil))),pts_nil,(pe_cmpR op_le (pv 0) (pv 1) (nomark _))⟩)) pa_nil)))))))))),?_⟩
  have htl := hC.len
  have sg1 := sg.ql
  have sg2 := sg.ll
  have sg3 := sg.sl
  have O := net_ok sg
  refine seq_of fun U1 u1 => ?_
  walk_at "rd"
  refine ⟨by decide,fun p1 hp1 => ?_⟩
  have g1 := same_new hp1 (.lst [.int 0])
  refine ⟨_,.inl (SqL.of (g1 _ _ hq)),_,upd_same,by lia,by lia,small1000' (by simp; lia),fun A hA => ?_⟩
  rw [htl,rep_il]
  have g2 := g1.trans (same_new hA (.lst ((il qs.length fun _ => 0).map V.int)))
  have hA0:H A = none := g1.free hA
  have eA := upd_same (H := upd H p1 (.lst [.int 0])) (a := A) (o := .lst ((il qs.length fun _ => 0).map V.int))
  generalize upd (upd H p1 (.lst [.int 0])) A (.lst ((il qs.length fun _ => 0).map V.int)) = H2 at g2 eA ⊢
  rw [u1]; clear u1
  refine seq_of fun U1 u1 => ?_
  walk_at "rd"
  refine ⟨by decide,fun p2 hp2 => ?_⟩
  have g3 := same_new hp2 (.lst [.int 0])
  refine ⟨_,.inl (SqL.of ((g2.trans g3) _ _ hl)),_,upd_same,by rw [List.length_map]; lia,by rw [List.length_map]; lia,small1000' (by simp; lia),fun B hB => ?_⟩
  rw [List.length_map,rep_il]
  have g4 := g3.trans (same_new hB (.lst ((il lim.length fun _ => 0).map V.int)))
  have hB0:H B = none := (g2.trans g3).free hB
  have nAB:A ≠ B := ne_of_none (g3 _ _ eA) hB
  have eB := upd_same (H := upd H2 p2 (.lst [.int 0])) (a := B) (o := .lst ((il lim.length fun _ => 0).map V.int))
  have eA4 := g4 _ _ eA
  have g24 := g2.trans g4
  generalize upd (upd H2 p2 (.lst [.int 0])) B (.lst ((il lim.length fun _ => 0).map V.int)) = H4 at g24 eB eA4 ⊢
  clear g4 g3 g2 g1 eA hp1 hp2 hA hB
  rw [u1]; clear u1
  refine seq_of fun U1 u1 => for_of fun B1 b1 => ?_
  walk_at "rd"
  refine ⟨⟨_,SqL.of (g24 _ _ hw)⟩,for_listW (xs := whL seats.length W) (fun i σ H' => ∃ (v5 v6:Option V),Same H H' ∧ H' A = some (.lst ((il qs.length fun s => Flw.cnt i (Flw.atS W s)).map V.int)) ∧ H' B = some (.lst ((il lim.length fun o => Flw.cnt i (Flw.atO (netOf seats qs lim) W o)).map V.int)) ∧ σ = [some (.ref q),some (.ref l),some (.ref w),some (.ref A),some (.ref B),v5,v6,none]) ⟨none,none,g24,eA4,eB,rfl⟩ (fun i σ H' _ ⟨_,_,g,_⟩ => SqL.of (g _ _ hw)) ?_ ?_⟩
  ·rintro i v σ H' hv ⟨v5,v6,g,e1,e2,rfl⟩
   have hi:i < seats.length := by have := (List.getElem?_eq_some_iff.mp hv).1; rwa [whL_len] at this
   rw [whL_get hi] at hv
   cases hv
   rw [b1]
   walk_at "rd"
   have c1:∀ s',Flw.cnt (i + 1) (Flw.atS W s') = Flw.cnt i (Flw.atS W s') + Flw.b2i (Flw.atS W s' i) := fun _ => rfl
   have c2:∀ o,Flw.cnt (i + 1) (Flw.atO (netOf seats qs lim) W o) = Flw.cnt i (Flw.atO (netOf seats qs lim) W o) + Flw.b2i (Flw.atO (netOf seats qs lim) W o i) := fun _ => rfl
   cases ew:W i with
   | none =>
    rw [if_neg (fun z => z rfl)]
    have h1:(il qs.length fun s => Flw.cnt i (Flw.atS W s)) = il qs.length fun s => Flw.cnt (i + 1) (Flw.atS W s) := il_congr fun s' _ => by
     rw [c1 s',show Flw.atS W s' i = false by unfold Flw.atS; rw [ew]; exact decide_eq_false nofun]
     exact (Int.add_zero _).symm
    have h2:(il lim.length fun o => Flw.cnt i (Flw.atO (netOf seats qs lim) W o)) = il lim.length fun o => Flw.cnt (i + 1) (Flw.atO (netOf seats qs lim) W o) := il_congr fun o _ => by
     rw [c2 o,Flw.atO_none ew]
     exact (Int.add_zero _).symm
    rw [← h1,← h2]
    exact ⟨g,e1,e2⟩
   | some t =>
    rw [if_pos (fun z => (nomatch z))]
    have ht:t < qs.length := O.sl i t (hV i t ew).1
    have hch := List.getElem?_eq_getElem ht
    obtain ⟨v',hvu,t2,rfl,q2⟩ := Paired.getR hC hch
    obtain ⟨o0,o1⟩ := sg.own _ (List.getElem_mem ht)
    obtain ⟨x,ex⟩:∃ x:Nat,qs[t].1 = x := ⟨qs[t].1.toNat,by lia⟩
    have hxl:x < lim.length := by lia
    have eo:(netOf seats qs lim).own t = x := by
     show (qs[t]?.getD (0,0)).1.toNat = _
     rw [hch,Option.getD_some,ex,Int.toNat_natCast]
    have gA:atI ((il qs.length fun s => Flw.cnt i (Flw.atS W s)).map V.int) (t:Int) = some (.int (Flw.cnt i (Flw.atS W t))) := atI_nat (by rw [List.getElem?_map,il_get ht]; rfl)
    have gB:atI ((il lim.length fun o => Flw.cnt i (Flw.atO (netOf seats qs lim) W o)).map V.int) (x:Int) = some (.int (Flw.cnt i (Flw.atO (netOf seats qs lim) W x))) := atI_nat (by rw [List.getElem?_map,il_get hxl]; rfl)
    refine ⟨_,_,rfl,SqL.of (g _ _ hq),_,atI_nat hvu,t2,rfl,_,SqT.of (g _ _ q2),.int qs[t].1,rfl,_,_,rfl,SqL.of e1,_,gA,_,rfl,_,_,rfl,e1,t,ixN_lt (by rw [List.length_map,il_len]; exact ht),_,_,rfl,SqL.of (by rw [upd_ne nAB.symm]; exact e2),_,(by rw [ex]; exact gB),_,rfl,_,_,rfl,(by rw [upd_ne nAB.symm]; exact e2),x,(by rw [ex]; exact ixN_lt (by rw [List.length_map,il_len]; exact hxl)),same_upd hB0 (same_upd hA0 g _) _,?_,?_⟩
    ·rw [upd_ne nAB,upd_same,set_ints,il_set]
     rw [il_congr fun s' _ => ?_]
     by_cases z:s' = t
     ·rw [if_pos z,z,c1 t,show Flw.atS W t i = true by unfold Flw.atS; exact decide_eq_true ew]
      rfl
     ·rw [if_neg z,c1 s',show Flw.atS W s' i = false by unfold Flw.atS; rw [ew]; exact decide_eq_false fun y => z (Option.some.inj y).symm]
      exact (Int.add_zero _).symm
    ·rw [upd_same,set_ints,il_set]
     rw [il_congr fun o _ => ?_]
     by_cases z:o = x
     ·rw [if_pos z,z,c2 x,Flw.atO_some ew,decide_eq_true eo]
      rfl
     ·rw [if_neg z,c2 o,Flw.atO_some ew,decide_eq_false fun y => z (y.symm.trans eo)]
      exact (Int.add_zero _).symm
  rintro σ H' ⟨v5,v6,g,e1,e2,rfl⟩
  rw [whL_len] at e1 e2
  rw [u1]; clear u1
  refine seq_of fun U1 u1 => ?_
  walk_at "rd"
  refine ⟨⟨_,SqL.of e1⟩,⟨_,SqL.of (g _ _ hq)⟩,fun D hD => for_zipW (xs := (il qs.length fun s => Flw.cnt seats.length (Flw.atS W s)).map V.int) (ys := ts) (fun i σ H2 => Same H' H2 ∧ ∃ (bs:List Bool) (v0 v1:Option V),Bls (fun j => Flw.cS (netOf seats qs lim) W j ≤ (netOf seats qs lim).cap j) i bs ∧ H2 D = some (.lst (bs.map V.bl)) ∧ σ = [v0,v1]) (by rw [List.length_map,il_len,htl]) ⟨same_new hD _,[],none,none,Bls.nil,upd_same,rfl⟩ (fun i σ H2 _ hh => ⟨SqL.of (hh.1 _ _ e1),SqL.of (hh.1 _ _ (g _ _ hq))⟩) ?_ ?_⟩
  ·rintro i x y σ H2 t hx1 hy1 ⟨g5,bs,v0,v1,hb,eD,rfl⟩ ht
   obtain ⟨c,hc,t2,rfl,q2⟩ := hC.get' hy1
   have hi:i < qs.length := (List.getElem?_eq_some_iff.mp hc).1
   have hbl := hb.len
   have ex:x = .int (Flw.cnt seats.length (Flw.atS W i)) := by
    rw [List.getElem?_map,il_get hi] at hx1
    exact (Option.some.inj hx1).symm
   subst ex
   have gt := same_new ht (.tup [.int (Flw.cnt seats.length (Flw.atS W i)),.ref t2])
   walk_at "rd"
   refine ⟨_,SqT.of upd_same,rfl,_,_,rfl,_,_,rfl,rfl,?_⟩
   walk_at "rd"
   refine ⟨_,SqT.of (gt _ _ (g5 _ _ (g _ _ q2))),.int c.2,rfl,_,rfl,_,gt _ _ eD,small1000 (by rw [List.length_map]; lia),same_upd hD (g5.trans gt) _,bs ++ [decide (Flw.cnt seats.length (Flw.atS W i) ≤ c.2)],hb.snoc ?_,?_⟩
   ·rw [decide_eq_true_eq,show (netOf seats qs lim).cap i = c.2 by show (qs[i]?.getD (0,0)).2 = _; rw [hc]; rfl]
    exact Iff.rfl
   ·rw [upd_same,List.map_append]; rfl
  rintro σ H2 ⟨g5,bs1,v0,v1,hb1,eD,rfl⟩
  rw [List.length_map,il_len] at hb1
  refine ⟨_,SqL.of eD,?_⟩
  have hall1 := hb1.all
  generalize bs1.all id = r1 at hall1 ⊢
  rw [u1]; clear u1
  walk_at "rd"
  have gg := g.trans g5
  have e2' := g5 _ _ e2
  cases r1 with
  | false =>
   rw [if_neg (by decide)]
   exact k false H2 gg ⟨fun z => (by cases z),fun z => absurd (hall1.mpr z.sl) (by decide)⟩
  | true =>
  rw [if_pos rfl]
  refine ⟨⟨_,SqL.of e2'⟩,⟨_,SqL.of (gg _ _ hl)⟩,fun D3 hD3 => for_zipW (xs := (il lim.length fun o => Flw.cnt seats.length (Flw.atO (netOf seats qs lim) W o)).map V.int) (ys := lim.map V.int) (fun i σ H3 => Same H2 H3 ∧ ∃ (bs:List Bool) (v0 v1:Option V),Bls (fun j => Flw.cO (netOf seats qs lim) W j ≤ (netOf seats qs lim).lim j) i bs ∧ H3 D3 = some (.lst (bs.map V.bl)) ∧ σ = [v0,v1]) (by simp [il_len]) ⟨same_new hD3 _,[],none,none,Bls.nil,upd_same,rfl⟩ (fun i σ H3 _ hh => ⟨SqL.of (hh.1 _ _ e2'),SqL.of (hh.1 _ _ (gg _ _ hl))⟩) ?_ ?_⟩
  ·rintro i x y σ H3 t hx1 hy1 ⟨g6,bs,v0,v1,hb,eD3,rfl⟩ ht
   obtain ⟨b,hb',rfl⟩ := map_item hy1
   have hi:i < lim.length := (List.getElem?_eq_some_iff.mp hb').1
   have hbl := hb.len
   have ex:x = .int (Flw.cnt seats.length (Flw.atO (netOf seats qs lim) W i)) := by
    rw [List.getElem?_map,il_get hi] at hx1
    exact (Option.some.inj hx1).symm
   subst ex
   have gt := same_new ht (.tup [.int (Flw.cnt seats.length (Flw.atO (netOf seats qs lim) W i)),.int b])
   walk_at "rd"
   refine ⟨_,SqT.of upd_same,rfl,_,_,rfl,_,_,rfl,rfl,?_⟩
   walk_at "rd"
   refine ⟨_,gt _ _ eD3,small1000 (by rw [List.length_map]; lia),same_upd hD3 (g6.trans gt) _,bs ++ [decide (Flw.cnt seats.length (Flw.atO (netOf seats qs lim) W i) ≤ b)],hb.snoc ?_,?_⟩
   ·rw [decide_eq_true_eq,show (netOf seats qs lim).lim i = b by show lim[i]?.getD 0 = _; rw [hb']; rfl]
    exact Iff.rfl
   ·rw [upd_same,List.map_append]; rfl
  rintro σ H3 ⟨g6,bs2,v0,v1,hb2,eD3,rfl⟩
  rw [List.length_map,il_len] at hb2
  exact ⟨_,SqL.of eD3,k _ H3 (gg.trans g6) (hb2.all.trans ⟨fun a => ⟨hall1.mp rfl,a⟩,fun z => z.ow⟩)⟩
noncomputable def zav_ (K:PySem.W.Frag) (C_Hall:Addr):Sp := fun vs H Q _ => ∃ (s a:Addr) (us:List V) (xs:List Int),vs = [.ref s,.ref a] ∧ H s = some (.lst us) ∧ H a = some (.lst (xs.map V.int)) ∧ Q (.bl (risF us.length (-1) xs)) H
theorem zZ_:FnScope ["things","numbers","last","number"] ["things","numbers"] (defScope zx_) := ⟨rfl,rfl,rfl,by decide +kernel,rfl,by decide +kernel,by decide +kernel⟩
theorem zbu_ {C_Hall:Addr} {f:Addr} {fd:FuncData} (F:Fun K "are_rising" "are_rising" zx_ f fd) (T:Txt K mg C_Hall) :FnOk P w K mg base CX0 1 f fd ["things","numbers"] (zav_ K C_Hall) := by
 refine F.ok zZ_ (fun vs H Q E h => ?_) (fun cdv A outer s H vs Q E hr h => ?_)
 ·obtain ⟨s,a,us,xs,rfl,_⟩ := h
  rfl
 ·obtain ⟨s,a,us,xs,rfl,hs,hA,q⟩ := h
  refine ⟨_,(pss_cons (ps_set (i := 2) zZ_.nd rfl (Or.inl rfl) (pe_un un_neg pe_int))
  (pss_cons (ps_for PassesOwn.never rfl (pi_list (pv 1)) (pg_name (i := 3) zZ_.nd rfl (Or.inl rfl))
   (pss_cons (ps_if (PW.pt (pw_or (pt_cmpR op_le (pv 3) (pv 2) (nomark _)) (pw_or1 (pt_cmpR op_ge (pv 3) (pe_callB (call_lenK (K := K) rfl) (by rfl) T.len PySem.boot_len (pa_cons (pv 0) pa_nil)) (nomark _))))) (pss_one (ps_ret pe_bl)) pss_nil)
    (pss_one (ps_set (i := 2) zZ_.nd rfl (Or.inl rfl) (pv 3)))))
  (pss_one (ps_ret pe_bl)))),?_⟩
  refine seq_of fun U1 u1 => ?_
  walk_at "rd"
  rw [u1]; clear u1
  refine seq_of fun U1 u1 => for_of fun B1 b1 => ?_
  walk_at "rd"
  refine ⟨⟨_,SqL.of hA⟩,for_listW (xs := xs.map V.int) (fun i σ H' => H' = H ∧ ∃ (last:Int) (v:Option V),risF us.length (-1) xs = risF us.length last (xs.drop i) ∧ σ = [some (.ref s),some (.ref a),some (.int last),v]) ⟨rfl,-1,none,rfl,rfl⟩ (fun i σ H' _ hh => hh.1 ▸ SqL.of hA) ?_ ?_⟩
  ·rintro i v σ H' hv ⟨rfl,last,w,hlast,rfl⟩
   obtain ⟨x,hx,rfl⟩ := map_item hv
   rw [risF_step hx] at hlast
   rw [b1]
   walk_at "rd"
   by_cases z1:x ≤ last
   ·rw [if_pos z1]
    rw [hlast,decide_eq_false (by lia),Bool.false_and] at q
    exact q
   rw [if_neg z1]
   refine ⟨_,.inl (SqL.of hs),?_⟩
   by_cases z2:(us.length:Int) ≤ x
   ·rw [if_pos z2]
    rw [hlast,decide_eq_false (show ¬ x < (us.length:Int) by lia),Bool.false_and,Bool.and_false] at q
    exact q
   rw [if_neg z2]
   refine ⟨x,?_,rfl⟩
   rw [hlast,decide_eq_true (by lia),decide_eq_true (by lia)]
   rfl
  rintro σ H' ⟨rfl,last,w,hlast,rfl⟩
  rw [List.length_map,List.drop_length] at hlast
  rw [u1]; clear u1
  walk_at "rd"
  rw [hlast] at q
  exact q
noncomputable def zbp_ (K:PySem.W.Frag) (C_Hall:Addr):Sp := fun vs H Q _ => ∃ (s q l p:Addr) (us ts:List V) (seats:List (List Int)) (qs:List (Int × Int)) (lim xs:List Int),vs = [.ref s,.ref q,.ref l,.ref p] ∧ H s = some (.lst us) ∧ Rows H us seats ∧ H q = some (.lst ts) ∧ Cells H ts qs ∧ H l = some (.lst (lim.map V.int)) ∧ H p = some (.lst (xs.map V.int)) ∧ Stg seats qs lim ∧ InS seats.length xs ∧ ∀ H',Same H H' → Q (.int (heldT qs lim (cntS seats xs) lim.length)) H'
theorem zao_:FnScope ["seats","slots","caps","some","asked","seat","slot","borne","many"] ["seats","slots","caps","some"] (defScope s_held) := ⟨rfl,rfl,rfl,by decide +kernel,rfl,by decide +kernel,by decide +kernel⟩
theorem zbL_ {C_Hall:Addr} {f:Addr} {fd:FuncData} (F:Fun K "held" "held" s_held f fd) (T:Txt K mg C_Hall) :FnOk P w K mg base CX0 1 f fd ["seats","slots","caps","some"] (zbp_ K C_Hall) := by
 refine F.ok zao_ (fun vs H Q E h => ?_) (fun cdv A outer s H vs Q E hr h => ?_)
 ·obtain ⟨s,q,l,p,us,ts,seats,qs,lim,xs,rfl,_⟩ := h
  rfl
 ·obtain ⟨s,q,l,p,us,ts,seats,qs,lim,xs,rfl,hs,hR,hq,hC,hl,hp,sg,hx,k⟩ := h
  refine ⟨_,(pss_cons (ps_set (i := 4) zao_.nd rfl (Or.inl rfl) (pe_op op_rep (pe_lst (pa_cons pe_int pa_nil)) (pe_callB (call_lenK (K := K) rfl) (by rfl) T.len PySem.boot_len (pa_cons (pv 1) pa_nil))))
  (pss_cons (ps_for PassesOwn.never rfl (pi_list (pv 3)) (pg_name (i := 5) zao_.nd rfl (Or.inl rfl))
   (pss_one (ps_for PassesOwn.never rfl (pi_list (pe_ix ix_list (pv 0) (pv 5) (fun _ _ => rfl))) (pg_name (i := 6) zao_.nd rfl (Or.inl rfl))
     (pss_one (ps_asg (pe_op op_add (pe_ix ix_list (pv 4) (pv 6) (fun _ _ => rfl)) pe_int) (pg_sub (pv 4) (pv 6) set_list))))))
  (pss_cons (ps_set (i := 7) zao_.nd rfl (Or.inl rfl) (pe_op op_rep (pe_lst (pa_cons pe_int pa_nil)) (pe_callB (call_lenK (K := K) rfl) (by rfl) T.len PySem.boot_len (pa_cons (pv 2) pa_nil))))
  (pss_cons (ps_for PassesOwn.never rfl (pi_zip rfl T.zip (pa_cons (pv 4) (pa_cons (pv 1) pa_nil))) (pg_tup (n := 2) rfl (pgs_cons (pg_name (i := 8) zao_.nd rfl (Or.inl rfl)) (pgs_cons (pg_name (i := 6) zao_.nd rfl (Or.inl rfl)) pgs_nil)))
   (pss_one (ps_asg (pe_op op_add (pe_ix ix_list (pv 7) (pe_ix ix_tup (pv 6) pe_int (fun _ _ => rfl)) (fun _ _ => rfl)) (pe_callB (call_min2 rfl) (by rfl) T.min PyProof.Rows.boot_min (pa_cons (pv 8) (pa_cons (pe_ix ix_tup (pv 6) pe_int (fun _ _ => rfl)) pa_nil)))) (pg_sub (pv 7) (pe_ix ix_tup (pv 6) pe_int (fun _ _ => rfl)) set_list))))
  (pss_one (ps_ret (pe_callB (call_sumG rfl) (by rfl) T.sum PyProof.Rows.boot_sum (pa_cons (pe_comp (own := ["many","cap"]) (fnames := []) (fr := []) (N' := ["many","cap"]) ⟨rfl,rfl,rfl,rfl,rfl,rfl,rfl⟩ rfl (pi_zip rfl T.zip (pa_cons (pv 7) (pa_cons (pv 2) pa_nil))) (fun s0 H0 fp0 C0 => ⟨(pg_tupK (K := K) (n := 2) rfl rfl (pgs_cons (pg_name (i := 0) (by show (["many","cap"]:List Str).Nodup; decide +kernel) rfl (Or.inl rfl)) (pgs_cons (pg_name (i := 1) (by show (["many","cap"]:List Str).Nodup; decide +kernel) rfl (Or.inl rfl)) pgs_nil))),pts_nil,(pe_callB (call_min2 rfl) (by rfl) T.min PyProof.Rows.boot_min (pa_cons (pv 0) (pa_cons (pv 1) pa_nil)))⟩)) pa_nil)))))))),?_⟩
  have hul := hR.len
  have htl := hC.len
  have sg1 := sg.ql
  have sg2 := sg.ll
  have sg3 := sg.sl
  refine seq_of fun U1 u1 => ?_
  walk_at "rd"
  refine ⟨by decide,fun p1 hp1 => ?_⟩
  have g1 := same_new hp1 (.lst [.int 0])
  refine ⟨_,.inl (SqL.of (g1 _ _ hq)),_,upd_same,by lia,by lia,small1000' (by simp; lia),fun A hA => ?_⟩
  rw [htl,rep_il]
  have g2 := g1.trans (same_new hA (.lst ((il qs.length fun _ => 0).map V.int)))
  have hA0:H A = none := g1.free hA
  rw [u1]; clear u1
  refine seq_of fun U1 u1 => for_of fun B1 b1 => ?_
  walk_at "rd"
  refine ⟨⟨_,SqL.of (g2 _ _ hp)⟩,for_listW (xs := xs.map V.int) (fun i σ H' => ∃ (v5 v6 v7 v8:Option V),Same H H' ∧ H' A = some (.lst ((il qs.length (cntS seats (xs.take i))).map V.int)) ∧ σ = [some (.ref s),some (.ref q),some (.ref l),some (.ref p),some (.ref A),v5,v6,v7,v8]) ⟨none,none,none,none,g2,upd_same,rfl⟩ (fun i σ H' _ ⟨_,_,_,_,g,_⟩ => SqL.of (g _ _ hp)) ?_ ?_⟩
  ·rintro i v σ H' hv ⟨v5,v6,v7,v8,g,e,rfl⟩
   obtain ⟨x,hxi,rfl⟩ := map_item hv
   obtain ⟨x0,x1⟩ := hx.2 x (List.mem_of_getElem? hxi)
   obtain ⟨n,rfl⟩:∃ n:Nat,x = n := ⟨x.toNat,by lia⟩
   have hn:n < seats.length := by lia
   obtain ⟨t1,a1,q1⟩ := hR.get (List.getElem?_eq_getElem hn)
   obtain ⟨nd,rl,rb⟩ := sg.row _ (List.getElem_mem hn)
   rw [b1]
   refine for_of fun B2 b2 => ?_
   walk_at "rd"
   refine ⟨_,SqL.of (g _ _ hs),_,atI_nat a1,t1,rfl,⟨_,SqL.of (g _ _ q1)⟩,for_listW (xs := seats[n].map V.int) (fun j σ H2 => ∃ (v6:Option V),Same H H2 ∧ H2 A = some (.lst ((il qs.length fun k => cntS seats (xs.take i) k + ((seats[n].take j).count (k:Int):Nat)).map V.int)) ∧ σ = [some (.ref s),some (.ref q),some (.ref l),some (.ref p),some (.ref A),some (.int n),v6,v7,v8]) ⟨v6,g,by rw [e]; simp,rfl⟩ (fun j σ H2 _ ⟨_,g2,_⟩ => SqL.of (g2 _ _ q1)) ?_ ?_⟩
   ·rintro j v σ H2 hv ⟨v6,g2,e2,rfl⟩
    obtain ⟨y,hyj,rfl⟩ := map_item hv
    obtain ⟨y0,y1⟩ := rb y (List.mem_of_getElem? hyj)
    obtain ⟨m,rfl⟩:∃ m:Nat,y = m := ⟨y.toNat,by lia⟩
    have hm:m < qs.length := by lia
    rw [b2]
    walk_at "rd"
    refine ⟨_,SqL.of e2,_,atI_nat (by rw [List.getElem?_map,il_get hm]; rfl),_,rfl,_,e2,m,by rw [List.length_map,il_len]; exact ixN_lt hm,same_upd hA0 g2 _,?_⟩
    rw [upd_same,set_ints,ask_set hyj]
   ·rintro σ H2 ⟨v6,g2,e2,rfl⟩
    rw [List.length_map,ask_end (List.getElem?_eq_getElem hn) nd] at e2
    rw [take_one hxi]
    exact ⟨g2,e2,_,_,_,_,rfl⟩
  rintro σ H' ⟨v5,v6,v7,v8,g,e,rfl⟩
  rw [List.length_map,List.take_length] at e
  rw [u1]; clear u1
  refine seq_of fun U1 u1 => ?_
  walk_at "rd"
  refine ⟨by decide,fun p2 hp2 => ?_⟩
  have g3 := same_new hp2 (.lst [.int 0])
  refine ⟨_,.inl (SqL.of (g3 _ _ (g _ _ hl))),_,upd_same,by rw [List.length_map]; lia,by rw [List.length_map]; lia,small1000' (by simp; lia),fun B hB => ?_⟩
  rw [List.length_map,rep_il]
  have g4 := g3.trans (same_new hB (.lst ((il lim.length fun _ => 0).map V.int)))
  have hB0:H B = none := (g.trans g3).free hB
  have nAB:A ≠ B := ne_of_none (g3 _ _ e) hB
  rw [u1]; clear u1
  refine seq_of fun U1 u1 => for_of fun B1 b1 => ?_
  walk_at "rd"
  refine ⟨⟨_,SqL.of (g4 _ _ e)⟩,⟨_,SqL.of (g4 _ _ (g _ _ hq))⟩,for_zipW (xs := (il qs.length (cntS seats xs)).map V.int) (ys := ts) (fun i σ H' => ∃ (v5 v6 v8:Option V),Same H H' ∧ H' A = some (.lst ((il qs.length (cntS seats xs)).map V.int)) ∧ H' B = some (.lst ((il lim.length fun o => ownT qs (cntS seats xs) o i).map V.int)) ∧ σ = [some (.ref s),some (.ref q),some (.ref l),some (.ref p),some (.ref A),v5,v6,some (.ref B),v8]) (by rw [List.length_map,il_len]; lia) ⟨_,_,_,g.trans g4,g4 _ _ e,upd_same,rfl⟩ (fun i σ H' _ ⟨_,_,_,g,e,_⟩ => ⟨SqL.of e,SqL.of (g _ _ hq)⟩) ?_ ?_⟩
  ·rintro i x y σ H' t hx1 hy1 ⟨v5,v6,v8,g5,eA,eB,rfl⟩ ht
   obtain ⟨⟨c1,c2⟩,hc,t2,rfl,q2⟩ := hC.get' hy1
   have hi:i < qs.length := (List.getElem?_eq_some_iff.mp hc).1
   obtain ⟨o0,o1⟩ := sg.own _ (List.mem_of_getElem? hc)
   obtain ⟨o,rfl⟩:∃ o:Nat,c1 = o := ⟨c1.toNat,by have:(0:Int) ≤ c1 := o0; lia⟩
   have hol:o < lim.length := by have:(o:Int) < lim.length := o1; lia
   have ex:x = .int (cntS seats xs i) := by
    rw [List.getElem?_map,il_get hi] at hx1
    exact (Option.some.inj hx1).symm
   subst ex
   have gt := same_new ht (.tup [.int (cntS seats xs i),.ref t2])
   walk_at "rd"
   refine ⟨_,SqT.of upd_same,rfl,_,_,rfl,_,_,rfl,rfl,?_⟩
   rw [b1]
   walk_at "rd"
   have eB' := gt _ _ eB
   have q2' := gt _ _ (g5 _ _ q2)
   refine ⟨_,SqT.of q2',_,rfl,_,_,rfl,SqL.of eB',_,atI_nat (by rw [List.getElem?_map,il_get hol]; rfl),_,SqT.of q2',_,rfl,_,rfl,_,rfl,_,SqT.of q2',_,rfl,_,_,rfl,eB',o,by rw [List.length_map,il_len]; exact ixN_lt hol,same_upd hB0 (g5.trans gt) _,?_,?_⟩
   ·rw [upd_ne nAB]
    exact gt _ _ eA
   ·rw [upd_same,set_ints,min_a,own_set hc]
  rintro σ H2 ⟨v5,v6,v8,g5,eA,eB,rfl⟩
  rw [List.length_map,il_len] at eB
  rw [u1]; clear u1
  walk_at "rd"
  refine ⟨⟨_,SqL.of eB⟩,⟨_,SqL.of (g5 _ _ hl)⟩,fun D hD => for_zipW (xs := (il lim.length fun o => ownT qs (cntS seats xs) o qs.length).map V.int) (ys := lim.map V.int) (fun i σ H' => Same H2 H' ∧ H' D = some (.lst ((il i fun o => min (ownT qs (cntS seats xs) o qs.length) (lim.getD o 0)).map V.int)) ∧ ∃ v0 v1,σ = [v0,v1]) (by simp [il_len]) ⟨same_new hD _,upd_same,none,none,rfl⟩ (fun i σ H' _ hh => ⟨SqL.of (hh.1 _ _ eB),SqL.of (hh.1 _ _ (g5 _ _ hl))⟩) ?_ ?_⟩
  ·rintro i x y σ H' t hx1 hy1 ⟨g6,eD,v0,v1,rfl⟩ ht
   obtain ⟨a,ha,rfl⟩ := map_item hx1
   obtain ⟨b,hb,rfl⟩ := map_item hy1
   have hi:i < lim.length := (List.getElem?_eq_some_iff.mp hb).1
   rw [il_get hi] at ha
   cases ha
   have gt := same_new ht (.tup [.int (ownT qs (cntS seats xs) i qs.length),.int b])
   walk_at "rd"
   refine ⟨_,SqT.of upd_same,rfl,_,_,rfl,_,_,rfl,rfl,?_⟩
   walk_at "rd"
   refine ⟨_,gt _ _ eD,small1000 (by rw [List.length_map,il_len]; lia),same_upd hD (g6.trans gt) _,?_⟩
   rw [upd_same,min_a,il_snoc,getD_of hb,List.map_append]
   rfl
  rintro σ H3 ⟨g6,eD,v0,v1,rfl⟩
  rw [List.length_map,il_len] at eD
  refine ⟨_,SqL.of eD,?_⟩
  rw [heldT_sum]
  exact k H3 (g5.trans g6)
noncomputable def zaw_ (K:PySem.W.Frag) (C_Hall:Addr):Sp := fun vs H Q _ => ∃ (s q l wa sa:Addr) (us ts:List V) (seats:List (List Int)) (qs:List (Int × Int)) (lim:List Int) (ws:List (Option Int)) (xs:List Int),vs = [.ref s,.ref q,.ref l,.ref wa,.ref sa] ∧ H s = some (.lst us) ∧ Rows H us seats ∧ H q = some (.lst ts) ∧ Cells H ts qs ∧ H l = some (.lst (lim.map V.int)) ∧ Stg seats qs lim ∧ H wa = some (.lst (wI ws)) ∧ H sa = some (.lst (xs.map V.int)) ∧ xs.length ≤ 200 ∧ ∀ (b:Bool) (H':Hp),Same H H' → (b = true ↔ Fit seats qs lim ws xs) → Q (.bl b) H'
theorem zaV_:FnScope ["seats","slots","caps","where","short","empty"] ["seats","slots","caps","where","short"] (defScope zv_) := ⟨rfl,rfl,rfl,by decide +kernel,rfl,by decide +kernel,by decide +kernel⟩
theorem zbv_ {C_Hall:Addr} {f:Addr} {fd:FuncData} (F:Fun K "is_filling" "is_filling" zv_ f fd) (T:Txt K mg C_Hall) (zap_:Cal P w K mg base "may_be_taken" ["seats","where"] 1 (zaj_ K C_Hall)) (zaE_:Cal P w K mg base "are_within" ["slots","caps","where"] 1 (zau_ K C_Hall)) (zaF_:Cal P w K mg base "are_rising" ["things","numbers"] 1 (zav_ K C_Hall)) (C_held:Cal P w K mg base "held" ["seats","slots","caps","some"] 1 (zbp_ K C_Hall)):FnOk P w K mg base CX0 2 f fd ["seats","slots","caps","where","short"] (zaw_ K C_Hall) := by
 refine F.ok zaV_ (fun vs H Q E h => ?_) (fun cdv A outer s H vs Q E hr h => ?_)
 ·obtain ⟨s,q,l,wa,sa,us,ts,seats,qs,lim,ws,xs,rfl,_⟩ := h
  rfl
 ·obtain ⟨s,q,l,wa,sa,us,ts,seats,qs,lim,ws,xs,rfl,hs,hR,hq,hC,hl,sg,hw,ha,x200,k⟩ := h
  refine ⟨_,(pss_cons (ps_if (PW.pt (pw_or (pt_not (pt_val (pe_cal zap_ (hr.mono (by decide)) rfl (pa_cons (pv 0) (pa_cons (pv 3) pa_nil))))) (pw_or (pt_not (pt_val (pe_cal zaE_ (hr.mono (by decide)) rfl (pa_cons (pv 1) (pa_cons (pv 2) (pa_cons (pv 3) pa_nil)))))) (pw_or1 (pt_not (pt_val (pe_cal zaF_ (hr.mono (by decide)) rfl (pa_cons (pv 0) (pa_cons (pv 4) pa_nil))))))))) (pss_one (ps_ret pe_bl)) pss_nil)
  (pss_cons (ps_set (i := 5) zaV_.nd rfl (Or.inl rfl) (pe_callB (call_lenK (K := K) rfl) (by rfl) T.len PySem.boot_len (pa_cons (pe_comp (own := ["slot"]) (fnames := []) (fr := []) (N' := ["slot"]) ⟨rfl,rfl,rfl,rfl,rfl,rfl,rfl⟩ rfl (pi_list (pv 3)) (fun s0 H0 fp0 C0 => ⟨(pg_name (i := 0) (by show (["slot"]:List Str).Nodup; decide +kernel) rfl (Or.inl rfl)),(pts_one (pt_cmpR op_isN (pv 0) pe_non (nomark _))),(pv 0)⟩)) pa_nil)))
  (pss_one (ps_ret (pe_cmpR op_eq (pv 5) (pe_op op_sub (pe_callB (call_lenK (K := K) rfl) (by rfl) T.len PySem.boot_len (pa_cons (pv 4) pa_nil)) (pe_cal C_held (hr.mono (by decide)) rfl (pa_cons (pv 0) (pa_cons (pv 1) (pa_cons (pv 2) (pa_cons (pv 4) pa_nil)))))) (nomark _)))))),?_⟩
  have sg3 := sg.sl
  have hul := hR.len
  refine seq_of fun U1 u1 => ?_
  walk_at "rd"
  refine ⟨s,wa,us,seats,ws,rfl,hs,hR,sg3,hw,fun b1 H1 g1 hb1 => ⟨b1,rfl,?_⟩⟩
  cases b1 with
  | false =>
   rw [if_pos rfl]
   exact k false H1 g1 ⟨fun z => (by cases z),fun z => absurd (hb1.mpr z.may) (by decide)⟩
  | true =>
  rw [if_neg (by decide)]
  have hmay := hb1.mp rfl
  obtain ⟨hwl,hV⟩ := hmay.wh sg
  have hw':H wa = some (.lst (whL seats.length (Wof ws))) := by rw [hw,hwl]
  refine ⟨q,l,wa,ts,seats,qs,lim,Wof ws,rfl,g1 _ _ hq,hC.mono g1,g1 _ _ hl,sg,g1 _ _ hw',hV,fun b2 H2 g2 hb2 => ⟨b2,rfl,?_⟩⟩
  have g12 := g1.trans g2
  cases b2 with
  | false =>
   rw [if_pos rfl]
   exact k false H2 g12 ⟨fun z => (by cases z),fun z => absurd (hb2.mpr z.wi) (by decide)⟩
  | true =>
  rw [if_neg (by decide)]
  have hwi := hb2.mp rfl
  refine ⟨s,sa,us,xs,rfl,g12 _ _ hs,g12 _ _ ha,_,rfl,?_⟩
  rw [hul]
  cases hris:risF seats.length (-1) xs with
  | false =>
   rw [if_pos rfl]
   exact k false H2 g12 ⟨fun z => (by cases z),fun z => absurd z.ris (by rw [hris]; decide)⟩
  | true =>
  rw [if_neg (by decide)]
  generalize hWd:Wof ws = W at *
  rw [u1]; clear u1
  refine seq_of fun U1 u1 => ?_
  walk_at "rd"
  refine ⟨⟨_,SqL.of (g12 _ _ hw')⟩,fun D hD => for_listW (xs := whL seats.length W) (fun i σ H' => ∃ (c:Nat) (v:Option V),Same H2 H' ∧ H' D = some (.lst (List.replicate c .non)) ∧ (c:Int) = Flw.cnt i (fun x => (W x).isNone) ∧ c ≤ i ∧ σ = [v]) ⟨0,none,same_new hD _,upd_same,rfl,Nat.le_refl _,rfl⟩ (fun i σ H' _ ⟨_,_,g,_⟩ => SqL.of (g _ _ (g12 _ _ hw'))) ?_ ?_⟩
  ·rintro i v σ H' hv ⟨c,w,g,e,ec,ci,rfl⟩
   have hi:i < seats.length := by have := (List.getElem?_eq_some_iff.mp hv).1; rwa [whL_len] at this
   rw [whL_get hi] at hv
   cases hv
   have es:Flw.cnt (i + 1) (fun x => (W x).isNone) = Flw.cnt i (fun x => (W x).isNone) + Flw.b2i (W i).isNone := rfl
   walk_at "rd"
   cases ew:W i with
   | none =>
    rw [if_pos (show oN none = V.non from rfl)]
    rw [ew] at es
    refine ⟨_,e,small1000 (by rw [List.length_replicate]; lia),same_upd hD g _,c + 1,?_,?_,by lia⟩
    ·rw [upd_same,List.replicate_succ']
     rfl
    ·rw [es,← ec]
     rfl
   | some s =>
    rw [if_neg (fun z => (nomatch z))]
    rw [ew] at es
    refine ⟨g,c,e,?_,by lia⟩
    rw [es,← ec]
    show (c:Int) = c + 0
    lia
  rintro σ H3 ⟨c,w,g3,e,ec,ci,rfl⟩
  rw [whL_len] at ec
  refine ⟨_,.inl (SqL.of e),?_⟩
  rw [List.length_replicate,ec]
  have g13 := g12.trans g3
  rw [u1]; clear u1
  walk_at "rd"
  refine ⟨_,.inl (SqL.of (g13 _ _ ha)),s,q,l,sa,us,ts,seats,qs,lim,_,rfl,g13 _ _ hs,hR.mono g13,g13 _ _ hq,hC.mono g13,g13 _ _ hl,g13 _ _ ha,sg,ris_in hris x200,fun H4 g4 => ⟨_,rfl,?_⟩⟩
  rw [List.length_map]
  refine k _ H4 (g13.trans g4) ?_
  rw [decide_eq_true_eq]
  subst hWd
  exact ⟨fun z => ⟨hmay,hwi,hris,z⟩,fun z => z.eq⟩
noncomputable def zC_ (_:PySem.W.Frag) (C_Hall:Addr):Sp := fun vs H Q _ => ∃ c n:Int,vs = [.int c,.int n] ∧ 0 ≤ n ∧ n ≤ 300 ∧ ∀ (r:Addr) (ns:List Int),H r = none → (ns.length:Int) = n → Q (.ref r) (upd H r (.lst (ns.map V.int)))
theorem zD_:FnScope ["_law_cell","_law_many","_law_found","_law_number","_law_k"] ["_law_cell","_law_many"] (defScope zr_) := ⟨rfl,rfl,rfl,by decide +kernel,rfl,by decide +kernel,by decide +kernel⟩
theorem zbq_ {C_Hall:Addr} {f:Addr} {fd:FuncData} (F:Fun K "_law_stream" "_law_stream" zr_ f fd) (T:Txt K mg C_Hall) :FnOk P w K mg base CX0 1 f fd ["_law_cell","_law_many"] (zC_ K C_Hall) := by
 refine F.ok zD_ (fun vs H Q E h => ?_) (fun cdv A outer s H vs Q E hr h => ?_)
 ·obtain ⟨c,n,rfl,_⟩ := h
  rfl
 ·obtain ⟨c,n,rfl,n0,n1,q⟩ := h
  refine ⟨_,(pss_cons (ps_set (i := 2) zD_.nd rfl (Or.inl rfl) (pe_lst pa_nil))
  (pss_cons (ps_set (i := 3) zD_.nd rfl (Or.inl rfl) (pe_op op_add (pe_op op_mod (pv 0) pe_int) pe_int))
  (pss_cons (ps_for PassesOwn.never rfl (pi_range1 rfl T.range (pa_cons (pv 1) pa_nil)) (pg_name (i := 4) zD_.nd rfl (Or.inl rfl))
   (pss_cons (ps_set (i := 3) zD_.nd rfl (Or.inl rfl) (pe_op op_mod (pe_op op_add (pe_op op_add (pe_op op_mul (pv 3) pe_int) (pe_op op_mul (pv 4) (pv 4))) pe_int) pe_int))
    (pss_one (ps_expr (pe_bm PySem.F.plainAttrs_list PySem.F.slot_list_append PySem.F.type_list_append mt_append (pv 2) (pa_cons (pe_op op_fdiv (pv 3) pe_int) pa_nil))))))
  (pss_one (ps_ret (pv 2)))))),?_⟩
  refine seq_of fun U1 u1 => ?_
  walk_at "rd"
  refine ⟨Nat.zero_le _,fun p hp => ?_⟩
  rw [u1]; clear u1
  refine seq_of fun U1 u1 => ?_
  walk_at "rd"
  refine ⟨by decide,?_⟩
  rw [u1]; clear u1
  refine seq_of fun U1 u1 => for_of fun B1 b1 => ?_
  walk_at "rd"
  refine ⟨by lia,by omega,for_rangeW (fun i σ H' => ∃ (ns:List Int) (x:Int) (v4:Option V),H' = upd H p (.lst (ns.map V.int)) ∧ ns.length = i ∧ σ = [some (.int c),some (.int n),some (.ref p),some (.int x),v4]) ⟨[],_,none,rfl,rfl,rfl⟩ ?_ ?_⟩
  ·rintro i σ H' hi ⟨ns,x,v4,rfl,hn,rfl⟩
   rw [show (0 + (i:Int)) = i by lia]
   rw [b1]
   refine seq_of fun U2 u2 => ?_
   walk_at "rd"
   refine ⟨.inr ⟨by decide,by decide⟩,.inl ⟨by lia,by lia⟩,by decide,?_⟩
   rw [u2]; clear u2
   walk_at "rd"
   refine ⟨.inl ⟨rfl,_,SqL.of upd_same⟩,⟨by decide,by decide⟩,_,upd_same,small1000 (by rw [List.length_map]; lia),ns ++ [(x * 69621 + (i:Int) * (i:Int) + 1) % 2147483647 / 7],?_,by rw [List.length_append,hn]; rfl⟩
   rw [upd_upd,List.map_append]
   rfl
  rintro σ H' ⟨ns,x,v4,rfl,hn,rfl⟩
  rw [u1]; clear u1
  walk_at "rd"
  exact q p ns hp (by lia)
noncomputable def zR_ (K:PySem.W.Frag) (C_Hall:Addr):Sp := fun vs H Q _ => ∃ (a:Addr) (ns:List Int) (k:Int),vs = [.ref a,.int k] ∧ SqL K H a (ns.map V.int) ∧ 0 ≤ k ∧ ∀ v:Int,Q (.int v) H
theorem zbn_:FnScope ["_law_script","_law_k"] ["_law_script","_law_k"] (defScope zo_) := ⟨rfl,rfl,rfl,by decide +kernel,rfl,by decide +kernel,by decide +kernel⟩
theorem zbo_ {C_Hall:Addr} {f:Addr} {fd:FuncData} (F:Fun K "_law_cell_at" "_law_cell_at" zo_ f fd) (T:Txt K mg C_Hall) :FnOk P w K mg base CX0 1 f fd ["_law_script","_law_k"] (zR_ K C_Hall) := by
 refine F.ok zbn_ (fun vs H Q E h => ?_) (fun cdv A outer s H vs Q E hr h => ?_)
 ·obtain ⟨a,ns,k,rfl,_⟩ := h
  rfl
 ·obtain ⟨a,ns,k,rfl,hS,k0,q⟩ := h
  refine ⟨_,(pss_cons (ps_if (pt_cmpR op_lt (pv 1) (pe_callB (call_lenK (K := K) rfl) (by rfl) T.len PySem.boot_len (pa_cons (pv 0) pa_nil)) (nomark _)) (pss_one (ps_ret (pe_ix ix_list (pv 0) (pv 1) (fun _ _ => rfl)))) pss_nil)
  (pss_one (ps_ret pe_int))),?_⟩
  walk_at "rd"
  refine ⟨_,.inl hS,?_⟩
  split
  ·rename_i hk
   rw [List.length_map] at hk
   obtain ⟨v,hv⟩ := item_of k0 hk
   exact ⟨_,hS,_,hv,q v⟩
  ·exact q 0
noncomputable def zaO_ (_:PySem.W.Frag) (C_Hall:Addr):Sp := fun vs H Q _ => ∃ i j:Int,vs = [.int i,.int j] ∧ 0 < j ∧ ∀ v:Int,0 ≤ v → Q (.int v) H
theorem zbF_:FnScope ["_law_number","_law_small"] ["_law_number","_law_small"] (defScope zW_) := ⟨rfl,rfl,rfl,by decide +kernel,rfl,by decide +kernel,by decide +kernel⟩
theorem zbG_ {C_Hall:Addr} {f:Addr} {fd:FuncData} (F:Fun K "_law_cap" "_law_cap" zW_ f fd) (T:Txt K mg C_Hall) :FnOk P w K mg base CX0 1 f fd ["_law_number","_law_small"] (zaO_ K C_Hall) := by
 refine F.ok zbF_ (fun vs H Q E h => ?_) (fun cdv A outer s H vs Q E hr h => ?_)
 ·obtain ⟨i,j,rfl,_⟩ := h
  rfl
 ·obtain ⟨i,j,rfl,hj,q⟩ := h
  refine ⟨_,(pss_cons (ps_if (pt_cmpR op_eq (pe_op op_mod (pv 0) pe_int) pe_int (nomark _)) (pss_one (ps_ret (pe_op op_sub (pe_op op_pow pe_int pe_int) (pe_op op_mod (pe_op op_fdiv (pv 0) pe_int) pe_int)))) pss_nil)
  (pss_one (ps_ret (pe_op op_mod (pe_op op_fdiv (pv 0) pe_int) (pv 1))))),?_⟩
  walk_at "rd"
  refine ⟨by decide,?_⟩
  split
  ·exact ⟨⟨by decide,by decide,by decide⟩,⟨by decide,by decide⟩,by decide,q _ (by rw [show (10:Int) ^ Int.toNat 9 = 1000000000 by decide]; lia)⟩
  ·exact ⟨⟨by decide,by decide⟩,hj,q _ (Int.emod_nonneg _ (by omega))⟩
noncomputable def zaG_ (_:PySem.W.Frag) (C_Hall:Addr):Sp := fun vs H Q _ => ∃ (x:Int) (m:Nat),vs = [.int x,.int m] ∧ m ≤ 9 ∧ ∀ (r:Addr) (row:List Int) (H':Hp),Same H H' → H r = none → H' r = some (.lst (row.map V.int)) → row.Nodup → row.length ≤ 9 → (∀ y ∈ row,0 ≤ y ∧ y < (m:Int)) → Q (.ref r) H'
theorem zak_:FnScope ["_law_number","_law_many","_law_some","_law_turn"] ["_law_number","_law_many"] (defScope zK_) := ⟨rfl,rfl,rfl,by decide +kernel,rfl,by decide +kernel,by decide +kernel⟩
theorem zbC_ {C_Hall:Addr} {f:Addr} {fd:FuncData} (F:Fun K "_law_seat" "_law_seat" zK_ f fd) (T:Txt K mg C_Hall) :FnOk P w K mg base CX0 1 f fd ["_law_number","_law_many"] (zaG_ K C_Hall) := by
 refine F.ok zak_ (fun vs H Q E h => ?_) (fun cdv A outer s H vs Q E hr h => ?_)
 ·obtain ⟨x,m,rfl,_⟩ := h
  rfl
 ·obtain ⟨x,m,rfl,m9,q⟩ := h
  refine ⟨_,(pss_cons (ps_comp (i := 2) zak_.nd rfl rfl (own := ["_law_slot"]) (fnames := ["_law_number"]) (fr := [0]) (N' := ["_law_slot","_law_number"]) ⟨rfl,rfl,rfl,rfl,rfl,rfl,rfl⟩ rfl (pi_range1 rfl T.range (pa_cons (pv 1) pa_nil)) (fun s0 H0 fp0 C0 => ⟨(pg_name (i := 0) (by show (["_law_slot","_law_number"]:List Str).Nodup; decide +kernel) rfl (Or.inl rfl)),(pts_one (pt_cmpR op_eq (pe_op op_and (pe_op op_shr (pe_op op_mod (pv 1) pe_int) (pv 0)) pe_int) pe_int (nomark _))),(pv 0)⟩))
  (pss_cons (ps_set (i := 3) zak_.nd rfl (Or.inl rfl) (pe_op op_mod (pe_op op_fdiv (pv 0) pe_int) pe_int))
  (pss_cons (ps_set (i := 2) zak_.nd rfl (Or.inl rfl) (pe_op op_cat (pe_slice sl_list (pv 2) (po_some (pv 3)) po_none) (pe_slice sl_list (pv 2) po_none (po_some (pv 3)))))
  (pss_cons (ps_if (pt_cmpR op_eq (pe_op op_mod (pe_op op_fdiv (pv 0) pe_int) pe_int) pe_int (nomark _)) (pss_one (ps_ret (pe_slice sl_list (pv 2) po_none (po_some pe_int)))) pss_nil)
  (pss_one (ps_ret (pv 2))))))),?_⟩
  refine seq_of fun U1 u1 => ?_
  walk_at "rd"
  refine ⟨by lia,by omega,fun L hL => for_rangeW (fun i σ H' => ∃ (row:List Int) (v0:Option V),H' = upd H L (.lst (row.map V.int)) ∧ row.Nodup ∧ row.length ≤ i ∧ (∀ y ∈ row,0 ≤ y ∧ y < (i:Int)) ∧ σ = [v0,some (.int x)]) ⟨[],none,rfl,List.nodup_nil,Nat.le_refl _,(fun y z => by cases z),rfl⟩ ?_ ?_⟩
  ·rintro i σ H' hi ⟨row,v0,rfl,nd,hl,hb,rfl⟩
   rw [show (0 + (i:Int)) = i by lia]
   walk_at "rd"
   refine ⟨by decide,by lia,?_⟩
   split
   ·refine ⟨_,upd_same,small1000 (by rw [List.length_map]; lia),row ++ [(i:Int)],by rw [upd_upd,List.map_append]; rfl,?_,by rw [List.length_append]; exact Nat.succ_le_succ hl,fun y hy => ?_⟩
    ·rw [List.nodup_append]
     refine ⟨nd,by simp,fun a ha b hb2 => ?_⟩
     rw [List.mem_singleton.mp hb2]
     have := hb a ha
     lia
    ·rcases List.mem_append.mp hy with z | z
     ·have := hb y z
      lia
     ·rw [List.mem_singleton.mp z]
      lia
   ·exact ⟨row,rfl,nd,by lia,fun y hy => by have := hb y hy; lia⟩
  rintro σ H' ⟨row,v0,rfl,nd,hl,hb,rfl⟩
  rw [u1]; clear u1
  refine seq_of fun U1 u1 => ?_
  walk_at "rd"
  refine ⟨⟨by decide,by decide⟩,by decide,?_⟩
  obtain ⟨t,et⟩:∃ t:Nat,x / 512 % 9 = t := ⟨(x / 512 % 9).toNat,by lia⟩
  rw [et]
  rw [u1]; clear u1
  refine seq_of fun U1 u1 => ?_
  walk_at "rd"
  rw [Int.toNat_natCast] at hl hb
  refine turned_of (Q := fun p H' => U1 _ [some (.int x),some (.int m),some (.ref p),some (.int t)] H') upd_same (by lia) fun p H' g hp e => ?_
  have g1 := (same_new hL (.lst (row.map V.int))).trans g
  have hp0:H p = none := (same_new hL (.lst (row.map V.int))).free hp
  rw [u1]; clear u1
  walk_at "rd"
  refine ⟨⟨by decide,by decide⟩,by decide,?_⟩
  split
  ·refine ⟨_,SqL.of e,fun p2 hp2 => ?_⟩
   rw [cut_two,← List.map_take]
   exact q p2 _ _ (g1.trans (same_new hp2 _)) (g1.free hp2) upd_same ((turn_nd nd t).sublist (List.take_sublist _ _)) (by rw [List.length_take,turn_len]; lia) fun y hy => hb y (turn_mem.mp (List.mem_of_mem_take hy))
  ·exact q p _ _ g1 hp0 e (turn_nd nd t) (by rw [turn_len]; lia) fun y hy => hb y (turn_mem.mp hy)
noncomputable def zax_ (K:PySem.W.Frag) (C_Hall:Addr):Sp := fun vs H Q _ => ∃ (a:Addr) (ns:List Int),vs = [.ref a] ∧ SqL K H a (ns.map V.int) ∧ ns.length ≤ 63 ∧ ∀ (t s q l:Addr) (us ts:List V) (seats:List (List Int)) (qs:List (Int × Int)) (lim:List Int) (H':Hp),Same H H' → H' t = some (.tup [.ref s,.ref q,.ref l]) → Stag H' s q l us ts seats qs lim → (∀ row ∈ seats,row.length ≤ 9) → qs.length ≤ 9 → seats.length ≤ 110 → Q (.ref t) H'
theorem za_:FnScope ["_law_script","_law_owners","_law_many","_law_xs","_law_slots","_law_limits","_law_roomy","_law_extra","_law_size","_law_numbers","_law_seats"] ["_law_script"] (defScope zz_) := ⟨rfl,rfl,rfl,by decide +kernel,rfl,by decide +kernel,by decide +kernel⟩
theorem zbw_ {C_Hall:Addr} {f:Addr} {fd:FuncData} (F:Fun K "_law_stage" "_law_stage" zz_ f fd) (T:Txt K mg C_Hall) (zc_:Cal P w K mg base "_law_stream" ["_law_cell","_law_many"] 1 (zC_ K C_Hall)) (zb_:Cal P w K mg base "_law_cell_at" ["_law_script","_law_k"] 1 (zR_ K C_Hall)) (zaC_:Cal P w K mg base "_law_cap" ["_law_number","_law_small"] 1 (zaO_ K C_Hall)) (zaP_:Cal P w K mg base "_law_seat" ["_law_number","_law_many"] 1 (zaG_ K C_Hall)):FnOk P w K mg base CX0 2 f fd ["_law_script"] (zax_ K C_Hall) := by
 refine F.ok za_ (fun vs H Q E h => ?_) (fun cdv A outer s H vs Q E hr h => ?_)
 ·obtain ⟨a,ns,rfl,_⟩ := h
  rfl
 ·obtain ⟨a,ns,rfl,hS,hn,q⟩ := h
  refine ⟨_,(pss_cons (ps_set (i := 1) za_.nd rfl (Or.inr rfl) (pe_op op_mod (pe_cal zb_ (hr.mono (by decide)) rfl (pa_cons (pv 0) (pa_cons pe_int pa_nil))) pe_int))
  (pss_cons (ps_set (i := 2) za_.nd rfl (Or.inr rfl) pe_int)
  (pss_cut (ps_if (pt_cmpR op_gt (pv 1) pe_int (nomark _)) (pss_one (ps_set (i := 2) za_.nd rfl (Or.inr rfl) (pe_op op_mod (pe_cal zb_ (hr.mono (by decide)) rfl (pa_cons (pv 0) (pa_cons pe_int pa_nil))) pe_int))) pss_nil)
  (pss_cons (ps_set (i := 3) za_.nd rfl (Or.inr rfl) (pe_cal zc_ (hr.mono (by decide)) rfl (pa_cons (pe_cal zb_ (hr.mono (by decide)) rfl (pa_cons (pv 0) (pa_cons pe_int pa_nil))) (pa_cons (pe_op op_add (pe_op op_mul pe_int (pv 2)) (pv 1)) pa_nil))))
  (pss_cons (ps_comp (i := 4) za_.nd rfl rfl (own := ["_law_k"]) (fnames := ["_law_owners","_law_xs"]) (fr := [1,3]) (N' := ["_law_k","_law_owners","_law_xs"]) ⟨rfl,rfl,rfl,rfl,rfl,rfl,rfl⟩ rfl (pi_range1 rfl T.range (pa_cons (pv 2) pa_nil)) (fun s0 H0 fp0 C0 => ⟨(pg_name (i := 0) (by show (["_law_k","_law_owners","_law_xs"]:List Str).Nodup; decide +kernel) rfl (Or.inl rfl)),pts_nil,(pe_tup (pa_cons (pe_op op_mod (pe_ix (ix_listK (K := K) rfl) (pv 2) (pe_op op_mul pe_int (pv 0)) (fun _ _ => rfl)) (pv 1)) (pa_cons (pe_cal zaC_ (hr.mono (by decide)) rfl (pa_cons (pe_ix (ix_listK (K := K) rfl) (pv 2) (pe_op op_add (pe_op op_mul pe_int (pv 0)) pe_int) (fun _ _ => rfl)) (pa_cons pe_int pa_nil))) pa_nil)))⟩))
  (pss_cons (ps_comp (i := 5) za_.nd rfl rfl (own := ["_law_k"]) (fnames := ["_law_many","_law_xs"]) (fr := [2,3]) (N' := ["_law_k","_law_many","_law_xs"]) ⟨rfl,rfl,rfl,rfl,rfl,rfl,rfl⟩ rfl (pi_range1 rfl T.range (pa_cons (pv 1) pa_nil)) (fun s0 H0 fp0 C0 => ⟨(pg_name (i := 0) (by show (["_law_k","_law_many","_law_xs"]:List Str).Nodup; decide +kernel) rfl (Or.inl rfl)),pts_nil,(pe_cal zaC_ (hr.mono (by decide)) rfl (pa_cons (pe_ix (ix_listK (K := K) rfl) (pv 2) (pe_op op_add (pe_op op_mul pe_int (pv 1)) (pv 0)) (fun _ _ => rfl)) (pa_cons pe_int pa_nil)))⟩))
  (pss_cons (ps_set (i := 6) za_.nd rfl (Or.inl rfl) (pe_cmpR op_eq (pe_op op_mod (pe_op op_fdiv (pe_cal zb_ (hr.mono (by decide)) rfl (pa_cons (pv 0) (pa_cons pe_int pa_nil))) pe_int) pe_int) pe_int (nomark _)))
  (pss_cut (ps_if (pt_val (pv 6)) (pss_cons (ps_comp (i := 4) za_.nd rfl rfl (own := ["_law_slot"]) (fnames := []) (fr := []) (N' := ["_law_slot"]) ⟨rfl,rfl,rfl,rfl,rfl,rfl,rfl⟩ rfl (pi_list (pv 4)) (fun s0 H0 fp0 C0 => ⟨(pg_name (i := 0) (by show (["_law_slot"]:List Str).Nodup; decide +kernel) rfl (Or.inl rfl)),pts_nil,(pe_tup (pa_cons (pe_ix (ix_tupK (K := K) rfl) (pv 0) pe_int (fun _ _ => rfl)) (pa_cons (pe_op op_add pe_int (pe_op op_mod (pe_ix (ix_tupK (K := K) rfl) (pv 0) pe_int (fun _ _ => rfl)) pe_int)) pa_nil)))⟩))
   (pss_one (ps_comp (i := 5) za_.nd rfl rfl (own := ["_law_cap_here"]) (fnames := []) (fr := []) (N' := ["_law_cap_here"]) ⟨rfl,rfl,rfl,rfl,rfl,rfl,rfl⟩ rfl (pi_list (pv 5)) (fun s0 H0 fp0 C0 => ⟨(pg_name (i := 0) (by show (["_law_cap_here"]:List Str).Nodup; decide +kernel) rfl (Or.inl rfl)),pts_nil,(pe_op op_mod (pv 0) pe_int)⟩)))) pss_nil)
  (pss_cons (ps_set (i := 7) za_.nd rfl (Or.inl rfl) (pe_cal zb_ (hr.mono (by decide)) rfl (pa_cons (pv 0) (pa_cons pe_int pa_nil))))
  (pss_cons (ps_set (i := 8) za_.nd rfl (Or.inl rfl) (pe_op op_mod (pv 7) pe_int))
  (pss_cut (ps_if (pt_cmpR op_eq (pe_op op_mod (pe_op op_fdiv (pv 7) pe_int) pe_int) pe_int (nomark _)) (pss_one (ps_set (i := 8) za_.nd rfl (Or.inl rfl) (pe_op op_add (pv 8) pe_int))) pss_nil)
  (pss_cons (ps_set (i := 9) za_.nd rfl (Or.inl rfl) (pe_op op_cat (pe_comp (own := ["_law_cell"]) (fnames := []) (fr := []) (N' := ["_law_cell"]) ⟨rfl,rfl,rfl,rfl,rfl,rfl,rfl⟩ rfl (pi_list (pe_slice sl_list (pv 0) (po_some pe_int) (po_some pe_int))) (fun s0 H0 fp0 C0 => ⟨(pg_name (i := 0) (by show (["_law_cell"]:List Str).Nodup; decide +kernel) rfl (Or.inl rfl)),pts_nil,(pe_op op_mod (pv 0) pe_int)⟩)) (pe_cal zc_ (hr.mono (by decide)) rfl (pa_cons (pv 7) (pa_cons (pv 8) pa_nil)))))
  (pss_cons (ps_comp (i := 10) za_.nd rfl rfl (own := ["_law_number"]) (fnames := ["_law_many"]) (fr := [2]) (N' := ["_law_number","_law_many"]) ⟨rfl,rfl,rfl,rfl,rfl,rfl,rfl⟩ rfl (pi_list (pv 9)) (fun s0 H0 fp0 C0 => ⟨(pg_name (i := 0) (by show (["_law_number","_law_many"]:List Str).Nodup; decide +kernel) rfl (Or.inl rfl)),pts_nil,(pe_cal zaP_ (hr.mono (by decide)) rfl (pa_cons (pv 0) (pa_cons (pv 1) pa_nil)))⟩))
  (pss_cut (ps_if (pt_val (pv 6)) (pss_one (ps_comp (i := 10) za_.nd rfl rfl (own := ["_law_seat_here"]) (fnames := []) (fr := []) (N' := ["_law_seat_here"]) ⟨rfl,rfl,rfl,rfl,rfl,rfl,rfl⟩ rfl (pi_list (pv 10)) (fun s0 H0 fp0 C0 => ⟨(pg_name (i := 0) (by show (["_law_seat_here"]:List Str).Nodup; decide +kernel) rfl (Or.inl rfl)),pts_nil,(pe_slice (sl_listK (K := K) rfl) (pv 0) po_none (po_some pe_int))⟩))) pss_nil)
  (pss_one (ps_ret (pe_tup (pa_cons (pv 10) (pa_cons (pv 4) (pa_cons (pv 5) pa_nil)))))))))))))))))))),?_⟩
  refine seq_of fun U1 u1 => ?_
  walk_at "rd"
  refine ⟨a,ns,_,rfl,hS,by decide,fun c0 => ?_⟩
  walk_at "rd"
  refine ⟨by decide,?_⟩
  obtain ⟨o,ho,ho5⟩:∃ o:Nat,c0 % 6 = o ∧ o ≤ 5 := ⟨(c0 % 6).toNat,by lia,by lia⟩
  rw [ho]
  rw [u1]; clear u1
  refine seq_of fun U1 u1 => ?_
  walk_at "rd"
  rw [u1]; clear u1
  refine cut_of (fun σ H' => H' = H ∧ ∃ m:Nat,m ≤ 9 ∧ (0 < m → 0 < o) ∧ σ = [some (.ref a),some (.int o),some (.int m),none,none,none,none,none,none,none,none]) ?_ ?_
  ·walk_at "rd"
   split
   ·refine ⟨a,ns,_,rfl,hS,by decide,fun c1 => ?_⟩
    walk_at "rd"
    exact ⟨by decide,(c1 % 10).toNat,by lia,by lia,by rw [Int.toNat_of_nonneg (by lia)]⟩
   ·exact ⟨0,by decide,fun z => absurd z (by decide),rfl⟩
  rintro σ H' ⟨rfl,m,m9,hmo,rfl⟩
  refine seq_of fun U1 u1 => ?_
  walk_at "rd"
  refine ⟨a,ns,_,rfl,hS,by decide,fun c2 => ⟨.inl ⟨by decide,by decide⟩,_,_,rfl,by lia,by lia,fun px xs hpx hxl => ?_⟩⟩
  have g1 := same_new hpx (.lst (xs.map V.int))
  rw [u1]; clear u1
  refine seq_of fun U1 u1 => ?_
  walk_at "rd"
  generalize hH1:upd H' px (.lst (xs.map V.int)) = H1 at g1
  have ex:H1 px = some (.lst (xs.map V.int)) := by rw [← hH1]; exact upd_same
  refine ⟨by lia,by lia,fun L hL => for_rangeW (fun i σ H2 => GatC H1 L (fun q => 0 ≤ q.1 ∧ q.1 < (o:Int) ∧ 0 ≤ q.2) i H2 ∧ ∃ v0,σ = [v0,some (.int o),some (.ref px)]) ⟨GatC.start hL,none,rfl⟩ ?_ ?_⟩
  ·rintro i σ H2 hi ⟨gc,v0,rfl⟩
   rw [show (0 + (i:Int)) = i by lia]
   obtain ⟨y1,hy1⟩ := item_of (ns := xs) (k := 2 * (i:Int)) (by lia) (by lia)
   obtain ⟨y2,hy2⟩ := item_of (ns := xs) (k := 2 * (i:Int) + 1) (by lia) (by lia)
   walk_at "rd"
   refine ⟨.inl ⟨by decide,by decide⟩,_,SqL.of (gc.same _ _ ex),_,hy1,_,rfl,by lia,.inl ⟨by decide,by decide⟩,_,SqL.of (gc.same _ _ ex),_,hy2,_,_,rfl,by decide,fun v hv0 => ⟨by decide,fun p hp => ?_⟩⟩
   refine gc.step hL (by lia) hp ?_
   exact ⟨Int.emod_nonneg _ (by lia),Int.emod_lt_of_pos _ (by lia),hv0⟩
  rintro σ H2 ⟨gc,v0,rfl⟩
  obtain ⟨ts,qs,hql,g2,eL,hC,hP⟩ := gc.ex
  rw [u1]; clear u1
  refine seq_of fun U1 u1 => ?_
  walk_at "rd"
  refine ⟨by lia,by lia,fun M hM => for_rangeW (fun i σ H3 => ∃ lim:List Int,H3 = upd H2 M (.lst (lim.map V.int)) ∧ lim.length = i ∧ (∀ y ∈ lim,0 ≤ y) ∧ ∃ v0,σ = [v0,some (.int m),some (.ref px)]) ⟨[],rfl,rfl,(fun y z => by cases z),none,rfl⟩ ?_ ?_⟩
  ·rintro i σ H3 hi ⟨lim,rfl,hll,hnn,v0,rfl⟩
   rw [show (0 + (i:Int)) = i by lia]
   obtain ⟨y,hy⟩ := item_of (ns := xs) (k := 2 * (m:Int) + (i:Int)) (by lia) (by lia)
   have gM := same_new hM (.lst (lim.map V.int))
   walk_at "rd"
   refine ⟨.inl ⟨by decide,by decide⟩,_,SqL.of (gM _ _ (g2 _ _ ex)),_,hy,_,_,rfl,by decide,fun v hv0 => ?_⟩
   refine ⟨_,upd_same,small1000 (by rw [List.length_map]; lia),lim ++ [v],by rw [upd_upd,List.map_append]; rfl,by rw [List.length_append,hll]; rfl,fun y hy => (List.mem_append.mp hy).elim (hnn y) fun z => by rw [List.mem_singleton.mp z]; exact hv0⟩
  rintro σ H3 ⟨lim,rfl,hll,hnn,v0,rfl⟩
  have gM := same_new hM (.lst (lim.map V.int))
  rw [u1]; clear u1
  refine seq_of fun U1 u1 => ?_
  walk_at "rd"
  have g3 := g1.trans (g2.trans gM)
  refine ⟨a,ns,_,rfl,g3.seq hS,by decide,fun c3 => ?_⟩
  walk_at "rd"
  refine ⟨⟨by decide,by decide⟩,by decide,?_⟩
  generalize decide (c3 / 6 % 2 = 1) = rm
  rw [u1]; clear u1
  refine cut_of (fun σ H4 => ∃ (q l:Addr) (ts:List V) (qs:List (Int × Int)) (lim:List Int),Same H' H4 ∧ H' l = none ∧ q ≠ l ∧ H4 q = some (.lst ts) ∧ Cells H4 ts qs ∧ qs.length = m ∧ (∀ c ∈ qs,0 ≤ c.1 ∧ c.1 < (o:Int) ∧ 0 ≤ c.2) ∧ H4 l = some (.lst (lim.map V.int)) ∧ lim.length = o ∧ (∀ y ∈ lim,0 ≤ y) ∧ σ = [some (.ref a),some (.int o),some (.int m),some (.ref px),some (.ref q),some (.ref l),some (.bl rm),none,none,none,none]) ?_ ?_
  ·walk_at "rd"
   have eL1 := gM _ _ eL
   have hC1 := hC.mono gM
   have hM0:H' M = none := (g1.trans g2).free hM
   have eM1:upd H2 M (.lst (lim.map V.int)) M = some (.lst (lim.map V.int)) := upd_same
   revert g3 eL1 hC1 eM1
   generalize upd H2 M (.lst (lim.map V.int)) = H3
   intro g3 eL1 hC1 eM1
   have htl := hC1.len
   split
   ·refine ⟨⟨_,SqL.of eL1⟩,fun D hD => for_listW (xs := ts) (fun i σ H5 => GatC H3 D (fun c => 0 ≤ c.1 ∧ c.1 < (o:Int) ∧ 0 ≤ c.2) i H5 ∧ ∃ v0,σ = [v0]) ⟨GatC.start hD,none,rfl⟩ (fun i σ H5 _ hh => SqL.of (hh.1.same _ _ eL1)) ?_ ?_⟩
    ·rintro i v σ H5 hv ⟨gc5,v0,rfl⟩
     obtain ⟨c,hc,t2,rfl,q2⟩ := hC1.get' hv
     have hi := (List.getElem?_eq_some_iff.mp hc).1
     have q2' := gc5.same _ _ q2
     walk_at "rd"
     refine ⟨_,SqT.of q2',_,rfl,_,SqT.of q2',_,rfl,_,rfl,by decide,by decide,fun p hp => ?_⟩
     have hPc := hP c (List.mem_of_getElem? hc)
     refine gc5.step hD (by lia) hp ?_
     refine ⟨hPc.1,hPc.2.1,?_⟩
     show 0 ≤ 3 + c.2 % 5
     lia
    rintro σ H5 ⟨gc5,v0,rfl⟩
    obtain ⟨ts5,qs5,hq5,g5,e5,hC5,hP5⟩ := gc5.ex
    refine ⟨⟨_,SqL.of (g5 _ _ eM1)⟩,fun D2 hD2 => for_listW (xs := lim.map V.int) (fun i σ H6 => ∃ l6:List Int,H6 = upd H5 D2 (.lst (l6.map V.int)) ∧ l6.length = i ∧ (∀ y ∈ l6,0 ≤ y) ∧ ∃ v0,σ = [v0]) ⟨[],rfl,rfl,(fun y z => by cases z),none,rfl⟩ (fun i σ H6 _ ⟨l6,e6,_⟩ => by rw [e6]; exact SqL.of (same_new hD2 _ _ _ (g5 _ _ eM1))) ?_ ?_⟩
    ·rintro i v σ H6 hv ⟨l6,rfl,hl6,hn6,v0,rfl⟩
     obtain ⟨y,hy,rfl⟩ := map_item hv
     have hi := (List.getElem?_eq_some_iff.mp hy).1
     walk_at "rd"
     exact ⟨by decide,_,upd_same,small1000 (by rw [List.length_map]; lia),l6 ++ [y % 4],by rw [upd_upd,List.map_append]; rfl,by rw [List.length_append,hl6]; rfl,fun z hz => (List.mem_append.mp hz).elim (hn6 z) fun w => by rw [List.mem_singleton.mp w]; lia⟩
    rintro σ H6 ⟨l6,rfl,hl6,hn6,v0,rfl⟩
    have g6 := same_new hD2 (.lst (l6.map V.int))
    rw [List.length_map] at hl6
    exact ⟨(g3.trans g5).trans g6,D,D2,(g3.trans g5).free hD2,ne_of_none e5 hD2,ts5,g6 _ _ e5,qs5,hC5.mono g6,by lia,hP5,l6,upd_same,by lia,hn6,rfl,rfl⟩
   ·exact ⟨g3,L,M,hM0,ne_of_none eL hM,ts,eL1,qs,hC1,by lia,hP,lim,eM1,by lia,hnn,rfl,rfl⟩
  rintro σ H4 ⟨q',l,ts',qs',lim',g4,hl0,nql,hq,hC',hql',hP',hl,hll',hnn',rfl⟩
  refine seq_of fun U1 u1 => ?_
  walk_at "rd"
  refine ⟨a,ns,_,rfl,g4.seq hS,by decide,fun c4 => ?_⟩
  rw [u1]; clear u1
  refine seq_of fun U1 u1 => ?_
  walk_at "rd"
  refine ⟨by decide,?_⟩
  rw [u1]; clear u1
  refine cut_of (fun σ H5 => H5 = H4 ∧ ∃ z:Nat,z ≤ 41 ∧ σ = [some (.ref a),some (.int o),some (.int m),some (.ref px),some (.ref q'),some (.ref l),some (.bl rm),some (.int c4),some (.int z),none,none]) ?_ ?_
  ·walk_at "rd"
   refine ⟨⟨by decide,by decide⟩,by decide,?_⟩
   split
   ·exact ⟨(c4 % 12 + 30).toNat,by lia,by rw [Int.toNat_of_nonneg (by lia)]⟩
   ·exact ⟨(c4 % 12).toNat,by lia,by rw [Int.toNat_of_nonneg (by lia)]⟩
  rintro σ H5 ⟨rfl,z,z41,rfl⟩
  refine seq_of fun U1 u1 => ?_
  walk_at "rd"
  refine ⟨_,g4.seq hS,fun p hp => ?_⟩
  obtain ⟨ms,ems,hms⟩ := cut_map ns (some 5) (some 29)
  rw [ems]
  have g5 := same_new hp (.lst (ms.map V.int))
  refine ⟨⟨_,SqL.of upd_same⟩,fun D hD => for_listW (xs := ms.map V.int) (fun i σ H6 => ∃ l6:List Int,H6 = upd (upd H5 p (.lst (ms.map V.int))) D (.lst (l6.map V.int)) ∧ l6.length = i ∧ ∃ v0,σ = [v0]) ⟨[],rfl,rfl,none,rfl⟩ (fun i σ H6 _ ⟨l6,e6,_⟩ => by rw [e6]; exact SqL.of (same_new hD _ _ _ upd_same)) ?_ ?_⟩
  ·rintro i v σ H6 hv ⟨l6,rfl,hl6,v0,rfl⟩
   obtain ⟨y,hy,rfl⟩ := map_item hv
   have hi := (List.getElem?_eq_some_iff.mp hy).1
   walk_at "rd"
   exact ⟨by decide,_,upd_same,small1000 (by rw [List.length_map]; lia),l6 ++ [y % 1000003],by rw [upd_upd,List.map_append]; rfl,by rw [List.length_append,hl6]; rfl⟩
  rintro σ H6 ⟨l6,rfl,hl6,v0,rfl⟩
  rw [List.length_map] at hl6
  have g6 := (g4.trans g5).trans (same_new hD (.lst (l6.map V.int)))
  refine ⟨_,_,rfl,by lia,by lia,fun r ys hr hyl => ⟨_,rfl,_,same_new hr _ _ _ upd_same,_,upd_same,small1000' (by rw [List.length_map,List.length_map]; lia),fun pn hpn => ?_⟩⟩
  rw [← List.map_append]
  have g7 := (g6.trans (same_new hr (.lst (ys.map V.int)))).trans (same_new hpn (.lst ((l6 ++ ys).map V.int)))
  have g45 := ((g5.trans (same_new hD (.lst (l6.map V.int)))).trans (same_new hr (.lst (ys.map V.int)))).trans (same_new hpn (.lst ((l6 ++ ys).map V.int)))
  have en:upd (upd (upd (upd H5 p (.lst (ms.map V.int))) D (.lst (l6.map V.int))) r (.lst (ys.map V.int))) pn (.lst ((l6 ++ ys).map V.int)) pn = some (.lst ((l6 ++ ys).map V.int)) := upd_same
  revert g7 g45 en
  generalize upd (upd (upd (upd H5 p (.lst (ms.map V.int))) D (.lst (l6.map V.int))) r (.lst (ys.map V.int))) pn (.lst ((l6 ++ ys).map V.int)) = HN
  intro g7 g45 en
  have hnl:(l6 ++ ys).length ≤ 110 := by rw [List.length_append]; lia
  revert en hnl
  generalize l6 ++ ys = zs
  intro en hnl
  rw [u1]; clear u1
  refine seq_of fun U1 u1 => ?_
  walk_at "rd"
  refine ⟨⟨_,SqL.of en⟩,fun E1 hE1 => for_listW (xs := zs.map V.int) (fun i σ H7 => GathN HN E1 (RowOk m) i H7 ∧ ∃ v0,σ = [v0,some (.int m)]) ⟨GathN.start hE1,none,rfl⟩ (fun i σ H7 _ hh => SqL.of (hh.1.same _ _ en)) ?_ ?_⟩
  ·rintro i v σ H7 hv ⟨ga,v0,rfl⟩
   obtain ⟨y,hy,rfl⟩ := map_item hv
   have hi := (List.getElem?_eq_some_iff.mp hy).1
   walk_at "rd"
   exact ⟨_,m,rfl,m9,fun r row H8 g8 hr0 hr8 nd hl8 hb8 => ga.step hE1 (by lia) g8 hr0 hr8 ⟨nd,by lia,hb8⟩⟩
  rintro σ H7 ⟨ga,v0,rfl⟩
  rw [List.length_map] at ga
  obtain ⟨us,seats,hsl,g8,e8,hR8,hok8,nd8,fr8⟩ := ga.ex
  rw [u1]; clear u1
  refine cut_of (fun σ H8 => ∃ (s:Addr) (us:List V) (seats:List (List Int)),Same HN H8 ∧ HN s = none ∧ H8 s = some (.lst us) ∧ Rows H8 us seats ∧ seats.length ≤ 110 ∧ (∀ row ∈ seats,RowOk m row) ∧ us.Nodup ∧ (∀ t,V.ref t ∈ us → t ≠ s ∧ HN t = none) ∧ σ = [some (.ref a),some (.int o),some (.int m),some (.ref px),some (.ref q'),some (.ref l),some (.bl rm),some (.int c4),some (.int z),some (.ref pn),some (.ref s)]) ?_ ?_
  ·walk_at "rd"
   have hul8 := hR8.len
   split
   ·refine ⟨⟨_,SqL.of e8⟩,fun D hD => for_listW (xs := us) (fun i σ H9 => GathN H7 D (RowOk m) i H9 ∧ ∃ v0,σ = [v0]) ⟨GathN.start hD,none,rfl⟩ (fun i σ H9 _ hh => SqL.of (hh.1.same _ _ e8)) ?_ ?_⟩
    ·rintro i v σ H9 hv ⟨ga9,v0,rfl⟩
     obtain ⟨row,hrow,t,rfl,ht⟩ := hR8.at' hv
     have hi := (List.getElem?_eq_some_iff.mp hrow).1
     walk_at "rd"
     refine ⟨_,SqL.of (ga9.same _ _ ht),fun p hp => ?_⟩
     rw [cut_two,← List.map_take]
     exact ga9.step hD (by lia) (same_new hp _) hp upd_same ((hok8 row (List.mem_of_getElem? hrow)).take 2)
    rintro σ H9 ⟨ga9,v0,rfl⟩
    obtain ⟨us9,seats9,hs9,g9,e9,hR9,hok9,nd9,fr9⟩ := ga9.ex
    exact ⟨g8.trans g9,D,g8.free hD,us9,e9,seats9,hR9,by lia,hok9,nd9,fun t ht => ⟨(fr9 t ht).1,g8.free (fr9 t ht).2⟩,rfl⟩
   ·exact ⟨g8,E1,hE1,us,e8,seats,hR8,by lia,hok8,nd8,fun t ht => fr8 t ht,rfl⟩
  rintro σ H8 ⟨s',us',seats',g9,hs9,e9,hR9,hl9,hok9,nd9,fr9,rfl⟩
  walk_at "rd"
  have hlN := g9 _ _ (g45 _ _ hl)
  refine ⟨by decide,fun t ht => ?_⟩
  have gt := same_new ht (.tup [.ref s',.ref q',.ref l])
  have nl:∀ t2,V.ref t2 ∈ us' → t2 ≠ s' ∧ t2 ≠ q' ∧ t2 ≠ l := fun t2 ht2 => ⟨(fr9 t2 ht2).1,(ne_of_none (g45 _ _ hq) (fr9 t2 ht2).2).symm,(ne_of_none (g45 _ _ hl) (fr9 t2 ht2).2).symm⟩
  refine q t s' q' l us' ts' seats' qs' lim' _ ((g7.trans g9).trans gt) upd_same ⟨gt _ _ e9,hR9.mono gt,gt _ _ (g9 _ _ (g45 _ _ hq)),hC'.mono (g45.trans (g9.trans gt)),gt _ _ hlN,nd9,nl,(ne_of_none (g45 _ _ hq) hs9).symm,(ne_of_none (g45 _ _ hl) hs9).symm,nql,⟨by lia,by lia,by lia,fun row hrow => ?_,fun c hc => ?_⟩,fun c hc => (hP' c hc).2.2,hnn'⟩ (fun row hrow => ?_) (by lia) (by omega)
  ·rw [hql']
   exact hok9 row hrow
  ·rw [hll']
   exact ⟨(hP' c hc).1,(hP' c hc).2.1⟩
  ·have h1 := hok9 row hrow
   have := row_le h1.1 h1.2.2
   lia
noncomputable def zay_ (_:PySem.W.Frag) (C_Hall:Addr):Sp := fun vs H Q _ => ∃ i:Int,vs = [.int i] ∧ Q (.bl true) H
theorem zbx_:FnScope ["_law_found"] ["_law_found"] (defScope zy_) := ⟨rfl,rfl,rfl,by decide +kernel,rfl,by decide +kernel,by decide +kernel⟩
theorem zby_ {C_Hall:Addr} {f:Addr} {fd:FuncData} (F:Fun K "_law_whole" "_law_whole" zy_ f fd) (T:Txt K mg C_Hall) :FnOk P w K mg base CX0 1 f fd ["_law_found"] (zay_ K C_Hall) := by
 refine F.ok zbx_ (fun vs H Q E h => ?_) (fun cdv A outer s H vs Q E hr h => ?_)
 ·obtain ⟨i,rfl,_⟩ := h
  rfl
 ·obtain ⟨i,rfl,q⟩ := h
  refine ⟨_,(pss_one (ps_ret (pe_and (pe_callB call_isi (by rfl) T.isinstance PyProof.Rows.boot_isinstance (pa_cons (pv 0) (pa_cons (pe_bltn (v := .ty "int") rfl T.int PyProof.Rows.boot_int rfl) pa_nil))) (pe_one (pe_not (pe_callB call_isi (by rfl) T.isinstance PyProof.Rows.boot_isinstance (pa_cons (pv 0) (pa_cons (pe_bltn (v := .ty "bool") rfl T.bool PyProof.Rows.boot_bool rfl) pa_nil)))))))),?_⟩
  walk_at "rd"
  exact q
noncomputable def zaq_ (K:PySem.W.Frag) (C_Hall:Addr):Sp := fun vs H Q _ => ∃ (s q l w:Addr) (us ts:List V) (seats:List (List Int)) (qs:List (Int × Int)) (lim:List Int) (ws:List (Option Int)),vs = [.ref s,.ref q,.ref l,.ref w] ∧ H s = some (.lst us) ∧ Rows H us seats ∧ H q = some (.lst ts) ∧ Cells H ts qs ∧ H l = some (.lst (lim.map V.int)) ∧ H w = some (.lst (wI ws)) ∧ Stg seats qs lim ∧ ∀ (b:Bool) (H':Hp),Same H H' → (b = true ↔ (May seats ws ∧ Wi seats qs lim (Wof ws))) → Q (.bl b) H'
theorem zE_:FnScope ["_law_seats","_law_slots","_law_limits","_law_where","_law_seat_here","_law_slot","_law_owner"] ["_law_seats","_law_slots","_law_limits","_law_where"] (defScope zs_) := ⟨rfl,rfl,rfl,by decide +kernel,rfl,by decide +kernel,by decide +kernel⟩
theorem zbr_ {C_Hall:Addr} {f:Addr} {fd:FuncData} (F:Fun K "_law_within" "_law_within" zs_ f fd) (T:Txt K mg C_Hall) (zaH_:Cal P w K mg base "_law_whole" ["_law_found"] 1 (zay_ K C_Hall)):FnOk P w K mg base CX0 2 f fd ["_law_seats","_law_slots","_law_limits","_law_where"] (zaq_ K C_Hall) := by
 refine F.ok zE_ (fun vs H Q E h => ?_) (fun cdv A outer s H vs Q E hr h => ?_)
 ·obtain ⟨s,q,l,w,us,ts,seats,qs,lim,ws,rfl,_⟩ := h
  rfl
 ·obtain ⟨s,q,l,w,us,ts,seats,qs,lim,ws,rfl,hs,hR,hq,hC,hl,hw,sg,k⟩ := h
  refine ⟨_,(pss_cons (ps_if (PW.pt (pw_or (pt_not (pt_val (pe_callB call_isi (by rfl) T.isinstance PyProof.Rows.boot_isinstance (pa_cons (pv 3) (pa_cons (pe_bltn (v := .ty "list") rfl T.list PyProof.Rows.boot_list rfl) pa_nil))))) (pw_or1 (pt_cmpR op_ne (pe_callB (call_lenK (K := K) rfl) (by rfl) T.len PySem.boot_len (pa_cons (pv 3) pa_nil)) (pe_callB (call_lenK (K := K) rfl) (by rfl) T.len PySem.boot_len (pa_cons (pv 0) pa_nil)) (nomark _))))) (pss_one (ps_ret pe_bl)) pss_nil)
  (pss_cons (ps_for PassesOwn.never rfl (pi_range1 rfl T.range (pa_cons (pe_callB (call_lenK (K := K) rfl) (by rfl) T.len PySem.boot_len (pa_cons (pv 0) pa_nil)) pa_nil)) (pg_name (i := 4) zE_.nd rfl (Or.inl rfl))
   (pss_cons (ps_set (i := 5) zE_.nd rfl (Or.inl rfl) (pe_ix ix_list (pv 3) (pv 4) (fun _ _ => rfl)))
    (pss_one (ps_if (PW.pt (pw_and (pt_cmpR op_notN (pv 5) pe_non (nomark _)) (pw_and1 (PW.pt (pw_or (pt_not (pt_val (pe_cal zaH_ (hr.mono (by decide)) rfl (pa_cons (pv 5) pa_nil)))) (pw_or1 (pt_cmpR (op_notIn_seqK (K := K) rfl) (pv 5) (pe_ix ix_list (pv 0) (pv 4) (fun _ _ => rfl)) (by with_unfolding_all rfl)))))))) (pss_one (ps_ret pe_bl)) pss_nil))))
  (pss_cons (ps_for PassesOwn.never rfl (pi_range1 rfl T.range (pa_cons (pe_callB (call_lenK (K := K) rfl) (by rfl) T.len PySem.boot_len (pa_cons (pv 1) pa_nil)) pa_nil)) (pg_name (i := 5) zE_.nd rfl (Or.inl rfl))
   (pss_one (ps_if (pt_cmpR op_gt (pe_bm PySem.F.plainAttrs_list PySem.F.slot_list_count PySem.F.type_list_count mt_count (pv 3) (pa_cons (pv 5) pa_nil)) (pe_ix ix_tup (pe_ix ix_list (pv 1) (pv 5) (fun _ _ => rfl)) pe_int (fun _ _ => rfl)) (nomark _)) (pss_one (ps_ret pe_bl)) pss_nil)))
  (pss_cons (ps_for PassesOwn.never rfl (pi_range1 rfl T.range (pa_cons (pe_callB (call_lenK (K := K) rfl) (by rfl) T.len PySem.boot_len (pa_cons (pv 2) pa_nil)) pa_nil)) (pg_name (i := 6) zE_.nd rfl (Or.inr rfl))
   (pss_one (ps_if (pt_cmpR op_gt (pe_callB (call_lenK (K := K) rfl) (by rfl) T.len PySem.boot_len (pa_cons (pe_comp (own := ["_law_slot"]) (fnames := ["_law_slots","_law_owner"]) (fr := [1,6]) (N' := ["_law_slot","_law_slots","_law_owner"]) ⟨rfl,rfl,rfl,rfl,rfl,rfl,rfl⟩ rfl (pi_list (pv 3)) (fun s0 H0 fp0 C0 => ⟨(pg_name (i := 0) (by show (["_law_slot","_law_slots","_law_owner"]:List Str).Nodup; decide +kernel) rfl (Or.inl rfl)),(pts_one (PW.pt (pw_and (pt_cmpR op_notN (pv 0) pe_non (nomark _)) (pw_and1 (pt_cmpR op_eq (pe_ix (ix_tupK (K := K) rfl) (pe_ix (ix_listK (K := K) rfl) (pv 1) (pv 0) (fun _ _ => rfl)) pe_int (fun _ _ => rfl)) (pv 2) (nomark _)))))),(pv 0)⟩)) pa_nil)) (pe_ix ix_list (pv 2) (pv 6) (fun _ _ => rfl)) (nomark _)) (pss_one (ps_ret pe_bl)) pss_nil)))
  (pss_one (ps_ret pe_bl)))))),?_⟩
  have hul := hR.len
  have htl := hC.len
  have sg1 := sg.ql
  have sg2 := sg.ll
  have sg3 := sg.sl
  have no:∀ {p:Prop},¬ p → (false = true ↔ p) := fun h => ⟨fun z => (by cases z),fun z => absurd z h⟩
  refine seq_of fun U1 u1 => ?_
  walk_at "rd"
  refine ⟨"list",.inl ⟨rfl,_,hw⟩,?_⟩
  rw [if_neg (by decide)]
  refine ⟨_,.inl (SqL.of hw),_,.inl (SqL.of hs),?_⟩
  rw [wI_len,hul]
  by_cases hlen:ws.length = seats.length
  case neg =>
   rw [if_pos (by lia)]
   exact k false H (Same.refl _) (no fun z => hlen z.1.len)
  rw [if_neg (by lia)]
  rw [u1]; clear u1
  refine seq_of fun U1 u1 => for_of fun B1 b1 => ?_
  walk_at "rd"
  refine ⟨_,.inl (SqL.of hs),by lia,by lia,for_rangeW (fun i σ H' => H' = H ∧ (∀ j,j < i → ∀ z,ws[j]? = some (some z) → z ∈ seats[j]?.getD []) ∧ ∃ (v4 v5:Option V),σ = [some (.ref s),some (.ref q),some (.ref l),some (.ref w),v4,v5,none]) ⟨rfl,(fun j h => absurd h (Nat.not_lt_zero _)),none,none,rfl⟩ ?_ ?_⟩
  ·rintro i σ H' hi ⟨rfl,hok,v4,v5,rfl⟩
   rw [show (0 + (i:Int)) = i by lia]
   rw [hul,Int.toNat_natCast] at hi
   have hwi := List.getElem?_eq_getElem (show i < ws.length by lia)
   have hri := List.getElem?_eq_getElem hi
   obtain ⟨t1,a1,q1⟩ := hR.get hri
   rw [b1]
   refine seq_of fun U2 u2 => ?_
   walk_at "rd"
   refine ⟨_,SqL.of hw,_,atI_nat (wI_get hwi),?_⟩
   rw [u2]; clear u2
   have nxt:(∀ z,ws[i]? = some (some z) → z ∈ seats[i]?.getD []) → ∀ j,j < i + 1 → ∀ z,ws[j]? = some (some z) → z ∈ seats[j]?.getD [] := fun h j hj => by
    by_cases z:j = i
    ·rw [z]; exact h
    ·exact hok j (by lia)
   cases ew:ws[i] with
   | none =>
    walk_at "rd"
    rw [if_neg (fun z => z rfl)]
    first | refine ⟨rfl,nxt fun z hz => ?_⟩ | refine nxt fun z hz => ?_
    rw [hwi,ew] at hz
    cases hz
   | some z0 =>
    walk_at "rd"
    rw [if_pos (fun z => (nomatch z))]
    refine ⟨z0,rfl,true,rfl,?_⟩
    rw [if_neg (by decide)]
    refine ⟨_,SqL.of hs,_,atI_nat a1,t1,rfl,_,.inl (SqL.of q1),rfl,flat_ints _,?_⟩
    show (if inV (.int z0) _ = false then _ else _)
    rw [in_ints]
    by_cases hm:z0 ∈ seats[i]
    ·rw [decide_eq_true hm,if_neg (by decide)]
     first | refine ⟨rfl,nxt fun z hz => ?_⟩ | refine nxt fun z hz => ?_
     rw [hwi,ew] at hz
     cases hz
     rw [hri]
     exact hm
    ·rw [decide_eq_false hm,if_pos rfl]
     refine k false _ (Same.refl _) (no fun z => hm ?_)
     have := z.1.mem i z0 (by rw [hwi,ew])
     rw [hri] at this
     exact this
  rintro σ H' ⟨rfl,hok,v4,v5,rfl⟩
  rw [hul,Int.toNat_natCast] at hok
  have hmay:May seats ws := ⟨hlen,fun i z hz => hok i (by rw [← hlen]; exact (List.getElem?_eq_some_iff.mp hz).1) z hz⟩
  obtain ⟨hwl,hin⟩ := hmay.wh sg
  rw [hwl] at hw
  have k':∀ (b:Bool) (H2:Hp),Same H' H2 → (b = true ↔ Wi seats qs lim (Wof ws)) → Q (.bl b) H2 := fun b H2 g hb => k b H2 g (hb.trans ⟨fun z => ⟨hmay,z⟩,fun z => z.2⟩)
  generalize Wof ws = W at hw hin k'
  clear k hok hmay hwl
  rw [u1]; clear u1
  refine seq_of fun U1 u1 => for_of fun B1 b1 => ?_
  walk_at "rd"
  refine ⟨_,.inl (SqL.of hq),by lia,by lia,for_rangeW (fun i σ H2 => H2 = H' ∧ (∀ j,j < i → Flw.cS (netOf seats qs lim) W j ≤ (netOf seats qs lim).cap j) ∧ ∃ (v4 v5:Option V),σ = [some (.ref s),some (.ref q),some (.ref l),some (.ref w),v4,v5,none]) ⟨rfl,(fun j h => absurd h (Nat.not_lt_zero _)),_,_,rfl⟩ ?_ ?_⟩
  ·rintro i σ H2 hi ⟨rfl,hok,v4,v5,rfl⟩
   rw [show (0 + (i:Int)) = i by lia]
   rw [htl,Int.toNat_natCast] at hi
   have hci := List.getElem?_eq_getElem hi
   obtain ⟨v,hvi,t2,rfl,q2⟩ := Paired.getR hC hci
   rw [b1]
   walk_at "rd"
   refine ⟨.inl ⟨rfl,_,SqL.of hw⟩,_,hw,rfl,whL_flat _ _,_,SqL.of hq,_,atI_nat hvi,t2,rfl,_,SqT.of q2,.int qs[i].2,rfl,qs[i].2,rfl,?_⟩
   have ec:(netOf seats qs lim).cap i = qs[i].2 := by
    show (qs[i]?.getD (0,0)).2 = _
    rw [hci]
    rfl
   have e1:Flw.cS (netOf seats qs lim) W i = Flw.cnt seats.length (Flw.atS W i) := rfl
   rw [whL_count]
   by_cases h1:qs[i].2 < Flw.cnt seats.length (Flw.atS W i)
   ·rw [if_pos h1]
    exact k' false _ (Same.refl _) (no fun z => by have := z.sl i hi; rw [ec,e1] at this; lia)
   ·rw [if_neg h1]
    intro j hj
    by_cases z:j = i
    ·rw [z,ec,e1]; lia
    ·exact hok j (by lia)
  rintro σ H2 ⟨rfl,hsl,v4,v5,rfl⟩
  rw [htl,Int.toNat_natCast] at hsl
  rw [u1]; clear u1
  refine seq_of fun U1 u1 => for_of fun B1 b1 => ?_
  walk_at "rd"
  refine ⟨_,.inl (SqL.of hl),by lia,by rw [List.length_map]; lia,for_rangeW (fun i σ H3 => Same H2 H3 ∧ (∀ j,j < i → Flw.cO (netOf seats qs lim) W j ≤ (netOf seats qs lim).lim j) ∧ ∃ (v4 v5 v6:Option V),σ = [some (.ref s),some (.ref q),some (.ref l),some (.ref w),v4,v5,v6]) ⟨Same.refl _,(fun j h => absurd h (Nat.not_lt_zero _)),_,_,_,rfl⟩ ?_ ?_⟩
  ·rintro i σ H3 hi ⟨g3,hok,v4,v5,v6,rfl⟩
   rw [show (0 + (i:Int)) = i by lia]
   rw [List.length_map,Int.toNat_natCast] at hi
   rw [b1]
   walk_at "rd"
   refine ⟨⟨_,SqL.of (g3 _ _ hw)⟩,fun D hD => for_listW (xs := whL seats.length W) (fun i' σ H4 => Same H3 H4 ∧ ∃ (xs:List V) (v0:Option V),H4 D = some (.lst xs) ∧ (xs.length:Int) = Flw.cnt i' (Flw.atO (netOf seats qs lim) W i) ∧ xs.length ≤ i' ∧ σ = [v0,some (.ref q),some (.int i)]) ⟨same_new hD _,[],none,upd_same,rfl,Nat.le_refl _,rfl⟩ (fun i' σ H4 _ hh => SqL.of (hh.1 _ _ (g3 _ _ hw))) ?_ ?_⟩
   ·rintro i' v σ H4 hv' ⟨g4,xs,v0,eD,el,le,rfl⟩
    have hi':i' < seats.length := by have := (List.getElem?_eq_some_iff.mp hv').1; rwa [whL_len] at this
    rw [whL_get hi'] at hv'
    cases hv'
    have es:Flw.cnt (i' + 1) (Flw.atO (netOf seats qs lim) W i) = Flw.cnt i' (Flw.atO (netOf seats qs lim) W i) + Flw.b2i (Flw.atO (netOf seats qs lim) W i i') := rfl
    cases ew:W i' with
    | none =>
     rw [Flw.atO_none ew] at es
     walk_at "rd"
     rw [if_neg (fun z => z rfl)]
     refine ⟨g4,xs,eD,?_,by lia⟩
     rw [es,el]
     show _ = _ + (0:Int)
     lia
    | some t =>
     rw [Flw.atO_some ew] at es
     have ht:t < qs.length := (net_ok sg).sl i' t (hin i' t ew).1
     have hct := List.getElem?_eq_getElem ht
     obtain ⟨v,hvt,t2,rfl,q2⟩ := Paired.getR hC hct
     have hq0 := (sg.own _ (List.getElem_mem ht)).1
     have eo:(netOf seats qs lim).own t = qs[t].1.toNat := by
      show (qs[t]?.getD (0,0)).1.toNat = _
      rw [hct]
      rfl
     walk_at "rd"
     rw [if_pos (fun z => (nomatch z))]
     refine ⟨_,t,rfl,SqL.of ((g3.trans g4) _ _ hq),_,atI_nat hvt,t2,rfl,_,SqT.of ((g3.trans g4) _ _ q2),.int qs[t].1,rfl,?_⟩
     walk_at "rd"
     by_cases z:qs[t].1 = (i:Int)
     ·have zz:(netOf seats qs lim).own t = i := by lia
      rw [Flw.b2i_t zz] at es
      rw [if_pos z]
      refine ⟨_,eD,small1000 (by lia),same_upd hD g4 _,_,upd_same,?_,?_⟩
      ·rw [List.length_append,es,← el]
       rfl
      ·rw [List.length_append]
       exact Nat.succ_le_succ le
     ·have zz:¬ (netOf seats qs lim).own t = i := by lia
      rw [Flw.b2i_f zz] at es
      rw [if_neg z]
      exact ⟨g4,xs,eD,by lia,by lia⟩
   rintro σ H4 ⟨g4,xs,v0,eD,el,le,rfl⟩
   rw [whL_len] at el
   have hy:atI (lim.map V.int) (i:Int) = some (.int lim[i]) := atI_nat (by rw [List.getElem?_map,List.getElem?_eq_getElem hi]; rfl)
   have ec:(netOf seats qs lim).lim i = lim[i] := by
    show lim[i]?.getD 0 = _
    rw [List.getElem?_eq_getElem hi]
    rfl
   have e1:Flw.cO (netOf seats qs lim) W i = Flw.cnt seats.length (Flw.atO (netOf seats qs lim) W i) := rfl
   refine ⟨_,.inl (SqL.of eD),_,SqL.of ((g3.trans g4) _ _ hl),_,hy,lim[i],rfl,?_⟩
   by_cases h1:lim[i] < (xs.length:Int)
   ·rw [if_pos h1]
    exact k' false _ (g3.trans g4) (no fun z => by have := z.ow i hi; rw [ec,e1] at this; lia)
   ·rw [if_neg h1]
    refine ⟨g3.trans g4,fun j hj => ?_⟩
    by_cases z:j = i
    ·rw [z,ec,e1]; lia
    ·exact hok j (by lia)
  rintro σ H3 ⟨g3,how,v4,v5,v6,rfl⟩
  rw [List.length_map,Int.toNat_natCast] at how
  rw [u1]; clear u1
  walk_at "rd"
  exact k' true _ g3 ⟨fun _ => ⟨hsl,how⟩,fun _ => rfl⟩
noncomputable def zaz_ (K:PySem.W.Frag) (C_Hall:Addr):Sp := fun vs H Q _ => ∃ (s q l p:Addr) (us ts:List V) (seats:List (List Int)) (qs:List (Int × Int)) (lim xs:List Int),vs = [.ref s,.ref q,.ref l,.ref p] ∧ H s = some (.lst us) ∧ Rows H us seats ∧ H q = some (.lst ts) ∧ Cells H ts qs ∧ H l = some (.lst (lim.map V.int)) ∧ H p = some (.lst (xs.map V.int)) ∧ Stg seats qs lim ∧ InS seats.length xs ∧ ∀ H',Same H H' → Q (.int (heldT qs lim (cntS seats xs) lim.length)) H'
theorem zl_:FnScope ["_law_seats","_law_slots","_law_limits","_law_some","_law_borne_here","_law_owner","_law_many","_law_slot"] ["_law_seats","_law_slots","_law_limits","_law_some"] (defScope zA_) := ⟨rfl,rfl,rfl,by decide +kernel,rfl,by decide +kernel,by decide +kernel⟩
theorem zbz_ {C_Hall:Addr} {f:Addr} {fd:FuncData} (F:Fun K "_law_borne" "_law_borne" zA_ f fd) (T:Txt K mg C_Hall) :FnOk P w K mg base CX0 1 f fd ["_law_seats","_law_slots","_law_limits","_law_some"] (zaz_ K C_Hall) := by
 refine F.ok zl_ (fun vs H Q E h => ?_) (fun cdv A outer s H vs Q E hr h => ?_)
 ·obtain ⟨s,q,l,p,us,ts,seats,qs,lim,xs,rfl,_⟩ := h
  rfl
 ·obtain ⟨s,q,l,p,us,ts,seats,qs,lim,xs,rfl,hs,hR,hq,hC,hl,hp,sg,hx,k⟩ := h
  refine ⟨_,(pss_cons (ps_set (i := 4) zl_.nd rfl (Or.inl rfl) pe_int)
  (pss_cons (ps_for PassesOwn.never rfl (pi_range1 rfl T.range (pa_cons (pe_callB (call_lenK (K := K) rfl) (by rfl) T.len PySem.boot_len (pa_cons (pv 2) pa_nil)) pa_nil)) (pg_name (i := 5) zl_.nd rfl (Or.inl rfl))
   (pss_cons (ps_set (i := 6) zl_.nd rfl (Or.inl rfl) pe_int)
    (pss_cons (ps_for PassesOwn.never rfl (pi_range1 rfl T.range (pa_cons (pe_callB (call_lenK (K := K) rfl) (by rfl) T.len PySem.boot_len (pa_cons (pv 1) pa_nil)) pa_nil)) (pg_name (i := 7) zl_.nd rfl (Or.inr rfl))
     (pss_one (ps_if (pt_cmpR op_eq (pe_ix ix_tup (pe_ix ix_list (pv 1) (pv 7) (fun _ _ => rfl)) pe_int (fun _ _ => rfl)) (pv 5) (nomark _)) (pss_one (ps_set (i := 6) zl_.nd rfl (Or.inl rfl) (pe_op op_add (pv 6) (pe_callB (call_min2 rfl) (by rfl) T.min PyProof.Rows.boot_min (pa_cons (pe_ix ix_tup (pe_ix ix_list (pv 1) (pv 7) (fun _ _ => rfl)) pe_int (fun _ _ => rfl)) (pa_cons (pe_callB (call_lenK (K := K) rfl) (by rfl) T.len PySem.boot_len (pa_cons (pe_comp (own := ["_law_seat_here"]) (fnames := ["_law_seats","_law_slot"]) (fr := [0,7]) (N' := ["_law_seat_here","_law_seats","_law_slot"]) ⟨rfl,rfl,rfl,rfl,rfl,rfl,rfl⟩ rfl (pi_list (pv 3)) (fun s0 H0 fp0 C0 => ⟨(pg_name (i := 0) (by show (["_law_seat_here","_law_seats","_law_slot"]:List Str).Nodup; decide +kernel) rfl (Or.inl rfl)),(pts_one (pt_cmpR (op_in_seqK (K := K) rfl) (pv 2) (pe_ix (ix_listK (K := K) rfl) (pv 1) (pv 0) (fun _ _ => rfl)) (by with_unfolding_all rfl))),(pv 0)⟩)) pa_nil)) pa_nil)))))) pss_nil)))
    (pss_one (ps_set (i := 4) zl_.nd rfl (Or.inl rfl) (pe_op op_add (pv 4) (pe_callB (call_min2 rfl) (by rfl) T.min PyProof.Rows.boot_min (pa_cons (pv 6) (pa_cons (pe_ix ix_list (pv 2) (pv 5) (fun _ _ => rfl)) pa_nil)))))))))
  (pss_one (ps_ret (pv 4))))),?_⟩
  have hul := hR.len
  have htl := hC.len
  have sg1 := sg.ql
  have sg2 := sg.ll
  have sg3 := sg.sl
  refine seq_of fun U1 u1 => ?_
  walk_at "rd"
  rw [u1]; clear u1
  refine seq_of fun U1 u1 => for_of fun B1 b1 => ?_
  walk_at "rd"
  refine ⟨_,.inl (SqL.of hl),by lia,by rw [List.length_map]; lia,for_rangeW (fun i σ H' => ∃ (v5 v6 v7:Option V),Same H H' ∧ σ = [some (.ref s),some (.ref q),some (.ref l),some (.ref p),some (.int (heldT qs lim (cntS seats xs) i)),v5,v6,v7]) ⟨none,none,none,Same.refl _,rfl⟩ ?_ ?_⟩
  ·rintro i σ H' hi ⟨v5,v6,v7,g,rfl⟩
   rw [show (0 + (i:Int)) = i by lia]
   rw [List.length_map,Int.toNat_natCast] at hi
   rw [b1]
   refine seq_of fun U2 u2 => ?_
   walk_at "rd"
   rw [u2]; clear u2
   refine seq_of fun U2 u2 => for_of fun B2 b2 => ?_
   walk_at "rd"
   refine ⟨_,.inl (SqL.of (g _ _ hq)),by lia,by lia,for_rangeW (fun j σ H2 => ∃ (v7:Option V),Same H H2 ∧ σ = [some (.ref s),some (.ref q),some (.ref l),some (.ref p),some (.int (heldT qs lim (cntS seats xs) i)),some (.int i),some (.int (ownT qs (cntS seats xs) i j)),v7]) ⟨_,g,rfl⟩ ?_ ?_⟩
   ·rintro j σ H2 hj ⟨v7,g2,rfl⟩
    rw [show (0 + (j:Int)) = j by lia]
    rw [htl,Int.toNat_natCast] at hj
    have hcj := List.getElem?_eq_getElem hj
    obtain ⟨v,hv,t2,rfl,q2⟩ := Paired.getR hC hcj
    rw [b2]
    walk_at "rd"
    refine ⟨_,SqL.of (g2 _ _ hq),_,atI_nat hv,t2,rfl,_,SqT.of (g2 _ _ q2),.int qs[j].1,rfl,?_⟩
    rw [own_step hcj]
    walk_at "rd"
    split
    ·rename_i hq1
     refine ⟨_,SqL.of (g2 _ _ hq),_,atI_nat hv,t2,rfl,_,SqT.of (g2 _ _ q2),.int qs[j].2,rfl,⟨_,SqL.of (g2 _ _ hp)⟩,fun D hD => for_listW (xs := xs.map V.int) (fun i' σ H3 => Same H2 H3 ∧ H3 D = some (.lst (((xs.take i').filter fun y => decide ((j:Int) ∈ rowAt seats y)).map V.int)) ∧ ∃ v0,σ = [v0,some (.ref s),some (.int j)]) ⟨same_new hD _,upd_same,none,rfl⟩ (fun i' σ H3 _ hh => SqL.of (hh.1 _ _ (g2 _ _ hp))) ?_ ?_⟩
     ·rintro i' v σ H3 hv' ⟨g3,eD,v0,rfl⟩
      obtain ⟨x,hxi,rfl⟩ := map_item hv'
      obtain ⟨x0,x1⟩ := hx.2 x (List.mem_of_getElem? hxi)
      obtain ⟨n,rfl⟩:∃ n:Nat,x = n := ⟨x.toNat,by lia⟩
      have hn:n < seats.length := by lia
      have hrn := List.getElem?_eq_getElem hn
      obtain ⟨t1,a1,q1⟩ := hR.get hrn
      have hx200 := hx.1
      walk_at "rd"
      refine ⟨_,SqL.of ((g2.trans g3) _ _ hs),_,atI_nat a1,t1,rfl,_,.inl (SqL.of ((g2.trans g3) _ _ q1)),rfl,flat_ints _,?_⟩
      rw [in_ints,take_one hxi,filter_snoc]
      have hfl := List.length_filter_le (fun y => decide ((j:Int) ∈ rowAt seats y)) (xs.take i')
      rw [List.length_take] at hfl
      by_cases z:(j:Int) ∈ seats[n]
      ·have zz:decide ((j:Int) ∈ rowAt seats (n:Int)) = true := by rw [row_of hrn]; exact decide_eq_true z
       rw [if_pos (decide_eq_true z),if_pos zz]
       exact ⟨_,eD,small1000 (by rw [List.length_map]; lia),same_upd hD g3 _,by rw [upd_same,List.map_append]; rfl⟩
      ·have zz:¬ decide ((j:Int) ∈ rowAt seats (n:Int)) = true := by rw [row_of hrn]; exact fun w => z (of_decide_eq_true w)
       rw [if_neg (fun w => z (of_decide_eq_true w)),if_neg zz,List.append_nil]
       exact ⟨g3,eD⟩
     ·rintro σ H3 ⟨g3,eD,v0,rfl⟩
      rw [List.length_map,List.take_length] at eD
      refine ⟨_,.inl (SqL.of eD),_,rfl,g2.trans g3,?_⟩
      rw [List.length_map,min_b]
      rfl
    ·rename_i hq1
     exact ⟨g2,by lia⟩
   rintro σ H2 ⟨v7,g2,rfl⟩
   rw [u2]; clear u2
   walk_at "rd"
   have hli := List.getElem?_eq_getElem hi
   refine ⟨_,SqL.of (g2 _ _ hl),.int lim[i],atI_nat (by rw [List.getElem?_map,hli]; rfl),_,rfl,g2,?_⟩
   rw [htl,Int.toNat_natCast,min_a]
   show _ = heldT qs lim (cntS seats xs) i + min (ownT qs (cntS seats xs) i qs.length) (lim.getD i 0)
   rw [getD_of hli]
  rintro σ H' ⟨v5,v6,v7,g,rfl⟩
  rw [u1]; clear u1
  walk_at "rd"
  rw [List.length_map,Int.toNat_natCast]
  exact k H' g
noncomputable def zaQ_ (K:PySem.W.Frag) (C_Hall:Addr):Sp := fun vs H Q _ => ∃ (s q l wa sa:Addr) (us ts:List V) (seats:List (List Int)) (qs:List (Int × Int)) (lim:List Int) (ws:List (Option Int)) (xs:List Int),vs = [.ref s,.ref q,.ref l,.ref wa,.ref sa] ∧ H s = some (.lst us) ∧ Rows H us seats ∧ H q = some (.lst ts) ∧ Cells H ts qs ∧ H l = some (.lst (lim.map V.int)) ∧ Stg seats qs lim ∧ H wa = some (.lst (wI ws)) ∧ H sa = some (.lst (xs.map V.int)) ∧ xs.length ≤ 200 ∧ ∀ (b:Bool) (H':Hp),Same H H' → (b = true ↔ Fit seats qs lim ws xs) → Q (.bl b) H'
theorem zat_:FnScope ["_law_seats","_law_slots","_law_limits","_law_where","_law_short","_law_last","_law_seat_here"] ["_law_seats","_law_slots","_law_limits","_law_where","_law_short"] (defScope zX_) := ⟨rfl,rfl,rfl,by decide +kernel,rfl,by decide +kernel,by decide +kernel⟩
theorem zbH_ {C_Hall:Addr} {f:Addr} {fd:FuncData} (F:Fun K "_law_due" "_law_due" zX_ f fd) (T:Txt K mg C_Hall) (zaA_:Cal P w K mg base "_law_within" ["_law_seats","_law_slots","_law_limits","_law_where"] 2 (zaq_ K C_Hall)) (zaI_:Cal P w K mg base "_law_borne" ["_law_seats","_law_slots","_law_limits","_law_some"] 1 (zaz_ K C_Hall)):FnOk P w K mg base CX0 3 f fd ["_law_seats","_law_slots","_law_limits","_law_where","_law_short"] (zaQ_ K C_Hall) := by
 refine F.ok zat_ (fun vs H Q E h => ?_) (fun cdv A outer s H vs Q E hr h => ?_)
 ·obtain ⟨s,q,l,wa,sa,us,ts,seats,qs,lim,ws,xs,rfl,_⟩ := h
  rfl
 ·obtain ⟨s,q,l,wa,sa,us,ts,seats,qs,lim,ws,xs,rfl,hs,hR,hq,hC,hl,sg,hw,ha,x200,k⟩ := h
  refine ⟨_,(pss_cons (ps_if (pt_not (pt_val (pe_cal zaA_ (hr.mono (by decide)) rfl (pa_cons (pv 0) (pa_cons (pv 1) (pa_cons (pv 2) (pa_cons (pv 3) pa_nil))))))) (pss_one (ps_ret pe_bl)) pss_nil)
  (pss_cons (ps_set (i := 5) zat_.nd rfl (Or.inl rfl) (pe_un un_neg pe_int))
  (pss_cons (ps_for PassesOwn.never rfl (pi_list (pv 4)) (pg_name (i := 6) zat_.nd rfl (Or.inl rfl))
   (pss_cons (ps_if (PW.pt (pw_or (pt_cmpR op_le (pv 6) (pv 5) (nomark _)) (pw_or1 (pt_cmpR op_ge (pv 6) (pe_callB (call_lenK (K := K) rfl) (by rfl) T.len PySem.boot_len (pa_cons (pv 0) pa_nil)) (nomark _))))) (pss_one (ps_ret pe_bl)) pss_nil)
    (pss_one (ps_set (i := 5) zat_.nd rfl (Or.inl rfl) (pv 6)))))
  (pss_one (ps_ret (pe_cmpR op_eq (pe_bm PySem.F.plainAttrs_list PySem.F.slot_list_count PySem.F.type_list_count mt_count (pv 3) (pa_cons pe_non pa_nil)) (pe_op op_sub (pe_callB (call_lenK (K := K) rfl) (by rfl) T.len PySem.boot_len (pa_cons (pv 4) pa_nil)) (pe_cal zaI_ (hr.mono (by decide)) rfl (pa_cons (pv 0) (pa_cons (pv 1) (pa_cons (pv 2) (pa_cons (pv 4) pa_nil)))))) (nomark _))))))),?_⟩
  have hul := hR.len
  have no:∀ {p:Prop},¬ p → (false = true ↔ p) := fun h => ⟨fun z => (by cases z),fun z => absurd z h⟩
  refine seq_of fun U1 u1 => ?_
  walk_at "rd"
  refine ⟨s,q,l,wa,us,ts,seats,qs,lim,ws,rfl,hs,hR,hq,hC,hl,hw,sg,fun b1 H1 g1 hb1 => ⟨b1,rfl,?_⟩⟩
  cases b1 with
  | false =>
   rw [if_pos rfl]
   exact k false H1 g1 (no fun z => absurd (hb1.mpr ⟨z.may,z.wi⟩) (by decide))
  | true =>
  rw [if_neg (by decide)]
  obtain ⟨hmay,hwi⟩ := hb1.mp rfl
  obtain ⟨hwl,hV⟩ := hmay.wh sg
  rw [u1]; clear u1
  refine seq_of fun U1 u1 => ?_
  walk_at "rd"
  rw [u1]; clear u1
  refine seq_of fun U1 u1 => for_of fun B1 b1 => ?_
  walk_at "rd"
  refine ⟨⟨_,SqL.of (g1 _ _ ha)⟩,for_listW (xs := xs.map V.int) (fun i σ H' => H' = H1 ∧ ∃ (last:Int) (v:Option V),risF seats.length (-1) xs = risF seats.length last (xs.drop i) ∧ σ = [some (.ref s),some (.ref q),some (.ref l),some (.ref wa),some (.ref sa),some (.int last),v]) ⟨rfl,-1,none,rfl,rfl⟩ (fun i σ H' _ hh => hh.1 ▸ SqL.of (g1 _ _ ha)) ?_ ?_⟩
  ·rintro i v σ H' hv ⟨rfl,last,w,hlast,rfl⟩
   obtain ⟨x,hx,rfl⟩ := map_item hv
   rw [risF_step hx] at hlast
   rw [b1]
   walk_at "rd"
   by_cases z1:x ≤ last
   ·rw [if_pos z1]
    rw [decide_eq_false (by lia),Bool.false_and] at hlast
    exact k false _ g1 (no fun z => absurd z.ris (by rw [hlast]; decide))
   rw [if_neg z1]
   refine ⟨_,.inl (SqL.of (g1 _ _ hs)),?_⟩
   rw [hul]
   by_cases z2:(seats.length:Int) ≤ x
   ·rw [if_pos z2]
    rw [decide_eq_false (show ¬ x < (seats.length:Int) by lia),Bool.false_and,Bool.and_false] at hlast
    exact k false _ g1 (no fun z => absurd z.ris (by rw [hlast]; decide))
   rw [if_neg z2]
   refine ⟨x,?_,rfl⟩
   rw [hlast,decide_eq_true (by lia),decide_eq_true (by lia)]
   rfl
  rintro σ H' ⟨rfl,last,w,hlast,rfl⟩
  rw [List.length_map,List.drop_length] at hlast
  have hris:risF seats.length (-1) xs = true := hlast
  rw [hwl] at hw
  rw [u1]; clear u1
  walk_at "rd"
  refine ⟨.inl ⟨rfl,_,SqL.of (g1 _ _ hw)⟩,_,g1 _ _ hw,rfl,whL_flat _ _,?_⟩
  rw [whL_countN]
  refine ⟨_,.inl (SqL.of (g1 _ _ ha)),s,q,l,sa,us,ts,seats,qs,lim,xs,rfl,g1 _ _ hs,hR.mono g1,g1 _ _ hq,hC.mono g1,g1 _ _ hl,g1 _ _ ha,sg,ris_in hris x200,fun H2 g2 => ?_⟩
  refine ⟨_,rfl,?_⟩
  rw [List.length_map]
  refine k _ H2 (g1.trans g2) ?_
  rw [decide_eq_true_eq]
  exact ⟨fun z => ⟨hmay,hwi,hris,z⟩,fun z => z.eq⟩
noncomputable def zaJ_ (K:PySem.W.Frag) (C_Hall:Addr):Sp := fun vs H Q _ => ∃ (s q l wa sa:Addr) (us ts:List V) (seats:List (List Int)) (qs:List (Int × Int)) (lim:List Int) (ws:List (Option Int)) (xs:List Int),vs = [.ref s,.ref q,.ref l,.ref wa,.ref sa] ∧ H s = some (.lst us) ∧ Rows H us seats ∧ H q = some (.lst ts) ∧ Cells H ts qs ∧ H l = some (.lst (lim.map V.int)) ∧ Stg seats qs lim ∧ H wa = some (.lst (wI ws)) ∧ H sa = some (.lst (xs.map V.int)) ∧ xs.length ≤ 200 ∧ ∀ (H':Hp),Same H H' → Q (.bl true) H'
theorem zaK_:FnScope ["_law_seats","_law_slots","_law_limits","_law_where","_law_short","_law_handed","_law_found"] ["_law_seats","_law_slots","_law_limits","_law_where","_law_short"] (defScope zL_) := ⟨rfl,rfl,rfl,by decide +kernel,rfl,by decide +kernel,by decide +kernel⟩
theorem zbD_ {C_Hall:Addr} {f:Addr} {fd:FuncData} (F:Fun K "_law_good" "_law_good" zL_ f fd) (T:Txt K mg C_Hall) (zaL_:Cal P w K mg base "is_filling" ["seats","slots","caps","where","short"] 2 (zaw_ K C_Hall)) (zaS_:Cal P w K mg base "_law_due" ["_law_seats","_law_slots","_law_limits","_law_where","_law_short"] 3 (zaQ_ K C_Hall)):FnOk P w K mg base CX0 4 f fd ["_law_seats","_law_slots","_law_limits","_law_where","_law_short"] (zaJ_ K C_Hall) := by
 refine F.ok zaK_ (fun vs H Q E h => ?_) (fun cdv A outer s H vs Q E hr h => ?_)
 ·obtain ⟨s,q,l,wa,sa,us,ts,seats,qs,lim,ws,xs,rfl,_⟩ := h
  rfl
 ·obtain ⟨s,q,l,wa,sa,us,ts,seats,qs,lim,ws,xs,rfl,hs,hR,hq,hC,hl,sg,hw,ha,x200,k⟩ := h
  refine ⟨_,(pss_cons (ps_set (i := 5) zaK_.nd rfl (Or.inl rfl) (pe_lst (pa_cons (pe_comp (own := ["_law_one"]) (fnames := []) (fr := []) (N' := ["_law_one"]) ⟨rfl,rfl,rfl,rfl,rfl,rfl,rfl⟩ rfl (pi_list (pv 0)) (fun s0 H0 fp0 C0 => ⟨(pg_name (i := 0) (by show (["_law_one"]:List Str).Nodup; decide +kernel) rfl (Or.inl rfl)),pts_nil,(pe_callTy (call_listK (K := K) rfl) (by rfl) T.list PyProof.Rows.boot_list (pa_cons (pv 0) pa_nil))⟩)) (pa_cons (pe_callTy (call_listK (K := K) rfl) (by rfl) T.list PyProof.Rows.boot_list (pa_cons (pv 1) pa_nil)) (pa_cons (pe_callTy (call_listK (K := K) rfl) (by rfl) T.list PyProof.Rows.boot_list (pa_cons (pv 2) pa_nil)) (pa_cons (pe_callTy (call_listK (K := K) rfl) (by rfl) T.list PyProof.Rows.boot_list (pa_cons (pv 3) pa_nil)) (pa_cons (pe_callTy (call_listK (K := K) rfl) (by rfl) T.list PyProof.Rows.boot_list (pa_cons (pv 4) pa_nil)) pa_nil)))))))
  (pss_cons (ps_set (i := 6) zaK_.nd rfl (Or.inl rfl) (pe_cal zaL_ (hr.mono (by decide)) rfl (pa_cons (pe_ix ix_list (pv 5) pe_int (fun _ _ => rfl)) (pa_cons (pe_ix ix_list (pv 5) pe_int (fun _ _ => rfl)) (pa_cons (pe_ix ix_list (pv 5) pe_int (fun _ _ => rfl)) (pa_cons (pe_ix ix_list (pv 5) pe_int (fun _ _ => rfl)) (pa_cons (pe_ix ix_list (pv 5) pe_int (fun _ _ => rfl)) pa_nil)))))))
  (pss_cons (ps_if (pt_cmpR (op_neD 2 hr) (pv 5) (pe_lst (pa_cons (pv 0) (pa_cons (pv 1) (pa_cons (pv 2) (pa_cons (pv 3) (pa_cons (pv 4) pa_nil)))))) (nomark _)) (pss_one (ps_ret pe_bl)) pss_nil)
  (pss_one (ps_ret (pe_and (pe_callB call_isi (by rfl) T.isinstance PyProof.Rows.boot_isinstance (pa_cons (pv 6) (pa_cons (pe_bltn (v := .ty "bool") rfl T.bool PyProof.Rows.boot_bool rfl) pa_nil))) (pe_one (pe_cmpR op_eq (pv 6) (pe_cal zaS_ (hr.mono (by decide)) rfl (pa_cons (pv 0) (pa_cons (pv 1) (pa_cons (pv 2) (pa_cons (pv 3) (pa_cons (pv 4) pa_nil)))))) (nomark _))))))))),?_⟩
  have hul := hR.len
  have sg3 := sg.sl
  refine seq_of fun U1 u1 => ?_
  walk_at "rd"
  refine ⟨⟨_,SqL.of hs⟩,fun L hL => for_listW (xs := us) (fun i σ H' => CopyI H L seats i H' ∧ ∃ v1,σ = [v1]) ⟨CopyI.start hL,none,rfl⟩ (fun i σ H' _ hh => SqL.of (hh.1.same _ _ hs)) ?_ ?_⟩
  ·rintro i v σ H' hv ⟨cp,v1,rfl⟩
   obtain ⟨row,hrow,t,rfl,ht⟩ := hR.at' hv
   have hi := (List.getElem?_eq_some_iff.mp hrow).1
   walk_at "rd"
   exact ⟨_,.inl (SqL.of (cp.same _ _ ht)),fun l hl => cp.step hL hrow hl (by lia)⟩
  rintro σ H1 ⟨cp,v1,rfl⟩
  obtain ⟨us1,gF,eL,hRL,-,-⟩ := cp.done hul
  clear cp hL
  refine ⟨_,.inl (SqL.of (gF _ _ hq)),fun l1 hl1 => ?_⟩
  have n1 := same_new hl1 (.lst ts)
  have e1 := upd_same (H := H1) (a := l1) (o := .lst ts)
  generalize upd H1 l1 (.lst ts) = H2 at n1 e1 ⊢
  refine ⟨_,.inl (SqL.of ((gF.trans n1) _ _ hl)),fun l2 hl2 => ?_⟩
  have n2 := same_new hl2 (.lst (lim.map V.int))
  have e2 := upd_same (H := H2) (a := l2) (o := .lst (lim.map V.int))
  generalize upd H2 l2 (.lst (lim.map V.int)) = H3 at n2 e2 ⊢
  refine ⟨_,.inl (SqL.of ((gF.trans (n1.trans n2)) _ _ hw)),fun l3 hl3 => ?_⟩
  have n3 := same_new hl3 (.lst (wI ws))
  have e3 := upd_same (H := H3) (a := l3) (o := .lst (wI ws))
  generalize upd H3 l3 (.lst (wI ws)) = H4 at n3 e3 ⊢
  refine ⟨_,.inl (SqL.of ((gF.trans (n1.trans (n2.trans n3))) _ _ ha)),fun l4 hl4 => ⟨by decide,fun p1 hp1 => ?_⟩⟩
  have n4 := same_new hl4 (.lst (xs.map V.int))
  have e4 := upd_same (H := H4) (a := l4) (o := .lst (xs.map V.int))
  generalize upd H4 l4 (.lst (xs.map V.int)) = H5 at n4 e4 hp1 ⊢
  have n5 := same_new hp1 (.lst [.ref L,.ref l1,.ref l2,.ref l3,.ref l4])
  have ep := upd_same (H := H5) (a := p1) (o := .lst [.ref L,.ref l1,.ref l2,.ref l3,.ref l4])
  generalize upd H5 p1 (.lst [.ref L,.ref l1,.ref l2,.ref l3,.ref l4]) = HF at n5 ep ⊢
  replace e4 := n5 _ _ e4
  replace e3 := (n4.trans n5) _ _ e3
  replace e2 := (n3.trans (n4.trans n5)) _ _ e2
  replace e1 := (n2.trans (n3.trans (n4.trans n5))) _ _ e1
  have nA := n1.trans (n2.trans (n3.trans (n4.trans n5)))
  replace eL := nA _ _ eL
  replace hRL := hRL.mono nA
  replace gF := gF.trans nA
  clear n1 n2 n3 n4 n5 nA hl1 hl2 hl3 hl4 hp1
  rw [u1]; clear u1
  refine seq_of fun U1 u1 => ?_
  walk_at "rd"
  refine ⟨_,SqL.of ep,_,rfl,_,SqL.of ep,_,rfl,_,SqL.of ep,_,rfl,_,SqL.of ep,_,rfl,_,SqL.of ep,_,rfl,L,l1,l2,l3,l4,us1,ts,seats,qs,lim,ws,xs,rfl,eL,hRL,e1,hC.mono gF,e2,sg,e3,e4,x200,fun b1 H6 g6 hb1 => ?_⟩
  rw [u1]; clear u1
  refine seq_of fun U1 u1 => ?_
  walk_at "rd"
  refine ⟨by decide,fun p2 hp2 => ?_⟩
  have g7 := same_new hp2 (.lst [.ref s,.ref q,.ref l,.ref wa,.ref sa])
  have g67 := g6.trans g7
  have gF7 := gF.trans g67
  obtain ⟨fD,hfD⟩:∃ fD:Option Int → DV,fD none = .non ∧ ∀ z,fD (some z) = .int z := ⟨fun o => match o with | none => .non | some z => .int z,rfl,fun _ => rfl⟩
  have pr:∀ (H':Hp) (ls:List (Option Int)),Paired (Den K H' 1) (ls.map oI) (ls.map fD) := fun H' ls => by
   induction ls with
   | nil => exact .nil
   | cons o t ih =>
    refine .cons ?_ ih
    cases o with
    | none => rw [hfD.1]; exact den_non
    | some z => rw [hfD.2]; exact den_int
  have dW:∀ (H':Hp) (a':Addr),H' a' = some (.lst (wI ws)) → Den K H' 2 (.ref a') (.lst (ws.map fD)) := fun H' a' e => ⟨_,SqL.of e,pr H' ws⟩
  have d1:Den K (upd H6 p2 (.lst [.ref s,.ref q,.ref l,.ref wa,.ref sa])) 3 (.ref p1) (.lst [tD seats,.lst (qs.map cD),.lst (lim.map DV.int),.lst (ws.map fD),.lst (xs.map DV.int)]) := ⟨_,SqL.of (g67 _ _ ep),.cons (den_rows (SqL.of (g67 _ _ eL)) (hRL.mono g67)) (.cons (den_cells (SqL.of (g67 _ _ e1)) (hC.mono gF7)) (.cons (den_ints (SqL.of (g67 _ _ e2))) (.cons (dW _ _ (g67 _ _ e3)) (.cons (den_ints (SqL.of (g67 _ _ e4))) .nil))))⟩
  have d2:Den K (upd H6 p2 (.lst [.ref s,.ref q,.ref l,.ref wa,.ref sa])) 3 (.ref p2) (.lst [tD seats,.lst (qs.map cD),.lst (lim.map DV.int),.lst (ws.map fD),.lst (xs.map DV.int)]) := ⟨_,SqL.of upd_same,.cons (den_rows (SqL.of (gF7 _ _ hs)) (hR.mono gF7)) (.cons (den_cells (SqL.of (gF7 _ _ hq)) (hC.mono gF7)) (.cons (den_ints (SqL.of (gF7 _ _ hl))) (.cons (dW _ _ (gF7 _ _ hw)) (.cons (den_ints (SqL.of (gF7 _ _ ha))) .nil))))⟩
  refine ⟨_,_,_,_,rfl,rfl,d1,d2,like_den 3 _ _ d1,_,rfl,?_⟩
  rw [eqD_same,if_neg (by decide)]
  generalize upd H6 p2 (.lst [.ref s,.ref q,.ref l,.ref wa,.ref sa]) = H7 at gF7 ⊢
  rw [u1]; clear u1
  walk_at "rd"
  refine ⟨s,q,l,wa,sa,us,ts,seats,qs,lim,ws,xs,rfl,gF7 _ _ hs,hR.mono gF7,gF7 _ _ hq,hC.mono gF7,gF7 _ _ hl,sg,gF7 _ _ hw,gF7 _ _ ha,x200,fun b2 H8 g8 hb2 => ?_⟩
  have eb:b1 = b2 := Bool.eq_iff_iff.mpr (hb1.trans hb2.symm)
  refine ⟨rfl,?_⟩
  rw [eb,decide_eq_true rfl]
  exact k _ (gF7.trans g8)
noncomputable def zar_ (K:PySem.W.Frag) (C_Hall:Addr):Sp := fun vs H Q _ => ∃ (s q l o:Addr) (us ts:List V) (seats:List (List Int)) (qs:List (Int × Int)) (lim xs:List Int),vs = [.ref s,.ref q,.ref l,.ref o] ∧ H s = some (.lst us) ∧ Rows H us seats ∧ H q = some (.lst ts) ∧ Cells H ts qs ∧ H l = some (.lst (lim.map V.int)) ∧ H o = some (.lst (xs.map V.int)) ∧ Stg seats qs lim ∧ (∀ q ∈ qs,0 ≤ q.2) ∧ (∀ l ∈ lim,0 ≤ l) ∧ InS seats.length xs ∧ ∀ (r:Addr) (W:Flw.Wh) (H':Hp),Same H H' → H r = none → H' r = some (.lst (whL seats.length W)) → Flw.Valid (netOf seats qs lim) W → (∀ y,W y ≠ none → (y:Int) ∈ xs) → Q (.ref r) H'
theorem zh_:FnScope ["_law_seats","_law_slots","_law_limits","_law_order_here","_law_where","_law_room","_law_spare","_law_seat_here","_law_slot","_law_owner"] ["_law_seats","_law_slots","_law_limits","_law_order_here"] (defScope zt_) := ⟨rfl,rfl,rfl,by decide +kernel,rfl,by decide +kernel,by decide +kernel⟩
theorem zbs_ {C_Hall:Addr} {f:Addr} {fd:FuncData} (F:Fun K "_law_greedy" "_law_greedy" zt_ f fd) (T:Txt K mg C_Hall) :FnOk P w K mg base CX0 1 f fd ["_law_seats","_law_slots","_law_limits","_law_order_here"] (zar_ K C_Hall) := by
 refine F.ok zh_ (fun vs H Q E h => ?_) (fun cdv A outer s H vs Q E hr h => ?_)
 ·obtain ⟨s,q,l,o,us,ts,seats,qs,lim,xs,rfl,_⟩ := h
  rfl
 ·obtain ⟨s,q,l,o,us,ts,seats,qs,lim,xs,rfl,hs,hR,hq,hC,hl,ho,sg,hqn,hln,hx,k⟩ := h
  refine ⟨_,(pss_cons (ps_comp (i := 4) zh_.nd rfl rfl (own := ["_law_seat_here"]) (fnames := []) (fr := []) (N' := ["_law_seat_here"]) ⟨rfl,rfl,rfl,rfl,rfl,rfl,rfl⟩ rfl (pi_list (pv 0)) (fun s0 H0 fp0 C0 => ⟨(pg_name (i := 0) (by show (["_law_seat_here"]:List Str).Nodup; decide +kernel) rfl (Or.inl rfl)),pts_nil,pe_non⟩))
  (pss_cons (ps_comp (i := 5) zh_.nd rfl rfl (own := ["_law_slot"]) (fnames := []) (fr := []) (N' := ["_law_slot"]) ⟨rfl,rfl,rfl,rfl,rfl,rfl,rfl⟩ rfl (pi_list (pv 1)) (fun s0 H0 fp0 C0 => ⟨(pg_name (i := 0) (by show (["_law_slot"]:List Str).Nodup; decide +kernel) rfl (Or.inl rfl)),pts_nil,(pe_ix (ix_tupK (K := K) rfl) (pv 0) pe_int (fun _ _ => rfl))⟩))
  (pss_cons (ps_set (i := 6) zh_.nd rfl (Or.inl rfl) (pe_callTy (call_listK (K := K) rfl) (by rfl) T.list PyProof.Rows.boot_list (pa_cons (pv 2) pa_nil)))
  (pss_cons (ps_for PassesOwn.never rfl (pi_list (pv 3)) (pg_name (i := 7) zh_.nd rfl (Or.inl rfl))
   (pss_one (ps_for PassesOwn.never rfl (pi_list (pe_ix ix_list (pv 0) (pv 7) (fun _ _ => rfl))) (pg_name (i := 8) zh_.nd rfl (Or.inl rfl))
     (pss_cons (ps_set (i := 9) zh_.nd rfl (Or.inl rfl) (pe_ix ix_tup (pe_ix ix_list (pv 1) (pv 8) (fun _ _ => rfl)) pe_int (fun _ _ => rfl)))
      (pss_one (ps_if (PW.pt (pw_and (pt_cmpR op_isN (pe_ix ix_list (pv 4) (pv 7) (fun _ _ => rfl)) pe_non (nomark _)) (pw_and (pt_cmpR op_gt (pe_ix ix_list (pv 5) (pv 8) (fun _ _ => rfl)) pe_int (nomark _)) (pw_and1 (pt_cmpR op_gt (pe_ix ix_list (pv 6) (pv 9) (fun _ _ => rfl)) pe_int (nomark _)))))) (pss_cons (ps_asg (pv 8) (pg_sub (pv 4) (pv 7) set_list))
       (pss_cons (ps_asg (pe_op op_sub (pe_ix ix_list (pv 5) (pv 8) (fun _ _ => rfl)) pe_int) (pg_sub (pv 5) (pv 8) set_list))
       (pss_one (ps_asg (pe_op op_sub (pe_ix ix_list (pv 6) (pv 9) (fun _ _ => rfl)) pe_int) (pg_sub (pv 6) (pv 9) set_list))))) pss_nil))))))
  (pss_one (ps_ret (pv 4))))))),?_⟩
  have hul := hR.len
  have htl := hC.len
  have sg1 := sg.ql
  have sg2 := sg.ll
  have sg3 := sg.sl
  refine seq_of fun U1 u1 => ?_
  walk_at "rd"
  refine ⟨⟨_,SqL.of hs⟩,fun P hP => for_listW (xs := us) (fun i σ H' => Same H H' ∧ H' = upd H P (.lst (whL i fun _ => none)) ∧ ∃ v0,σ = [v0]) ⟨same_new hP _,rfl,none,rfl⟩ (fun i σ H' _ hh => SqL.of (hh.1 _ _ hs)) ?_ ?_⟩
  ·rintro i v σ H' hv' ⟨g1,rfl,v0,rfl⟩
   have hi := (List.getElem?_eq_some_iff.mp hv').1
   walk_at "rd"
   refine ⟨_,upd_same,small1000 (by rw [whL_len]; lia),same_upd hP g1 _,?_⟩
   rw [upd_upd,whL_succ]
   rfl
  rintro σ H' ⟨g1,rfl,v0,rfl⟩
  rw [u1]; clear u1
  rw [hul] at g1 ⊢
  refine seq_of fun U1 u1 => ?_
  walk_at "rd"
  have eN:∀ i,i < qs.length → roomF (netOf seats qs lim) (fun _ => none) i = (qs[i]?.getD (0,0)).2 := fun i _ => roomF0 _ i
  refine ⟨⟨_,SqL.of (g1 _ _ hq)⟩,fun R hR' => for_listW (xs := ts) (fun i σ H' => H' = upd (upd H P (.lst (whL seats.length fun _ => none))) R (.lst ((il i (roomF (netOf seats qs lim) fun _ => none)).map V.int)) ∧ ∃ v0,σ = [v0]) ⟨rfl,none,rfl⟩ (fun i σ H' _ hh => hh.1 ▸ SqL.of (same_new hR' _ _ _ (same_new hP _ _ _ hq))) ?_ ?_⟩
  ·rintro i v σ H' hv' ⟨rfl,v0,rfl⟩
   have hi := (List.getElem?_eq_some_iff.mp hv').1
   rw [htl] at hi
   have hci := List.getElem?_eq_getElem hi
   obtain ⟨v',hvi,t2,rfl,q2⟩ := Paired.getR hC hci
   rw [hv'] at hvi
   cases hvi
   walk_at "rd"
   refine ⟨_,SqT.of (same_new hR' _ _ _ (same_new hP _ _ _ q2)),.int qs[i].2,rfl,_,upd_same,small1000 (by rw [List.length_map,il_len]; lia),?_⟩
   rw [upd_upd,il_snoc,eN i hi,hci,List.map_append]
   rfl
  rintro σ H' ⟨rfl,v0,rfl⟩
  rw [htl]
  rw [u1]; clear u1
  refine seq_of fun U1 u1 => ?_
  walk_at "rd"
  have g2 := (same_new hP (.lst (whL seats.length fun _ => none))).trans (same_new hR' (.lst ((il qs.length (roomF (netOf seats qs lim) fun _ => none)).map V.int)))
  have hR0:H R = none := (same_new hP (.lst (whL seats.length fun _ => none))).free hR'
  refine ⟨_,.inl (SqL.of (g2 _ _ hl)),fun T hT => ?_⟩
  have hT0:H T = none := g2.free hT
  have nPR:P ≠ R := fun z => by rw [← z,upd_same] at hR'; cases hR'
  have nRT:R ≠ T := fun z => by rw [← z,upd_same] at hT; cases hT
  have nPT:P ≠ T := fun z => by rw [← z,upd_ne nPR,upd_same] at hT; cases hT
  have V0 := valid_none (seats := seats) hqn hln
  have eP:upd (upd (upd H P (.lst (whL seats.length fun _ => none))) R (.lst ((il qs.length (roomF (netOf seats qs lim) fun _ => none)).map V.int))) T (.lst (lim.map V.int)) P = some (.lst (whL seats.length fun _ => none)) := by rw [upd_ne nPT,upd_ne nPR,upd_same]
  have eR:upd (upd (upd H P (.lst (whL seats.length fun _ => none))) R (.lst ((il qs.length (roomF (netOf seats qs lim) fun _ => none)).map V.int))) T (.lst (lim.map V.int)) R = some (.lst ((il qs.length (roomF (netOf seats qs lim) fun _ => none)).map V.int)) := by rw [upd_ne nRT,upd_same]
  have eT:upd (upd (upd H P (.lst (whL seats.length fun _ => none))) R (.lst ((il qs.length (roomF (netOf seats qs lim) fun _ => none)).map V.int))) T (.lst (lim.map V.int)) T = some (.lst ((il lim.length (sparF (netOf seats qs lim) fun _ => none)).map V.int)) := by rw [upd_same,← lim_il]
  have g3 := g2.trans (same_new hT (.lst (lim.map V.int)))
  revert eP eR eT g3
  generalize upd (upd (upd H P (.lst (whL seats.length fun _ => none))) R (.lst ((il qs.length (roomF (netOf seats qs lim) fun _ => none)).map V.int))) T (.lst (lim.map V.int)) = H1
  intro eP eR eT g3
  clear g2 g1 hT hR'
  rw [u1]; clear u1
  refine seq_of fun U1 u1 => for_of fun B1 b1 => ?_
  walk_at "rd"
  refine ⟨⟨_,SqL.of (g3 _ _ ho)⟩,for_listW (xs := xs.map V.int) (fun i σ H' => ∃ (W:Flw.Wh) (v7 v8 v9:Option V),Same H H' ∧ H' P = some (.lst (whL seats.length W)) ∧ H' R = some (.lst ((il qs.length (roomF (netOf seats qs lim) W)).map V.int)) ∧ H' T = some (.lst ((il lim.length (sparF (netOf seats qs lim) W)).map V.int)) ∧ Flw.Valid (netOf seats qs lim) W ∧ (∀ y,W y ≠ none → (y:Int) ∈ xs) ∧ σ = [some (.ref s),some (.ref q),some (.ref l),some (.ref o),some (.ref P),some (.ref R),some (.ref T),v7,v8,v9]) ⟨_,none,none,none,g3,eP,eR,eT,V0,(fun y z => absurd rfl z),rfl⟩ (fun i σ H' _ ⟨_,_,_,_,g,_⟩ => SqL.of (g _ _ ho)) ?_ ?_⟩
  ·rintro i v σ H' hv' ⟨W,v7,v8,v9,g,eP,eR,eT,VW,hin,rfl⟩
   obtain ⟨x,hxi,rfl⟩ := map_item hv'
   obtain ⟨x0,x1⟩ := hx.2 x (List.mem_of_getElem? hxi)
   obtain ⟨n,rfl⟩:∃ n:Nat,x = n := ⟨x.toNat,by lia⟩
   have hn:n < seats.length := by lia
   have hrn := List.getElem?_eq_getElem hn
   obtain ⟨t1,a1,q1⟩ := hR.get hrn
   rw [b1]
   refine for_of fun B2 b2 => ?_
   walk_at "rd"
   refine ⟨_,SqL.of (g _ _ hs),_,atI_nat a1,t1,rfl,⟨_,SqL.of (g _ _ q1)⟩,for_listW (xs := seats[n].map V.int) (fun j σ H2 => ∃ (W:Flw.Wh) (v8 v9:Option V),Same H H2 ∧ H2 P = some (.lst (whL seats.length W)) ∧ H2 R = some (.lst ((il qs.length (roomF (netOf seats qs lim) W)).map V.int)) ∧ H2 T = some (.lst ((il lim.length (sparF (netOf seats qs lim) W)).map V.int)) ∧ Flw.Valid (netOf seats qs lim) W ∧ (∀ y,W y ≠ none → (y:Int) ∈ xs) ∧ σ = [some (.ref s),some (.ref q),some (.ref l),some (.ref o),some (.ref P),some (.ref R),some (.ref T),some (.int n),v8,v9]) ⟨W,_,_,g,eP,eR,eT,VW,hin,rfl⟩ (fun i σ H' _ ⟨_,_,_,g,_⟩ => SqL.of (g _ _ q1)) ?_ ?_⟩
   ·clear eP eR eT VW hin g
    rintro j v σ H2 hv2 ⟨W,v8,v9,g,eP,eR,eT,VW,hin,rfl⟩
    obtain ⟨y,hyj,rfl⟩ := map_item hv2
    obtain ⟨y0,y1⟩ := (sg.row _ (List.getElem_mem hn)).2.2 y (List.mem_of_getElem? hyj)
    obtain ⟨u,rfl⟩:∃ u:Nat,y = u := ⟨y.toNat,by lia⟩
    have hu:u < qs.length := by lia
    have hcu := List.getElem?_eq_getElem hu
    obtain ⟨v',hvu,t2,rfl,q2⟩ := Paired.getR hC hcu
    obtain ⟨o0,o1⟩ := sg.own _ (List.getElem_mem hu)
    obtain ⟨w,ew⟩:∃ w:Nat,qs[u].1 = w := ⟨qs[u].1.toNat,by lia⟩
    have hw:w < lim.length := by lia
    have eo:(netOf seats qs lim).own u = w := by
     show (qs[u]?.getD (0,0)).1.toNat = _
     rw [hcu,Option.getD_some,ew,Int.toNat_natCast]
    have hm:u ∈ (netOf seats qs lim).seats n := (mem_seats sg n u).mp (by rw [row_of hrn]; exact List.mem_of_getElem? hyj)
    have gW:atI (whL seats.length W) (n:Int) = some (oN (W n)) := atI_nat (whL_get hn)
    have gR:atI ((il qs.length (roomF (netOf seats qs lim) W)).map V.int) (u:Int) = some (.int (roomF (netOf seats qs lim) W u)) := atI_nat (by rw [List.getElem?_map,il_get hu]; rfl)
    have gT:atI ((il lim.length (sparF (netOf seats qs lim) W)).map V.int) (w:Int) = some (.int (sparF (netOf seats qs lim) W w)) := atI_nat (by rw [List.getElem?_map,il_get hw]; rfl)
    rw [b2]
    refine seq_of fun U2 u2 => ?_
    walk_at "rd"
    refine ⟨_,SqL.of (g _ _ hq),_,atI_nat hvu,t2,rfl,_,SqT.of (g _ _ q2),.int qs[u].1,rfl,?_⟩
    rw [ew]
    rw [u2]; clear u2
    walk_at "rd"
    refine ⟨_,SqL.of eP,_,gW,?_⟩
    by_cases z1:oN (W n) = V.non
    ·rw [if_pos z1]
     refine ⟨_,SqL.of eR,_,gR,_,rfl,?_⟩
     by_cases z2:0 < roomF (netOf seats qs lim) W u
     ·rw [if_pos z2]
      refine ⟨_,SqL.of eT,_,gT,_,rfl,?_⟩
      by_cases z3:0 < sparF (netOf seats qs lim) W w
      ·rw [if_pos z3]
       have hW0:W n = none := by
        cases e:W n with
        | none => rfl
        | some t => rw [e] at z1; exact nomatch z1
       have rm:Flw.room (netOf seats qs lim) W u := by
        refine ⟨fun z => ?_,fun z => ?_⟩
        ·have:(netOf seats qs lim).cap u ≤ Flw.cS (netOf seats qs lim) W u := z
         unfold roomF at z2
         lia
        ·rw [eo] at z
         have:(netOf seats qs lim).lim w ≤ Flw.cO (netOf seats qs lim) W w := z
         unfold sparF at z3
         lia
       have V2 := VW.move (x := n) hn hm rm
       have k1 := whL_move seats.length W n u
       have k2 := room_move (N := netOf seats qs lim) (W := W) (x := n) (s := u) qs.length hn hW0
       have k3 := spar_move (N := netOf seats qs lim) (W := W) (x := n) (s := u) lim.length hn hW0
       rw [eo] at k3
       have g4 := same_upd hP g (.lst (whL seats.length (Flw.move W n u)))
       refine ⟨_,eP,n,ixN_lt (by rw [whL_len]; exact hn),?_⟩
       rw [k1]
       refine ⟨_,SqL.of (by rw [upd_ne nPR.symm]; exact eR),_,gR,_,rfl,_,by rw [upd_ne nPR.symm]; exact eR,u,ixN_lt (by rw [List.length_map,il_len]; exact hu),?_⟩
       rw [set_ints,k2]
       refine ⟨_,SqL.of (by rw [upd_ne nRT.symm,upd_ne nPT.symm]; exact eT),_,gT,_,rfl,_,by rw [upd_ne nRT.symm,upd_ne nPT.symm]; exact eT,w,ixN_lt (by rw [List.length_map,il_len]; exact hw),?_⟩
       rw [set_ints,k3]
       refine ⟨same_upd hT0 (same_upd hR0 g4 _) _,_,by rw [upd_ne nPT,upd_ne nPR,upd_same],by rw [upd_ne nRT,upd_same],upd_same,V2,fun y hy => ?_⟩
       by_cases z:y = n
       ·rw [z]; exact List.mem_of_getElem? hxi
       ·rw [Flw.move_ne z] at hy
        exact hin y hy
      ·rw [if_neg z3]
       exact ⟨g,W,eP,eR,eT,VW,hin⟩
     ·rw [if_neg z2]
      exact ⟨g,W,eP,eR,eT,VW,hin⟩
    ·rw [if_neg z1]
     exact ⟨g,W,eP,eR,eT,VW,hin⟩
   rintro σ H2 ⟨W,v8,v9,g,eP,eR,eT,VW,hin,rfl⟩
   exact ⟨g,_,eP,eR,eT,VW,hin,_,_,_,rfl⟩
  rintro σ H' ⟨W,v7,v8,v9,g,eP,eR,eT,VW,hin,rfl⟩
  rw [u1]; clear u1
  walk_at "rd"
  exact k _ W _ g hP eP VW hin
noncomputable def zF_ (K:PySem.W.Frag) (C_Hall:Addr):Sp := fun vs H Q _ => ∃ (s w:Addr) (us:List V) (seats:List (List Int)) (ws:List (Option Int)) (c:Int) (way m:Nat),vs = [.int c,.int way,.ref s,.ref w,.int m] ∧ H s = some (.lst us) ∧ Rows H us seats ∧ seats.length ≤ 200 ∧ H w = some (.lst (wI ws)) ∧ ws.length = seats.length ∧ s ≠ w ∧ V.ref w ∉ us ∧ ∀ (ws':List (Option Int)) (H':Hp),(∀ c o,H c = some o → c ≠ w → H' c = some o) → H' w = some (.lst (wI ws')) → Q .non H'
theorem zg_:FnScope ["_law_cell","_law_way","_law_seats","_law_where","_law_many","_law_at"] ["_law_cell","_law_way","_law_seats","_law_where","_law_many"] (defScope zd_) := ⟨rfl,rfl,rfl,by decide +kernel,rfl,by decide +kernel,by decide +kernel⟩
theorem zaT_ {C_Hall:Addr} {f:Addr} {fd:FuncData} (F:Fun K "_law_spoilt_where" "_law_spoilt_where" zd_ f fd) (T:Txt K mg C_Hall) :FnOk P w K mg base CX0 1 f fd ["_law_cell","_law_way","_law_seats","_law_where","_law_many"] (zF_ K C_Hall) := by
 refine F.ok zg_ (fun vs H Q E h => ?_) (fun cdv A outer s H vs Q E hr h => ?_)
 ·obtain ⟨s,w,us,seats,ws,c,way,m,rfl,_⟩ := h
  rfl
 ·obtain ⟨s,w,us,seats,ws,c,way,m,rfl,hs,hR,sl,hw,hlen,nsw,nwu,k⟩ := h
  refine ⟨_,(pss_cons (ps_set (i := 5) zg_.nd rfl (Or.inl rfl) (pe_op op_mod (pv 0) (pe_op op_add (pe_callB (call_lenK (K := K) rfl) (by rfl) T.len PySem.boot_len (pa_cons (pv 3) pa_nil)) pe_int)))
  (pss_cut (ps_if (PW.pt (pw_and (pt_cmpR op_gt (pe_op op_mod (pe_op op_fdiv (pv 0) pe_int) pe_int) pe_int (nomark _)) (pw_and1 (pt_cmpR op_lt (pv 1) pe_int (nomark _))))) (pss_one (ps_set (i := 5) zg_.nd rfl (Or.inl rfl) (pe_callB (call_lenK (K := K) rfl) (by rfl) T.len PySem.boot_len (pa_cons (pv 3) pa_nil)))) pss_nil)
  (pss_cut (ps_if (PW.pt (pw_and (pt_cmpR op_eq (pv 1) pe_int (nomark _)) (pw_and1 (pt_cmpR op_eq (pe_op op_mod (pe_op op_fdiv (pv 0) pe_int) pe_int) pe_int (nomark _))))) (pss_one (ps_set (i := 5) zg_.nd rfl (Or.inl rfl) (pe_op op_mod (pe_op op_fdiv (pv 0) pe_int) pe_int))) pss_nil)
  (pss_cut (ps_if (pt_cmpR op_eq (pv 1) pe_int (nomark _)) (pss_one (ps_expr (pe_bm PySem.F.plainAttrs_list PySem.F.slot_list_insert PySem.F.type_list_insert mt_insert (pv 3) (pa_cons (pv 5) (pa_cons (pe_ix ix_list (pe_lst (pa_cons pe_non (pa_cons pe_int pa_nil))) (pe_op op_mod (pe_op op_fdiv (pv 0) pe_int) pe_int) (fun _ _ => rfl)) pa_nil))))) pss_nil)
  (pss_cons (ps_if (pt_cmpR (op_eqD 0 hr) (pv 3) (pe_lst pa_nil) (nomark _)) (pss_one ps_retN) pss_nil)
  (pss_cons (ps_set (i := 5) zg_.nd rfl (Or.inl rfl) (pe_callB (call_min2 rfl) (by rfl) T.min PyProof.Rows.boot_min (pa_cons (pv 5) (pa_cons (pe_op op_sub (pe_callB (call_lenK (K := K) rfl) (by rfl) T.len PySem.boot_len (pa_cons (pv 3) pa_nil)) pe_int) pa_nil))))
  (pss_cut (ps_if (pt_cmpR op_eq (pv 1) pe_int (nomark _)) (pss_one (ps_expr (pe_bm PySem.F.plainAttrs_list PySem.F.slot_list_pop PySem.F.type_list_pop mt_popAt (pv 3) (pa_cons (pv 5) pa_nil)))) pss_nil)
  (pss_cut (ps_if (pt_cmpR op_eq (pv 1) pe_int (nomark _)) (pss_cons (ps_asg (pe_op op_mod (pe_op op_fdiv (pv 0) pe_int) (pe_callB (call_max2 rfl) (by rfl) T.max PyProof.Rows.boot_max (pa_cons (pv 4) (pa_cons pe_int pa_nil)))) (pg_sub (pv 3) (pv 5) set_list))
   (pss_one (ps_if (PW.pt (pw_and (pt_cmpR (op_neD 0 hr) (pe_ix ix_list (pv 2) (pv 5) (fun _ _ => rfl)) (pe_lst pa_nil) (nomark _)) (pw_and1 (pt_cmpR op_eq (pe_op op_mod (pe_op op_fdiv (pv 0) pe_int) pe_int) pe_int (nomark _))))) (pss_one (ps_asg (pe_ix ix_list (pe_ix ix_list (pv 2) (pv 5) (fun _ _ => rfl)) (pe_op op_mod (pe_op op_fdiv (pv 0) pe_int) (pe_callB (call_lenK (K := K) rfl) (by rfl) T.len PySem.boot_len (pa_cons (pe_ix ix_list (pv 2) (pv 5) (fun _ _ => rfl)) pa_nil))) (fun _ _ => rfl)) (pg_sub (pv 3) (pv 5) set_list))) pss_nil))) pss_nil)
  (pss_cut (ps_if (pt_cmpR op_eq (pv 1) pe_int (nomark _)) (pss_one (ps_asg (pe_op op_sub (pe_un un_neg pe_int) (pe_op op_mod (pe_op op_fdiv (pv 0) pe_int) pe_int)) (pg_sub (pv 3) (pv 5) set_list))) pss_nil)
  (pss_cut (ps_if (pt_cmpR op_eq (pv 1) pe_int (nomark _)) (pss_one (ps_asg (pe_op op_add (pv 4) (pe_op op_mod (pe_op op_fdiv (pv 0) pe_int) pe_int)) (pg_sub (pv 3) (pv 5) set_list))) pss_nil)
  (pss_one (ps_if (pt_cmpR op_eq (pv 1) pe_int (nomark _)) (pss_one (ps_asg pe_non (pg_sub (pv 3) (pv 5) set_list))) pss_nil)))))))))))),?_⟩
  refine seq_of fun U1 u1 => ?_
  walk_at "rd"
  have ss:∀ (ls:List (Option Int)) (j:Nat) (o:Option Int),(wI ls).set j (oI o) = wI (ls.set j o) := fun ls j o => by unfold wI; rw [List.map_set]
  refine ⟨_,.inl (SqL.of hw),by lia,?_⟩
  rw [wI_len]
  obtain ⟨a0,ha0,al0⟩:∃ a0:Nat,c % ((ws.length:Int) + 1) = a0 ∧ a0 ≤ ws.length := ⟨(c % ((ws.length:Int) + 1)).toNat,by have := Int.emod_nonneg c (b := (ws.length:Int) + 1) (by lia); lia,by have := Int.emod_lt_of_pos c (b := (ws.length:Int) + 1) (by lia); have := Int.emod_nonneg c (b := (ws.length:Int) + 1) (by lia); lia⟩
  rw [ha0]
  clear ha0
  rw [u1]; clear u1
  refine cut_of (fun σ H' => H' = H ∧ ∃ a1:Nat,a1 ≤ ws.length ∧ σ = [some (.int c),some (.int way),some (.ref s),some (.ref w),some (.int m),some (.int a1)]) ?_ ?_
  ·walk_at "rd"
   refine ⟨⟨by decide,by decide⟩,by decide,?_⟩
   split
   ·split
    ·exact ⟨_,.inl (SqL.of hw),ws.length,Nat.le_refl _,by rw [wI_len]⟩
    ·exact ⟨a0,al0,rfl⟩
   ·exact ⟨a0,al0,rfl⟩
  rintro σ H' ⟨rfl,a1,al1,rfl⟩
  refine cut_of (fun σ H2 => H2 = H' ∧ ∃ a1:Nat,(way ≠ 2 → a1 ≤ ws.length) ∧ σ = [some (.int c),some (.int way),some (.ref s),some (.ref w),some (.int m),some (.int a1)]) ?_ ?_
  ·walk_at "rd"
   split
   ·rename_i z2
    refine ⟨⟨by decide,by decide⟩,by decide,?_⟩
    split
    ·exact ⟨⟨by decide,by decide⟩,by decide,(c / 18 % 3).toNat,(fun z => absurd (by lia) z),by rw [Int.toNat_of_nonneg (by lia)]⟩
    ·exact ⟨a1,(fun _ => al1),rfl⟩
   ·exact ⟨a1,(fun _ => al1),rfl⟩
  rintro σ H2 ⟨rfl,a2,al2,rfl⟩
  have hw0:wI ws = wI ws := rfl
  refine cut_of (fun σ H3 => ∃ ws1:List (Option Int),(∀ c o,H2 c = some o → c ≠ w → H3 c = some o) ∧ H3 w = some (.lst (wI ws1)) ∧ (way ≠ 0 → ws1.length = seats.length) ∧ ws1.length ≤ 300 ∧ σ = [some (.int c),some (.int way),some (.ref s),some (.ref w),some (.int m),some (.int a2)]) ?_ ?_
  ·walk_at "rd"
   split
   ·rename_i z0
    have z0':way = 0 := by lia
    have al := al2 (by lia)
    refine ⟨.inl ⟨rfl,_,SqL.of hw⟩,by decide,fun p hp => ⟨⟨by decide,by decide⟩,by decide,?_⟩⟩
    have gp := same_new hp (.lst [.non,.int 0])
    have npw:p ≠ w := fun z => by rw [z,hw] at hp; cases hp
    obtain ⟨o1,ho1⟩:∃ o1:Option Int,atI [V.non,V.int 0] (c / 9 % 2) = some (oI o1) := by
     rcases (show c / 9 % 2 = 0 ∨ c / 9 % 2 = 1 by lia) with e | e
     ·rw [e]; exact ⟨none,rfl⟩
     ·rw [e]; exact ⟨some 0,rfl⟩
    refine ⟨_,SqL.of upd_same,_,ho1,_,gp _ _ hw,by lia,by rw [wI_len]; lia,small1000 (by rw [wI_len]; lia),fun c o e n => (by rw [upd_ne n]; exact gp _ _ e),ws.take a2 ++ o1 :: ws.drop a2,?_,(fun z => absurd z0' z),?_⟩
    ·rw [upd_same,Int.toNat_natCast]
     unfold wI
     rw [List.map_append,List.map_cons,List.map_take,List.map_drop]
    ·rw [List.length_append,List.length_cons,List.length_take,List.length_drop]
     lia
   ·rename_i z0
    exact ⟨(fun c o e _ => e),ws,hw,(fun _ => hlen),by lia⟩
  rintro σ H3 ⟨ws1,fr1,hw1,hl1,w300,rfl⟩
  refine seq_of fun U1 u1 => ?_
  walk_at "rd"
  obtain ⟨fD,hfD⟩:∃ fD:Option Int → DV,fD none = .non ∧ ∀ z,fD (some z) = .int z := ⟨fun o => match o with | none => .non | some z => .int z,rfl,fun _ => rfl⟩
  have pr:∀ (H':Hp) (ls:List (Option Int)),Paired (Den K H' 0) (ls.map oI) (ls.map fD) := fun H' ls => by
   induction ls with
   | nil => exact .nil
   | cons o t ih =>
    refine .cons ?_ ih
    cases o with
    | none => rw [hfD.1]; exact den_non
    | some z => rw [hfD.2]; exact den_int
  refine ⟨Nat.zero_le _,fun p hp => ?_⟩
  have gp := same_new hp (.lst [])
  have hw4 := gp _ _ hw1
  have fr4:∀ c o,H2 c = some o → c ≠ w → upd H3 p (.lst []) c = some o := fun c o e n => gp _ _ (fr1 c o e n)
  have dW:Den K (upd H3 p (.lst [])) 1 (.ref w) (.lst (ws1.map fD)) := ⟨_,SqL.of hw4,pr _ ws1⟩
  refine ⟨_,_,_,_,rfl,rfl,dW,den_ints (ns := []) (SqL.of upd_same),like_nil,_,rfl,?_⟩
  clear dW
  generalize upd H3 p (.lst []) = H4 at hw4 fr4 ⊢
  clear gp hp hw1 fr1
  split
  ·exact k ws1 H4 fr4 hw4
  rename_i hne
  have hpos:0 < ws1.length := by
   have hne2:(!eqD (DV.lst (ws1.map fD)) (DV.lst (([]:List Int).map DV.int))) = true := by
    rw [Bool.not_eq_true] at hne
    rw [hne]
    rfl
   have := List.length_pos_iff.mpr (not_nil hne2)
   rw [List.length_map] at this
   exact this
  have hs4 := fr4 _ _ hs nsw
  have hR4:Rows H4 us seats := hR.keep fun t o ht e => fr4 _ _ e fun z => nwu (z ▸ ht)
  clear hne
  rw [u1]; clear u1
  refine seq_of fun U1 u1 => ?_
  walk_at "rd"
  refine ⟨_,.inl (SqL.of hw4),?_⟩
  rw [wI_len]
  obtain ⟨a3,ha3,al3⟩:∃ a3:Nat,(if (ws1.length:Int) - 1 < (a2:Int) then (ws1.length:Int) - 1 else (a2:Int)) = a3 ∧ a3 < ws1.length := by
   split
   ·exact ⟨ws1.length - 1,by lia,by lia⟩
   ·exact ⟨a2,rfl,by omega⟩
  rw [ha3]
  clear ha3
  rw [u1]; clear u1
  have fu:∀ (H':Hp) (o:HO),(∀ c o,H2 c = some o → c ≠ w → H' c = some o) → ∀ c o',H2 c = some o' → c ≠ w → upd H' w o c = some o' := fun H' o f c o' e n => by rw [upd_ne n]; exact f c o' e n
  refine cut_of (fun σ H5 => ∃ ws2:List (Option Int),(∀ c o,H2 c = some o → c ≠ w → H5 c = some o) ∧ H5 w = some (.lst (wI ws2)) ∧ (way ≠ 1 → a3 < ws2.length) ∧ (way ≠ 1 → way ≠ 0 → ws2.length = seats.length) ∧ σ = [some (.int c),some (.int way),some (.ref s),some (.ref w),some (.int m),some (.int a3)]) ?_ ?_
  ·walk_at "rd"
   split
   ·rename_i zw
    have ee:(wI ws1).eraseIdx a3 = wI (ws1.eraseIdx a3) := by
     unfold wI
     rw [List.eraseIdx_eq_take_drop_succ,List.eraseIdx_eq_take_drop_succ,List.map_append,List.map_take,List.map_drop]
    refine ⟨.inl ⟨rfl,_,SqL.of hw4⟩,_,hw4,by lia,by lia,a3,by rw [seqIndex_of (by lia) (by rw [wI_len]; lia),Int.toNat_natCast],_,wI_get (List.getElem?_eq_getElem al3),fu _ _ fr4,ws1.eraseIdx a3,?_,(fun z => absurd (by lia) z),(fun z => absurd (by lia) z)⟩
    rw [upd_same,ee]
   ·exact ⟨fr4,ws1,hw4,(fun _ => al3),(fun _ z => hl1 z)⟩
  rintro σ H5 ⟨ws2,fr5,hw5,l5,m5,rfl⟩
  clear hw4 fr4 al3 hl1 hs4 hR4
  have hs5 := fr5 _ _ hs nsw
  have hR5:Rows H5 us seats := hR.keep fun t o ht e => fr5 _ _ e fun z => nwu (z ▸ ht)
  refine cut_of (fun σ H6 => ∃ ws3:List (Option Int),(∀ c o,H2 c = some o → c ≠ w → H6 c = some o) ∧ H6 w = some (.lst (wI ws3)) ∧ (way ≠ 1 → a3 < ws3.length) ∧ σ = [some (.int c),some (.int way),some (.ref s),some (.ref w),some (.int m),some (.int a3)]) ?_ ?_
  ·walk_at "rd"
   split
   ·rename_i zw
    have al := l5 (by lia)
    have am := m5 (by lia) (by lia)
    obtain ⟨v1,hv1⟩:∃ v1:Int,v1 = c / 61 % if 1 > (m:Int) then 1 else (m:Int) := ⟨_,rfl⟩
    refine ⟨⟨by decide,by decide⟩,(by split <;> lia),_,hw5,a3,ixN_lt (by rw [wI_len]; exact al),?_⟩
    rw [← hv1,show V.int v1 = oI (some v1) from rfl,ss]
    clear hv1
    have hrow := List.getElem?_eq_getElem (show a3 < seats.length by lia)
    have f5 := fu H5 (.lst (wI (ws2.set a3 (some v1)))) fr5
    have hwb := upd_same (H := H5) (a := w) (o := .lst (wI (ws2.set a3 (some v1))))
    generalize upd H5 w (.lst (wI (ws2.set a3 (some v1)))) = Hb at f5 hwb ⊢
    have hsb := f5 _ _ hs nsw
    have hRb:Rows Hb us seats := hR.keep fun t o ht e => f5 _ _ e fun z => nwu (z ▸ ht)
    obtain ⟨t1,at1,q1⟩ := hRb.get hrow
    have lb:way ≠ 1 → a3 < (ws2.set a3 (some v1)).length := fun _ => by rw [List.length_set]; exact al
    refine ⟨_,SqL.of hsb,_,atI_nat at1,Nat.zero_le _,fun p hp => ?_⟩
    have gp := same_new hp (.lst [])
    have ep := upd_same (H := Hb) (a := p) (o := .lst [])
    generalize upd Hb p (.lst []) = Hc at gp ep ⊢
    have fc:∀ c o,H2 c = some o → c ≠ w → Hc c = some o := fun c o e n => gp _ _ (f5 c o e n)
    refine ⟨_,_,_,_,rfl,rfl,den_ints (SqL.of (gp _ _ q1)),den_ints (ns := []) (SqL.of ep),like_ints,_,rfl,?_⟩
    split
    ·rename_i hne
     have hpos := List.length_pos_iff.mpr (not_nil hne)
     rw [List.length_map] at hpos
     refine ⟨⟨by decide,by decide⟩,by decide,?_⟩
     split
     ·obtain ⟨y,hy⟩ := item_of (ns := seats[a3]) (k := c / 61 % (seats[a3].length:Int)) (Int.emod_nonneg _ (by omega)) (Int.emod_lt_of_pos _ (by omega))
      refine ⟨_,SqL.of (gp _ _ hsb),_,atI_nat at1,⟨by decide,by decide⟩,_,SqL.of (gp _ _ hsb),_,atI_nat at1,t1,rfl,_,.inl (SqL.of (gp _ _ q1)),(by rw [List.length_map]; omega),t1,rfl,_,SqL.of (gp _ _ q1),_,(by rw [List.length_map]; exact hy),_,gp _ _ hwb,a3,ixN_lt (by rw [wI_len,List.length_set]; exact al),?_⟩
      rw [show V.int y = oI (some y) from rfl,ss]
      exact ⟨fu _ _ fc,_,upd_same,fun _ => by rw [List.length_set,List.length_set]; exact al⟩
     ·exact ⟨fc,_,gp _ _ hwb,lb⟩
    ·exact ⟨fc,_,gp _ _ hwb,lb⟩
   ·exact ⟨fr5,ws2,hw5,l5⟩
  rintro σ H6 ⟨ws3,fr6,hw6,l6,rfl⟩
  clear hw5 fr5 l5 m5 hs5 hR5
  refine cut_of (fun σ H7 => ∃ ws4:List (Option Int),(∀ c o,H2 c = some o → c ≠ w → H7 c = some o) ∧ H7 w = some (.lst (wI ws4)) ∧ (way ≠ 1 → a3 < ws4.length) ∧ σ = [some (.int c),some (.int way),some (.ref s),some (.ref w),some (.int m),some (.int a3)]) ?_ ?_
  ·walk_at "rd"
   split
   ·rename_i zw
    have al := l6 (by lia)
    refine ⟨⟨by decide,by decide⟩,by decide,_,hw6,a3,ixN_lt (by rw [wI_len]; exact al),?_⟩
    rw [show V.int (-1 - c / 61 % 12) = oI (some (-1 - c / 61 % 12)) from rfl,ss]
    exact ⟨fu _ _ fr6,_,upd_same,fun _ => by rw [List.length_set]; exact al⟩
   ·exact ⟨fr6,ws3,hw6,l6⟩
  rintro σ H7 ⟨ws4,fr7,hw7,l7,rfl⟩
  refine cut_of (fun σ H8 => ∃ ws5:List (Option Int),(∀ c o,H2 c = some o → c ≠ w → H8 c = some o) ∧ H8 w = some (.lst (wI ws5)) ∧ (way ≠ 1 → a3 < ws5.length) ∧ σ = [some (.int c),some (.int way),some (.ref s),some (.ref w),some (.int m),some (.int a3)]) ?_ ?_
  ·walk_at "rd"
   split
   ·rename_i zw
    have al := l7 (by lia)
    refine ⟨⟨by decide,by decide⟩,by decide,_,hw7,a3,ixN_lt (by rw [wI_len]; exact al),?_⟩
    rw [show V.int ((m:Int) + c / 61 % 3) = oI (some ((m:Int) + c / 61 % 3)) from rfl,ss]
    exact ⟨fu _ _ fr7,_,upd_same,fun _ => by rw [List.length_set]; exact al⟩
   ·exact ⟨fr7,ws4,hw7,l7⟩
  rintro σ H8 ⟨ws5,fr8,hw8,l8,rfl⟩
  walk_at "rd"
  split
  ·rename_i zw
   have al := l8 (by lia)
   refine ⟨_,hw8,a3,ixN_lt (by rw [wI_len]; exact al),?_⟩
   rw [show V.non = oI none from rfl,ss]
   exact k _ _ (fu _ _ fr8) upd_same
  ·exact k ws5 H8 fr8 hw8
noncomputable def zG_ (K:PySem.W.Frag) (C_Hall:Addr):Sp := fun vs H Q _ => ∃ (w:Addr) (xs:List Int) (c:Int) (way m:Nat),vs = [.int c,.int way,.ref w,.int m] ∧ H w = some (.lst (xs.map V.int)) ∧ xs.length ≤ 190 ∧ ∀ (xs':List Int) (H':Hp),xs'.length ≤ xs.length + 2 → (∀ c o,H c = some o → c ≠ w → H' c = some o) → H' w = some (.lst (xs'.map V.int)) → Q .non H'
theorem zH_:FnScope ["_law_cell","_law_way","_law_short","_law_many","_law_at"] ["_law_cell","_law_way","_law_short","_law_many"] (defScope ze_) := ⟨rfl,rfl,rfl,by decide +kernel,rfl,by decide +kernel,by decide +kernel⟩
theorem zaU_ {C_Hall:Addr} {f:Addr} {fd:FuncData} (F:Fun K "_law_spoilt_short" "_law_spoilt_short" ze_ f fd) (T:Txt K mg C_Hall) :FnOk P w K mg base CX0 1 f fd ["_law_cell","_law_way","_law_short","_law_many"] (zG_ K C_Hall) := by
 refine F.ok zH_ (fun vs H Q E h => ?_) (fun cdv A outer s H vs Q E hr h => ?_)
 ·obtain ⟨w,xs,c,way,m,rfl,_⟩ := h
  rfl
 ·obtain ⟨w,xs,c,way,m,rfl,hw,x190,k⟩ := h
  refine ⟨_,(pss_cons (ps_set (i := 4) zH_.nd rfl (Or.inl rfl) (pe_op op_mod (pv 0) (pe_op op_add (pe_callB (call_lenK (K := K) rfl) (by rfl) T.len PySem.boot_len (pa_cons (pv 2) pa_nil)) pe_int)))
  (pss_cut (ps_if (pt_cmpR op_eq (pv 1) pe_int (nomark _)) (pss_one (ps_expr (pe_bm PySem.F.plainAttrs_list PySem.F.slot_list_insert PySem.F.type_list_insert mt_insert (pv 2) (pa_cons (pv 4) (pa_cons (pe_op op_mod (pe_op op_fdiv (pv 0) pe_int) (pe_callB (call_max2 rfl) (by rfl) T.max PyProof.Rows.boot_max (pa_cons (pv 3) (pa_cons pe_int pa_nil)))) pa_nil))))) pss_nil)
  (pss_cut (ps_if (pt_cmpR op_eq (pv 1) pe_int (nomark _)) (pss_one (ps_expr (pe_bm PySem.F.plainAttrs_list PySem.F.slot_list_insert PySem.F.type_list_insert mt_insert (pv 2) (pa_cons (pv 4) (pa_cons (pe_op op_sub (pe_un un_neg pe_int) (pe_op op_mod (pe_op op_fdiv (pv 0) pe_int) pe_int)) pa_nil))))) pss_nil)
  (pss_cut (ps_if (pt_cmpR op_eq (pv 1) pe_int (nomark _)) (pss_one (ps_expr (pe_bm PySem.F.plainAttrs_list PySem.F.slot_list_insert PySem.F.type_list_insert mt_insert (pv 2) (pa_cons (pv 4) (pa_cons (pe_op op_add (pv 3) (pe_op op_mod (pe_op op_fdiv (pv 0) pe_int) pe_int)) pa_nil))))) pss_nil)
  (pss_cons (ps_if (pt_cmpR (op_eqD 0 hr) (pv 2) (pe_lst pa_nil) (nomark _)) (pss_one ps_retN) pss_nil)
  (pss_cons (ps_set (i := 4) zH_.nd rfl (Or.inl rfl) (pe_op op_mod (pv 4) (pe_callB (call_lenK (K := K) rfl) (by rfl) T.len PySem.boot_len (pa_cons (pv 2) pa_nil))))
  (pss_cut (ps_if (pt_cmpR op_eq (pv 1) pe_int (nomark _)) (pss_cons (ps_expr (pe_bm PySem.F.plainAttrs_list PySem.F.slot_list_pop PySem.F.type_list_pop mt_popAt (pv 2) (pa_cons (pv 4) pa_nil)))
   (pss_one (ps_if (pt_cmpR op_eq (pe_op op_mod (pe_op op_fdiv (pv 0) pe_int) pe_int) pe_int (nomark _)) (pss_one (ps_expr (pe_bm0 PySem.F.plainAttrs_list PySem.F.slot_list_clear PySem.F.type_list_clear mt_clear (pv 2)))) pss_nil))) pss_nil)
  (pss_one (ps_if (pt_cmpR op_eq (pv 1) pe_int (nomark _)) (pss_one (ps_expr (pe_bm PySem.F.plainAttrs_list PySem.F.slot_list_insert PySem.F.type_list_insert mt_insert (pv 2) (pa_cons (pv 4) (pa_cons (pe_ix ix_list (pv 2) (pv 4) (fun _ _ => rfl)) pa_nil))))) pss_nil))))))))),?_⟩
  refine seq_of fun U1 u1 => ?_
  walk_at "rd"
  have im:∀ (ls:List Int) (j:Nat) (z:Int),(some (HO.lst ((ls.map V.int).take j ++ V.int z :: (ls.map V.int).drop j))) = some (HO.lst ((ls.take j ++ z :: ls.drop j).map V.int)) := fun ls j z => by rw [List.map_append,List.map_cons,List.map_take,List.map_drop]
  have il_:∀ (ls:List Int) (j:Nat) (z:Int),(ls.take j ++ z :: ls.drop j).length = ls.length + 1 := fun ls j z => by
   have:(ls.take j).length + (ls.drop j).length = ls.length := by rw [← List.length_append,List.take_append_drop]
   rw [List.length_append,List.length_cons]
   lia
  have fu:∀ (H':Hp) (o:HO),(∀ c o,H c = some o → c ≠ w → H' c = some o) → ∀ c o',H c = some o' → c ≠ w → upd H' w o c = some o' := fun H' o f c o' e n => by rw [upd_ne n]; exact f c o' e n
  refine ⟨_,.inl (SqL.of hw),by lia,?_⟩
  rw [List.length_map]
  obtain ⟨a0,ha0,al0⟩:∃ a0:Nat,c % ((xs.length:Int) + 1) = a0 ∧ a0 ≤ xs.length := ⟨(c % ((xs.length:Int) + 1)).toNat,by have := Int.emod_nonneg c (b := (xs.length:Int) + 1) (by lia); lia,by have := Int.emod_lt_of_pos c (b := (xs.length:Int) + 1) (by lia); have := Int.emod_nonneg c (b := (xs.length:Int) + 1) (by lia); lia⟩
  rw [ha0]
  clear ha0
  rw [u1]; clear u1
  refine cut_of (fun σ H1 => ∃ xs1:List Int,(∀ c o,H c = some o → c ≠ w → H1 c = some o) ∧ H1 w = some (.lst (xs1.map V.int)) ∧ (xs1.length = xs.length ∨ xs1.length = xs.length + 1 ∧ way = 6) ∧ σ = [some (.int c),some (.int way),some (.ref w),some (.int m),some (.int a0)]) ?_ ?_
  ·walk_at "rd"
   split
   ·refine ⟨.inl ⟨rfl,_,SqL.of hw⟩,⟨by decide,by decide⟩,(by split <;> lia),_,hw,by lia,by rw [List.length_map]; lia,small1000 (by rw [List.length_map]; lia),?_⟩
    rw [Int.toNat_natCast]
    exact ⟨fu _ _ (fun c o e _ => e),_,upd_same.trans (im _ _ _),.inr ⟨il_ _ _ _,by lia⟩⟩
   ·exact ⟨(fun c o e _ => e),xs,hw,.inl rfl⟩
  rintro σ H1 ⟨xs1,fr1,hw1,l1,rfl⟩
  refine cut_of (fun σ H1 => ∃ xs1:List Int,(∀ c o,H c = some o → c ≠ w → H1 c = some o) ∧ H1 w = some (.lst (xs1.map V.int)) ∧ (xs1.length = xs.length ∨ xs1.length = xs.length + 1 ∧ way < 8) ∧ σ = [some (.int c),some (.int way),some (.ref w),some (.int m),some (.int a0)]) ?_ ?_
  ·walk_at "rd"
   split
   ·refine ⟨.inl ⟨rfl,_,SqL.of hw1⟩,⟨by decide,by decide⟩,by decide,_,hw1,by lia,by rw [List.length_map]; lia,small1000 (by rw [List.length_map]; lia),?_⟩
    rw [Int.toNat_natCast]
    exact ⟨fu _ _ fr1,_,upd_same.trans (im _ _ _),.inr ⟨by rw [il_]; lia,by omega⟩⟩
   ·exact ⟨fr1,xs1,hw1,by lia⟩
  rintro σ H2 ⟨xs2,fr2,hw2,l2,rfl⟩
  refine cut_of (fun σ H1 => ∃ xs1:List Int,(∀ c o,H c = some o → c ≠ w → H1 c = some o) ∧ H1 w = some (.lst (xs1.map V.int)) ∧ (xs1.length = xs.length ∨ xs1.length = xs.length + 1) ∧ σ = [some (.int c),some (.int way),some (.ref w),some (.int m),some (.int a0)]) ?_ ?_
  ·walk_at "rd"
   split
   ·refine ⟨.inl ⟨rfl,_,SqL.of hw2⟩,⟨by decide,by decide⟩,by decide,_,hw2,by lia,by rw [List.length_map]; lia,small1000 (by rw [List.length_map]; lia),?_⟩
    rw [Int.toNat_natCast]
    exact ⟨fu _ _ fr2,_,upd_same.trans (im _ _ _),.inr (by rw [il_]; lia)⟩
   ·exact ⟨fr2,xs2,hw2,by lia⟩
  rintro σ H3 ⟨xs3,fr3,hw3,l3,rfl⟩
  refine seq_of fun U1 u1 => ?_
  walk_at "rd"
  refine ⟨Nat.zero_le _,fun p hp => ?_⟩
  have gp := same_new hp (.lst [])
  have hw4 := gp _ _ hw3
  have fr4:∀ c o,H c = some o → c ≠ w → upd H3 p (.lst []) c = some o := fun c o e n => gp _ _ (fr3 c o e n)
  refine ⟨_,_,_,_,rfl,rfl,den_ints (SqL.of hw4),den_ints (ns := []) (SqL.of upd_same),like_ints,_,rfl,?_⟩
  generalize upd H3 p (.lst []) = H4 at hw4 fr4 ⊢
  split
  ·exact k xs3 H4 (by lia) fr4 hw4
  rename_i hne
  have hpos:0 < xs3.length := by
   have hne2:(!eqD (DV.lst (xs3.map DV.int)) (DV.lst (([]:List Int).map DV.int))) = true := by
    rw [Bool.not_eq_true] at hne
    rw [hne]
    rfl
   have := List.length_pos_iff.mpr (not_nil hne2)
   rw [List.length_map] at this
   exact this
  clear hne
  rw [u1]; clear u1
  refine seq_of fun U1 u1 => ?_
  walk_at "rd"
  refine ⟨_,.inl (SqL.of hw4),(by rw [List.length_map]; lia),?_⟩
  rw [List.length_map]
  obtain ⟨a1,ha1,al1⟩:∃ a1:Nat,(a0:Int) % (xs3.length:Int) = a1 ∧ a1 < xs3.length := ⟨a0 % xs3.length,by lia,Nat.mod_lt _ hpos⟩
  rw [ha1]
  clear ha1
  rw [u1]; clear u1
  refine cut_of (fun σ H5 => ∃ xs5:List Int,(∀ c o,H c = some o → c ≠ w → H5 c = some o) ∧ H5 w = some (.lst (xs5.map V.int)) ∧ xs5.length ≤ xs.length + 1 ∧ (way ≠ 9 → a1 < xs5.length) ∧ σ = [some (.int c),some (.int way),some (.ref w),some (.int m),some (.int a1)]) ?_ ?_
  ·walk_at "rd"
   split
   ·rename_i zw
    have ee:(xs3.map V.int).eraseIdx a1 = (xs3.eraseIdx a1).map V.int := by rw [List.eraseIdx_eq_take_drop_succ,List.eraseIdx_eq_take_drop_succ,List.map_append,List.map_take,List.map_drop]
    have ll := List.length_eraseIdx_le xs3 a1
    refine ⟨.inl ⟨rfl,_,SqL.of hw4⟩,_,hw4,by lia,by lia,a1,by rw [seqIndex_of (by lia) (by rw [List.length_map]; lia),Int.toNat_natCast],_,(by rw [List.getElem?_map,List.getElem?_eq_getElem al1]; rfl),⟨by decide,by decide⟩,by decide,?_⟩
    rw [ee]
    split
    ·exact ⟨.inl ⟨rfl,_,SqL.of upd_same⟩,_,upd_same,fu _ _ (fu _ _ fr4),[],upd_same,Nat.zero_le _,(fun z => absurd (by lia) z)⟩
    ·exact ⟨fu _ _ fr4,_,upd_same,by lia,(fun z => absurd (by lia) z)⟩
   ·exact ⟨fr4,xs3,hw4,by lia,(fun _ => al1)⟩
  rintro σ H5 ⟨xs5,fr5,hw5,l5,al5,rfl⟩
  walk_at "rd"
  split
  ·rename_i zw
   have al := al5 (by lia)
   refine ⟨.inl ⟨rfl,_,SqL.of hw5⟩,_,SqL.of hw5,.int xs5[a1],atI_nat (by rw [List.getElem?_map,List.getElem?_eq_getElem al]; rfl),_,hw5,by lia,by rw [List.length_map]; lia,small1000 (by rw [List.length_map]; lia),?_⟩
   rw [Int.toNat_natCast]
   exact k _ _ (by rw [il_]; lia) (fu _ _ fr5) (upd_same.trans (im _ _ _))
  ·exact k xs5 H5 (by lia) fr5 hw5
noncomputable def zaB_ (_:PySem.W.Frag) (C_Hall:Addr):Sp := fun vs H Q _ => ∃ (c lv:Int) (n:Nat),vs = [.int c,.int n,.int lv] ∧ n ≤ 200 ∧ 0 < lv ∧ ∀ (r:Addr) (xs:List Int) (H':Hp),Same H H' → H r = none → H' r = some (.lst (xs.map V.int)) → InS n xs → xs.length ≤ n → Q (.ref r) H'
theorem zI_:FnScope ["_law_cell","_law_many","_law_leave","_law_xs","_law_some","_law_turn"] ["_law_cell","_law_many","_law_leave"] (defScope zB_) := ⟨rfl,rfl,rfl,by decide +kernel,rfl,by decide +kernel,by decide +kernel⟩
theorem zbA_ {C_Hall:Addr} {f:Addr} {fd:FuncData} (F:Fun K "_law_order" "_law_order" zB_ f fd) (T:Txt K mg C_Hall) (zc_:Cal P w K mg base "_law_stream" ["_law_cell","_law_many"] 1 (zC_ K C_Hall)):FnOk P w K mg base CX0 2 f fd ["_law_cell","_law_many","_law_leave"] (zaB_ K C_Hall) := by
 refine F.ok zI_ (fun vs H Q E h => ?_) (fun cdv A outer s H vs Q E hr h => ?_)
 ·obtain ⟨c,lv,n,rfl,_⟩ := h
  rfl
 ·obtain ⟨c,lv,n,rfl,hn,hlv,q⟩ := h
  refine ⟨_,(pss_cons (ps_set (i := 3) zI_.nd rfl (Or.inr rfl) (pe_cal zc_ (hr.mono (by decide)) rfl (pa_cons (pv 0) (pa_cons (pv 1) pa_nil))))
  (pss_cons (ps_comp (i := 4) zI_.nd rfl rfl (own := ["_law_seat_here"]) (fnames := ["_law_leave","_law_xs"]) (fr := [2,3]) (N' := ["_law_seat_here","_law_leave","_law_xs"]) ⟨rfl,rfl,rfl,rfl,rfl,rfl,rfl⟩ rfl (pi_range1 rfl T.range (pa_cons (pv 1) pa_nil)) (fun s0 H0 fp0 C0 => ⟨(pg_name (i := 0) (by show (["_law_seat_here","_law_leave","_law_xs"]:List Str).Nodup; decide +kernel) rfl (Or.inl rfl)),(pts_one (pt_cmpR op_gt (pe_op op_mod (pe_ix (ix_listK (K := K) rfl) (pv 2) (pv 0) (fun _ _ => rfl)) (pv 1)) pe_int (nomark _))),(pv 0)⟩))
  (pss_cons (ps_set (i := 5) zI_.nd rfl (Or.inl rfl) (pe_op op_mod (pv 0) pe_int))
  (pss_cut (ps_if (pt_cmpR op_eq (pe_op op_mod (pe_op op_fdiv (pv 0) pe_int) pe_int) pe_int (nomark _)) (pss_one (ps_set (i := 4) zI_.nd rfl (Or.inl rfl) (pe_listRev rfl rfl T.list rfl T.reversed (pv 4)))) pss_nil)
  (pss_one (ps_ret (pe_op op_cat (pe_slice sl_list (pv 4) (po_some (pv 5)) po_none) (pe_slice sl_list (pv 4) po_none (po_some (pv 5)))))))))),?_⟩
  refine seq_of fun U1 u1 => ?_
  walk_at "rd"
  refine ⟨_,_,rfl,by lia,by lia,fun p ns hp hl => ?_⟩
  have g1 := same_new hp (.lst (ns.map V.int))
  rw [u1]; clear u1
  refine seq_of fun U1 u1 => ?_
  walk_at "rd"
  refine ⟨by lia,by lia,fun L hL => for_rangeW (fun i σ H' => ∃ (xs:List Int) (v0:Option V),H' = upd (upd H p (.lst (ns.map V.int))) L (.lst (xs.map V.int)) ∧ xs.length ≤ i ∧ (∀ y ∈ xs,0 ≤ y ∧ y < (i:Int)) ∧ σ = [v0,some (.int lv),some (.ref p)]) ⟨[],none,rfl,Nat.le_refl _,(fun y z => by cases z),rfl⟩ ?_ ?_⟩
  ·rintro i σ H' hi ⟨xs,v0,rfl,hxl,hb,rfl⟩
   rw [show (0 + (i:Int)) = i by lia]
   have eP:upd (upd H p (.lst (ns.map V.int))) L (.lst (xs.map V.int)) p = some (.lst (ns.map V.int)) := same_new hL _ _ _ upd_same
   obtain ⟨y,hy⟩ := item_of (ns := ns) (k := (i:Int)) (by lia) (by lia)
   walk_at "rd"
   refine ⟨_,SqL.of eP,_,hy,_,rfl,hlv,?_⟩
   split
   ·refine ⟨_,upd_same,small1000 (by rw [List.length_map]; lia),xs ++ [(i:Int)],by rw [upd_upd,List.map_append]; rfl,by rw [List.length_append]; exact Nat.succ_le_succ hxl,fun y hy => ?_⟩
    rcases List.mem_append.mp hy with z | z
    ·have := hb y z
     lia
    ·rw [List.mem_singleton.mp z]
     lia
   ·exact ⟨xs,rfl,by lia,fun y hy => by have := hb y hy; lia⟩
  rintro σ H' ⟨xs,v0,rfl,hxl,hb,rfl⟩
  rw [u1]; clear u1
  refine seq_of fun U1 u1 => ?_
  walk_at "rd"
  refine ⟨by decide,?_⟩
  obtain ⟨t,et⟩:∃ t:Nat,c % 61 = t := ⟨(c % 61).toNat,by lia⟩
  rw [et]
  rw [u1]; clear u1
  have g2 := g1.trans (same_new hL (.lst (xs.map V.int)))
  have eL:upd (upd H p (.lst (ns.map V.int))) L (.lst (xs.map V.int)) L = some (.lst (xs.map V.int)) := upd_same
  revert g2 eL
  generalize upd (upd H p (.lst (ns.map V.int))) L (.lst (xs.map V.int)) = H1
  intro g2 eL
  rw [Int.toNat_natCast] at hxl hb
  refine cut_of (fun σ H' => ∃ (L':Addr) (ys:List Int),Same H1 H' ∧ H' L' = some (.lst (ys.map V.int)) ∧ ys.length ≤ n ∧ (∀ y ∈ ys,0 ≤ y ∧ y < (n:Int)) ∧ σ = [some (.int c),some (.int n),some (.int lv),some (.ref p),some (.ref L'),some (.int t)]) ?_ ?_
  ·walk_at "rd"
   refine ⟨⟨by decide,by decide⟩,by decide,?_⟩
   split
   ·refine ⟨_,SqL.of eL,fun r hr => ?_⟩
    exact ⟨same_new hr _,r,xs.reverse,by rw [upd_same,List.map_reverse],by rw [List.length_reverse]; exact hxl,fun y hy => hb y (List.mem_reverse.mp hy),rfl⟩
   ·exact ⟨fun _ _ z => z,L,xs,eL,hxl,hb,rfl⟩
  rintro σ H' ⟨L',ys,g3,e3,hl3,hb3,rfl⟩
  walk_at "rd"
  refine turned_of (Q := fun p H' => Q (.ref p) H') e3 (by lia) fun r H2 g hr e2 => ?_
  exact q r _ H2 ((g2.trans g3).trans g) ((g2.trans g3).free hr) e2 ⟨by rw [turn_len]; lia,fun y hy => hb3 y (turn_mem.mp hy)⟩ (by rw [turn_len]; omega)
noncomputable def sp_law (K:PySem.W.Frag):Sp := fun vs H Q _ => ∃ (a:Addr) (ns:List Int),vs = [.ref a] ∧ SqL K H a (ns.map V.int) ∧ ns.length ≤ 63 ∧ ∀ H',Q (.bl true) H'
theorem sc_law:FnScope ["_law_script","_law_seats","_law_slots","_law_limits","_law_cell","_law_where","_law_short","_law_kept_where","_law_kept_short","_law_number","_law_way"] ["_law_script"] (defScope s_law) := ⟨rfl,rfl,rfl,by decide +kernel,rfl,by decide +kernel,by decide +kernel⟩
theorem ok_law {C_Hall:Addr} {f:Addr} {fd:FuncData} (F:Fun K "law" "law" s_law f fd) (T:Txt K mg C_Hall) (zaM_:Cal P w K mg base "_law_stage" ["_law_script"] 2 (zax_ K C_Hall)) (zbi_:Cal P w K mg base "filled" ["seats","slots","caps"] 5 (zbc_ K C_Hall)) (zY_:Cal P w K mg base "_law_good" ["_law_seats","_law_slots","_law_limits","_law_where","_law_short"] 4 (zaJ_ K C_Hall)) (zb_:Cal P w K mg base "_law_cell_at" ["_law_script","_law_k"] 1 (zR_ K C_Hall)) (zaa_:Cal P w K mg base "_law_greedy" ["_law_seats","_law_slots","_law_limits","_law_order_here"] 1 (zar_ K C_Hall)) (zc_:Cal P w K mg base "_law_stream" ["_law_cell","_law_many"] 1 (zC_ K C_Hall)) (zO_:Cal P w K mg base "_law_spoilt_where" ["_law_cell","_law_way","_law_seats","_law_where","_law_many"] 1 (zF_ K C_Hall)) (zP_:Cal P w K mg base "_law_spoilt_short" ["_law_cell","_law_way","_law_short","_law_many"] 1 (zG_ K C_Hall)) (zU_:Cal P w K mg base "_law_order" ["_law_cell","_law_many","_law_leave"] 2 (zaB_ K C_Hall)):FnOk P w K mg base CX0 6 f fd ["_law_script"] (sp_law K) := by
 refine F.ok sc_law (fun vs H Q E h => ?_) (fun cdv A outer s H vs Q E hr h => ?_)
 ·obtain ⟨a,ns,rfl,_⟩ := h
  rfl
 ·obtain ⟨a,ns,rfl,hS,hn,k⟩ := h
  refine ⟨_,(pss_cons (ps_asg (pe_cal zaM_ (hr.mono (by decide)) rfl (pa_cons (pv 0) pa_nil)) (pg_tup (n := 3) rfl (pgs_cons (pg_name (i := 1) sc_law.nd rfl (Or.inr rfl)) (pgs_cons (pg_name (i := 2) sc_law.nd rfl (Or.inl rfl)) (pgs_cons (pg_name (i := 3) sc_law.nd rfl (Or.inl rfl)) pgs_nil)))))
  (pss_cons (ps_set (i := 4) sc_law.nd rfl (Or.inl rfl) (pe_op op_mod (pe_cal zb_ (hr.mono (by decide)) rfl (pa_cons (pv 0) (pa_cons pe_int pa_nil))) (pe_op op_pow pe_int pe_int)))
  (pss_cons (ps_asg (pe_cal zbi_ (hr.mono (by decide)) rfl (pa_cons (pe_comp (own := ["_law_one"]) (fnames := []) (fr := []) (N' := ["_law_one"]) ⟨rfl,rfl,rfl,rfl,rfl,rfl,rfl⟩ rfl (pi_list (pv 1)) (fun s0 H0 fp0 C0 => ⟨(pg_name (i := 0) (by show (["_law_one"]:List Str).Nodup; decide +kernel) rfl (Or.inl rfl)),pts_nil,(pe_callTy (call_listK (K := K) rfl) (by rfl) T.list PyProof.Rows.boot_list (pa_cons (pv 0) pa_nil))⟩)) (pa_cons (pe_callTy (call_listK (K := K) rfl) (by rfl) T.list PyProof.Rows.boot_list (pa_cons (pv 2) pa_nil)) (pa_cons (pe_callTy (call_listK (K := K) rfl) (by rfl) T.list PyProof.Rows.boot_list (pa_cons (pv 3) pa_nil)) pa_nil)))) (pg_tup (n := 2) rfl (pgs_cons (pg_name (i := 5) sc_law.nd rfl (Or.inl rfl)) (pgs_cons (pg_name (i := 6) sc_law.nd rfl (Or.inl rfl)) pgs_nil))))
  (pss_cut (ps_if (pt_cmpR op_eq (pe_op op_mod (pv 4) pe_int) pe_int (nomark _)) (pss_cons (ps_set (i := 5) sc_law.nd rfl (Or.inl rfl) (pe_cal zaa_ (hr.mono (by decide)) rfl (pa_cons (pv 1) (pa_cons (pv 2) (pa_cons (pv 3) (pa_cons (pe_cal zU_ (hr.mono (by decide)) rfl (pa_cons (pe_op op_fdiv (pv 4) pe_int) (pa_cons (pe_callB (call_lenK (K := K) rfl) (by rfl) T.len PySem.boot_len (pa_cons (pv 1) pa_nil)) (pa_cons pe_int pa_nil)))) pa_nil))))))
   (pss_one (ps_set (i := 6) sc_law.nd rfl (Or.inl rfl) (pe_callB call_sortL (by rfl) T.sorted PyProof.Rows.boot_sorted (pa_cons (pe_cal zU_ (hr.mono (by decide)) rfl (pa_cons (pe_op op_fdiv (pv 4) pe_int) (pa_cons (pe_callB (call_lenK (K := K) rfl) (by rfl) T.len PySem.boot_len (pa_cons (pv 1) pa_nil)) (pa_cons (pe_op op_add pe_int (pe_op op_mod (pe_op op_fdiv (pv 4) pe_int) pe_int)) pa_nil)))) pa_nil))))) pss_nil)
  (pss_cut (ps_if (PW.pt (pw_and (pt_cmpR op_eq (pe_op op_mod (pv 4) pe_int) pe_int (nomark _)) (pw_and1 (pt_cmpR (op_neD 1 hr) (pv 2) (pe_lst pa_nil) (nomark _))))) (pss_cons (ps_set (i := 1) sc_law.nd rfl (Or.inr rfl) (pe_comp (own := ["_law_k","_law_seat_here"]) (fnames := []) (fr := []) (N' := ["_law_k","_law_seat_here"]) ⟨rfl,rfl,rfl,rfl,rfl,rfl,rfl⟩ rfl (pi_enum_list rfl T.enumerate (pv 1)) (fun s0 H0 fp0 C0 => ⟨(pg_tupK (K := K) (n := 2) rfl rfl (pgs_cons (pg_name (i := 0) (by show (["_law_k","_law_seat_here"]:List Str).Nodup; decide +kernel) rfl (Or.inl rfl)) (pgs_cons (pg_name (i := 1) (by show (["_law_k","_law_seat_here"]:List Str).Nodup; decide +kernel) rfl (Or.inl rfl)) pgs_nil))),pts_nil,(pe_slice (sl_listK (K := K) rfl) (pv 1) po_none (po_some (pe_op op_add pe_int (pe_op op_mod (pv 0) pe_int))))⟩)))
   (pss_cons (ps_set (i := 1) sc_law.nd rfl (Or.inr rfl) (pe_comp (own := ["_law_seat_here"]) (fnames := []) (fr := []) (N' := ["_law_seat_here"]) ⟨rfl,rfl,rfl,rfl,rfl,rfl,rfl⟩ rfl (pi_list (pv 1)) (fun s0 H0 fp0 C0 => ⟨(pg_name (i := 0) (by show (["_law_seat_here"]:List Str).Nodup; decide +kernel) rfl (Or.inl rfl)),pts_nil,(pe_op op_cat (pv 0) (pe_op op_rep (pe_lst (pa_cons pe_int pa_nil)) (pe_callTy call_int1 (by rfl) T.int PyProof.Rows.boot_int (pa_cons (pe_cmpR (op_eqDK (K := K) rfl 0 hr) (pv 0) (pe_lst pa_nil) (nomark _)) pa_nil))))⟩)))
   (pss_cons (ps_comp (i := 2) sc_law.nd rfl rfl (own := ["_law_slot"]) (fnames := ["_law_seats"]) (fr := [1]) (N' := ["_law_slot","_law_seats"]) ⟨rfl,rfl,rfl,rfl,rfl,rfl,rfl⟩ rfl (pi_list (pv 2)) (fun s0 H0 fp0 C0 => ⟨(pg_name (i := 0) (by show (["_law_slot","_law_seats"]:List Str).Nodup; decide +kernel) rfl (Or.inl rfl)),pts_nil,(pe_tup (pa_cons (pe_ix (ix_tupK (K := K) rfl) (pv 0) pe_int (fun _ _ => rfl)) (pa_cons (pe_op op_add (pe_callB (call_lenK (K := K) rfl) (by rfl) T.len PySem.boot_len (pa_cons (pv 1) pa_nil)) (pe_op op_mod (pe_ix (ix_tupK (K := K) rfl) (pv 0) pe_int (fun _ _ => rfl)) pe_int)) pa_nil)))⟩))
   (pss_cons (ps_comp (i := 3) sc_law.nd rfl rfl (own := ["_law_cap_here"]) (fnames := ["_law_seats"]) (fr := [1]) (N' := ["_law_cap_here","_law_seats"]) ⟨rfl,rfl,rfl,rfl,rfl,rfl,rfl⟩ rfl (pi_list (pv 3)) (fun s0 H0 fp0 C0 => ⟨(pg_name (i := 0) (by show (["_law_cap_here","_law_seats"]:List Str).Nodup; decide +kernel) rfl (Or.inl rfl)),pts_nil,(pe_op op_add (pe_callB (call_lenK (K := K) rfl) (by rfl) T.len PySem.boot_len (pa_cons (pv 1) pa_nil)) (pe_op op_mod (pv 0) pe_int))⟩))
   (pss_cons (ps_set (i := 5) sc_law.nd rfl (Or.inl rfl) (pe_cal zaa_ (hr.mono (by decide)) rfl (pa_cons (pv 1) (pa_cons (pv 2) (pa_cons (pv 3) (pa_cons (pe_callTy (call_list_rng rfl) (by rfl) T.list PyProof.Rows.boot_list (pa_cons (pe_callTy call_range_obj (by rfl) T.range PyProof.Rows.boot_range (pa_cons (pe_callB (call_lenK (K := K) rfl) (by rfl) T.len PySem.boot_len (pa_cons (pv 1) pa_nil)) pa_nil)) pa_nil)) pa_nil))))))
   (pss_cons (ps_set (i := 6) sc_law.nd rfl (Or.inl rfl) (pe_callB call_sortL (by rfl) T.sorted PyProof.Rows.boot_sorted (pa_cons (pe_cal zU_ (hr.mono (by decide)) rfl (pa_cons (pe_op op_fdiv (pv 4) pe_int) (pa_cons (pe_callB (call_lenK (K := K) rfl) (by rfl) T.len PySem.boot_len (pa_cons (pv 1) pa_nil)) (pa_cons (pe_op op_add pe_int (pe_op op_mod (pe_op op_fdiv (pv 4) pe_int) pe_int)) pa_nil)))) pa_nil)))
   (pss_one (ps_comp (i := 6) sc_law.nd rfl rfl (own := ["_law_seat_here"]) (fnames := ["_law_seats"]) (fr := [1]) (N' := ["_law_seat_here","_law_seats"]) ⟨rfl,rfl,rfl,rfl,rfl,rfl,rfl⟩ rfl (pi_list (pv 6)) (fun s0 H0 fp0 C0 => ⟨(pg_name (i := 0) (by show (["_law_seat_here","_law_seats"]:List Str).Nodup; decide +kernel) rfl (Or.inl rfl)),(pts_one (pt_cmpR op_eq (pe_callB (call_lenK (K := K) rfl) (by rfl) T.len PySem.boot_len (pa_cons (pe_ix (ix_listK (K := K) rfl) (pv 1) (pv 0) (fun _ _ => rfl)) pa_nil)) pe_int (nomark _))),(pv 0)⟩))))))))) pss_nil)
  (pss_cons (ps_if (pt_not (pt_val (pe_cal zY_ (hr.mono (by decide)) rfl (pa_cons (pv 1) (pa_cons (pv 2) (pa_cons (pv 3) (pa_cons (pv 5) (pa_cons (pv 6) pa_nil)))))))) (pss_one (ps_ret pe_bl)) pss_nil)
  (pss_cons (ps_set (i := 7) sc_law.nd rfl (Or.inl rfl) (pe_callTy (call_listK (K := K) rfl) (by rfl) T.list PyProof.Rows.boot_list (pa_cons (pv 5) pa_nil)))
  (pss_cons (ps_set (i := 8) sc_law.nd rfl (Or.inl rfl) (pe_callTy (call_listK (K := K) rfl) (by rfl) T.list PyProof.Rows.boot_list (pa_cons (pv 6) pa_nil)))
  (pss_cons (ps_set (i := 9) sc_law.nd rfl (Or.inl rfl) (pe_ix ix_list (pe_cal zc_ (hr.mono (by decide)) rfl (pa_cons (pv 4) (pa_cons pe_int pa_nil))) pe_int (fun _ _ => rfl)))
  (@pss_cons _ _ _ _ _ (@ps_setIC _ 10 _ _ [0,1,2,3,4,5,6,7,8,9,10,2,2,2,2,2,2,2,10,9] _ _ _ _ _ _ sc_law.nd rfl (Or.inl rfl) (by rfl) (pe_op op_mod (pv 9) pe_int) (fun _ _ => rfl) (by rfl) (.inl rfl))
  (pss_cut (ps_if (pt_cmpR op_gt (pe_op op_mod (pe_op op_fdiv (pv 4) pe_int) pe_int) pe_int (nomark _)) (pss_cons (ps_expr (pe_cal zO_ (hr.mono (by decide)) rfl (pa_cons (pe_op op_fdiv (pv 9) pe_int) (pa_cons (pv 10) (pa_cons (pv 1) (pa_cons (pv 5) (pa_cons (pe_callB (call_lenK (K := K) rfl) (by rfl) T.len PySem.boot_len (pa_cons (pv 2) pa_nil)) pa_nil)))))))
   (pss_one (ps_expr (pe_cal zP_ (hr.mono (by decide)) rfl (pa_cons (pe_op op_fdiv (pv 9) pe_int) (pa_cons (pv 10) (pa_cons (pv 6) (pa_cons (pe_callB (call_lenK (K := K) rfl) (by rfl) T.len PySem.boot_len (pa_cons (pv 1) pa_nil)) pa_nil)))))))) pss_nil)
  (pss_cons (ps_if (pt_not (pt_val (pe_cal zY_ (hr.mono (by decide)) rfl (pa_cons (pv 1) (pa_cons (pv 2) (pa_cons (pv 3) (pa_cons (pv 5) (pa_cons (pv 6) pa_nil)))))))) (pss_one (ps_ret pe_bl)) pss_nil)
  (pss_one (ps_ret (pe_cal zY_ (hr.mono (by decide)) rfl (pa_cons (pv 1) (pa_cons (pv 2) (pa_cons (pv 3) (pa_cons (pv 7) (pa_cons (pv 8) pa_nil)))))))))))))))))))),?_⟩
  refine seq_of fun U1 u1 => ?_
  walk_at "rd"
  refine ⟨a,ns,rfl,hS,hn,fun t s q l us ts seats qs lim H1 g1 ht A r9 q9 s110 => ?_⟩
  walk_at "rd"
  refine ⟨_,SqT.of ht,rfl,_,_,rfl,_,_,rfl,_,_,rfl,rfl,?_⟩
  rw [u1]; clear u1
  refine seq_of fun U1 u1 => ?_
  walk_at "rd"
  refine ⟨a,ns,_,rfl,g1.seq hS,by decide,fun c4 => ?_⟩
  walk_at "rd"
  refine ⟨⟨by decide,by decide,by decide⟩,by decide,?_⟩
  generalize c4 % 10 ^ Int.toNat 12 = c
  have hul := A.hR.len
  have sg := A.sg
  rw [u1]; clear u1
  refine seq_of fun U1 u1 => ?_
  walk_at "rd"
  refine ⟨⟨_,SqL.of (A.hs)⟩,fun pa hpa => for_listW (xs := us) (fun i σ H' => CopyI H1 pa (seats) i H' ∧ ∃ v1,σ = [v1]) ⟨CopyI.start hpa,none,rfl⟩ (fun i σ H' _ hh => SqL.of (hh.1.same _ _ (A.hs))) ?_ ?_⟩
  ·rintro i v σ H' hx ⟨hc,v1,rfl⟩
   obtain ⟨row,hrow,t',rfl,ht'⟩ := Rows.at' (A.hR) hx
   have hi:i < (us).length := (List.getElem?_eq_some_iff.mp hx).1
   walk_at "rd"
   exact ⟨_,.inl (SqL.of (hc.same _ _ ht')),fun l hl => hc.step hpa hrow hl (by lia)⟩
  rintro σ H5 ⟨hc,v1,rfl⟩
  obtain ⟨usa,gA,ea,hRa,nda,fra⟩ := hc.done (hul)
  clear hc
  refine ⟨_,.inl (SqL.of (gA _ _ (A.hq))),fun pq hpq => ⟨_,.inl (SqL.of ((same_new hpq _) _ _ (gA _ _ (A.hl)))),fun pl hpl => ?_⟩⟩
  have gB := (same_new hpq (.lst ts)).trans (same_new hpl (.lst (lim.map V.int)))
  have eq_ := (same_new hpl (.lst (lim.map V.int))) _ _ (upd_same (H := H5) (a := pq) (o := .lst ts))
  have el_ := upd_same (H := upd H5 pq (.lst ts)) (a := pl) (o := .lst (lim.map V.int))
  generalize upd (upd H5 pq (.lst ts)) pl (.lst (lim.map V.int)) = H6 at gB eq_ el_ ⊢
  refine ⟨pa,pq,pl,usa,ts,seats,qs,lim,rfl,gB _ _ ea,hRa.mono gB,eq_,Cells.mono (gA.trans gB) (A.hC),el_,sg,A.qn,A.ln,fun f wa sa W shut L H7 g6 hf hwa hsa nws ew es hL hV Cu bW => ?_⟩
  refine ⟨_,rfl,_,SqT.of hf,rfl,_,_,rfl,_,_,rfl,rfl,?_⟩
  have gC := gA.trans gB
  have gF := gC.trans g6
  have hLn:∀ y ∈ L,y < seats.length := fun y hy => Cu.i5 y (by simpa using hy)
  have P0:Pr5 H7 s q l wa sa us ts seats qs lim (whO seats.length W) (L.map fun y:Nat => (y:Int)) := Pr5.of gF A.hs A.hR A.hq A.hC A.hl sg s110 (gC.free hwa) (gC.free hsa) nws (by rw [wI_whO]; exact ew) es (whO_len _ _) (by rw [List.length_map]; have := rising_le hL hLn; lia)
  have A7 := A.mono gF
  generalize whO seats.length W = ws0 at P0
  generalize (L.map fun y:Nat => (y:Int)) = xs0 at P0
  clear gA gB gC eq_ el_ hpq hpl ea hRa nda fra g6 hpa hf hwa hsa nws ew es hL hV Cu bW hLn gF A
  rw [u1]; clear u1
  refine cut_of (fun σ H' => ∃ (wa sa:Addr) (ws:List (Option Int)) (xs:List Int),Stag H' s q l us ts seats qs lim ∧ Pr5 H' s q l wa sa us ts seats qs lim ws xs ∧ σ = [some (.ref a),some (.ref s),some (.ref q),some (.ref l),some (.int c),some (.ref wa),some (.ref sa),none,none,none,none]) ?_ ?_
  ·walk_at "rd"
   refine ⟨by decide,?_⟩
   split
   ·refine ⟨⟨by decide,by decide⟩,_,.inl (SqL.of A7.hs),c / 3,9,us.length,rfl,by lia,by decide,fun o xo Ha ga ho eo io _ => ?_⟩
    have Aa := A7.mono ga
    refine ⟨s,q,l,o,us,ts,seats,qs,lim,xo,rfl,Aa.hs,Aa.hR,Aa.hq,Aa.hC,Aa.hl,eo,sg,Aa.qn,Aa.ln,(by rw [← hul]; exact io),fun r W Hb gb hr er hV _ => ?_⟩
    have Ab := Aa.mono gb
    refine ⟨⟨by decide,by decide⟩,_,.inl (SqL.of Ab.hs),⟨by decide,by decide⟩,by decide,c / 5,_,us.length,rfl,by lia,by lia,fun o2 xo2 Hc gc ho2 eo2 io2 lo2 => ?_⟩
    refine ⟨o2,xo2,rfl,SqL.of eo2,by lia,fun p xs hp hperm _ => ?_⟩
    have gp := same_new hp (.lst (xs.map V.int))
    exact ⟨(Ab.mono gc).mono gp,r,p,whO seats.length W,xs,Pr5.of ((gb.trans gc).trans gp) Aa.hs Aa.hR Aa.hq Aa.hC Aa.hl sg s110 hr ((gb.trans gc).free hp) (ne_of_none (gc _ _ er) hp) (by rw [wI_whO]; exact gp _ _ (gc _ _ er)) upd_same (whO_len _ _) (by rw [hperm.length_eq]; lia),rfl,rfl⟩
   ·exact ⟨A7,wa,sa,ws0,xs0,P0,rfl,rfl⟩
  rintro σ H8 ⟨wa1,sa1,ws1,xs1,A8,P8,rfl⟩
  clear A7 P0
  refine cut_of (fun σ H' => ∃ (s q l wa sa:Addr) (us ts:List V) (seats:List (List Int)) (qs:List (Int × Int)) (lim:List Int) (ws:List (Option Int)) (xs:List Int),Pr5 H' s q l wa sa us ts seats qs lim ws xs ∧ σ = [some (.ref a),some (.ref s),some (.ref q),some (.ref l),some (.int c),some (.ref wa),some (.ref sa),none,none,none,none]) ?_ ?_
  ·refine ifs_of fun A1 a1 => ?_
   walk_at "rd"
   refine ⟨by decide,?_⟩
   split
   case isFalse => exact ⟨s,q,l,wa1,sa1,us,ts,seats,qs,lim,ws1,xs1,P8,rfl,rfl,rfl,rfl,rfl⟩
   refine ⟨Nat.zero_le _,fun p hp => ?_⟩
   have gp := same_new hp (.lst [])
   have A9 := A8.mono gp
   have P9 := P8.mono gp
   refine ⟨_,_,_,_,rfl,rfl,den_cells (SqL.of A9.hq) A9.hC,den_ints (ns := []) (SqL.of upd_same),like_nil,_,rfl,?_⟩
   generalize upd H8 p (.lst []) = H9 at gp A9 P9 ⊢
   clear A8 P8 gp hp
   split
   case isFalse => exact ⟨s,q,l,wa1,sa1,us,ts,seats,qs,lim,ws1,xs1,P9,rfl,rfl,rfl,rfl,rfl⟩
   rename_i he
   clear P9
   have q0:0 < qs.length := by
    have := List.length_pos_iff.mpr (not_nil he)
    rw [List.length_map] at this
    exact this
   clear he
   rw [a1]; clear a1
   refine seq_of fun U1 u1 => ?_
   walk_at "rd"
   refine ⟨⟨_,SqL.of A9.hs⟩,fun D hD => for_enumW (xs := us) (fun i σ H' => Gath H9 D (RowOk qs.length) i H' ∧ ∃ v0 v1,σ = [v0,v1]) ⟨Gath.start hD,none,none,rfl⟩ (fun i σ H' _ hh => SqL.of (hh.1.same _ _ A9.hs)) ?_ ?_⟩
   ·rintro i v σ H' tt hx ⟨gi,v0,v1,rfl⟩ htt
    obtain ⟨row,hrow,t',rfl,ht'⟩ := Rows.at' A9.hR hx
    rw [Nat.zero_add]
    have hi := (List.getElem?_eq_some_iff.mp hx).1
    have gt := same_new htt (.tup [.int (i:Int),.ref t'])
    have et := upd_same (H := H') (a := tt) (o := .tup [.int (i:Int),.ref t'])
    generalize upd H' tt (.tup [.int (i:Int),.ref t']) = H'2 at gt et ⊢
    walk_at "rd"
    refine ⟨_,SqT.of et,rfl,_,_,rfl,_,_,rfl,rfl,?_⟩
    walk_at "rd"
    refine ⟨by decide,_,SqL.of (gt _ _ (gi.same _ _ ht')),fun p hp => ?_⟩
    obtain ⟨k3,hk3⟩:∃ k3:Nat,1 + (i:Int) % 3 = k3 := ⟨(1 + (i:Int) % 3).toNat,by lia⟩
    rw [hk3,cut_take,← List.map_take]
    exact gi.step hD (by lia) (gt.trans (same_new hp _)) (gt.free hp) upd_same (RowOk.take (A9.sg.row row (List.mem_of_getElem? hrow)) k3)
   rintro σ HA ⟨gi,v0,v1,rfl⟩
   obtain ⟨usA,rowsA,rlA,gA,eA,hRA,hPA,frA⟩ := gi.ex
   clear gi
   have hulA := hRA.len
   rw [u1]; clear u1
   refine seq_of fun U1 u1 => ?_
   walk_at "rd"
   refine ⟨⟨_,SqL.of eA⟩,fun D2 hD2 => for_listW (xs := usA) (fun i σ H' => Gath HA D2 (RowOk qs.length) i H' ∧ ∃ v0,σ = [v0]) ⟨Gath.start hD2,none,rfl⟩ (fun i σ H' _ hh => SqL.of (hh.1.same _ _ eA)) ?_ ?_⟩
   ·rintro i v σ H' hx ⟨gi,v0,rfl⟩
    obtain ⟨row,hrow,t',rfl,ht'⟩ := Rows.at' hRA hx
    have hi := (List.getElem?_eq_some_iff.mp hx).1
    have ht2 := gi.same _ _ ht'
    walk_at "rd"
    refine ⟨by decide,fun p hp => ⟨Nat.zero_le _,fun p1 hp1 => ?_⟩⟩
    have g1 := same_new hp (.lst [.int 0])
    have g2 := same_new hp1 (.lst [])
    have ep := g2 _ _ (upd_same (H := H') (a := p) (o := .lst [.int 0]))
    have g12 := g1.trans g2
    have ep1 := upd_same (H := upd H' p (.lst [.int 0])) (a := p1) (o := .lst [])
    generalize upd (upd H' p (.lst [.int 0])) p1 (.lst []) = H'1 at ep ep1 g12 ⊢
    clear g1 g2 hp1
    have hok := hPA row (List.mem_of_getElem? hrow)
    refine ⟨t',p1,_,_,rfl,rfl,den_ints (SqL.of (g12 _ _ ht2)),den_ints (ns := []) (SqL.of ep1),like_ints,?_⟩
    generalize hb:eqD _ _ = bb
    refine .inr ⟨bb,rfl,[.int 0],ep,?_⟩
    have hr20 := hok.2.1
    cases bb with
    | false =>
     refine ⟨by decide,by decide,by decide,fun p2 hp2 => ⟨_,(same_new hp2 _) _ _ (g12 _ _ ht2),_,upd_same,Nat.le_of_lt (small1000 (by rw [List.length_map]; simp; lia)),fun p3 hp3 => ?_⟩⟩
     exact gi.step hD2 (by lia) ((g12.trans (same_new hp2 _)).trans (same_new hp3 _)) ((g12.trans (same_new hp2 _)).free hp3) (row := row) (by rw [upd_same]; simp) hok
    | true =>
     have e0:row = [] := List.map_eq_nil_iff.mp (eqD_nil hb)
     subst e0
     refine ⟨by decide,by decide,by decide,fun p2 hp2 => ⟨_,(same_new hp2 _) _ _ (g12 _ _ ht2),_,upd_same,Nat.le_of_lt (small1000 (by simp)),fun p3 hp3 => ?_⟩⟩
     exact gi.step hD2 (by lia) ((g12.trans (same_new hp2 _)).trans (same_new hp3 _)) ((g12.trans (same_new hp2 _)).free hp3) (row := [0]) (by rw [upd_same]; simp) ⟨by simp,by simp,fun x hx => by rw [List.mem_singleton.mp hx]; lia⟩
   rintro σ HB ⟨gi,v0,rfl⟩
   obtain ⟨usB,rowsB,rlB,gB,eB,hRB,hPB,frB⟩ := gi.ex
   clear gi
   have gAB := gA.trans gB
   have A10 := A9.mono gAB
   have htl := A10.hC.len
   have hulB := hRB.len
   clear hRA eA hPA frA gA gB gAB A9
   rw [u1]; clear u1
   refine seq_of fun U1 u1 => ?_
   walk_at "rd"
   refine ⟨⟨_,SqL.of A10.hq⟩,fun D3 hD3 => for_listW (xs := ts) (fun i σ H5 => GatC HB D3 (fun c => 0 ≤ c.1 ∧ c.1 < (lim.length:Int) ∧ 0 ≤ c.2) i H5 ∧ ∃ v0,σ = [v0,some (.ref D2)]) ⟨GatC.start hD3,none,rfl⟩ (fun i σ H5 _ hh => SqL.of (hh.1.same _ _ A10.hq)) ?_ ?_⟩
   ·rintro i v σ H5 hv ⟨gc5,v0,rfl⟩
    obtain ⟨c,hc,t2,rfl,q2⟩ := A10.hC.get' hv
    have hi := (List.getElem?_eq_some_iff.mp hc).1
    have q2' := gc5.same _ _ q2
    walk_at "rd"
    refine ⟨_,SqT.of q2',_,rfl,_,.inl (SqL.of (gc5.same _ _ eB)),_,SqT.of q2',_,rfl,_,rfl,by decide,by decide,fun p hp => ?_⟩
    have ow := A10.sg.own c (List.mem_of_getElem? hc)
    have := A10.sg.ql
    refine gc5.step hD3 (by lia) hp ⟨ow.1,ow.2,?_⟩
    show 0 ≤ (usB.length:Int) + c.2 % 2
    lia
   rintro σ HC ⟨gc,v0,rfl⟩
   obtain ⟨tsC,qsC,hqC,gC,eC,hCC,hPC⟩ := gc.ex
   clear gc
   rw [u1]; clear u1
   refine seq_of fun U1 u1 => ?_
   walk_at "rd"
   refine ⟨⟨_,SqL.of (gC _ _ A10.hl)⟩,fun D4 hD4 => for_listW (xs := lim.map V.int) (fun i σ H6 => ∃ l6:List Int,H6 = upd HC D4 (.lst (l6.map V.int)) ∧ l6.length = i ∧ (∀ y ∈ l6,0 ≤ y) ∧ ∃ v0,σ = [v0,some (.ref D2)]) ⟨[],rfl,rfl,(fun y z => by cases z),none,rfl⟩ (fun i σ H6 _ ⟨l6,e6,_⟩ => by rw [e6]; exact SqL.of (same_new hD4 _ _ _ (gC _ _ A10.hl))) ?_ ?_⟩
   ·rintro i v σ H6 hv ⟨l6,rfl,hl6,hn6,v0,rfl⟩
    obtain ⟨x,hx,rfl⟩ := map_item hv
    have hi := (List.getElem?_eq_some_iff.mp hx).1
    walk_at "rd"
    have := A10.sg.ll
    refine ⟨_,.inl (SqL.of (same_new hD4 _ _ _ (gC _ _ eB))),by decide,_,upd_same,small1000 (by rw [List.length_map]; lia),l6 ++ [(usB.length:Int) + x % 2],by rw [upd_upd,List.map_append]; rfl,by rw [List.length_append,hl6]; rfl,fun y hy => ?_⟩
    rcases List.mem_append.mp hy with z | z
    ·exact hn6 y z
    ·rw [List.mem_singleton.mp z]; lia
   rintro σ HD ⟨l6,e6,hl6,hn6,v0,rfl⟩
   rw [List.length_map] at hl6
   have sgB:Stg rowsB qsC l6 := by
    refine ⟨by lia,by have := A10.sg.ql; lia,by have := A10.sg.ll; lia,fun row hr => ?_,fun c' hc' => ?_⟩
    ·rw [hqC,htl]; exact hPB row hr
    ·rw [hl6]; exact ⟨(hPC c' hc').1,(hPC c' hc').2.1⟩
   have gD:Same HC HD := by rw [e6]; exact same_new hD4 _
   have eD:HD D4 = some (.lst (l6.map V.int)) := by rw [e6]; exact upd_same
   have eCD := gD _ _ eC
   have eBD := gD _ _ (gC _ _ eB)
   have hRD := hRB.mono (gC.trans gD)
   have hCD := hCC.mono gD
   clear e6 eC eB hRB hCC gD gC A10 hD4 hD3
   rw [u1]; clear u1
   refine seq_of fun U1 u1 => ?_
   walk_at "rd"
   refine ⟨_,.inl (SqL.of eBD),fun p hp => ⟨_,upd_same,by lia,by lia,fun lr hlr => ?_⟩⟩
   have gE := (same_new hp (.rng 0 (usB.length:Int))).trans (same_new hlr (.lst (((List.range (usB.length:Int).toNat).map fun i:Nat => (i:Int)).map V.int)))
   have eO := upd_same (H := upd HD p (.rng 0 (usB.length:Int))) (a := lr) (o := .lst (((List.range (usB.length:Int).toNat).map fun i:Nat => (i:Int)).map V.int))
   generalize upd (upd HD p (.rng 0 (usB.length:Int))) lr (.lst (((List.range (usB.length:Int).toNat).map fun i:Nat => (i:Int)).map V.int)) = HE at gE eO ⊢
   refine ⟨D2,D3,D4,lr,usB,tsC,rowsB,qsC,l6,_,rfl,gE _ _ eBD,hRD.mono gE,gE _ _ eCD,hCD.mono gE,gE _ _ eD,eO,sgB,(fun q hq => (hPC q hq).2.2),hn6,⟨?_,fun x hx => ?_⟩,fun r W HF gF hr er hV _ => ?_⟩
   ·rw [List.length_map,List.length_range]; lia
   ·obtain ⟨y,hy,rfl⟩ := List.mem_map.mp hx
    have := List.mem_range.mp hy
    lia
   have gEF := gE.trans gF
   rw [u1]; clear u1
   refine seq_of fun U1 u1 => ?_
   walk_at "rd"
   refine ⟨⟨by decide,by decide⟩,_,.inl (SqL.of (gEF _ _ eBD)),⟨by decide,by decide⟩,by decide,c / 5,_,usB.length,rfl,by lia,by lia,fun o2 xo2 HG gG ho2 eo2 io2 lo2 => ?_⟩
   refine ⟨o2,xo2,rfl,SqL.of eo2,by lia,fun pS xS hpS hperm _ => ?_⟩
   have gS := same_new hpS (.lst (xS.map V.int))
   have eS := upd_same (H := HG) (a := pS) (o := .lst (xS.map V.int))
   generalize upd HG pS (.lst (xS.map V.int)) = HH at gS eS ⊢
   have gEH := (gEF.trans gG).trans gS
   have hxl := hperm.length_eq
   rw [u1]; clear u1
   walk_at "rd"
   refine ⟨⟨_,SqL.of eS⟩,fun D5 hD5 => for_listW (xs := xS.map V.int) (fun i σ H' => ∃ (ys:List Int),H' = upd HH D5 (.lst (ys.map V.int)) ∧ ys.length ≤ i ∧ ∃ v0,σ = [v0,some (.ref D2)]) ⟨[],rfl,Nat.le_refl _,none,rfl⟩ (fun i σ H' _ ⟨ys,e,_⟩ => by rw [e]; exact SqL.of (same_new hD5 _ _ _ eS)) ?_ ?_⟩
   ·rintro i v σ H' hv ⟨ys,rfl,hy,v0,rfl⟩
    obtain ⟨x,hx,rfl⟩ := map_item hv
    have hi := (List.getElem?_eq_some_iff.mp hx).1
    have hxm := io2.2 x (hperm.mem_iff.mp (List.mem_of_getElem? hx))
    obtain ⟨n,rfl⟩:∃ n:Nat,x = n := ⟨x.toNat,by lia⟩
    have hnl:n < rowsB.length := by lia
    obtain ⟨t2,at2,qt2⟩ := hRD.get (List.getElem?_eq_getElem hnl)
    walk_at "rd"
    have gI := same_new hD5 (.lst (ys.map V.int))
    refine ⟨_,SqL.of ((gEH.trans gI) _ _ eBD),_,atI_nat at2,t2,rfl,_,.inl (SqL.of ((gEH.trans gI) _ _ qt2)),?_⟩
    split
    ·exact ⟨_,upd_same,small1000 (by rw [List.length_map]; lia),ys ++ [(n:Int)],by rw [upd_upd,List.map_append]; rfl,by rw [List.length_append]; exact Nat.succ_le_succ hy⟩
    ·exact ⟨ys,rfl,by lia⟩
   rintro σ HI ⟨ys,rfl,hy,v0,rfl⟩
   rw [List.length_map] at hy
   have gI := same_new hD5 (.lst (ys.map V.int))
   have gFI := ((gF.trans gG).trans gS).trans gI
   refine ⟨D2,D3,D4,r,D5,usB,tsC,rowsB,qsC,l6,whO rowsB.length W,ys,Pr5.of gFI (gE _ _ eBD) (hRD.mono gE) (gE _ _ eCD) (hCD.mono gE) (gE _ _ eD) sgB (by lia) hr (((gF.trans gG).trans gS).free hD5) (ne_of_none ((gG.trans gS) _ _ er) hD5) (by rw [wI_whO]; exact ((gG.trans gS).trans gI) _ _ er) upd_same (whO_len _ _) (by lia),rfl,rfl,rfl,rfl,rfl⟩
  rintro σ H9 ⟨s,q,l,wa,sa,us,ts,seats,qs,lim,ws,xs,P9,rfl⟩
  refine seq_of fun U1 u1 => ?_
  walk_at "rd"
  refine ⟨s,q,l,wa,sa,us,ts,seats,qs,lim,ws,xs,rfl,P9.hs,P9.hR,P9.hq,P9.hC,P9.hl,P9.sg,P9.hw,P9.hx,by have := P9.xl; lia,fun Ha ga => ⟨true,rfl,?_⟩⟩
  rw [if_neg (by decide)]
  have PA := P9.mono ga
  clear P9 ga A8 sg hul
  rw [u1]; clear u1
  refine seq_of fun U1 u1 => ?_
  walk_at "rd"
  refine ⟨_,.inl (SqL.of PA.hw),fun kw hkw => ?_⟩
  have gk := same_new hkw (.lst (wI ws))
  have ek := upd_same (H := Ha) (a := kw) (o := .lst (wI ws))
  have PB := PA.mono gk
  have nkw := ne_of_none PA.hw hkw
  have nkx := ne_of_none PA.hx hkw
  generalize upd Ha kw (.lst (wI ws)) = Hb at gk ek PB ⊢
  clear PA hkw gk
  rw [u1]; clear u1
  refine seq_of fun U1 u1 => ?_
  walk_at "rd"
  refine ⟨_,.inl (SqL.of PB.hx),fun ks hks => ?_⟩
  have gk := same_new hks (.lst (xs.map V.int))
  have ek2 := upd_same (H := Hb) (a := ks) (o := .lst (xs.map V.int))
  have nsw := ne_of_none PB.hw hks
  have nsx := ne_of_none PB.hx hks
  have PC := PB.mono gk
  replace ek := gk _ _ ek
  generalize upd Hb ks (.lst (xs.map V.int)) = Hc at gk ek ek2 PC ⊢
  clear PB hks gk
  rw [u1]; clear u1
  refine seq_of fun U1 u1 => ?_
  walk_at "rd"
  refine ⟨c,1,rfl,by decide,by decide,fun r1 ns1 hr1 hl1 => ⟨_,rfl,_,SqL.of upd_same,?_⟩⟩
  obtain ⟨num,hnum⟩ := item_of (ns := ns1) (k := 0) (by decide) (by lia)
  refine ⟨.int num,hnum,?_⟩
  have gk := same_new hr1 (.lst (ns1.map V.int))
  have PD := PC.mono gk
  replace ek := gk _ _ ek
  replace ek2 := gk _ _ ek2
  generalize upd Hc r1 (.lst (ns1.map V.int)) = Hd at gk ek ek2 PD ⊢
  clear PC hr1 hl1 hnum gk
  rw [u1]; clear u1
  refine seq_of fun U1 u1 => ?_
  walk_at "rd"
  unfold tInts
  refine ⟨by decide,fun pw hpw => ⟨by decide,_,SqL.of upd_same,?_⟩⟩
  have gk := same_new hpw (.lst (([0,1,2,3,4,5,6,7,8,9,10,2,2,2,2,2,2,2,10,9]:List Int).map V.int))
  have PE := PD.mono gk
  replace ek := gk _ _ ek
  replace ek2 := gk _ _ ek2
  generalize upd Hd pw (.lst (([0,1,2,3,4,5,6,7,8,9,10,2,2,2,2,2,2,2,10,9]:List Int).map V.int)) = He at gk ek ek2 PE ⊢
  obtain ⟨k20,hk20,hkl⟩:∃ k20:Nat,num % 20 = k20 ∧ k20 < 20 := ⟨(num % 20).toNat,by lia,by lia⟩
  obtain ⟨way,hway⟩ := nat_of (is := [0,1,2,3,4,5,6,7,8,9,10,2,2,2,2,2,2,2,10,9]) (by decide) (k := k20) hkl
  rw [hk20]
  refine ⟨.int (way:Int),atI_nat hway,?_⟩
  clear PD hpw gk hway hk20 hkl k20
  rw [u1]; clear u1
  refine cut_of (fun σ H' => ∃ (ws':List (Option Int)) (xs':List Int),H' s = some (.lst us) ∧ Rows H' us seats ∧ H' q = some (.lst ts) ∧ Cells H' ts qs ∧ H' l = some (.lst (lim.map V.int)) ∧ H' wa = some (.lst (wI ws')) ∧ H' sa = some (.lst (xs'.map V.int)) ∧ xs'.length ≤ 200 ∧ H' kw = some (.lst (wI ws)) ∧ H' ks = some (.lst (xs.map V.int)) ∧ σ = [some (.ref a),some (.ref s),some (.ref q),some (.ref l),some (.int c),some (.ref wa),some (.ref sa),some (.ref kw),some (.ref ks),some (.int num),some (.int (way:Int))]) ?_ ?_
  ·walk_at "rd"
   refine ⟨⟨by decide,by decide⟩,by decide,?_⟩
   have x110 := PE.xl
   split
   case isFalse => exact ⟨PE.hs,PE.hR,PE.hq,PE.hC,PE.hl,ws,PE.hw,xs,PE.hx,by lia,ek,ek2⟩
   refine ⟨⟨by decide,by decide⟩,_,.inl (SqL.of PE.hq),s,wa,us,seats,ws,num / 20,way,ts.length,rfl,PE.hs,PE.hR,by have := PE.sl; lia,PE.hw,PE.wl,PE.nw.1.symm,PE.nu.1,fun ws' Hx fx ex => ?_⟩
   refine ⟨⟨by decide,by decide⟩,_,.inl (SqL.of (fx _ _ PE.hs PE.nw.1.symm)),sa,xs,num / 20,way,us.length,rfl,fx _ _ PE.hx PE.nw.2.2.2.symm,by lia,fun xs' Hy lx fy ey => ?_⟩
   have f2:∀ c o,He c = some o → c ≠ wa → c ≠ sa → Hy c = some o := fun c o e n1 n2 => fy _ _ (fx _ _ e n1) n2
   exact ⟨f2 _ _ PE.hs PE.nw.1.symm PE.nx.1.symm,PE.hR.keep (fun t o hm e => f2 _ _ e (fun z => PE.nu.1 (z ▸ hm)) (fun z => PE.nu.2 (z ▸ hm))),f2 _ _ PE.hq PE.nw.2.1.symm PE.nx.2.1.symm,(PE.hC.fr PE.hw fx).fr (fx _ _ PE.hx PE.nw.2.2.2.symm) fy,f2 _ _ PE.hl PE.nw.2.2.1.symm PE.nx.2.2.symm,ws',fy _ _ ex PE.nw.2.2.2,xs',ey,by lia,f2 _ _ ek nkw.symm nkx.symm,f2 _ _ ek2 nsw.symm nsx.symm⟩
  rintro σ Hf ⟨ws',xs',e1,e2,e3,e4,e5,e6,e7,xl',e8,e9,rfl⟩
  refine seq_of fun U1 u1 => ?_
  walk_at "rd"
  refine ⟨s,q,l,wa,sa,us,ts,seats,qs,lim,ws',xs',rfl,e1,e2,e3,e4,e5,PE.sg,e6,e7,xl',fun Hg gg => ⟨true,rfl,?_⟩⟩
  rw [if_neg (by decide)]
  rw [u1]; clear u1
  walk_at "rd"
  exact ⟨s,q,l,kw,ks,us,ts,seats,qs,lim,ws,xs,rfl,gg _ _ e1,e2.mono gg,gg _ _ e3,e4.mono gg,gg _ _ e5,PE.sg,gg _ _ e8,gg _ _ e9,by have := PE.xl; lia,fun Hh _ => k _⟩
end
theorem len_1 {α:Type} {us:List α} (h:us.length = 1):∃ a0:α,us = [a0] := match us,h with | [a0],_ => ⟨a0,rfl⟩
theorem len_2 {α:Type} {us:List α} (h:us.length = 2):∃ a0 a1:α,us = [a0,a1] := match us,h with | [a0,a1],_ => ⟨a0,a1,rfl⟩
theorem len_3 {α:Type} {us:List α} (h:us.length = 3):∃ a0 a1 a2:α,us = [a0,a1,a2] := match us,h with | [a0,a1,a2],_ => ⟨a0,a1,a2,rfl⟩
theorem len_4 {α:Type} {us:List α} (h:us.length = 4):∃ a0 a1 a2 a3:α,us = [a0,a1,a2,a3] := match us,h with | [a0,a1,a2,a3],_ => ⟨a0,a1,a2,a3,rfl⟩
theorem len_5 {α:Type} {us:List α} (h:us.length = 5):∃ a0 a1 a2 a3 a4:α,us = [a0,a1,a2,a3,a4] := match us,h with | [a0,a1,a2,a3,a4],_ => ⟨a0,a1,a2,a3,a4,rfl⟩
theorem all_mk {l:PySem.W.OpenLaw} {w:World} {K:PySem.W.Frag} {h:Heap} {mg:Str → Option Value} {fa:Addr} (X:K.In h) (G:h.Ns mainGlobals mg) (hfa:mg "law" = some (.ref fa))
  {C_Hall:Addr}
  {f1:Addr} {od1 an1:Option Addr} {sl1:Array (Option Value)} {oc1 kV1 dc1 pm1 cd1 ct1:Value}
  {f2:Addr} {od2 an2:Option Addr} {sl2:Array (Option Value)} {oc2 kV2 dc2 pm2 cd2 ct2:Value}
  {f3:Addr} {od3 an3:Option Addr} {sl3:Array (Option Value)} {oc3 kV3 dc3 pm3 cd3 ct3:Value}
  {f4:Addr} {od4 an4:Option Addr} {sl4:Array (Option Value)} {oc4 kV4 dc4 pm4 cd4 ct4:Value}
  {f5:Addr} {od5 an5:Option Addr} {sl5:Array (Option Value)} {oc5 kV5 dc5 pm5 cd5 ct5:Value}
  {f6:Addr} {od6 an6:Option Addr} {sl6:Array (Option Value)} {oc6 kV6 dc6 pm6 cd6 ct6:Value}
  {f7:Addr} {od7 an7:Option Addr} {sl7:Array (Option Value)} {oc7 kV7 dc7 pm7 cd7 ct7:Value}
  {f8:Addr} {od8 an8:Option Addr} {sl8:Array (Option Value)} {oc8 kV8 dc8 pm8 cd8 ct8:Value}
  {f9:Addr} {od9 an9:Option Addr} {sl9:Array (Option Value)} {oc9 kV9 dc9 pm9 cd9 ct9:Value}
  {f10:Addr} {od10 an10:Option Addr} {sl10:Array (Option Value)} {oc10 kV10 dc10 pm10 cd10 ct10:Value}
  {f11:Addr} {od11 an11:Option Addr} {sl11:Array (Option Value)} {oc11 kV11 dc11 pm11 cd11 ct11:Value}
  {f12:Addr} {od12 an12:Option Addr} {sl12:Array (Option Value)} {oc12 kV12 dc12 pm12 cd12 ct12:Value}
  {f13:Addr} {od13 an13:Option Addr} {sl13:Array (Option Value)} {oc13 kV13 dc13 pm13 cd13 ct13:Value}
  {f14:Addr} {od14 an14:Option Addr} {sl14:Array (Option Value)} {oc14 kV14 dc14 pm14 cd14 ct14:Value}
  {f15:Addr} {od15 an15:Option Addr} {sl15:Array (Option Value)} {oc15 kV15 dc15 pm15 cd15 ct15:Value}
  {f16:Addr} {od16 an16:Option Addr} {sl16:Array (Option Value)} {oc16 kV16 dc16 pm16 cd16 ct16:Value}
  {f17:Addr} {od17 an17:Option Addr} {sl17:Array (Option Value)} {oc17 kV17 dc17 pm17 cd17 ct17:Value}
  {f18:Addr} {od18 an18:Option Addr} {sl18:Array (Option Value)} {oc18 kV18 dc18 pm18 cd18 ct18:Value}
  {f19:Addr} {od19 an19:Option Addr} {sl19:Array (Option Value)} {oc19 kV19 dc19 pm19 cd19 ct19:Value}
  {f20:Addr} {od20 an20:Option Addr} {sl20:Array (Option Value)} {oc20 kV20 dc20 pm20 cd20 ct20:Value}
  {f21:Addr} {od21 an21:Option Addr} {sl21:Array (Option Value)} {oc21 kV21 dc21 pm21 cd21 ct21:Value}
  {f22:Addr} {od22 an22:Option Addr} {sl22:Array (Option Value)} {oc22 kV22 dc22 pm22 cd22 ct22:Value}
  {f23:Addr} {od23 an23:Option Addr} {sl23:Array (Option Value)} {oc23 kV23 dc23 pm23 cd23 ct23:Value}
  {f24:Addr} {od24 an24:Option Addr} {sl24:Array (Option Value)} {oc24 kV24 dc24 pm24 cd24 ct24:Value}
  {f25:Addr} {od25 an25:Option Addr} {sl25:Array (Option Value)} {oc25 kV25 dc25 pm25 cd25 ct25:Value}
  {f26:Addr} {od26 an26:Option Addr} {sl26:Array (Option Value)} {oc26 kV26 dc26 pm26 cd26 ct26:Value}
  {f27:Addr} {od27 an27:Option Addr} {sl27:Array (Option Value)} {oc27 kV27 dc27 pm27 cd27 ct27:Value}
  {f28:Addr} {od28 an28:Option Addr} {sl28:Array (Option Value)} {oc28 kV28 dc28 pm28 cd28 ct28:Value}
  {f29:Addr} {od29 an29:Option Addr} {sl29:Array (Option Value)} {oc29 kV29 dc29 pm29 cd29 ct29:Value}
  {f30:Addr} {od30 an30:Option Addr} {sl30:Array (Option Value)} {oc30 kV30 dc30 pm30 cd30 ct30:Value}
  (aC_Hall:PySem.W.nsIn K mainGlobals "Hall" = some (some (.ref C_Hall)))
  (pg_Hall:PySem.W.plainGet K C_Hall Str.empty = true)
  (hd_Hall:PySem.W.hasDictIn K C_Hall = true)
  (po_Hall:PySem.W.plainOver K C_Hall = true)
  (sa_Hall:PySem.W.findIn K (.ref C_Hall) "__setattr__" = some (some (.builtin "object.__setattr__")))
  (mk_Hall:PySem.W.makesIn K C_Hall = true)
  (kc_Hall:PySem.W.keepIn K (.ref C_Hall) = true)
  (f_seats_Hall:PySem.W.findIn K (.ref C_Hall) "seats" = some none)
  (f_slots_Hall:PySem.W.findIn K (.ref C_Hall) "slots" = some none)
  (f_caps_Hall:PySem.W.findIn K (.ref C_Hall) "caps" = some none)
  (f_where_Hall:PySem.W.findIn K (.ref C_Hall) "where" = some none)
  (f_sitting_Hall:PySem.W.findIn K (.ref C_Hall) "sitting" = some none)
  (f_borne_Hall:PySem.W.findIn K (.ref C_Hall) "borne" = some none)
  (f_owned_Hall:PySem.W.findIn K (.ref C_Hall) "owned" = some none)
  (a1:PySem.W.findIn K (.ref C_Hall) "move" = some (some (.ref f1))) (i1:PySem.W.isFn K (.ref f1) = true)
  (l1:K.lookup f1 = some ⟨oc1,od1,.func (PySem.W.fnOf "move" "Hall.move" (defArgs zJ_) (defBody zJ_) (defScope zJ_) .none kV1 dc1 pm1 an1 cd1 ct1),sl1⟩) (c1:PySem.W.codeIn K cd1 "Hall.move" = true) (k1:PySem.W.keepIn K (.ref f1) = true)
  (a2:PySem.W.findIn K (.ref C_Hall) "__init__" = some (some (.ref f2))) (i2:PySem.W.isFn K (.ref f2) = true)
  (l2:K.lookup f2 = some ⟨oc2,od2,.func (PySem.W.fnOf "__init__" "Hall.__init__" (defArgs zi_) (defBody zi_) (defScope zi_) .none kV2 dc2 pm2 an2 cd2 ct2),sl2⟩) (c2:PySem.W.codeIn K cd2 "Hall.__init__" = true) (k2:PySem.W.keepIn K (.ref f2) = true)
  (a3:PySem.W.findIn K (.ref C_Hall) "is_full" = some (some (.ref f3))) (i3:PySem.W.isFn K (.ref f3) = true)
  (l3:K.lookup f3 = some ⟨oc3,od3,.func (PySem.W.fnOf "is_full" "Hall.is_full" (defArgs zn_) (defBody zn_) (defScope zn_) .none kV3 dc3 pm3 an3 cd3 ct3),sl3⟩) (c3:PySem.W.codeIn K cd3 "Hall.is_full" = true) (k3:PySem.W.keepIn K (.ref f3) = true)
  (a4:PySem.W.findIn K (.ref C_Hall) "has_room" = some (some (.ref f4))) (i4:PySem.W.isFn K (.ref f4) = true)
  (l4:K.lookup f4 = some ⟨oc4,od4,.func (PySem.W.fnOf "has_room" "Hall.has_room" (defArgs zj_) (defBody zj_) (defScope zj_) .none kV4 dc4 pm4 an4 cd4 ct4),sl4⟩) (c4:PySem.W.codeIn K cd4 "Hall.has_room" = true) (k4:PySem.W.keepIn K (.ref f4) = true)
  (a5:PySem.W.findIn K (.ref C_Hall) "making_room" = some (some (.ref f5))) (i5:PySem.W.isFn K (.ref f5) = true)
  (l5:K.lookup f5 = some ⟨oc5,od5,.func (PySem.W.fnOf "making_room" "Hall.making_room" (defArgs zf_) (defBody zf_) (defScope zf_) .none kV5 dc5 pm5 an5 cd5 ct5),sl5⟩) (c5:PySem.W.codeIn K cd5 "Hall.making_room" = true) (k5:PySem.W.keepIn K (.ref f5) = true)
  (a6:PySem.W.nsIn K mainGlobals "sitting_there" = some (some (.ref f6)))
  (l6:K.lookup f6 = some ⟨oc6,od6,.func (PySem.W.fnOf "sitting_there" "sitting_there" (defArgs zk_) (defBody zk_) (defScope zk_) .none kV6 dc6 pm6 an6 cd6 ct6),sl6⟩) (c6:PySem.W.codeIn K cd6 "sitting_there" = true) (k6:PySem.W.keepIn K (.ref f6) = true)
  (a7:PySem.W.nsIn K mainGlobals "pushes" = some (some (.ref f7)))
  (l7:K.lookup f7 = some ⟨oc7,od7,.func (PySem.W.fnOf "pushes" "pushes" (defArgs zal_) (defBody zal_) (defScope zal_) .none kV7 dc7 pm7 an7 cd7 ct7),sl7⟩) (c7:PySem.W.codeIn K cd7 "pushes" = true) (k7:PySem.W.keepIn K (.ref f7) = true)
  (a8:PySem.W.nsIn K mainGlobals "change" = some (some (.ref f8)))
  (l8:K.lookup f8 = some ⟨oc8,od8,.func (PySem.W.fnOf "change" "change" (defArgs zam_) (defBody zam_) (defScope zam_) .none kV8 dc8 pm8 an8 cd8 ct8),sl8⟩) (c8:PySem.W.codeIn K cd8 "change" = true) (k8:PySem.W.keepIn K (.ref f8) = true)
  (a9:PySem.W.nsIn K mainGlobals "slots_of" = some (some (.ref f9)))
  (l9:K.lookup f9 = some ⟨oc9,od9,.func (PySem.W.fnOf "slots_of" "slots_of" (defArgs zV_) (defBody zV_) (defScope zV_) .none kV9 dc9 pm9 an9 cd9 ct9),sl9⟩) (c9:PySem.W.codeIn K cd9 "slots_of" = true) (k9:PySem.W.keepIn K (.ref f9) = true)
  (a10:PySem.W.nsIn K mainGlobals "filled" = some (some (.ref f10)))
  (l10:K.lookup f10 = some ⟨oc10,od10,.func (PySem.W.fnOf "filled" "filled" (defArgs zan_) (defBody zan_) (defScope zan_) .none kV10 dc10 pm10 an10 cd10 ct10),sl10⟩) (c10:PySem.W.codeIn K cd10 "filled" = true) (k10:PySem.W.keepIn K (.ref f10) = true)
  (a11:PySem.W.nsIn K mainGlobals "may_be_taken" = some (some (.ref f11)))
  (l11:K.lookup f11 = some ⟨oc11,od11,.func (PySem.W.fnOf "may_be_taken" "may_be_taken" (defArgs zm_) (defBody zm_) (defScope zm_) .none kV11 dc11 pm11 an11 cd11 ct11),sl11⟩) (c11:PySem.W.codeIn K cd11 "may_be_taken" = true) (k11:PySem.W.keepIn K (.ref f11) = true)
  (a12:PySem.W.nsIn K mainGlobals "are_within" = some (some (.ref f12)))
  (l12:K.lookup f12 = some ⟨oc12,od12,.func (PySem.W.fnOf "are_within" "are_within" (defArgs zw_) (defBody zw_) (defScope zw_) .none kV12 dc12 pm12 an12 cd12 ct12),sl12⟩) (c12:PySem.W.codeIn K cd12 "are_within" = true) (k12:PySem.W.keepIn K (.ref f12) = true)
  (a13:PySem.W.nsIn K mainGlobals "are_rising" = some (some (.ref f13)))
  (l13:K.lookup f13 = some ⟨oc13,od13,.func (PySem.W.fnOf "are_rising" "are_rising" (defArgs zx_) (defBody zx_) (defScope zx_) .none kV13 dc13 pm13 an13 cd13 ct13),sl13⟩) (c13:PySem.W.codeIn K cd13 "are_rising" = true) (k13:PySem.W.keepIn K (.ref f13) = true)
  (a14:PySem.W.nsIn K mainGlobals "held" = some (some (.ref f14)))
  (l14:K.lookup f14 = some ⟨oc14,od14,.func (PySem.W.fnOf "held" "held" (defArgs s_held) (defBody s_held) (defScope s_held) .none kV14 dc14 pm14 an14 cd14 ct14),sl14⟩) (c14:PySem.W.codeIn K cd14 "held" = true) (k14:PySem.W.keepIn K (.ref f14) = true)
  (a15:PySem.W.nsIn K mainGlobals "is_filling" = some (some (.ref f15)))
  (l15:K.lookup f15 = some ⟨oc15,od15,.func (PySem.W.fnOf "is_filling" "is_filling" (defArgs zv_) (defBody zv_) (defScope zv_) .none kV15 dc15 pm15 an15 cd15 ct15),sl15⟩) (c15:PySem.W.codeIn K cd15 "is_filling" = true) (k15:PySem.W.keepIn K (.ref f15) = true)
  (a16:PySem.W.nsIn K mainGlobals "_law_stream" = some (some (.ref f16)))
  (l16:K.lookup f16 = some ⟨oc16,od16,.func (PySem.W.fnOf "_law_stream" "_law_stream" (defArgs zr_) (defBody zr_) (defScope zr_) .none kV16 dc16 pm16 an16 cd16 ct16),sl16⟩) (c16:PySem.W.codeIn K cd16 "_law_stream" = true) (k16:PySem.W.keepIn K (.ref f16) = true)
  (a17:PySem.W.nsIn K mainGlobals "_law_cell_at" = some (some (.ref f17)))
  (l17:K.lookup f17 = some ⟨oc17,od17,.func (PySem.W.fnOf "_law_cell_at" "_law_cell_at" (defArgs zo_) (defBody zo_) (defScope zo_) .none kV17 dc17 pm17 an17 cd17 ct17),sl17⟩) (c17:PySem.W.codeIn K cd17 "_law_cell_at" = true) (k17:PySem.W.keepIn K (.ref f17) = true)
  (a18:PySem.W.nsIn K mainGlobals "_law_cap" = some (some (.ref f18)))
  (l18:K.lookup f18 = some ⟨oc18,od18,.func (PySem.W.fnOf "_law_cap" "_law_cap" (defArgs zW_) (defBody zW_) (defScope zW_) .none kV18 dc18 pm18 an18 cd18 ct18),sl18⟩) (c18:PySem.W.codeIn K cd18 "_law_cap" = true) (k18:PySem.W.keepIn K (.ref f18) = true)
  (a19:PySem.W.nsIn K mainGlobals "_law_seat" = some (some (.ref f19)))
  (l19:K.lookup f19 = some ⟨oc19,od19,.func (PySem.W.fnOf "_law_seat" "_law_seat" (defArgs zK_) (defBody zK_) (defScope zK_) .none kV19 dc19 pm19 an19 cd19 ct19),sl19⟩) (c19:PySem.W.codeIn K cd19 "_law_seat" = true) (k19:PySem.W.keepIn K (.ref f19) = true)
  (a20:PySem.W.nsIn K mainGlobals "_law_stage" = some (some (.ref f20)))
  (l20:K.lookup f20 = some ⟨oc20,od20,.func (PySem.W.fnOf "_law_stage" "_law_stage" (defArgs zz_) (defBody zz_) (defScope zz_) .none kV20 dc20 pm20 an20 cd20 ct20),sl20⟩) (c20:PySem.W.codeIn K cd20 "_law_stage" = true) (k20:PySem.W.keepIn K (.ref f20) = true)
  (a21:PySem.W.nsIn K mainGlobals "_law_whole" = some (some (.ref f21)))
  (l21:K.lookup f21 = some ⟨oc21,od21,.func (PySem.W.fnOf "_law_whole" "_law_whole" (defArgs zy_) (defBody zy_) (defScope zy_) .none kV21 dc21 pm21 an21 cd21 ct21),sl21⟩) (c21:PySem.W.codeIn K cd21 "_law_whole" = true) (k21:PySem.W.keepIn K (.ref f21) = true)
  (a22:PySem.W.nsIn K mainGlobals "_law_within" = some (some (.ref f22)))
  (l22:K.lookup f22 = some ⟨oc22,od22,.func (PySem.W.fnOf "_law_within" "_law_within" (defArgs zs_) (defBody zs_) (defScope zs_) .none kV22 dc22 pm22 an22 cd22 ct22),sl22⟩) (c22:PySem.W.codeIn K cd22 "_law_within" = true) (k22:PySem.W.keepIn K (.ref f22) = true)
  (a23:PySem.W.nsIn K mainGlobals "_law_borne" = some (some (.ref f23)))
  (l23:K.lookup f23 = some ⟨oc23,od23,.func (PySem.W.fnOf "_law_borne" "_law_borne" (defArgs zA_) (defBody zA_) (defScope zA_) .none kV23 dc23 pm23 an23 cd23 ct23),sl23⟩) (c23:PySem.W.codeIn K cd23 "_law_borne" = true) (k23:PySem.W.keepIn K (.ref f23) = true)
  (a24:PySem.W.nsIn K mainGlobals "_law_due" = some (some (.ref f24)))
  (l24:K.lookup f24 = some ⟨oc24,od24,.func (PySem.W.fnOf "_law_due" "_law_due" (defArgs zX_) (defBody zX_) (defScope zX_) .none kV24 dc24 pm24 an24 cd24 ct24),sl24⟩) (c24:PySem.W.codeIn K cd24 "_law_due" = true) (k24:PySem.W.keepIn K (.ref f24) = true)
  (a25:PySem.W.nsIn K mainGlobals "_law_good" = some (some (.ref f25)))
  (l25:K.lookup f25 = some ⟨oc25,od25,.func (PySem.W.fnOf "_law_good" "_law_good" (defArgs zL_) (defBody zL_) (defScope zL_) .none kV25 dc25 pm25 an25 cd25 ct25),sl25⟩) (c25:PySem.W.codeIn K cd25 "_law_good" = true) (k25:PySem.W.keepIn K (.ref f25) = true)
  (a26:PySem.W.nsIn K mainGlobals "_law_greedy" = some (some (.ref f26)))
  (l26:K.lookup f26 = some ⟨oc26,od26,.func (PySem.W.fnOf "_law_greedy" "_law_greedy" (defArgs zt_) (defBody zt_) (defScope zt_) .none kV26 dc26 pm26 an26 cd26 ct26),sl26⟩) (c26:PySem.W.codeIn K cd26 "_law_greedy" = true) (k26:PySem.W.keepIn K (.ref f26) = true)
  (a27:PySem.W.nsIn K mainGlobals "_law_spoilt_where" = some (some (.ref f27)))
  (l27:K.lookup f27 = some ⟨oc27,od27,.func (PySem.W.fnOf "_law_spoilt_where" "_law_spoilt_where" (defArgs zd_) (defBody zd_) (defScope zd_) .none kV27 dc27 pm27 an27 cd27 ct27),sl27⟩) (c27:PySem.W.codeIn K cd27 "_law_spoilt_where" = true) (k27:PySem.W.keepIn K (.ref f27) = true)
  (a28:PySem.W.nsIn K mainGlobals "_law_spoilt_short" = some (some (.ref f28)))
  (l28:K.lookup f28 = some ⟨oc28,od28,.func (PySem.W.fnOf "_law_spoilt_short" "_law_spoilt_short" (defArgs ze_) (defBody ze_) (defScope ze_) .none kV28 dc28 pm28 an28 cd28 ct28),sl28⟩) (c28:PySem.W.codeIn K cd28 "_law_spoilt_short" = true) (k28:PySem.W.keepIn K (.ref f28) = true)
  (a29:PySem.W.nsIn K mainGlobals "_law_order" = some (some (.ref f29)))
  (l29:K.lookup f29 = some ⟨oc29,od29,.func (PySem.W.fnOf "_law_order" "_law_order" (defArgs zB_) (defBody zB_) (defScope zB_) .none kV29 dc29 pm29 an29 cd29 ct29),sl29⟩) (c29:PySem.W.codeIn K cd29 "_law_order" = true) (k29:PySem.W.keepIn K (.ref f29) = true)
  (a30:PySem.W.nsIn K mainGlobals "law" = some (some (.ref f30)))
  (l30:K.lookup f30 = some ⟨oc30,od30,.func (PySem.W.fnOf "law" "law" (defArgs s_law) (defBody s_law) (defScope s_law) .none kV30 dc30 pm30 an30 cd30 ct30),sl30⟩) (c30:PySem.W.codeIn K cd30 "law" = true) (k30:PySem.W.keepIn K (.ref f30) = true)
  (z1:PySem.W.nsIn K mainGlobals "all" = some none)
  (z2:PySem.W.nsIn K mainGlobals "bool" = some none)
  (z3:PySem.W.nsIn K mainGlobals "dict" = some none)
  (z4:PySem.W.nsIn K mainGlobals "enumerate" = some none)
  (z5:PySem.W.nsIn K mainGlobals "int" = some none)
  (z6:PySem.W.nsIn K mainGlobals "isinstance" = some none)
  (z7:PySem.W.nsIn K mainGlobals "len" = some none)
  (z8:PySem.W.nsIn K mainGlobals "list" = some none)
  (z9:PySem.W.nsIn K mainGlobals "max" = some none)
  (z10:PySem.W.nsIn K mainGlobals "min" = some none)
  (z11:PySem.W.nsIn K mainGlobals "range" = some none)
  (z12:PySem.W.nsIn K mainGlobals "reversed" = some none)
  (z13:PySem.W.nsIn K mainGlobals "sorted" = some none)
  (z14:PySem.W.nsIn K mainGlobals "sum" = some none)
  (z15:PySem.W.nsIn K mainGlobals "tuple" = some none)
  (z16:PySem.W.nsIn K mainGlobals "zip" = some none)
 :∃ fd:FuncData,(∀ (s:Shared) (v:Value),BindsTo s fd ⟨[v],[]⟩ [("_law_script",v)]) ∧ ∀ base:Heap,K.In base → base.Ns mainGlobals mg → FnOk l.prog w K mg base CX0 6 fa fd ["_law_script"] (sp_law K) := by
 have e := hfa.symm.trans (PySem.W.mg_of X G a30)
 cases e
 have T:Txt K mg C_Hall := ⟨PySem.W.mg_none_of X G z1,PySem.W.mg_none_of X G z2,PySem.W.mg_none_of X G z3,PySem.W.mg_none_of X G z4,PySem.W.mg_none_of X G z5,PySem.W.mg_none_of X G z6,PySem.W.mg_none_of X G z7,PySem.W.mg_none_of X G z8,PySem.W.mg_none_of X G z9,PySem.W.mg_none_of X G z10,PySem.W.mg_none_of X G z11,PySem.W.mg_none_of X G z12,PySem.W.mg_none_of X G z13,PySem.W.mg_none_of X G z14,PySem.W.mg_none_of X G z15,PySem.W.mg_none_of X G z16,⟨pg_Hall,hd_Hall,po_Hall,sa_Hall⟩,f_seats_Hall,f_slots_Hall,f_caps_Hall,f_where_Hall,f_sitting_Hall,f_borne_Hall,f_owned_Hall⟩
 have F1 := fun_mk (st := zJ_) l1 c1 k1
 have b1 := F1.binds (ps := ["self","seat","slot"]) fun _ _ _ _ _ _ us hl => by obtain ⟨_,_,_,rfl⟩ := len_3 (us := us) hl; rfl
 have F2 := fun_mk (st := zi_) l2 c2 k2
 have b2 := F2.binds (ps := ["self","seats","slots","caps","where"]) fun _ _ _ _ _ _ us hl => by obtain ⟨_,_,_,_,_,rfl⟩ := len_5 (us := us) hl; rfl
 have F3 := fun_mk (st := zn_) l3 c3 k3
 have b3 := F3.binds (ps := ["self","slot"]) fun _ _ _ _ _ _ us hl => by obtain ⟨_,_,rfl⟩ := len_2 (us := us) hl; rfl
 have F4 := fun_mk (st := zj_) l4 c4 k4
 have b4 := F4.binds (ps := ["self","slot"]) fun _ _ _ _ _ _ us hl => by obtain ⟨_,_,rfl⟩ := len_2 (us := us) hl; rfl
 have F5 := fun_mk (st := zf_) l5 c5 k5
 have b5 := F5.binds (ps := ["self","slot"]) fun _ _ _ _ _ _ us hl => by obtain ⟨_,_,rfl⟩ := len_2 (us := us) hl; rfl
 have F6 := fun_mk (st := zk_) l6 c6 k6
 have b6 := F6.binds (ps := ["hall","slot","seen"]) fun _ _ _ _ _ _ us hl => by obtain ⟨_,_,_,rfl⟩ := len_3 (us := us) hl; rfl
 have F7 := fun_mk (st := zal_) l7 c7 k7
 have b7 := F7.binds (ps := ["hall","start","shut"]) fun _ _ _ _ _ _ us hl => by obtain ⟨_,_,_,rfl⟩ := len_3 (us := us) hl; rfl
 have F8 := fun_mk (st := zam_) l8 c8 k8
 have b8 := F8.binds (ps := ["hall","pushed","last"]) fun _ _ _ _ _ _ us hl => by obtain ⟨_,_,_,rfl⟩ := len_3 (us := us) hl; rfl
 have F9 := fun_mk (st := zV_) l9 c9 k9
 have b9 := F9.binds (ps := ["seats","some"]) fun _ _ _ _ _ _ us hl => by obtain ⟨_,_,rfl⟩ := len_2 (us := us) hl; rfl
 have F10 := fun_mk (st := zan_) l10 c10 k10
 have b10 := F10.binds (ps := ["seats","slots","caps"]) fun _ _ _ _ _ _ us hl => by obtain ⟨_,_,_,rfl⟩ := len_3 (us := us) hl; rfl
 have F11 := fun_mk (st := zm_) l11 c11 k11
 have b11 := F11.binds (ps := ["seats","where"]) fun _ _ _ _ _ _ us hl => by obtain ⟨_,_,rfl⟩ := len_2 (us := us) hl; rfl
 have F12 := fun_mk (st := zw_) l12 c12 k12
 have b12 := F12.binds (ps := ["slots","caps","where"]) fun _ _ _ _ _ _ us hl => by obtain ⟨_,_,_,rfl⟩ := len_3 (us := us) hl; rfl
 have F13 := fun_mk (st := zx_) l13 c13 k13
 have b13 := F13.binds (ps := ["things","numbers"]) fun _ _ _ _ _ _ us hl => by obtain ⟨_,_,rfl⟩ := len_2 (us := us) hl; rfl
 have F14 := fun_mk (st := s_held) l14 c14 k14
 have b14 := F14.binds (ps := ["seats","slots","caps","some"]) fun _ _ _ _ _ _ us hl => by obtain ⟨_,_,_,_,rfl⟩ := len_4 (us := us) hl; rfl
 have F15 := fun_mk (st := zv_) l15 c15 k15
 have b15 := F15.binds (ps := ["seats","slots","caps","where","short"]) fun _ _ _ _ _ _ us hl => by obtain ⟨_,_,_,_,_,rfl⟩ := len_5 (us := us) hl; rfl
 have F16 := fun_mk (st := zr_) l16 c16 k16
 have b16 := F16.binds (ps := ["_law_cell","_law_many"]) fun _ _ _ _ _ _ us hl => by obtain ⟨_,_,rfl⟩ := len_2 (us := us) hl; rfl
 have F17 := fun_mk (st := zo_) l17 c17 k17
 have b17 := F17.binds (ps := ["_law_script","_law_k"]) fun _ _ _ _ _ _ us hl => by obtain ⟨_,_,rfl⟩ := len_2 (us := us) hl; rfl
 have F18 := fun_mk (st := zW_) l18 c18 k18
 have b18 := F18.binds (ps := ["_law_number","_law_small"]) fun _ _ _ _ _ _ us hl => by obtain ⟨_,_,rfl⟩ := len_2 (us := us) hl; rfl
 have F19 := fun_mk (st := zK_) l19 c19 k19
 have b19 := F19.binds (ps := ["_law_number","_law_many"]) fun _ _ _ _ _ _ us hl => by obtain ⟨_,_,rfl⟩ := len_2 (us := us) hl; rfl
 have F20 := fun_mk (st := zz_) l20 c20 k20
 have b20 := F20.binds (ps := ["_law_script"]) fun _ _ _ _ _ _ us hl => by obtain ⟨_,rfl⟩ := len_1 (us := us) hl; rfl
 have F21 := fun_mk (st := zy_) l21 c21 k21
 have b21 := F21.binds (ps := ["_law_found"]) fun _ _ _ _ _ _ us hl => by obtain ⟨_,rfl⟩ := len_1 (us := us) hl; rfl
 have F22 := fun_mk (st := zs_) l22 c22 k22
 have b22 := F22.binds (ps := ["_law_seats","_law_slots","_law_limits","_law_where"]) fun _ _ _ _ _ _ us hl => by obtain ⟨_,_,_,_,rfl⟩ := len_4 (us := us) hl; rfl
 have F23 := fun_mk (st := zA_) l23 c23 k23
 have b23 := F23.binds (ps := ["_law_seats","_law_slots","_law_limits","_law_some"]) fun _ _ _ _ _ _ us hl => by obtain ⟨_,_,_,_,rfl⟩ := len_4 (us := us) hl; rfl
 have F24 := fun_mk (st := zX_) l24 c24 k24
 have b24 := F24.binds (ps := ["_law_seats","_law_slots","_law_limits","_law_where","_law_short"]) fun _ _ _ _ _ _ us hl => by obtain ⟨_,_,_,_,_,rfl⟩ := len_5 (us := us) hl; rfl
 have F25 := fun_mk (st := zL_) l25 c25 k25
 have b25 := F25.binds (ps := ["_law_seats","_law_slots","_law_limits","_law_where","_law_short"]) fun _ _ _ _ _ _ us hl => by obtain ⟨_,_,_,_,_,rfl⟩ := len_5 (us := us) hl; rfl
 have F26 := fun_mk (st := zt_) l26 c26 k26
 have b26 := F26.binds (ps := ["_law_seats","_law_slots","_law_limits","_law_order_here"]) fun _ _ _ _ _ _ us hl => by obtain ⟨_,_,_,_,rfl⟩ := len_4 (us := us) hl; rfl
 have F27 := fun_mk (st := zd_) l27 c27 k27
 have b27 := F27.binds (ps := ["_law_cell","_law_way","_law_seats","_law_where","_law_many"]) fun _ _ _ _ _ _ us hl => by obtain ⟨_,_,_,_,_,rfl⟩ := len_5 (us := us) hl; rfl
 have F28 := fun_mk (st := ze_) l28 c28 k28
 have b28 := F28.binds (ps := ["_law_cell","_law_way","_law_short","_law_many"]) fun _ _ _ _ _ _ us hl => by obtain ⟨_,_,_,_,rfl⟩ := len_4 (us := us) hl; rfl
 have F29 := fun_mk (st := zB_) l29 c29 k29
 have b29 := F29.binds (ps := ["_law_cell","_law_many","_law_leave"]) fun _ _ _ _ _ _ us hl => by obtain ⟨_,_,_,rfl⟩ := len_3 (us := us) hl; rfl
 have F30 := fun_mk (st := s_law) l30 c30 k30
 refine ⟨PySem.W.fnOf "law" "law" (defArgs s_law) (defBody s_law) (defScope s_law) .none kV30 dc30 pm30 an30 cd30 ct30,fun s v => .of_eq rfl,fun base _ _ => ?_⟩
 have zM_:CalM l.prog w K mg base C_Hall "move" ["self","seat","slot"] 1 (zag_ K C_Hall) := ⟨_,_,zbB_ F1 T ,b1,⟨a1,i1,k1⟩,T.cl_Hall⟩
 have I_Hall:CalI l.prog w K mg base "Hall" C_Hall ["self","seats","slots","caps","where"] 2 (zab_ K C_Hall) := ⟨_,_,zbd_ F2 T zM_,b2,⟨mk_Hall,a2,i2,kc_Hall⟩,PySem.W.mg_of X G aC_Hall⟩
 have zp_:CalM l.prog w K mg base C_Hall "is_full" ["self","slot"] 1 (zQ_ K C_Hall) := ⟨_,_,zbk_ F3 T ,b3,⟨a3,i3,k3⟩,T.cl_Hall⟩
 have zah_:CalM l.prog w K mg base C_Hall "has_room" ["self","slot"] 2 (zac_ K C_Hall) := ⟨_,_,zbe_ F4 T zp_,b4,⟨a4,i4,k4⟩,T.cl_Hall⟩
 have zS_:CalM l.prog w K mg base C_Hall "making_room" ["self","slot"] 2 (zN_ K C_Hall) := ⟨_,_,zaX_ F5 T zp_,b5,⟨a5,i5,k5⟩,T.cl_Hall⟩
 have zai_:Cal l.prog w K mg base "sitting_there" ["hall","slot","seen"] 3 (zad_ K C_Hall) := ⟨_,_,zbf_ F6 T zS_,b6,k6,PySem.W.mg_of X G a6⟩
 have zbg_:Cal l.prog w K mg base "pushes" ["hall","start","shut"] 4 (zaZ_ K C_Hall) := ⟨_,_,zbI_ F7 T zah_ zai_,b7,k7,PySem.W.mg_of X G a7⟩
 have zbh_:Cal l.prog w K mg base "change" ["hall","pushed","last"] 2 (zba_ K C_Hall) := ⟨_,_,zbJ_ F8 T zM_,b8,k8,PySem.W.mg_of X G a8⟩
 have zaR_:Cal l.prog w K mg base "slots_of" ["seats","some"] 1 (zaN_ K C_Hall) := ⟨_,_,zbE_ F9 T ,b9,k9,PySem.W.mg_of X G a9⟩
 have zbi_:Cal l.prog w K mg base "filled" ["seats","slots","caps"] 5 (zbc_ K C_Hall) := ⟨_,_,zbK_ F10 T I_Hall zbg_ zbh_ zaR_,b10,k10,PySem.W.mg_of X G a10⟩
 have zap_:Cal l.prog w K mg base "may_be_taken" ["seats","where"] 1 (zaj_ K C_Hall) := ⟨_,_,zbm_ F11 T ,b11,k11,PySem.W.mg_of X G a11⟩
 have zaE_:Cal l.prog w K mg base "are_within" ["slots","caps","where"] 1 (zau_ K C_Hall) := ⟨_,_,zbt_ F12 T ,b12,k12,PySem.W.mg_of X G a12⟩
 have zaF_:Cal l.prog w K mg base "are_rising" ["things","numbers"] 1 (zav_ K C_Hall) := ⟨_,_,zbu_ F13 T ,b13,k13,PySem.W.mg_of X G a13⟩
 have C_held:Cal l.prog w K mg base "held" ["seats","slots","caps","some"] 1 (zbp_ K C_Hall) := ⟨_,_,zbL_ F14 T ,b14,k14,PySem.W.mg_of X G a14⟩
 have zaL_:Cal l.prog w K mg base "is_filling" ["seats","slots","caps","where","short"] 2 (zaw_ K C_Hall) := ⟨_,_,zbv_ F15 T zap_ zaE_ zaF_ C_held,b15,k15,PySem.W.mg_of X G a15⟩
 have zc_:Cal l.prog w K mg base "_law_stream" ["_law_cell","_law_many"] 1 (zC_ K C_Hall) := ⟨_,_,zbq_ F16 T ,b16,k16,PySem.W.mg_of X G a16⟩
 have zb_:Cal l.prog w K mg base "_law_cell_at" ["_law_script","_law_k"] 1 (zR_ K C_Hall) := ⟨_,_,zbo_ F17 T ,b17,k17,PySem.W.mg_of X G a17⟩
 have zaC_:Cal l.prog w K mg base "_law_cap" ["_law_number","_law_small"] 1 (zaO_ K C_Hall) := ⟨_,_,zbG_ F18 T ,b18,k18,PySem.W.mg_of X G a18⟩
 have zaP_:Cal l.prog w K mg base "_law_seat" ["_law_number","_law_many"] 1 (zaG_ K C_Hall) := ⟨_,_,zbC_ F19 T ,b19,k19,PySem.W.mg_of X G a19⟩
 have zaM_:Cal l.prog w K mg base "_law_stage" ["_law_script"] 2 (zax_ K C_Hall) := ⟨_,_,zbw_ F20 T zc_ zb_ zaC_ zaP_,b20,k20,PySem.W.mg_of X G a20⟩
 have zaH_:Cal l.prog w K mg base "_law_whole" ["_law_found"] 1 (zay_ K C_Hall) := ⟨_,_,zby_ F21 T ,b21,k21,PySem.W.mg_of X G a21⟩
 have zaA_:Cal l.prog w K mg base "_law_within" ["_law_seats","_law_slots","_law_limits","_law_where"] 2 (zaq_ K C_Hall) := ⟨_,_,zbr_ F22 T zaH_,b22,k22,PySem.W.mg_of X G a22⟩
 have zaI_:Cal l.prog w K mg base "_law_borne" ["_law_seats","_law_slots","_law_limits","_law_some"] 1 (zaz_ K C_Hall) := ⟨_,_,zbz_ F23 T ,b23,k23,PySem.W.mg_of X G a23⟩
 have zaS_:Cal l.prog w K mg base "_law_due" ["_law_seats","_law_slots","_law_limits","_law_where","_law_short"] 3 (zaQ_ K C_Hall) := ⟨_,_,zbH_ F24 T zaA_ zaI_,b24,k24,PySem.W.mg_of X G a24⟩
 have zY_:Cal l.prog w K mg base "_law_good" ["_law_seats","_law_slots","_law_limits","_law_where","_law_short"] 4 (zaJ_ K C_Hall) := ⟨_,_,zbD_ F25 T zaL_ zaS_,b25,k25,PySem.W.mg_of X G a25⟩
 have zaa_:Cal l.prog w K mg base "_law_greedy" ["_law_seats","_law_slots","_law_limits","_law_order_here"] 1 (zar_ K C_Hall) := ⟨_,_,zbs_ F26 T ,b26,k26,PySem.W.mg_of X G a26⟩
 have zO_:Cal l.prog w K mg base "_law_spoilt_where" ["_law_cell","_law_way","_law_seats","_law_where","_law_many"] 1 (zF_ K C_Hall) := ⟨_,_,zaT_ F27 T ,b27,k27,PySem.W.mg_of X G a27⟩
 have zP_:Cal l.prog w K mg base "_law_spoilt_short" ["_law_cell","_law_way","_law_short","_law_many"] 1 (zG_ K C_Hall) := ⟨_,_,zaU_ F28 T ,b28,k28,PySem.W.mg_of X G a28⟩
 have zU_:Cal l.prog w K mg base "_law_order" ["_law_cell","_law_many","_law_leave"] 2 (zaB_ K C_Hall) := ⟨_,_,zbA_ F29 T zc_,b29,k29,PySem.W.mg_of X G a29⟩
 exact ok_law F30 T zaM_ zbi_ zY_ zb_ zaa_ zc_ zO_ zP_ zU_
theorem walk {l:PySem.W.OpenLaw} {q:Program} {loose:List Str} {XP:(Str → Option Value) → Heap → Prop} {YP:World → Heap → Prop} {d:DefRec} {K:Params → PySem.W.Frag} (hn:l.most = some 63) (hdf:d.params.defaults = [])
  (hY:∀ (w:World) (h:Heap),YP w h → (K w.params).In h)
  (F:∀ (w:World) (mg:Str → Option Value) (fa:Addr) (h:Heap),(K w.params).In h → h.Ns mainGlobals mg → mg d.name = some (.ref fa) →
   ∃ fd:FuncData,(∀ (s:Shared) (u:Value),BindsTo s fd ⟨[u],[]⟩ [("_law_script",u)]) ∧ ∀ base:Heap,(K w.params).In base → base.Ns mainGlobals mg → FnOk l.prog w (K w.params) mg base CX0 6 fa fd ["_law_script"] (sp_law (K w.params))) :
  PySem.W.WalkO q loose XP YP l.row.toRowW d [] (fun f vs => PySem.call f vs) :=
 L2.walk_of (n := 63) (k := 6) (x := "_law_script") (CX := fun _ => CX0) (sp := fun w => sp_law (K w.params)) hn (by decide) hdf ⟨rfl,by decide,by decide⟩ hY F (fun _ _ a ns hl _ hS => ⟨a,ns,rfl,hS,hl,fun _ => rfl⟩) fun _ _ _ _ _ z => z
end My
open PySem PySem.W PyProof.Rows
set_option maxRecDepth 100000 in
set_option maxHeartbeats 0 in
theorem PySem.Challenge.cw_rotaward_k45_what_is_a_right_pair_holds : PySem.Challenge.rw_rotaward_k45_what_is_a_right_pair.Holds := by
 w_on; o_law; k_head; (case hw => w_witness2)
 k_fill
 refine My.walk (l := PySem.Challenge.rw_rotaward_k45_what_is_a_right_pair) rfl rfl (fun w h Y => PySem.W.kIn_of Y) ?F
 case F =>
  intro w mg fa h KX G hmg
  refine' My.all_mk KX G hmg ?aC_Hall ?pg_Hall ?hd_Hall ?po_Hall ?sa_Hall ?mk_Hall ?kc_Hall ?f_seats_Hall ?f_slots_Hall ?f_caps_Hall ?f_where_Hall ?f_sitting_Hall ?f_borne_Hall ?f_owned_Hall ?a1 ?i1 ?l1 ?c1 ?k1 ?a2 ?i2 ?l2 ?c2 ?k2 ?a3 ?i3 ?l3 ?c3 ?k3 ?a4 ?i4 ?l4 ?c4 ?k4 ?a5 ?i5 ?l5 ?c5 ?k5 ?a6 ?l6 ?c6 ?k6 ?a7 ?l7 ?c7 ?k7 ?a8 ?l8 ?c8 ?k8 ?a9 ?l9 ?c9 ?k9 ?a10 ?l10 ?c10 ?k10 ?a11 ?l11 ?c11 ?k11 ?a12 ?l12 ?c12 ?k12 ?a13 ?l13 ?c13 ?k13 ?a14 ?l14 ?c14 ?k14 ?a15 ?l15 ?c15 ?k15 ?a16 ?l16 ?c16 ?k16 ?a17 ?l17 ?c17 ?k17 ?a18 ?l18 ?c18 ?k18 ?a19 ?l19 ?c19 ?k19 ?a20 ?l20 ?c20 ?k20 ?a21 ?l21 ?c21 ?k21 ?a22 ?l22 ?c22 ?k22 ?a23 ?l23 ?c23 ?k23 ?a24 ?l24 ?c24 ?k24 ?a25 ?l25 ?c25 ?k25 ?a26 ?l26 ?c26 ?k26 ?a27 ?l27 ?c27 ?k27 ?a28 ?l28 ?c28 ?k28 ?a29 ?l29 ?c29 ?k29 ?a30 ?l30 ?c30 ?k30 ?z1 ?z2 ?z3 ?z4 ?z5 ?z6 ?z7 ?z8 ?z9 ?z10 ?z11 ?z12 ?z13 ?z14 ?z15 ?z16
  (case aC_Hall => k_is)
  (case pg_Hall => k_is)
  (case hd_Hall => k_is)
  (case po_Hall => k_is)
  (case sa_Hall => k_is)
  (case mk_Hall => k_is)
  (case kc_Hall => k_is)
  (case f_seats_Hall => k_is)
  (case f_slots_Hall => k_is)
  (case f_caps_Hall => k_is)
  (case f_where_Hall => k_is)
  (case f_sitting_Hall => k_is)
  (case f_borne_Hall => k_is)
  (case f_owned_Hall => k_is)
  (case a1 => k_is)
  (case i1 => k_is)
  (case l1 => k_is)
  (case c1 => k_is)
  (case k1 => k_is)
  (case a2 => k_is)
  (case i2 => k_is)
  (case l2 => k_is)
  (case c2 => k_is)
  (case k2 => k_is)
  (case a3 => k_is)
  (case i3 => k_is)
  (case l3 => k_is)
  (case c3 => k_is)
  (case k3 => k_is)
  (case a4 => k_is)
  (case i4 => k_is)
  (case l4 => k_is)
  (case c4 => k_is)
  (case k4 => k_is)
  (case a5 => k_is)
  (case i5 => k_is)
  (case l5 => k_is)
  (case c5 => k_is)
  (case k5 => k_is)
  (case a6 => k_is)
  (case l6 => k_is)
  (case c6 => k_is)
  (case k6 => k_is)
  (case a7 => k_is)
  (case l7 => k_is)
  (case c7 => k_is)
  (case k7 => k_is)
  (case a8 => k_is)
  (case l8 => k_is)
  (case c8 => k_is)
  (case k8 => k_is)
  (case a9 => k_is)
  (case l9 => k_is)
  (case c9 => k_is)
  (case k9 => k_is)
  (case a10 => k_is)
  (case l10 => k_is)
  (case c10 => k_is)
  (case k10 => k_is)
  (case a11 => k_is)
  (case l11 => k_is)
  (case c11 => k_is)
  (case k11 => k_is)
  (case a12 => k_is)
  (case l12 => k_is)
  (case c12 => k_is)
  (case k12 => k_is)
  (case a13 => k_is)
  (case l13 => k_is)
  (case c13 => k_is)
  (case k13 => k_is)
  (case a14 => k_is)
  (case l14 => k_is)
  (case c14 => k_is)
  (case k14 => k_is)
  (case a15 => k_is)
  (case l15 => k_is)
  (case c15 => k_is)
  (case k15 => k_is)
  (case a16 => k_is)
  (case l16 => k_is)
  (case c16 => k_is)
  (case k16 => k_is)
  (case a17 => k_is)
  (case l17 => k_is)
  (case c17 => k_is)
  (case k17 => k_is)
  (case a18 => k_is)
  (case l18 => k_is)
  (case c18 => k_is)
  (case k18 => k_is)
  (case a19 => k_is)
  (case l19 => k_is)
  (case c19 => k_is)
  (case k19 => k_is)
  (case a20 => k_is)
  (case l20 => k_is)
  (case c20 => k_is)
  (case k20 => k_is)
  (case a21 => k_is)
  (case l21 => k_is)
  (case c21 => k_is)
  (case k21 => k_is)
  (case a22 => k_is)
  (case l22 => k_is)
  (case c22 => k_is)
  (case k22 => k_is)
  (case a23 => k_is)
  (case l23 => k_is)
  (case c23 => k_is)
  (case k23 => k_is)
  (case a24 => k_is)
  (case l24 => k_is)
  (case c24 => k_is)
  (case k24 => k_is)
  (case a25 => k_is)
  (case l25 => k_is)
  (case c25 => k_is)
  (case k25 => k_is)
  (case a26 => k_is)
  (case l26 => k_is)
  (case c26 => k_is)
  (case k26 => k_is)
  (case a27 => k_is)
  (case l27 => k_is)
  (case c27 => k_is)
  (case k27 => k_is)
  (case a28 => k_is)
  (case l28 => k_is)
  (case c28 => k_is)
  (case k28 => k_is)
  (case a29 => k_is)
  (case l29 => k_is)
  (case c29 => k_is)
  (case k29 => k_is)
  (case a30 => k_is)
  (case l30 => k_is)
  (case c30 => k_is)
  (case k30 => k_is)
  (case z1 => k_is)
  (case z2 => k_is)
  (case z3 => k_is)
  (case z4 => k_is)
  (case z5 => k_is)
  (case z6 => k_is)
  (case z7 => k_is)
  (case z8 => k_is)
  (case z9 => k_is)
  (case z10 => k_is)
  (case z11 => k_is)
  (case z12 => k_is)
  (case z13 => k_is)
  (case z14 => k_is)
  (case z15 => k_is)
  (case z16 => k_is)
