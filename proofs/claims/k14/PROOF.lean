import PyProof.Rows.All
import Wide.All
import OpenK.AllK
import Wide.FinOn
import Lean
import PyProof.EqAt
import PyProof.EqKinds
import PyProof.TupleCall
import PySem.Challenge.RW_rotaward_k14_no_ward
set_option Elab.async false
set_option linter.all false
set_option maxRecDepth 100000
namespace L2
open PySem PySem.Spec PyProof.Rows

/-- a key: an int or a str -/
abbrev Key := Sum Int Str
def keyIs : Key → Value → Bool
  | .inl k, v => Value.isInt k v
  | .inr x, v => Value.isStrOf x v
def keyH (w : World) : Key → Int
  | .inl k => hashInt k
  | .inr x => hashStr w x
theorem keyIs_shape : ∀ {k : Key} {v : Value}, keyIs k v = true → (∃ i t, k = Sum.inl i ∧ v = Value.int i t) ∨ (∃ x t, k = Sum.inr x ∧ v = Value.str x t)
  | .inl i, v, h => by
    obtain ⟨t, e⟩ := Value.isInt_shape (k := i) (v := v) h
    exact .inl ⟨i, t, rfl, e⟩
  | .inr x, v, h => by
    obtain ⟨t, e⟩ := Value.isStrOf_shape (x := x) (v := v) h
    exact .inr ⟨x, t, rfl, e⟩
theorem key_ll (a b : Int) : decide ((Sum.inl a : Key) = Sum.inl b) = (a == b) := by
  by_cases e : a = b
  · subst e; simp
  · have h : ¬ (Sum.inl a : Key) = Sum.inl b := fun q => e (Sum.inl.inj q)
    rw [decide_eq_false h]
    exact (beq_eq_false_iff_ne.mpr e).symm
theorem key_rr (a b : Str) : decide ((Sum.inr a : Key) = Sum.inr b) = decide (a = b) := by
  by_cases e : a = b
  · subst e; simp
  · have h : ¬ (Sum.inr a : Key) = Sum.inr b := fun q => e (Sum.inr.inj q)
    rw [decide_eq_false h, decide_eq_false e]
theorem key_lr (a : Int) (b : Str) : decide ((Sum.inl a : Key) = Sum.inr b) = false := decide_eq_false (fun q => nomatch q)
theorem key_rl (a : Str) (b : Int) : decide ((Sum.inr a : Key) = Sum.inl b) = false := decide_eq_false (fun q => nomatch q)

def mixKind (prog : Program) (w : World) : PySem.KeyKind prog w Key where
  is := keyIs
  hash := keyH w
  inj := fun v a b ha hb => by
    rcases keyIs_shape ha with ⟨i, t, rfl, rfl⟩ | ⟨x, t, rfl, rfl⟩
    · rcases keyIs_shape hb with ⟨j, u, rfl, e⟩ | ⟨y, u, rfl, e⟩
      · injection e with e1 _; rw [e1]
      · exact nomatch e
    · rcases keyIs_shape hb with ⟨j, u, rfl, e⟩ | ⟨y, u, rfl, e⟩
      · exact nomatch e
      · injection e with e1 _; rw [e1]
  byValue := fun k v h => by
    rcases keyIs_shape h with ⟨i, t, rfl, rfl⟩ | ⟨x, t, rfl, rfl⟩ <;> rfl
  pyHash := fun hv h => by
    rcases keyIs_shape hv with ⟨i, t, rfl, rfl⟩ | ⟨x, t, rfl, rfl⟩
    · exact wpAny_pyHash_int h
    · exact wpAny_pyHash_str h
  eqBool := fun hu hv h => by
    rcases keyIs_shape hu with ⟨i, t, rfl, rfl⟩ | ⟨x, t, rfl, rfl⟩
    · rcases keyIs_shape hv with ⟨j, u, rfl, rfl⟩ | ⟨y, u, rfl, rfl⟩
      · rw [key_ll] at h; exact wpAny_eqBool_int h
      · rw [key_lr] at h; exact SeqAt.EqAt.int_str i t y u _ _ _ _ h
    · rcases keyIs_shape hv with ⟨j, u, rfl, rfl⟩ | ⟨y, u, rfl, rfl⟩
      · rw [key_rl] at h; exact SeqAt.EqAt.str_int x t j u _ _ _ _ h
      · rw [key_rr] at h; exact wpAny_eqBool_str h
  «strs» := fun k x t v h => by
    rcases keyIs_shape h with ⟨i, u, rfl, e⟩ | ⟨y, u, rfl, e⟩
    · exact nomatch e
    · injection e with e1 _
      subst e1
      cases v <;> rfl

end L2

namespace L2
open PySem PySem.Spec PyProof.Rows

/-- a value, without the heap -/
inductive V where
  | non | bl (b : Bool) | int (i : Int) | str (x : Str) | byt (b : Array UInt8) | flt (b : UInt64) | ref (a : Addr) | ty (n : String)
  deriving DecidableEq

def RelV : V → Value → Prop
  | .non, u => u = Value.none
  | .bl b, u => u = Value.bool b
  | .int i, u => ∃ t, u = Value.int i t
  | .str x, u => ∃ t, u = Value.str x t
  | .byt b, u => ∃ t, u = Value.bytes b t
  | .flt b, u => ∃ t, u = Value.float b t
  | .ref a, u => u = Value.ref a
  | .ty n, u => u = Value.type n

abbrev Vals : List V → List Value → Prop := Paired RelV
theorem Vals.length {xs : List V} {us : List Value} (r : Vals xs us) : xs.length = us.length := Paired.length r
theorem Vals.get : ∀ {xs : List V} {us : List Value} {i : Nat} {x : V}, Vals xs us → xs[i]? = some x → ∃ u, us[i]? = some u ∧ RelV x u
  | _, _, _, _, .nil, e => by simp at e
  | _, _, 0, _, .cons r _, e => by simp at e; subst e; exact ⟨_, rfl, r⟩
  | _, _, i + 1, x, .cons _ t, e => by
    obtain ⟨u, h1, h2⟩ := Vals.get (i := i) (x := x) t (by simpa using e)
    exact ⟨u, by simpa using h1, h2⟩
theorem Vals.set {x : V} {u : Value} (r : RelV x u) : ∀ {xs : List V} {us : List Value} (i : Nat), Vals xs us → Vals (xs.set i x) (us.set i u)
  | _, _, _, .nil => .nil
  | _, _, 0, .cons _ t => .cons r t
  | _, _, i + 1, .cons q t => .cons q (Vals.set r i t)
theorem Vals.append : ∀ {xs ys : List V} {us ws : List Value}, Vals xs us → Vals ys ws → Vals (xs ++ ys) (us ++ ws)
  | _, _, _, _, .nil, s => s
  | _, _, _, _, .cons r t, s => .cons r (Vals.append t s)
theorem Vals.take : ∀ {xs : List V} {us : List Value} (n : Nat), Vals xs us → Vals (xs.take n) (us.take n)
  | _, _, 0, _ => .nil
  | _, _, _ + 1, .nil => .nil
  | _, _, n + 1, .cons r t => .cons r (Vals.take n t)
theorem Vals.drop : ∀ {xs : List V} {us : List Value} (n : Nat), Vals xs us → Vals (xs.drop n) (us.drop n)
  | _, _, 0, r => r
  | _, _, _ + 1, .nil => .nil
  | _, _, n + 1, .cons _ t => Vals.drop n t
def RelO : Option V → Option Value → Prop
  | some v, some u => RelV v u
  | none, none => True
  | _, _ => False
def KV {κ : Type} : List (κ × V) → List (κ × Value) → Prop := Paired fun (p : κ × V) (q : κ × Value) => p.1 = q.1 ∧ RelV p.2 q.2

/-- a key of a dict (00_mix): an int or a text -/
def kV : Key → V
  | .inl i => .int i
  | .inr x => .str x

/-- what stands at a tracked address -/
inductive HO where
  /-- a list -/
  | lst (xs : List V)
  /-- a tuple (never changes) -/
  | tup (xs : List V)
  /-- a dict whose keys are ints and texts; one whose keys are tuples of ints and texts (the empty one is both) -/
  | dK (kvs : List (Key × V)) | dT (kvs : List (List Key × V))
  /-- a set of ints: its members, its size -/
  | set (S : Int → Bool) (n : Nat)
  /-- an instance of the class at C, its dict at dx, its attributes -/
  | ins (C dx : Addr) (fs : List (Str × V))
  /-- the dict of the instance at x -/
  | own (x : Addr)
  /-- the dict of an exception -/
  | xd (fs : List (Str × V))
  /-- a bound method, f of x -/
  | met (f x : Addr)
  /-- a range object lo, lo + 1, .. below hi -/
  | rng (lo hi : Int)
  /-- a thing that is known to the object (the script; a dict while a loop walks it): read, never written while it is so -/
  | frz (o : Obj) (u : HO)
  /-- a code object's table -/
  | tbl (ps : Array Value)
  /-- any other thing, by what is true of its one object (a def of one's own: SetO a S n := HO.ext fun h => ..) -/
  | ext (φ : Heap → Prop)

abbrev Hp := Addr → Option HO
def upd (H : Hp) (a : Addr) (o : HO) : Hp := fun b => if b = a then some o else H b
theorem upd_same {H : Hp} {a : Addr} {o : HO} : upd H a o a = some o := by unfold upd; rw [if_pos rfl]
theorem upd_ne {H : Hp} {a b : Addr} {o : HO} (h : b ≠ a) : upd H a o b = H b := by unfold upd; rw [if_neg h]
theorem upd_upd {H : Hp} {a : Addr} {o u : HO} : upd (upd H a o) a u = upd H a u := by
  funext b; unfold upd; split <;> rfl
/-- two objects of different content stand apart -/
theorem ne_of {H : Hp} {a b : Addr} {o u : HO} (h : H a = some o) (h' : H b = some u) (d : o ≠ u) : a ≠ b := by
  intro e; subst e; rw [h] at h'; exact d (Option.some.inj h')
theorem ne_of_none {H : Hp} {a b : Addr} {o : HO} (h : H a = some o) (h' : H b = none) : a ≠ b := by
  intro e; subst e; rw [h] at h'; cases h'

section
variable (P : Program) (w : World)
def ObjOk (H : Hp) (h : Heap) (a : Addr) : HO → Prop
  | .lst xs => xs.length ≤ sizeLine ∧ ∃ (its : List Value) (n : Nat), Vals xs its ∧ h.get? a = some { cls := .type "list", data := .seq its.toArray n }
  | .tup xs => xs.length ≤ sizeLine ∧ ∃ its : List Value, Vals xs its ∧ IsTup h a its.toArray
  | .dK kvs => kvs.length ≤ sizeLine ∧ (a == sysModules) = false ∧ ∃ vs, KV kvs vs ∧ h.DictOf (mixKind P w) a vs
  | .dT kvs => kvs.length ≤ sizeLine ∧ (a == sysModules) = false ∧ ∃ xs : List (List Key × Addr × Value),
      Paired (fun (p : List Key × V) (q : List Key × Addr × Value) => p.1 = q.1 ∧ H q.2.1 = some (.tup (p.1.map kV)) ∧ RelV p.2 q.2.2) kvs xs ∧
      ∃ o es ep, h.get? a = some o ∧ o.ExactDict ∧ o.data = .dict es ep ∧ es.toList = xs.map (entryOfKey (tupleKind (mixKind P w))) ∧ (xs.map (·.1)).Nodup
  | .set S n => h.SetOf (intKind P w) a S n
  | .ins C dx fs => H dx = some (.own a) ∧ fs.length ≤ 1000 ∧ dx ≠ a ∧ h.get? a = some (PySem.W.instObj C dx) ∧
      ∃ mA, h.Ns1 dx mA ∧ (∀ f, RelO (fs.lookup f) (mA f)) ∧ PySem.Within mA (fs.map (·.1))
  | .own _ => ∃ o, h.get? a = some o
  | .xd fs => ∃ mA, h.Ns1 a mA ∧ ∀ f, RelO (fs.lookup f) (mA f)
  | .rng lo hi => ∃ t u v, h.get? a = some { cls := .type "range", data := .fields #[.int lo t, .int hi u, .int 1 v] }
  | .frz o u => h.get? a = some o ∧ ObjOk H h a u
  | .tbl ps => h.get? a = some { cls := .none, data := .fields ps }
  | .met f x => h.get? a = some (PySem.W.methodObj (.ref f) (.ref x))
  | .ext φ => φ h ∧ (∃ o, h.get? a = some o) ∧ ∀ h1 h2 : Heap, φ h1 → (∀ o, h1.get? a = some o → h2.get? a = some o) → φ h2
/-- the abstract heap is held -/
def HOk (H : Hp) (h : Heap) : Prop := ∀ a o, H a = some o → ObjOk P w H h a o
end

section
variable {P : Program} {w : World} {H H' : Hp} {h h' : Heap} {a : Addr} {o : HO}
theorem ObjOk.lt (x : ObjOk P w H h a o) : a < h.objs.size := by
  cases o with
  | lst xs => obtain ⟨_, _, _, _, e⟩ := x; exact Heap.lt_size e
  | tup xs => obtain ⟨_, _, _, p⟩ := x; exact p.lt
  | dK kvs => obtain ⟨_, _, _, _, o, _, _, e, _⟩ := x; exact Heap.lt_size e
  | dT kvs => obtain ⟨_, _, _, _, o, _, _, e, _⟩ := x; exact Heap.lt_size e
  | set S n => obtain ⟨o, _, _, _, e, _⟩ := x; exact Heap.lt_size e
  | ins C dx fs => obtain ⟨_, _, _, e, _⟩ := x; exact Heap.lt_size e
  | own y => obtain ⟨_, e⟩ := x; exact Heap.lt_size e
  | xd fs => obtain ⟨_, ⟨_, _, _, e, _⟩, _⟩ := x; exact Heap.lt_size e
  | rng lo hi => obtain ⟨_, _, _, e⟩ := x; exact Heap.lt_size e
  | frz ob u => obtain ⟨e, _⟩ := x; exact Heap.lt_size e
  | tbl ps => exact Heap.lt_size (show h.get? a = some _ from x)
  | met f y => exact Heap.lt_size (show h.get? a = some _ from x)
  | ext φ => obtain ⟨_, ⟨_, e⟩, _⟩ := x; exact Heap.lt_size e
theorem Paired.mapP {α β : Type} {F G : α → β → Prop} : ∀ {l₁ : List α} {l₂ : List β}, Paired F l₁ l₂ → (∀ a b, F a b → G a b) → Paired G l₁ l₂
  | _, _, .nil, _ => .nil
  | _, _, .cons r t, f => .cons (f _ _ r) (Paired.mapP t f)
/-- what an object's description leans on: its own object, its own dict, the tuples -/
theorem ObjOk.stay (x : ObjOk P w H h a o) (k : ∀ b u, (b = a ∨ H b = some (.own a)) → h.get? b = some u → h'.get? b = some u)
    (ho : ∀ b, H b = some (.own a) → H' b = some (.own a)) (ht : ∀ b xs, H b = some (.tup xs) → H' b = some (.tup xs)) : ObjOk P w H' h' a o := by
  induction o with
  | lst xs => obtain ⟨z, its, n, r, e⟩ := x; exact ⟨z, its, n, r, k _ _ (.inl rfl) e⟩
  | tup xs => obtain ⟨z, its, r, ob, e, c⟩ := x; exact ⟨z, its, r, ob, k _ _ (.inl rfl) e, c⟩
  | dK kvs => obtain ⟨z, y, vs, r, ob, es, ep, e, c⟩ := x; exact ⟨z, y, vs, r, ob, es, ep, k _ _ (.inl rfl) e, c⟩
  | dT kvs =>
    obtain ⟨z, y, xs, r, ob, es, ep, e, c⟩ := x
    exact ⟨z, y, xs, Paired.mapP r fun p q z => ⟨z.1, ht _ _ z.2.1, z.2.2⟩, ob, es, ep, k _ _ (.inl rfl) e, c⟩
  | set S n => obtain ⟨ob, es, ep, t, e, c⟩ := x; exact ⟨ob, es, ep, t, k _ _ (.inl rfl) e, c⟩
  | ins C dx fs =>
    obtain ⟨d, z, ne, e, mA, ⟨od, es, ep, e2, c⟩, r⟩ := x
    exact ⟨ho _ d, z, ne, k _ _ (.inl rfl) e, mA, ⟨od, es, ep, k _ _ (.inr d) e2, c⟩, r⟩
  | own y => obtain ⟨ob, e⟩ := x; exact ⟨ob, k _ _ (.inl rfl) e⟩
  | xd fs => obtain ⟨mA, ⟨od, es, ep, e, c⟩, r⟩ := x; exact ⟨mA, ⟨od, es, ep, k _ _ (.inl rfl) e, c⟩, r⟩
  | rng lo hi => obtain ⟨t, u, v, e⟩ := x; exact ⟨t, u, v, k _ _ (.inl rfl) e⟩
  | frz ob u ih => obtain ⟨e, q⟩ := x; exact ⟨k _ _ (.inl rfl) e, ih q⟩
  | tbl ps =>
    have e : h.get? a = some { cls := .none, data := .fields ps } := x
    show h'.get? a = some { cls := .none, data := .fields ps }
    exact k a _ (.inl rfl) e
  | met f y =>
    have e : h.get? a = some (PySem.W.methodObj (.ref f) (.ref y)) := x
    show h'.get? a = some (PySem.W.methodObj (.ref f) (.ref y))
    exact k a _ (.inl rfl) e
  | ext φ => obtain ⟨p, ⟨o, e⟩, st⟩ := x; exact ⟨st _ _ p fun o q => k _ _ (.inl rfl) q, ⟨o, k _ _ (.inl rfl) e⟩, st⟩
theorem HOk.lt (x : HOk P w H h) (e : H a = some o) : a < h.objs.size := (x a o e).lt
theorem HOk.fresh (x : HOk P w H h) (e : h.objs.size ≤ a) : H a = none := by
  cases q : H a with
  | none => rfl
  | some u => exact absurd (Nat.lt_of_lt_of_le (x.lt q) e) (Nat.lt_irrefl _)
/-- every object of the heap is kept -/
theorem HOk.kept (x : HOk P w H h) (k : ∀ b u, h.get? b = some u → h'.get? b = some u) : HOk P w H h' := fun a o e =>
  (x a o e).stay (fun b u _ q => k b u q) (fun _ q => q) fun _ _ q => q
/-- a new object is laid and tracked -/
theorem HOk.laid (x : HOk P w H h) (k : ∀ b u, h.get? b = some u → h'.get? b = some u) (hp : h.objs.size ≤ a) (new : ObjOk P w (upd H a o) h' a o) : HOk P w (upd H a o) h' := fun b u e => by
  have hn := x.fresh hp
  by_cases hb : b = a
  · subst hb; rw [upd_same] at e; cases e; exact new
  · rw [upd_ne hb] at e
    exact (x b u e).stay (fun c v _ q => k c v q) (fun c q => by rw [upd_ne (ne_of_none q hn)]; exact q) fun c xs q => by rw [upd_ne (ne_of_none q hn)]; exact q
end

/-- what may be read as u: it is u, or a known u -/
def Rd (H : Hp) (a : Addr) (u : HO) : Prop := H a = some u ∨ ∃ o, H a = some (.frz o u)
theorem Rd.of {H : Hp} {a : Addr} {u : HO} (h : H a = some u) : Rd H a u := .inl h
theorem Rd.ok {P : Program} {w : World} {H : Hp} {h : Heap} {a : Addr} {u : HO} (r : Rd H a u) (x : HOk P w H h) : ObjOk P w H h a u := by
  rcases r with r | ⟨o, r⟩
  · exact x a u r
  · obtain ⟨_, q⟩ := x a _ r
    exact q
/-- what may be written -/
def Mut : Option HO → Prop
  | some (.lst _) => True
  | some (.dK _) => True
  | some (.dT _) => True
  | some (.set _ _) => True
  | some (.ins _ _ _) => True
  | some (.ext _) => True
  | _ => False
section
variable {P : Program} {w : World} {H : Hp} {h h' : Heap} {x e : Addr} {o' : HO}
/-- the object at e is changed: x itself, or the dict of the instance x -/
theorem HOk.write (ok : HOk P w H h) (mu : Mut (H x)) (he : e = x ∨ H e = some (.own x)) (k : ∀ b u, b ≠ e → h.get? b = some u → h'.get? b = some u) (heo : ∃ u, h'.get? e = some u)
    (new : ObjOk P w (upd H x o') h' x o') : HOk P w (upd H x o') h' := fun b u q => by
  have nown : ∀ c y, H c = some (.own y) → c ≠ x := fun c y r z => by subst z; rw [r] at mu; exact mu
  have ntup : ∀ c xs, H c = some (.tup xs) → c ≠ x := fun c xs r z => by subst z; rw [r] at mu; exact mu
  by_cases hb : b = x
  · subst hb; rw [upd_same] at q; cases q; exact new
  · rw [upd_ne hb] at q
    by_cases hbe : b = e
    · have q' : H b = some (.own x) := by
        rcases he with z | z
        · exact absurd (hbe.trans z) hb
        · rw [hbe]; exact z
      rw [q] at q'; cases q'
      obtain ⟨v, hv⟩ := heo
      exact ⟨v, by rw [hbe]; exact hv⟩
    · refine (ok b u q).stay (fun c v hc r => k c v ?_ r) (fun c r => by rw [upd_ne (nown c b r)]; exact r) fun c xs r => by rw [upd_ne (ntup c xs r)]; exact r
      rcases hc with rfl | hc
      · exact hbe
      · rintro rfl
        rcases he with z | z
        · exact nown c b hc z
        · rw [hc] at z; cases z; exact hb rfl
end

structure Un (fs ex : List Addr) (H H' : Hp) (h h' : Heap) : Prop where
  keep : ∀ b o, h.get? b = some o → H b = none → b ∉ fs → b ∉ ex → h'.get? b = some o
  slot : ∀ b o, h.get? b = some o → H b = none → b ∈ fs → b ∉ ex → ∃ sl, h'.get? b = some { o with slots := sl }
  free : ∀ b o, h.get? b = some o → H b = none → b ∉ ex → H' b = none
  there : ∀ b o, h.get? b = some o → b ∉ ex → ∃ o', h'.get? b = some o'
  tups : ∀ b xs, H b = some (.tup xs) → H' b = some (.tup xs)
  frzs : ∀ b o u, H b = some (.frz o u) → H' b = some (.frz o u)
  tbls : ∀ b ps, H b = some (.tbl ps) → ∃ more, H' b = some (.tbl (ps ++ more))
section
variable {fs fs' ex ex' : List Addr} {H H1 H2 : Hp} {h h1 h2 h' : Heap} {a x e : Addr} {o : HO}
theorem Un.any (u : Un fs ex H H1 h h1) {b : Addr} {ob : Obj} (q : h.get? b = some ob) (n : H b = none) (hx : b ∉ ex) : ∃ sl, h1.get? b = some { ob with slots := sl } := by
  by_cases hb : b ∈ fs
  · exact u.slot b ob q n hb hx
  · exact ⟨ob.slots, u.keep b ob q n hb hx⟩
theorem Un.trans (a : Un fs ex H H1 h h1) (b : Un fs ex H1 H2 h1 h2) : Un fs ex H H2 h h2 where
  keep := fun c ob q n hc hx => b.keep c ob (a.keep c ob q n hc hx) (a.free c ob q n hx) hc hx
  slot := fun c ob q n hc hx => by
    obtain ⟨sl, e1⟩ := a.slot c ob q n hc hx
    obtain ⟨sl', e2⟩ := b.slot c _ e1 (a.free c ob q n hx) hc hx
    exact ⟨sl', e2⟩
  free := fun c ob q n hx => by
    obtain ⟨o', e1⟩ := a.there c ob q hx
    exact b.free c o' e1 (a.free c ob q n hx) hx
  there := fun c ob q hx => by
    obtain ⟨o', e1⟩ := a.there c ob q hx
    exact b.there c o' e1 hx
  tups := fun c xs q => b.tups c xs (a.tups c xs q)
  frzs := fun c ob xs q => b.frzs c ob xs (a.frzs c ob xs q)
  tbls := fun c ps q => by
    obtain ⟨m1, e1⟩ := a.tbls c ps q
    obtain ⟨m2, e2⟩ := b.tbls c _ e1
    exact ⟨m1 ++ m2, by rw [e2, Array.append_assoc]⟩
theorem Un.kept (k : ∀ b u, h.get? b = some u → h'.get? b = some u) : Un fs ex H H h h' :=
  ⟨fun b ob q _ _ _ => k b ob q, fun b ob q _ _ _ => ⟨ob.slots, k b ob q⟩, fun _ _ _ n _ => n, fun b ob q _ => ⟨ob, k b ob q⟩, fun _ _ q => q, fun _ _ _ q => q, fun _ ps q => ⟨#[], by rw [q]; simp⟩⟩
theorem Un.refl : Un fs ex H H h h := Un.kept fun _ _ q => q
theorem Un.laid (k : ∀ b u, h.get? b = some u → h'.get? b = some u) (hp : h.objs.size ≤ a) (hn : H a = none) : Un fs ex H (upd H a o) h h' where
  keep := fun b u q _ _ _ => k b u q
  slot := fun b u q _ _ _ => ⟨u.slots, k b u q⟩
  free := fun b u q n _ => by rw [upd_ne (Nat.ne_of_lt (Nat.lt_of_lt_of_le (Heap.lt_size q) hp))]; exact n
  there := fun b u q _ => ⟨u, k b u q⟩
  tups := fun b xs q => by rw [upd_ne (ne_of_none q hn)]; exact q
  frzs := fun b u xs q => by rw [upd_ne (ne_of_none q hn)]; exact q
  tbls := fun b ps q => ⟨#[], by rw [upd_ne (ne_of_none q hn), q]; simp⟩
theorem Un.write (mu : Mut (H x)) (he : e = x ∨ H e = some (.own x)) (k : ∀ b u, b ≠ e → h.get? b = some u → h'.get? b = some u) (heo : ∃ u, h'.get? e = some u) : Un fs ex H (upd H x o) h h' := by
  have hx : ∀ b, H b = none → b ≠ x := fun b n z => by subst z; rw [n] at mu; exact mu
  have hb : ∀ b, H b = none → b ≠ e := fun b n z => by
    subst z
    rcases he with r | r
    · exact hx b n r
    · rw [n] at r; cases r
  have hm : ∀ b u, H b = some u → ¬ Mut (some u) → b ≠ x := fun b u q nm z => by subst z; rw [q] at mu; exact nm mu
  refine ⟨fun b u q n _ _ => k b u (hb b n) q, fun b u q n _ _ => ⟨u.slots, k b u (hb b n) q⟩, fun b u q n _ => by rw [upd_ne (hx b n)]; exact n, fun b u q _ => ?_,
    fun b xs q => by rw [upd_ne (hm b _ q fun z => z)]; exact q, fun b u xs q => by rw [upd_ne (hm b _ q fun z => z)]; exact q, fun b ps q => ⟨#[], by rw [upd_ne (hm b _ q fun z => z), q]; simp⟩⟩
  by_cases hbe : b = e
  · subst hbe; exact heo
  · exact ⟨u, k b u hbe q⟩
theorem Un.mono (u : Un fs ex H H1 h h1) (hs : ∀ b ∈ fs, b ∈ fs') (hx : ∀ b ∈ ex, b ∈ ex') : Un fs' ex' H H1 h h1 :=
  ⟨fun b ob q n hb he => u.keep b ob q n (fun z => hb (hs b z)) fun z => he (hx b z), fun _ _ q n _ he => u.any q n fun z => he (hx _ z), fun b ob q n he => u.free b ob q n fun z => he (hx b z), fun b ob q he => u.there b ob q fun z => he (hx b z), u.tups, u.frzs, u.tbls⟩
end

def trk (h : Heap) (H : Hp) : List Addr := (List.range h.objs.size).filter fun a => (H a).isSome
def hidT (h : Heap) (H : Hp) : Heap := PySem.W.hideAll h (trk h H)
theorem hidT_size (h : Heap) (H : Hp) : (hidT h H).objs.size = h.objs.size := PySem.W.hideAll_size _ _
theorem hidT_get {h : Heap} {H : Hp} {b : Addr} {o : Obj} (e : h.get? b = some o) (n : H b = none) : (hidT h H).get? b = some o :=
  PySem.W.hideAll_get _ e fun hm => by
    have q : (H b).isSome = true := (List.mem_filter.mp hm).2
    rw [n] at q; simp at q
theorem of_hidT {h : Heap} {H : Hp} {b : Addr} {o : Obj} (e : (hidT h H).get? b = some o) : h.get? b = some o ∧ H b = none := by
  have e' : h.get? b = some o := PySem.W.of_hideAll (trk h H) e
  refine ⟨e', ?_⟩
  cases q : H b with
  | none => rfl
  | some x =>
    have hm : b ∈ trk h H := List.mem_filter.mpr ⟨List.mem_range.mpr (Heap.lt_size e'), by simp [q]⟩
    have z : (hidT h H).get? b = none := PySem.W.hideAll_none (trk h H) hm
    rw [z] at e; cases e

def allNews (g h : Heap) (L : Addr) : List (Addr × Obj) := (List.range h.objs.size).filterMap fun a => if a = L ∨ (g.get? a).isSome = true then none else (h.get? a).map fun o => (a, o)
def rest (g h : Heap) (L d : Addr) : List (Addr × Obj) := (allNews g h L).filter fun p => decide (p.1 ≠ d)
end L2

namespace L2
open PySem PySem.Spec PyProof.Rows

/-- the module's facts, over the base: the heap at the law's entry without what is tracked there -/
structure Mod (K : PySem.W.Frag) (mg : Str → Option Value) (base : Heap) : Prop where
  kin : K.In base
  glob : base.Ns mainGlobals mg
  blt : ∃ mb, base.Ns builtinsNs mb ∧ ∀ x : Str, x ≠ "__name__" → mb x = bootBuiltins x
  nolimit : base.NoLimit

/-- the context: a def's body (or a comprehension's block) running. base: fixed through the whole law; s₀, H₀: the entry; outer: the frames whose slots others may change (a def's callers); stack: all frames that run;
   ex: iterators that were made ahead of the entry and are walked here (a comprehension's); fn: the names whose cells were made at the entry (a def: all; a comprehension's block: its own); calm: not within an except suite; pn: pins that every state bears; xe: what is wanted of an exception that leaves the code -/
structure Cx where
  prog : Program
  w : World
  K : PySem.W.Frag
  mg : Str → Option Value
  base : Heap
  A : Around
  N : List Str
  s₀ : Shared
  H₀ : Hp
  env : Env
  outer : List Env
  stack : List Env
  ex : List Addr
  fn : Str → Bool
  calm : Bool
  pn : List (Addr × Obj)
  xe : Value → Shared → Prop
/-- the callers' frames -/
def frs (l : List Env) : List Addr := l.filterMap (·.frame)
abbrev Cx.fs (X : Cx) : List Addr := frs X.outer

def Vis (sc : Scope) (x : Str) : Prop := sc.names.lookup x = some .local ∨ sc.names.lookup x = some .cell ∨ sc.names.lookup x = some .free
def Loc (sc : Scope) (x : Str) : Prop := sc.names.lookup x = some .local ∨ sc.names.lookup x = some .cell
def Look (env : Env) (h : Heap) (m : Str → Option Value) (x : Str) (u : Value) : Prop :=
  (env.kindOf x = some .local ∧ m x = some u) ∨ ((env.kindOf x = some .cell ∨ env.kindOf x = some .free) ∧ ∃ c, env.cells.lookup x = some c ∧ h.IsCell c (some u))

structure Cx.Ok (X : Cx) : Prop where
  mod : Mod X.K X.mg X.base
  kind : X.env.scope.kind = .function
  glob : X.env.globals = mainGlobals
  blt : X.env.builtins = builtinsNs
  above : X.s₀.heap.objs.size ≤ X.env.locals
  inj : ∀ x y c, X.env.cells.lookup x = some c → X.env.cells.lookup y = some c → x = y
  has : ∀ x, (X.env.kindOf x = some .cell ∨ X.env.kindOf x = some .free) → ∃ c, X.env.cells.lookup x = some c
  cab : ∀ x c, X.fn x = true → X.env.cells.lookup x = some c → X.s₀.heap.objs.size ≤ c
  hd : X.calm = true → X.A.handled = none
  frames : X.A.frames = some X.stack
  stk : X.stack = X.outer ∨ (X.stack = X.env :: X.outer ∧ X.env.frame = some X.env.locals)
  exf : ∀ b ∈ X.ex, b ≠ X.env.locals ∧ ∀ x c, X.env.cells.lookup x = some c → c ≠ b
  bs : ∀ b o, X.base.get? b = some o → X.s₀.heap.get? b = some o ∧ X.H₀ b = none
  bsz : X.base.objs.size ≤ X.s₀.heap.objs.size
  noex : ∀ b o, X.base.get? b = some o → b ∉ X.ex
  exfs : ∀ b ∈ X.ex, b ∉ X.fs
  funs : X.s₀.heap.FunFrames X.base X.outer
  frf : ∀ b ∈ X.fs, X.H₀ b = none

structure Inv (X : Cx) (pins : List (Addr × Obj)) (σ : List (Option V)) (H : Hp) (s : Shared) : Prop where
  ok : X.Ok
  os : s.os = X.s₀.os
  bare : AllBare s.gens
  base : Un X.fs X.ex X.H₀ H X.s₀.heap s.heap
  loc : ∃ m, s.heap.Ns X.env.locals m ∧ ∀ (i : Nat) (x : Str) (v : V), X.N[i]? = some x → σ[i]? = some (some v) → Vis X.env.scope x → ∃ u, RelV v u ∧ Look X.env s.heap m x u
  cell : ∀ x c, X.env.cells.lookup x = some c → ∃ v, s.heap.IsCell c v
  free : H X.env.locals = none
  freeC : ∀ x c, X.env.cells.lookup x = some c → H c = none
  pin : ∀ p ∈ X.pn ++ pins, s.heap.get? p.1 = some p.2 ∧ H p.1 = none ∧ p.1 ≠ X.env.locals ∧ p.1 ∉ X.fs ∧ ∀ v, p.2.data ≠ .cell v
  hok : HOk X.prog X.w H s.heap
  len : σ.length = X.N.length

section
variable {X : Cx} {pins : List (Addr × Obj)} {σ : List (Option V)} {H H' : Hp} {s : Shared} {h' : Heap}

theorem Cx.Ok.nofr (ok : X.Ok) {b : Addr} {o : Obj} (e : X.base.get? b = some o) : b ∉ X.fs := fun hb => by
  have := (ok.funs.mem hb).1
  rw [e] at this; cases this
theorem Inv.bs (I : Inv X pins σ H s) : ∀ b o, X.base.get? b = some o → s.heap.get? b = some o ∧ H b = none := fun b o e =>
  ⟨I.base.keep b o (I.ok.bs b o e).1 (I.ok.bs b o e).2 (I.ok.nofr e) (I.ok.noex b o e), I.base.free b o (I.ok.bs b o e).1 (I.ok.bs b o e).2 (I.ok.noex b o e)⟩
theorem Inv.bk (I : Inv X pins σ H s) : ∀ b o, X.base.get? b = some o → s.heap.get? b = some o := fun b o e => (I.bs b o e).1
theorem Inv.mod (I : Inv X pins σ H s) : Mod X.K X.mg X.base := I.ok.mod
theorem Inv.kIn (I : Inv X pins σ H s) : X.K.In s.heap := I.ok.mod.kin.keeps I.bk
theorem Inv.nolimit (I : Inv X pins σ H s) : s.heap.NoLimit := I.ok.mod.nolimit.keeps I.bk
/-- the frame over the base: for OpenK's rules (K.In X.base is I.mod.kin) -/
theorem Inv.fr (I : Inv X pins σ H s) : ∃ m, Fr X.base X.env.locals s.heap m :=
  let ⟨m, hn, _⟩ := I.loc
  ⟨m, hn, I.bk, Nat.le_trans I.ok.bsz I.ok.above⟩
theorem Inv.lt (I : Inv X pins σ H s) : X.env.locals < s.heap.objs.size := let ⟨_, hn, _⟩ := I.loc; hn.lt
theorem Inv.sz (I : Inv X pins σ H s) : X.s₀.heap.objs.size ≤ s.heap.objs.size := Nat.le_trans I.ok.above (Nat.le_of_lt I.lt)
theorem Inv.nofs (I : Inv X pins σ H s) {a : Addr} (h : s.heap.objs.size ≤ a) : a ∉ X.fs := fun hb => by
  obtain ⟨_, o, ho, _⟩ := I.ok.funs.mem hb
  exact absurd (Nat.lt_of_lt_of_le (Heap.lt_size ho) (Nat.le_trans I.sz h)) (Nat.lt_irrefl _)
theorem Inv.cne (I : Inv X pins σ H s) : ∀ x c, X.env.cells.lookup x = some c → c ≠ X.env.locals := fun x c e z => by
  obtain ⟨v, o, ho, hd⟩ := I.cell x c e
  obtain ⟨m, ⟨o', es, ep, ho', hd', _⟩, _⟩ := I.loc
  rw [z, ho'] at ho; cases ho; rw [hd'] at hd; cases hd
theorem Inv.funs (I : Inv X pins σ H s) : s.heap.FunFrames X.base X.outer := by
  have all : ∀ (l : List Env), (∀ b ∈ frs l, b ∈ X.fs) → X.s₀.heap.FunFrames X.base l → s.heap.FunFrames X.base l := by
    intro l
    induction l with
    | nil => intro _ _; trivial
    | cons env r ih =>
      intro hs hl
      obtain ⟨hk, ⟨L, o, hf, hn, ho, hd⟩, hr⟩ := hl
      have hL : L ∈ X.fs := hs L (by unfold frs; rw [List.filterMap_cons, hf]; exact List.mem_cons_self)
      obtain ⟨sl, e⟩ := I.base.slot L o ho (I.ok.frf L hL) hL fun z => I.ok.exfs L z hL
      exact ⟨hk, ⟨L, _, hf, hn, e, hd⟩, ih (fun b hb => hs b (by unfold frs; rw [List.filterMap_cons, hf]; exact List.mem_cons_of_mem _ hb)) hr⟩
  exact all X.outer (fun _ hb => hb) I.ok.funs

/-- the frames that run, for a call -/
theorem Inv.stack (I : Inv X pins σ H s) : s.heap.FunFrames X.base X.stack := by
  rcases I.ok.stk with e | ⟨e, hf⟩
  · rw [e]; exact I.funs
  · rw [e]
    obtain ⟨m, hn, _⟩ := I.loc
    refine .cons (by rw [I.ok.kind]; decide) hf hn ?_ I.funs
    exact Heap.get?_none_of_le (Nat.le_trans I.ok.bsz I.ok.above)
theorem Inv.stkSub (I : Inv X pins σ H s) : ∀ b ∈ frs X.stack, b ∈ X.env.locals :: X.fs := fun b hb => by
  rcases I.ok.stk with e | ⟨e, hf⟩
  · rw [e] at hb; exact List.mem_cons_of_mem _ hb
  · rw [e] at hb
    unfold frs at hb
    rw [List.filterMap_cons, hf] at hb
    exact hb
theorem Inv.stkFree (I : Inv X pins σ H s) : ∀ b ∈ frs X.stack, H b = none := fun b hb => by
  rcases List.mem_cons.mp (I.stkSub b hb) with e | hb
  · rw [e]; exact I.free
  · obtain ⟨_, o, ho, _⟩ := I.ok.funs.mem hb
    exact I.base.free b o ho (I.ok.frf b hb) fun z => I.ok.exfs b z hb

/-- THE STEP: the untracked objects but the frame and the records at ch are kept (the callers' frames up to slots), the frame's map is kept, the new abstract heap is held -/
theorem Inv.step {g' : Array GenState} {t' : Nat} {d' : Drawn} {ch : List Addr} (I : Inv X pins σ H s)
    (hch : ∀ b ∈ ch, (b ∈ X.ex ∨ X.s₀.heap.objs.size ≤ b) ∧ b ≠ X.env.locals ∧ (∀ x c, X.env.cells.lookup x = some c → c ≠ b) ∧ ∀ p ∈ X.pn ++ pins, p.1 ≠ b)
    (keep : ∀ b o, b ≠ X.env.locals → b ∉ X.fs → b ∉ ch → s.heap.get? b = some o → H b = none → h'.get? b = some o)
    (slot : ∀ b o, b ≠ X.env.locals → b ∈ X.fs → b ∉ ch → s.heap.get? b = some o → H b = none → ∃ sl, h'.get? b = some { o with slots := sl }) (free : ∀ b o, b ∉ ch → s.heap.get? b = some o → H b = none → H' b = none)
    (there : ∀ b o, b ∉ ch → s.heap.get? b = some o → ∃ o', h'.get? b = some o')
    (tups : ∀ b xs, H b = some (.tup xs) → H' b = some (.tup xs)) (frzs : ∀ b o u, H b = some (.frz o u) → H' b = some (.frz o u)) (tbls : ∀ b ps, H b = some (.tbl ps) → ∃ more, H' b = some (.tbl (ps ++ more)))
    (ns : ∀ m, s.heap.Ns X.env.locals m → h'.Ns X.env.locals m) (hok : HOk X.prog X.w H' h') (hg : AllBare g') :
    Inv X pins σ H' { s with heap := h', gens := g', drawn := d', toks := t' } := by
  have neL : ∀ b o, X.s₀.heap.get? b = some o → b ≠ X.env.locals := fun b o e => Nat.ne_of_lt (Nat.lt_of_lt_of_le (Heap.lt_size e) I.ok.above)
  have neC : ∀ b o, X.s₀.heap.get? b = some o → b ∉ X.ex → b ∉ ch := fun b o e hx hb => by
    rcases (hch b hb).1 with z | z
    · exact hx z
    · exact absurd (Nat.lt_of_lt_of_le (Heap.lt_size e) z) (Nat.lt_irrefl _)
  have cellK : ∀ x c, X.env.cells.lookup x = some c → ∀ v, s.heap.IsCell c v → h'.IsCell c v := fun x c e v ⟨o, ho, hd⟩ => by
    have nch : c ∉ ch := fun z => (hch c z).2.2.1 x c e rfl
    by_cases hc : c ∈ X.fs
    · obtain ⟨sl, q⟩ := slot c o (I.cne x c e) hc nch ho (I.freeC x c e)
      exact ⟨_, q, hd⟩
    · exact ⟨o, keep c o (I.cne x c e) hc nch ho (I.freeC x c e), hd⟩
  refine ⟨I.ok, I.os, hg, ⟨fun b o e n hb hx => ?_, fun b o e n hb hx => ?_, fun b o e n hx => ?_, fun b o e hx => ?_, fun b xs e => tups b xs (I.base.tups b xs e), fun b o xs e => frzs b o xs (I.base.frzs b o xs e), fun b ps e => ?_⟩, ?_, fun x c e => ?_, ?_, fun x c e => ?_, fun p hp => ?_, hok, I.len⟩
  · exact keep b o (neL b o e) hb (neC b o e hx) (I.base.keep b o e n hb hx) (I.base.free b o e n hx)
  · obtain ⟨sl, e1⟩ := I.base.slot b o e n hb hx
    obtain ⟨sl', e2⟩ := slot b _ (neL b o e) hb (neC b o e hx) e1 (I.base.free b o e n hx)
    exact ⟨sl', e2⟩
  · obtain ⟨o', e1⟩ := I.base.there b o e hx
    exact free b o' (neC b o e hx) e1 (I.base.free b o e n hx)
  · obtain ⟨o', e1⟩ := I.base.there b o e hx
    exact there b o' (neC b o e hx) e1
  · obtain ⟨m1, e1⟩ := I.base.tbls b ps e
    obtain ⟨m2, e2⟩ := tbls b _ e1
    exact ⟨m1 ++ m2, by rw [e2, Array.append_assoc]⟩
  · obtain ⟨m, hn, hl⟩ := I.loc
    refine ⟨m, ns m hn, fun i x v e1 e2 e3 => ?_⟩
    obtain ⟨u, r, l⟩ := hl i x v e1 e2 e3
    refine ⟨u, r, ?_⟩
    rcases l with l | ⟨k, c, e, z⟩
    · exact .inl l
    · exact .inr ⟨k, c, e, cellK x c e _ z⟩
  · obtain ⟨v, z⟩ := I.cell x c e
    exact ⟨v, cellK x c e v z⟩
  · obtain ⟨m, ⟨o, _, _, ho, _⟩, _⟩ := I.loc
    exact free _ o (fun z => (hch _ z).2.1 rfl) ho I.free
  · obtain ⟨v, o, ho, hd⟩ := I.cell x c e
    exact free c o (fun z => (hch c z).2.2.1 x c e rfl) ho (I.freeC x c e)
  · obtain ⟨e, n, ne, nf, d⟩ := I.pin p hp
    have nch : p.1 ∉ ch := fun z => (hch p.1 z).2.2.2 p hp rfl
    exact ⟨keep p.1 p.2 ne nf nch e n, free p.1 p.2 nch e n, ne, nf, d⟩
/-- .. where the frame's own object is kept too -/
theorem Inv.un {t' : Nat} (I : Inv X pins σ H s) (u : Un X.fs [] H H' s.heap h') (hok : HOk X.prog X.w H' h') : Inv X pins σ H' { s with heap := h', toks := t' } := by
  obtain ⟨m, ⟨o, es, ep, ho, r⟩, _⟩ := id I.loc
  obtain ⟨sl, hL⟩ := u.any ho I.free (by simp)
  exact I.step (g' := s.gens) (d' := s.drawn) (ch := []) (fun _ z => nomatch z) (fun b o _ hb _ e n => u.keep b o e n hb (by simp)) (fun b o _ hb _ e n => u.slot b o e n hb (by simp)) (fun b o _ e n => u.free b o e n (by simp)) (fun b o _ e => u.there b o e (by simp)) u.tups u.frzs u.tbls (fun m' hm => by
    obtain ⟨o', es', ep', ho', r'⟩ := hm
    rw [ho] at ho'; cases ho'
    exact ⟨_, es', ep', hL, r'⟩) hok I.bare
/-- behind a call (or a comprehension's block): the slots of this frame may have changed too, the records at ch may have turned -/
theorem Inv.call {g' : Array GenState} {t' : Nat} {d' : Drawn} {ch : List Addr} (I : Inv X pins σ H s) (u : Un (frs X.stack) ch H H' s.heap h') (hok : HOk X.prog X.w H' h') (hg : AllBare g')
    (hch : ∀ b ∈ ch, (b ∈ X.ex ∨ X.s₀.heap.objs.size ≤ b) ∧ b ≠ X.env.locals ∧ (∀ x c, X.env.cells.lookup x = some c → c ≠ b) ∧ ∀ p ∈ X.pn ++ pins, p.1 ≠ b) :
    Inv X pins σ H' { s with heap := h', gens := g', drawn := d', toks := t' } := by
  obtain ⟨m, ⟨o, es, ep, ho, r⟩, _⟩ := id I.loc
  obtain ⟨sl, hL⟩ := u.any ho I.free fun z => (hch _ z).2.1 rfl
  exact I.step (ch := ch) hch (fun b o hL hb hc e n => u.keep b o e n (fun z => (List.mem_cons.mp (I.stkSub b z)).elim hL hb) hc) (fun b o _ _ hc e n => u.any e n hc) (fun b o hc e n => u.free b o e n hc) (fun b o hc e => u.there b o e hc) u.tups u.frzs u.tbls (fun m' hm => by
    obtain ⟨o', es', ep', ho', r'⟩ := hm
    rw [ho] at ho'; cases ho'
    exact ⟨_, es', ep', hL, r'⟩) hok hg
/-- an untracked record of ours (an iterator) has turned -/
theorem Inv.turned {t' : Nat} {it : Addr} (I : Inv X pins σ H s) (k : ∀ b o, b ≠ it → s.heap.get? b = some o → h'.get? b = some o) (hn : H it = none) (hL : it ≠ X.env.locals)
    (h1 : it ∈ X.ex ∨ X.s₀.heap.objs.size ≤ it) (h2 : ∀ x c, X.env.cells.lookup x = some c → c ≠ it) (h3 : ∀ p ∈ X.pn ++ pins, p.1 ≠ it) : Inv X pins σ H { s with heap := h', toks := t' } := by
  have nit : ∀ b u, H b = some u → b ≠ it := fun b u e z => by rw [z, hn] at e; cases e
  refine I.step (g' := s.gens) (d' := s.drawn) (ch := [it]) (fun b hb => ?_) (fun b o _ _ hc e _ => k b o (fun z => hc (by simp [z])) e) (fun b o _ _ hc e _ => ⟨o.slots, k b o (fun z => hc (by simp [z])) e⟩) (fun _ _ _ _ n => n)
    (fun b o hc e => ⟨o, k b o (fun z => hc (by simp [z])) e⟩) (fun _ _ e => e) (fun _ _ _ e => e) (fun b ps e => ⟨#[], by rw [e]; simp⟩) (fun m hm => ?_) (fun b u e => ?_) I.bare
  · have e : b = it := by simpa using hb
    subst e
    exact ⟨h1, hL, h2, h3⟩
  · obtain ⟨o, es, ep, ho, r⟩ := hm
    exact ⟨o, es, ep, k _ o (Ne.symm hL) ho, r⟩
  · refine (I.hok b u e).stay (fun c v hc q => k c v ?_ q) (fun _ q => q) fun _ _ q => q
    rcases hc with z | z
    · rw [z]; exact nit b u e
    · exact nit c _ z
theorem Inv.tok (I : Inv X pins σ H s) (t : Nat) : Inv X pins σ H { s with toks := t } := I.un (h' := s.heap) (t' := t) Un.refl I.hok
/-- all objects kept -/
theorem Inv.kept {t' : Nat} (I : Inv X pins σ H s) (k : ∀ b u, s.heap.get? b = some u → h'.get? b = some u) : Inv X pins σ H { s with heap := h', toks := t' } := I.un (Un.kept k) (I.hok.kept k)
/-- a new object laid and tracked -/
theorem Inv.laid {a : Addr} {o : HO} {t' : Nat} (I : Inv X pins σ H s) (k : ∀ b u, s.heap.get? b = some u → h'.get? b = some u) (hp : s.heap.objs.size ≤ a) (new : ObjOk X.prog X.w (upd H a o) h' a o) :
    Inv X pins σ (upd H a o) { s with heap := h', toks := t' } := I.un (Un.laid k hp (I.hok.fresh hp)) (I.hok.laid k hp new)
/-- an object written -/
theorem Inv.write {x e : Addr} {o : HO} {t' : Nat} (I : Inv X pins σ H s) (mu : Mut (H x)) (he : e = x ∨ H e = some (.own x)) (k : ∀ b u, b ≠ e → s.heap.get? b = some u → h'.get? b = some u) (heo : ∃ u, h'.get? e = some u)
    (new : ObjOk X.prog X.w (upd H x o) h' x o) : Inv X pins σ (upd H x o) { s with heap := h', toks := t' } := I.un (Un.write mu he k heo) (I.hok.write mu he k heo new)
theorem Inv.pins_of {pins' : List (Addr × Obj)} (I : Inv X pins σ H s) (h : ∀ p ∈ pins', s.heap.get? p.1 = some p.2 ∧ H p.1 = none ∧ p.1 ≠ X.env.locals ∧ p.1 ∉ X.fs ∧ ∀ v, p.2.data ≠ .cell v) : Inv X pins' σ H s :=
  ⟨I.ok, I.os, I.bare, I.base, I.loc, I.cell, I.free, I.freeC, fun p hp => (List.mem_append.mp hp).elim (fun z => I.pin p (List.mem_append_left _ z)) (h p), I.hok, I.len⟩

theorem nodup_ix {N : List Str} (hN : N.Nodup) {i j : Nat} {x : Str} (a : N[i]? = some x) (b : N[j]? = some x) : i = j := by
  obtain ⟨h1, e1⟩ := List.getElem?_eq_some_iff.mp a
  obtain ⟨h2, e2⟩ := List.getElem?_eq_some_iff.mp b
  exact (List.getElem_inj hN).mp (e1.trans e2.symm)

/-- a name is stored; what changed -/
theorem store_ok2 {M : Model} {A : Around} {E : Value → Shared → Prop} {i : Nat} {x : Str} {v : V} {u : Value} {Q : Unit → Shared → Prop} (I : Inv X pins σ H s) (hN : X.N.Nodup) (hi : X.N[i]? = some x) (hx : Loc X.env.scope x) (r : RelV v u)
    (h : ∀ s', Inv X pins (σ.set i (some v)) H s' → (∃ a, Heap.SameBut a s.heap s'.heap ∧ (a = X.env.locals ∨ X.env.cells.lookup x = some a)) → Q () s') (hf : X.fn x = true ∨ X.env.scope.names.lookup x = some .local := by first | exact .inl rfl | exact .inr rfl | assumption) : wpAny M A (storeName X.env x u) Q E s := by
  obtain ⟨m, hn, hl⟩ := id I.loc
  have hcls : (X.env.scope.kind == .class || (X.env.scope.kind == .module && X.env.locals != X.env.globals)) = false := by rw [I.ok.kind]; rfl
  have hiσ : i < σ.length := by rw [I.len]; exact (List.getElem?_eq_some_iff.mp hi).1
  have cne := I.cne
  have tracked : ∀ {a : Addr} {h' : Heap}, (∃ o, s.heap.get? a = some o ∧ H a = none) → Heap.SameBut a s.heap h' → HOk X.prog X.w H h' := fun {a h'} ha hs b ob e => by
    obtain ⟨_, _, hfree⟩ := ha
    refine (I.hok b ob e).stay (fun c w' hc q => (hs.2 c ?_).trans q) (fun _ q => q) fun _ _ q => q
    rintro rfl
    rcases hc with rfl | hc
    · rw [hfree] at e; cases e
    · rw [hfree] at hc; cases hc
  rcases hx with hk | hk
  · refine wpAny_storeName_local hk hn (fun h' hn' hs => ?_) hcls
    obtain ⟨oL, _, _, hoL, _⟩ := id hn
    refine h _ ⟨I.ok, I.os, I.bare, ⟨fun b o e n hb hx => ?_, fun b o e n hb hx => ?_, I.base.free, fun b o e hx => ?_, I.base.tups, I.base.frzs, I.base.tbls⟩, ⟨_, hn', fun j y v' e1 e2 e3 => ?_⟩, fun y c e => ?_, I.free, I.freeC, fun p hp => ?_, tracked ⟨oL, hoL, I.free⟩ hs, by simpa using I.len⟩ ⟨_, hs, .inl rfl⟩
    · exact (hs.2 b (Nat.ne_of_lt (Nat.lt_of_lt_of_le (Heap.lt_size e) I.ok.above))).trans (I.base.keep b o e n hb hx)
    · obtain ⟨sl, e1⟩ := I.base.slot b o e n hb hx
      exact ⟨sl, (hs.2 b (Nat.ne_of_lt (Nat.lt_of_lt_of_le (Heap.lt_size e) I.ok.above))).trans e1⟩
    · obtain ⟨o', e1⟩ := I.base.there b o e hx
      exact ⟨o', (hs.2 b (Nat.ne_of_lt (Nat.lt_of_lt_of_le (Heap.lt_size e) I.ok.above))).trans e1⟩
    · by_cases hj : j = i
      · subst hj
        rw [hi] at e1; cases e1
        rw [List.getElem?_set_self hiσ] at e2
        cases e2
        exact ⟨u, r, .inl ⟨hk, by simp⟩⟩
      · rw [List.getElem?_set_ne (Ne.symm hj)] at e2
        obtain ⟨u', r', q⟩ := hl j y v' e1 e2 e3
        refine ⟨u', r', ?_⟩
        rcases q with ⟨k, e⟩ | ⟨k, c, e, z⟩
        · refine .inl ⟨k, ?_⟩
          have : y ≠ x := fun e => hj (nodup_ix hN e1 (e ▸ hi))
          simp [this, e]
        · exact .inr ⟨k, c, e, z.sameBut hs (cne y c e)⟩
    · obtain ⟨w', z⟩ := I.cell y c e
      exact ⟨w', z.sameBut hs (cne y c e)⟩
    · obtain ⟨e, n, ne, nf, d⟩ := I.pin p hp
      exact ⟨(hs.2 p.1 ne).trans e, n, ne, nf, d⟩
  · have hfn : X.fn x = true := by
      rcases hf with z | z
      · exact z
      · rw [z] at hk; cases hk
    obtain ⟨c, hc⟩ := I.ok.has x (.inl hk)
    obtain ⟨w', z⟩ := I.cell x c hc
    refine wpAny_storeName_cell I.ok.kind hk hc z (fun h' hc' hs => ?_)
    obtain ⟨oc, hoc, hocd⟩ := id z
    refine h { s with heap := h' } ⟨I.ok, I.os, I.bare, ⟨fun b o e n hb hx => ?_, fun b o e n hb hx => ?_, I.base.free, fun b o e hx => ?_, I.base.tups, I.base.frzs, I.base.tbls⟩, ⟨m, hn.sameBut hs (Ne.symm (cne x c hc)), fun j y v' e1 e2 e3 => ?_⟩, fun y c' e => ?_, I.free, I.freeC, fun p hp => ?_, tracked ⟨oc, hoc, I.freeC x c hc⟩ hs, by simpa using I.len⟩ ⟨c, hs, .inr hc⟩
    · exact (hs.2 b (Nat.ne_of_lt (Nat.lt_of_lt_of_le (Heap.lt_size e) (I.ok.cab x c hfn hc)))).trans (I.base.keep b o e n hb hx)
    · obtain ⟨sl, e1⟩ := I.base.slot b o e n hb hx
      exact ⟨sl, (hs.2 b (Nat.ne_of_lt (Nat.lt_of_lt_of_le (Heap.lt_size e) (I.ok.cab x c hfn hc)))).trans e1⟩
    · obtain ⟨o', e1⟩ := I.base.there b o e hx
      exact ⟨o', (hs.2 b (Nat.ne_of_lt (Nat.lt_of_lt_of_le (Heap.lt_size e) (I.ok.cab x c hfn hc)))).trans e1⟩
    · by_cases hj : j = i
      · subst hj
        rw [hi] at e1; cases e1
        rw [List.getElem?_set_self hiσ] at e2
        cases e2
        exact ⟨u, r, .inr ⟨.inl hk, c, hc, hc'⟩⟩
      · rw [List.getElem?_set_ne (Ne.symm hj)] at e2
        obtain ⟨u', r', q⟩ := hl j y v' e1 e2 e3
        refine ⟨u', r', ?_⟩
        rcases q with q | ⟨k, c', e, z'⟩
        · exact .inl q
        · refine .inr ⟨k, c', e, z'.sameBut hs ?_⟩
          rintro rfl
          exact hj (nodup_ix hN e1 (I.ok.inj _ _ _ e hc ▸ hi))
    · by_cases hcc : c' = c
      · subst hcc; exact ⟨_, hc'⟩
      · obtain ⟨w2, z2⟩ := I.cell y c' e
        exact ⟨w2, z2.sameBut hs hcc⟩
    · obtain ⟨e, n, ne, nf, d⟩ := I.pin p hp
      refine ⟨(hs.2 p.1 ?_).trans e, n, ne, nf, d⟩
      intro q
      rw [q, hoc] at e
      have q' : oc = p.2 := Option.some.inj e
      exact d w' (by rw [← q']; exact hocd)
theorem store_ok {M : Model} {A : Around} {E : Value → Shared → Prop} {i : Nat} {x : Str} {v : V} {u : Value} {Q : Unit → Shared → Prop} (I : Inv X pins σ H s) (hN : X.N.Nodup) (hi : X.N[i]? = some x) (hx : Loc X.env.scope x) (r : RelV v u)
    (h : ∀ s', Inv X pins (σ.set i (some v)) H s' → Q () s') (hf : X.fn x = true ∨ X.env.scope.names.lookup x = some .local := by first | exact .inl rfl | exact .inr rfl | assumption) : wpAny M A (storeName X.env x u) Q E s :=
  store_ok2 I hN hi hx r (fun s' I' _ => h s' I') hf
/-- behind a call or a block, the state as it is -/
theorem Inv.call' {s' : Shared} {ch : List Addr} (I : Inv X pins σ H s) (ho : s'.os = s.os) (u : Un (frs X.stack) ch H H' s.heap s'.heap) (hok : HOk X.prog X.w H' s'.heap) (hg : AllBare s'.gens)
    (hch : ∀ b ∈ ch, (b ∈ X.ex ∨ X.s₀.heap.objs.size ≤ b) ∧ b ≠ X.env.locals ∧ (∀ x c, X.env.cells.lookup x = some c → c ≠ b) ∧ ∀ p ∈ X.pn ++ pins, p.1 ≠ b) : Inv X pins σ H' s' := by
  obtain ⟨h', g', d', t', o'⟩ := s'
  have e : o' = s.os := ho
  subst e
  exact I.call (g' := g') (t' := t') (d' := d') u hok hg hch
end

/-- an exception: its class, its own dict's address (where it has one), the abstract heap behind it -/
abbrev XK := Value → Option Addr → Hp → Prop
abbrev St := List (Option V)
abbrev VK := V → Hp → Prop
/-- an expression's reading; a test's; an argument list's -/
abbrev TE := St → Hp → VK → Prop
abbrev TT := St → Hp → (Bool → Hp → Prop) → Prop
abbrev TA := St → Hp → (List V → Hp → Prop) → Prop
/-- what is wanted behind a statement -/
structure Ends where
  nx : St → Hp → Prop
  rt : VK
  bk : St → Hp → Prop := fun _ _ => False
  ct : St → Hp → Prop := fun _ _ => False
abbrev TS := Ends → St → Hp → Prop

def EP (X : Cx) (pins : List (Addr × Obj)) (σ : St) (Q : VK) (u : Value) (s' : Shared) : Prop := ∃ v H', Inv X pins σ H' s' ∧ RelV v u ∧ Q v H'
def TP (X : Cx) (pins : List (Addr × Obj)) (σ : St) (Q : Bool → Hp → Prop) (b : Bool) (s' : Shared) : Prop := ∃ H', Inv X pins σ H' s' ∧ Q b H'
def AP (X : Cx) (pins : List (Addr × Obj)) (σ : St) (Q : List V → Hp → Prop) (us : List Value) (s' : Shared) : Prop := ∃ vs H', Inv X pins σ H' s' ∧ Vals vs us ∧ Q vs H'
def SP (X : Cx) (pins : List (Addr × Obj)) (D : Ends) (f : Flow) (s' : Shared) : Prop :=
  match f with
  | .next => ∃ σ' H', Inv X pins σ' H' s' ∧ D.nx σ' H'
  | .brk => ∃ σ' H', Inv X pins σ' H' s' ∧ D.bk σ' H'
  | .cont => ∃ σ' H', Inv X pins σ' H' s' ∧ D.ct σ' H'
  | .ret u => ∃ v σ' H', Inv X pins σ' H' s' ∧ RelV v u ∧ D.rt v H'

def PE (X : Cx) (e : Expr) (t : TE) : Prop :=
  ∀ (pins : List (Addr × Obj)) (s : Shared) (σ : St) (H : Hp) (Q : VK), Inv X pins σ H s → t σ H Q → wpAny (model X.prog X.w) X.A (eval e X.env) (EP X pins σ Q) X.xe s
def PT (X : Cx) (e : Expr) (t : TT) : Prop :=
  ∀ (pins : List (Addr × Obj)) (s : Shared) (σ : St) (H : Hp) (Q : Bool → Hp → Prop), Inv X pins σ H s → t σ H Q → wpAny (model X.prog X.w) X.A (isTrue e X.env (eval e X.env)) (TP X pins σ Q) X.xe s
/-- a test whatever its 'whole' is (and, or) -/
def PW (X : Cx) (e : Expr) (t : TT) : Prop :=
  ∀ (whole : Sem Value) (pins : List (Addr × Obj)) (s : Shared) (σ : St) (H : Hp) (Q : Bool → Hp → Prop), Inv X pins σ H s → t σ H Q → wpAny (model X.prog X.w) X.A (isTrue e X.env whole) (TP X pins σ Q) X.xe s
theorem PW.pt {X : Cx} {e : Expr} {t : TT} (h : PW X e t) : PT X e t := h _
/-- an argument list (no star), from the left -/
def PA (X : Cx) (es : List Expr) (t : TA) : Prop :=
  ∀ (pos : Pos) (pins : List (Addr × Obj)) (s : Shared) (σ : St) (H : Hp) (Q : List V → Hp → Prop), Inv X pins σ H s → t σ H Q → wpAny (model X.prog X.w) X.A (spliced (backTo pos (starEach es X.env))) (AP X pins σ Q) X.xe s
def PS (X : Cx) (st : Stmt) (t : TS) : Prop :=
  ∀ (pins : List (Addr × Obj)) (s : Shared) (σ : St) (H : Hp) (D : Ends), Inv X pins σ H s → t D σ H → wpAny (model X.prog X.w) X.A (exec st X.env) (SP X pins D) X.xe s
def PSs (X : Cx) (st : List Stmt) (t : TS) : Prop :=
  ∀ (pins : List (Addr × Obj)) (s : Shared) (σ : St) (H : Hp) (D : Ends), Inv X pins σ H s → t D σ H → wpAny (model X.prog X.w) X.A (execs st X.env) (SP X pins D) X.xe s
/-- weaken the end -/
theorem thn {α : Type} {t : Sem α} {Q Q' : α → Shared → Prop} {M : Model} {A : Around} {E : Value → Shared → Prop} {s : Shared} (h : wpAny M A t Q E s) (hQ : ∀ a s, Q a s → Q' a s) : wpAny M A t Q' E s := wpAny_mono h hQ fun _ _ x => x
end L2

namespace L2
open PySem PySem.Spec PyProof.Rows
section
variable {X : Cx}

def tVar (i : Nat) : TE := fun σ H Q => ∃ v, σ[i]? = some (some v) ∧ Q v H
def tC (v : V) : TE := fun _ H Q => Q v H
theorem pe_var {i : Nat} {x : Str} {pos : Pos} (hN : X.N[i]? = some x) (hv : Vis X.env.scope x) (hd : (x == ("__debug__" : Str)) = false := by decide) (hcd : (x == ("__classdict__" : Str)) = false := by decide) : PE X (.Name x pos) (tVar i) := by
  intro pins s σ H Q I h
  obtain ⟨v, e, h⟩ := h
  obtain ⟨m, hn, hl⟩ := I.loc
  obtain ⟨u, r, l⟩ := hl i x v hN e hv
  have fin : EP X pins σ Q u s := ⟨v, H, I, r, h⟩
  rcases l with ⟨hk, hm⟩ | ⟨hk, c, hc, hcell⟩
  · exact wpAny_Name (wpAny_loadName_local I.ok.kind hk hn hm fin) hd
  · rcases hk with hk | hk
    · exact wpAny_Name (wpAny_loadName_cell I.ok.kind hk hc hcell fin) hd
    · exact wpAny_Name (wpAny_loadName_free I.ok.kind hk hc hcell fin hcd) hd
theorem pe_int {i j pos} : PE X (.Constant (.int i) j pos) (tC (.int i)) := fun _ _ _ H _ I h => wpAny_Constant_int ⟨.int i, H, I.tok _, ⟨_, rfl⟩, h⟩
theorem pe_bl {b j pos} : PE X (.Constant (.bool b) j pos) (tC (.bl b)) := fun _ _ _ H _ I h => Constant_bool ⟨.bl b, H, I, rfl, h⟩
theorem pe_str {x j pos} : PE X (.Constant (.str x) j pos) (tC (.str x)) := fun _ _ _ H _ I h => Calls.Constant_str ⟨.str x, H, I.tok _, ⟨_, rfl⟩, h⟩

/-- a global name of the def -/
def Gl (X : Cx) (x : Str) : Prop := X.env.kindOf x = some .globalImplicit
theorem ld_glob {E : Value → Shared → Prop} {pins : List (Addr × Obj)} {s : Shared} {σ : St} {H : Hp} {x : Str} {u : Value} {pos : Pos} {Q : Value → Shared → Prop} (I : Inv X pins σ H s) (hg : Gl X x) (hm : X.mg x = some u) (h : Q u s)
    (hd : (x == ("__debug__" : Str)) = false := by decide) : wpAny (model X.prog X.w) X.A (eval (.Name x pos) X.env) Q E s :=
  Calls.Name_function_global I.ok.kind hg (Calls.loadGlobal_global (by rw [I.ok.glob]; exact I.mod.glob.keeps I.bk) hm h) hd
theorem ld_blt {E : Value → Shared → Prop} {pins : List (Addr × Obj)} {s : Shared} {σ : St} {H : Hp} {x : Str} {u : Value} {pos : Pos} {Q : Value → Shared → Prop} (I : Inv X pins σ H s) (hg : Gl X x) (hm : X.mg x = none) (hv : bootBuiltins x = some u) (h : Q u s)
    (hn : x ≠ "__name__" := by decide) (hd : (x == ("__debug__" : Str)) = false := by decide) : wpAny (model X.prog X.w) X.A (eval (.Name x pos) X.env) Q E s := by
  obtain ⟨mb, h1, h2⟩ := I.mod.blt
  exact Calls.Name_function_global I.ok.kind hg (Calls.loadGlobal_builtin (by rw [I.ok.glob]; exact I.mod.glob.keeps I.bk) hm (by rw [I.ok.blt]; exact h1.keeps I.bk) ((h2 x hn).trans hv) h) hd
/-- a module's constant, a class, a function, as a value -/
theorem pe_glob {x : Str} {v : V} {u : Value} {pos : Pos} (hg : Gl X x) (hm : X.mg x = some u) (r : RelV v u) (hd : (x == ("__debug__" : Str)) = false := by decide) : PE X (.Name x pos) (tC v) :=
  fun _ _ _ H _ I h => ld_glob I hg hm ⟨v, H, I, r, h⟩ hd
theorem pe_bltn {x : Str} {v : V} {u : Value} {pos : Pos} (hg : Gl X x) (hm : X.mg x = none) (hv : bootBuiltins x = some u) (r : RelV v u) (hn : x ≠ "__name__" := by decide) (hd : (x == ("__debug__" : Str)) = false := by decide) : PE X (.Name x pos) (tC v) :=
  fun _ _ _ H _ I h => ld_blt I hg hm hv ⟨v, H, I, r, h⟩ hn hd

variable {a b : Expr} {ta tb : TE} {pos : Pos}
/-- a comparison as a value, as a test -/
def tB (t : TE) : TT := fun σ H Q => t σ H fun x H1 => ∃ c, x = .bl c ∧ Q c H1
/-- an expression whose value is a bool, as a test -/
theorem pt_val {e : Expr} {t : TE} (h : PE X e t) (he : ∀ whole, isTrue e X.env whole = (do let v ← whole; standAt e.pos; holding [v] (truthy v)) := by intro _; rfl) : PT X e (tB t) := by
  intro pins s σ H Q I hw
  refine isTrue_plain (thn (h pins s σ H _ I hw) fun v s1 ⟨x, H1, I1, r1, q1⟩ => ?_) (he _)
  obtain ⟨d, rfl, q⟩ := q1
  cases r1
  exact wpAny_truthy_bool ⟨H1, I1, q⟩

variable {tA tB' : TT} {rest : List Expr}
def tAnd (t u : TT) : TT := fun σ H Q => t σ H fun c H1 => if c = true then u σ H1 Q else Q false H1
def tOr (t u : TT) : TT := fun σ H Q => t σ H fun c H1 => if c = true then Q true H1 else u σ H1 Q
def tNot (t : TT) : TT := fun σ H Q => t σ H fun c H1 => Q (!c) H1
theorem pw_and1 (ha : PT X a tA) : PW X (.BoolOp .And [a] pos) tA := by
  intro wh pins s σ H Q I h
  refine isTrue_and (thn (ha pins s σ H Q I h) fun c s1 e => ?_)
  cases c with
  | true => exact isTrue_and_nil e
  | false => exact e
theorem pw_or1 (ha : PT X a tA) : PW X (.BoolOp .Or [a] pos) tA := by
  intro wh pins s σ H Q I h
  refine isTrue_or (thn (ha pins s σ H Q I h) fun c s1 e => ?_)
  cases c with
  | false => exact isTrue_or_nil e
  | true => exact e
theorem pw_and (ha : PT X a tA) (hb : PW X (.BoolOp .And (b :: rest) pos) tB') : PW X (.BoolOp .And (a :: b :: rest) pos) (tAnd tA tB') := by
  intro wh pins s σ H Q I h
  refine isTrue_and (thn (ha pins s σ H _ I h) fun c s1 ⟨H1, I1, q1⟩ => ?_)
  cases c with
  | true => exact hb wh pins s1 σ H1 Q I1 q1
  | false => exact ⟨H1, I1, q1⟩
theorem pw_or (ha : PT X a tA) (hb : PW X (.BoolOp .Or (b :: rest) pos) tB') : PW X (.BoolOp .Or (a :: b :: rest) pos) (tOr tA tB') := by
  intro wh pins s σ H Q I h
  refine isTrue_or (thn (ha pins s σ H _ I h) fun c s1 ⟨H1, I1, q1⟩ => ?_)
  cases c with
  | true => exact ⟨H1, I1, q1⟩
  | false => exact hb wh pins s1 σ H1 Q I1 q1
theorem pt_not (ha : PT X a tA) : PT X (.UnaryOp .Not a pos) (tNot tA) := by
  intro pins s σ H Q I h
  exact isTrue_not (ha pins s σ H (fun c H1 => Q (!c) H1) I h)
/-- .. as values (bools) -/
def tAndV (ta tb : TE) : TE := fun σ H Q => ta σ H fun x H1 => ∃ c, x = .bl c ∧ if c = true then tb σ H1 Q else Q (.bl false) H1
def tOrV (ta tb : TE) : TE := fun σ H Q => ta σ H fun x H1 => ∃ c, x = .bl c ∧ if c = true then Q (.bl true) H1 else tb σ H1 Q
def tNotV (ta : TE) : TE := fun σ H Q => ta σ H fun x H1 => ∃ c, x = .bl c ∧ Q (.bl (!c)) H1
theorem pe_one {op} {t : TE} (h : PE X a t) : PE X (.BoolOp op [a] pos) t := fun pins s σ H Q I hw => BoolOp_one (h pins s σ H Q I hw)
theorem pe_and (ha : PE X a ta) (hb : PE X (.BoolOp .And (b :: rest) pos) tb) : PE X (.BoolOp .And (a :: b :: rest) pos) (tAndV ta tb) := by
  intro pins s σ H Q I h
  refine BoolOp_and (thn (ha pins s σ H _ I h) fun v s1 ⟨x, H1, I1, r1, q1⟩ => ?_)
  obtain ⟨c, rfl, q1⟩ := q1
  cases r1
  refine wpAny_truthy_bool ?_
  cases c with
  | true => exact hb pins s1 σ H1 Q I1 q1
  | false => exact ⟨.bl false, H1, I1, rfl, q1⟩
theorem pe_not (ha : PE X a ta) : PE X (.UnaryOp .Not a pos) (tNotV ta) := by
  intro pins s σ H Q I h
  refine UnaryOp_ (thn (ha pins s σ H _ I h) fun v s1 ⟨x, H1, I1, r1, q1⟩ => ?_)
  obtain ⟨c, rfl, q1⟩ := q1
  cases r1
  exact not_of (wpAny_truthy_bool ⟨.bl (!c), H1, I1, rfl, q1⟩)
/-- a if t else b -/
def tIf (t : TT) (ta tb : TE) : TE := fun σ H Q => t σ H fun c H1 => if c = true then ta σ H1 Q else tb σ H1 Q
end
end L2

namespace L2
open PySem PySem.Spec PyProof.Rows

def SqL (K : PySem.W.Frag) (H : Hp) (a : Addr) (xs : List V) : Prop :=
  Rd H a (.lst xs) ∨
    ∃ (o : Obj) (its : Array Value) (n : Nat), K.lookup a = some o ∧ o.cls = .type "list" ∧ o.dict = none ∧ o.data = .seq its n ∧ its.size ≤ sizeLine ∧ Vals xs its.toList
def SqT (K : PySem.W.Frag) (H : Hp) (a : Addr) (xs : List V) : Prop :=
  Rd H a (.tup xs) ∨
    ∃ (o : Obj) (its : Array Value) (n : Nat), K.lookup a = some o ∧ o.cls = .type "tuple" ∧ o.data = .seq its n ∧ its.size ≤ sizeLine ∧ Vals xs its.toList
def absV : Value → Option V
  | .none => some .non
  | .bool b => some (.bl b)
  | .int i _ => some (.int i)
  | .str x _ => some (.str x)
  | .bytes b _ => some (.byt b)
  | .float b _ => some (.flt b)
  | .ref a => some (.ref a)
  | .type n => some (.ty n)
  | _ => none
theorem RelV.abs {x : V} {u : Value} (r : RelV x u) : absV u = some x := by
  cases x with
  | non => cases r; rfl
  | bl _ => cases r; rfl
  | int _ => obtain ⟨t, rfl⟩ := r; rfl
  | str _ => obtain ⟨t, rfl⟩ := r; rfl
  | byt _ => obtain ⟨t, rfl⟩ := r; rfl
  | flt _ => obtain ⟨t, rfl⟩ := r; rfl
  | ref _ => cases r; rfl
  | ty _ => cases r; rfl
theorem RelV.inj {x y : V} {u : Value} (r : RelV x u) (q : RelV y u) : x = y := Option.some.inj (r.abs.symm.trans q.abs)
theorem Vals.inj : ∀ {xs ys : List V} {us : List Value}, Vals xs us → Vals ys us → xs = ys
  | _, _, _, .nil, .nil => rfl
  | _, _, _, .cons r t, .cons r' t' => by rw [r.inj r', Vals.inj t t']
section
variable {X : Cx} {pins : List (Addr × Obj)} {σ : St} {H : Hp} {s : Shared} {a : Addr} {xs ys : List V}
theorem SqL.of {K : PySem.W.Frag} (h : H a = some (.lst xs)) : SqL K H a xs := .inl (.inl h)
theorem SqT.of {K : PySem.W.Frag} (h : H a = some (.tup xs)) : SqT K H a xs := .inl (.inl h)
theorem Inv.list (I : Inv X pins σ H s) (h : SqL X.K H a xs) : ∃ its : List Value, Vals xs its ∧ PlainL s.heap a its.toArray ∧ xs.length ≤ sizeLine := by
  rcases h with h | ⟨o, its, n, hk, hc, hd, hs, hz, r⟩
  · obtain ⟨z, its, n, r, e⟩ := h.ok I.hok
    exact ⟨its, r, ⟨_, n, e, rfl, rfl, rfl⟩, z⟩
  · refine ⟨its.toList, r, ⟨o, n, I.kIn a o hk, hc, hd, by simpa using hs⟩, ?_⟩
    have e := r.length
    simp only [Array.length_toList] at e
    omega
theorem Inv.tuple (I : Inv X pins σ H s) (h : SqT X.K H a xs) : ∃ its : List Value, Vals xs its ∧ IsTup s.heap a its.toArray ∧ xs.length ≤ sizeLine := by
  rcases h with h | ⟨o, its, n, hk, hc, hs, hz, r⟩
  · obtain ⟨z, its, r, p⟩ := h.ok I.hok
    exact ⟨its, r, p, z⟩
  · refine ⟨its.toList, r, ⟨o, I.kIn a o hk, hc, n, by simpa using hs⟩, ?_⟩
    have e := r.length
    simp only [Array.length_toList] at e
    omega
theorem Inv.list_inj (I : Inv X pins σ H s) (h : SqL X.K H a xs) (h' : SqL X.K H a ys) : xs = ys := by
  obtain ⟨its, r, ⟨o, n, e, _, _, d⟩, _⟩ := I.list h
  obtain ⟨its', r', ⟨o', n', e', _, _, d'⟩, _⟩ := I.list h'
  rw [e] at e'; cases e'
  rw [d] at d'
  injection d' with d1 _
  have : its = its' := by simpa using congrArg Array.toList d1
  subst this
  exact r.inj r'
theorem Inv.tuple_inj (I : Inv X pins σ H s) (h : SqT X.K H a xs) (h' : SqT X.K H a ys) : xs = ys := by
  obtain ⟨its, r, ⟨o, e, _, n, d⟩, _⟩ := I.tuple h
  obtain ⟨its', r', ⟨o', e', _, n', d'⟩, _⟩ := I.tuple h'
  rw [e] at e'; cases e'
  rw [d] at d'
  injection d' with d1 _
  have : its = its' := by simpa using congrArg Array.toList d1
  subst this
  exact r.inj r'
end

abbrev Cx.wish (X : Cx) (E : Value → Shared → Prop) : Cx := { X with xe := E }
/-- no exception leaves -/
abbrev Cx.nox (X : Cx) : Cx := X.wish fun _ _ => False
theorem Cx.Ok.wish {X : Cx} (ok : X.Ok) (E : Value → Shared → Prop) : (X.wish E).Ok :=
  ⟨ok.mod, ok.kind, ok.glob, ok.blt, ok.above, ok.inj, ok.has, ok.cab, ok.hd, ok.frames, ok.stk, ok.exf, ok.bs, ok.bsz, ok.noex, ok.exfs, ok.funs, ok.frf⟩
theorem Cx.Ok.unwish {X : Cx} {E : Value → Shared → Prop} (ok : (X.wish E).Ok) : X.Ok :=
  ⟨ok.mod, ok.kind, ok.glob, ok.blt, ok.above, ok.inj, ok.has, ok.cab, ok.hd, ok.frames, ok.stk, ok.exf, ok.bs, ok.bsz, ok.noex, ok.exfs, ok.funs, ok.frf⟩
section
variable {X : Cx} {pins : List (Addr × Obj)} {σ : St} {H : Hp} {s : Shared} {E : Value → Shared → Prop}
theorem Inv.wish (I : Inv X pins σ H s) (E : Value → Shared → Prop) : Inv (X.wish E) pins σ H s := ⟨I.ok.wish E, I.os, I.bare, I.base, I.loc, I.cell, I.free, I.freeC, I.pin, I.hok, I.len⟩
theorem Inv.unwish (I : Inv (X.wish E) pins σ H s) : Inv X pins σ H s := ⟨I.ok.unwish, I.os, I.bare, I.base, I.loc, I.cell, I.free, I.freeC, I.pin, I.hok, I.len⟩
theorem SP.unwish {D : Ends} {f : Flow} {s' : Shared} (h : SP (X.wish E) pins D f s') : SP X pins D f s' := by
  cases f with
  | next => obtain ⟨σ', H', I, q⟩ := h; exact ⟨σ', H', I.unwish, q⟩
  | brk => obtain ⟨σ', H', I, q⟩ := h; exact ⟨σ', H', I.unwish, q⟩
  | cont => obtain ⟨σ', H', I, q⟩ := h; exact ⟨σ', H', I.unwish, q⟩
  | ret u => obtain ⟨v, σ', H', I, r, q⟩ := h; exact ⟨v, σ', H', I.unwish, r, q⟩
theorem PE.nox {e : Expr} {t : TE} (h : PE X.nox e t) : PE X e t := fun pins s σ H Q I hw =>
  wpAny_mono (h pins s σ H Q (I.wish _) hw) (fun _ _ ⟨v, H', I', r, q⟩ => ⟨v, H', I'.unwish, r, q⟩) fun _ _ z => False.elim z
theorem PT.nox {e : Expr} {t : TT} (h : PT X.nox e t) : PT X e t := fun pins s σ H Q I hw =>
  wpAny_mono (h pins s σ H Q (I.wish _) hw) (fun _ _ ⟨H', I', q⟩ => ⟨H', I'.unwish, q⟩) fun _ _ z => False.elim z
theorem PSs.nox {st : List Stmt} {t : TS} (h : PSs X.nox st t) : PSs X st t := fun pins s σ H D I hw =>
  wpAny_mono (h pins s σ H D (I.wish _) hw) (fun _ _ q => q.unwish) fun _ _ z => False.elim z
end

section
variable {X : Cx} {st : Stmt} {rest : List Stmt} {t u : TS} {e : Expr} {te : TE} {pos : Pos}
def tNext : TS := fun D σ H => D.nx σ H
def tSeq (t u : TS) : TS := fun D σ H => t { D with nx := u D } σ H
theorem pss_nil : PSs X [] tNext := fun _ _ σ H _ I h => wpAny_execs_nil ⟨σ, H, I, h⟩
theorem pss_cons (h1 : PS X st t) (h2 : PSs X rest u) : PSs X (st :: rest) (tSeq t u) := by
  intro pins s σ H D I h
  refine wpAny_execs_cons (thn (h1 pins s σ H { D with nx := u D } I h) fun f s1 q => ?_)
  cases f with
  | next =>
    obtain ⟨σ', H', I', q⟩ := q
    exact h2 pins s1 σ' H' D I' q
  | ret v => exact q
  | brk => exact q
  | cont => exact q
theorem pss_one (h1 : PS X st t) : PSs X [st] t := by
  intro pins s σ H D I h
  refine wpAny_execs_cons (thn (h1 pins s σ H D I h) fun f s1 q => ?_)
  cases f with
  | next => exact wpAny_execs_nil q
  | ret v => exact q
  | brk => exact q
  | cont => exact q
/-- in a def's body nothing is shown -/
theorem Inv.quiet {pins : List (Addr × Obj)} {σ : St} {H : Hp} {s : Shared} (I : Inv X pins σ H s) : interactive X.env = false := by simp [interactive, I.ok.kind]
/-- an expression whose value is dropped -/
def tDrop (te : TE) : TS := fun D σ H => te σ H fun _ H1 => D.nx σ H1
theorem ps_expr (he : PE X e te) (hs : swapsWith e none pos.line X.env = pure false := by rfl) : PS X (.Expr e pos) (tDrop te) := by
  intro pins s σ H D I h
  exact wpAny_Expr_any (thn (he pins s σ H _ I h) fun v s1 ⟨x, H1, I1, r1, q1⟩ => ⟨σ, H1, I1, q1⟩) I.quiet hs
def tRet (te : TE) : TS := fun D σ H => te σ H D.rt
theorem ps_ret (he : PE X e te) : PS X (.Return (some e) pos) (tRet te) := by
  intro pins s σ H D I h
  exact wpAny_Return_some (thn (he pins s σ H _ I h) fun v s1 ⟨x, H1, I1, r1, q1⟩ => ⟨x, σ, H1, I1, r1, q1⟩)
def tRetN : TS := fun D _ H => D.rt .non H
def tIfS (c : TT) (t u : TS) : TS := fun D σ H => c σ H fun b H1 => if b = true then t D σ H1 else u D σ H1
theorem ps_if {c : Expr} {a b : List Stmt} {tc : TT} (hc : PT X c tc) (ha : PSs X a t) (hb : PSs X b u) : PS X (.If c a b pos) (tIfS tc t u) := by
  intro pins s σ H D I h
  refine wpAny_If (thn (hc pins s σ H _ I h) fun d s1 ⟨H1, I1, q1⟩ => ?_)
  cases d with
  | true => exact ha pins s1 σ H1 D I1 q1
  | false => exact hb pins s1 σ H1 D I1 q1
end

abbrev TG := V → St → Hp → (St → Hp → Prop) → Prop
abbrev TGs := List V → St → Hp → (St → Hp → Prop) → Prop
def PG (X : Cx) (target : Expr) (t : TG) : Prop :=
  ∀ (pins : List (Addr × Obj)) (s : Shared) (σ : St) (H : Hp) (v : V) (u : Value) (Q : St → Hp → Prop), Inv X pins σ H s → RelV v u → t v σ H Q →
    wpAny (model X.prog X.w) X.A (assign target X.env u) (fun _ s' => ∃ σ' H', Inv X pins σ' H' s' ∧ Q σ' H') X.xe s
/-- several targets, one after another -/
def PGs (X : Cx) (ts : List Expr) (t : TGs) : Prop :=
  ∀ (pins : List (Addr × Obj)) (s : Shared) (σ : St) (H : Hp) (vs : List V) (us : List Value) (Q : St → Hp → Prop), Inv X pins σ H s → Vals vs us → t vs σ H Q →
    wpAny (model X.prog X.w) X.A (assignInOrder ((assignEach ts X.env).map (·.2)) us) (fun _ s' => ∃ σ' H', Inv X pins σ' H' s' ∧ Q σ' H') X.xe s
/-- o[i] = v, by values -/
abbrev TSet := V → V → V → Hp → (Hp → Prop) → Prop
def PSet (X : Cx) (t : TSet) : Prop :=
  ∀ (pins : List (Addr × Obj)) (s : Shared) (σ : St) (H : Hp) (o i v : V) (ov iv u : Value) (Q : Hp → Prop), Inv X pins σ H s → RelV o ov → RelV i iv → RelV v u → t o i v H Q →
    wpAny (model X.prog X.w) X.A (setItem ov iv u) (fun _ s' => ∃ H', Inv X pins σ H' s' ∧ Q H') X.xe s
section
variable {X : Cx} {pos : Pos}
def gName (i : Nat) : TG := fun v σ H Q => Q (σ.set i (some v)) H
theorem pg_name {i : Nat} {x : Str} (hN : X.N.Nodup) (hi : X.N[i]? = some x) (hx : Loc X.env.scope x) (hf : X.fn x = true ∨ X.env.scope.names.lookup x = some .local := by first | exact .inl rfl | exact .inr rfl | assumption) : PG X (.Name x pos) (gName i) := by
  intro pins s σ H v u Q I r h
  exact wpAny_assign_Name (store_ok I hN hi hx r (fun s' I' => ⟨_, H, I', h⟩) hf)
def gNil : TGs := fun vs σ H Q => vs = [] ∧ Q σ H
def gCons (t : TG) (u : TGs) : TGs := fun vs σ H Q => ∃ v r, vs = v :: r ∧ t v σ H fun σ' H' => u r σ' H' Q
theorem pgs_nil : PGs X [] gNil := by
  intro pins s σ H vs us Q I r h
  obtain ⟨e, h⟩ := h
  subst e
  cases r
  exact assignInOrder_nil ⟨σ, H, I, h⟩
theorem pgs_cons {e : Expr} {es : List Expr} {t : TG} {u : TGs} (h1 : PG X e t) (h2 : PGs X es u)
    (hs : (assignEach (e :: es) X.env).map (·.2) = assign e X.env :: (assignEach es X.env).map (·.2) := by rfl) : PGs X (e :: es) (gCons t u) := by
  intro pins s σ H vs us Q I r h
  obtain ⟨v, vr, e1, h⟩ := h
  subst e1
  cases r with
  | cons r rr =>
    rw [hs]
    refine assignInOrder_cons (thn (h1 pins s σ H _ _ _ I r h) fun _ s1 ⟨σ1, H1, I1, q1⟩ => ?_)
    exact h2 pins s1 σ1 H1 _ _ Q I1 rr q1
/-- (a, b, ..) = a tuple of that length -/
def gTup (K : PySem.W.Frag) (n : Nat) (t : TGs) : TG := fun v σ H Q => ∃ a xs, v = .ref a ∧ SqT K H a xs ∧ xs.length = n ∧ t xs σ H Q
theorem pg_tup {es : List Expr} {k : Nat} {t : TGs} {n : Nat} (hc : X.calm = true) (h : PGs X es t)
    (hn : (assignEach es X.env).length = n := by rfl) (hst : (assignEach es X.env).findIdx? (·.1) = none := by rfl) : PG X (.Tuple es k pos) (gTup X.K n t) := by
  intro pins s σ H v u Q I r hw
  obtain ⟨a, xs, e1, hq, hl, hw⟩ := hw
  subst e1
  cases r
  obtain ⟨its, rv, ht, hz⟩ := I.tuple hq
  refine assign_Tuple_tuple (I.ok.hd hc) ht (by simp [hn, ← hl, rv.length]) hst fun h' hx => ?_
  have I1 : Inv X pins σ H { s with heap := h' } := I.kept (t' := s.toks) fun b o e => hx b o (Nat.ne_of_lt (Heap.lt_size e)) e
  exact h pins _ σ H xs _ Q I1 (by simpa using rv) hw
/-- o[i] = .. -/
def gSub (to ti : TE) (t : TSet) : TG := fun v σ H Q => to σ H fun o H1 => ti σ H1 fun i H2 => t o i v H2 fun H3 => Q σ H3
theorem pg_sub {o i : Expr} {to ti : TE} {t : TSet} (ho : PE X o to) (hi : PE X i ti) (hs : PSet X t)
    (ha : ∀ v, assign (.Subscript o i pos) X.env v = (do
      let ov ← holding [v] (eval o X.env)
      let iv ← holding [v, ov] (eval i X.env)
      standAt pos
      holding [v, ov, iv] (setItem ov iv v)
      release [v, ov, iv] []) := by intro _; rfl) : PG X (.Subscript o i pos) (gSub to ti t) := by
  intro pins s σ H v u Q I r h
  rw [ha]
  refine wpAny_bind (wpAny_holding (thn (ho pins s σ H _ I h) fun ov s1 ⟨x, H1, I1, r1, q1⟩ => ?_))
  refine wpAny_bind (wpAny_holding (thn (hi pins s1 σ H1 _ I1 q1) fun iv s2 ⟨y, H2, I2, r2, q2⟩ => ?_))
  refine wpAny_bind (wpAny_standAt (wpAny_bind (wpAny_holding (thn (hs pins s2 σ H2 x y v ov iv u _ I2 r1 r2 r q2) fun _ s3 ⟨H3, I3, q3⟩ => ?_))))
  exact wpAny_release ⟨σ, H3, I3, q3⟩
/-- target = value -/
def tAsg (te : TE) (g : TG) : TS := fun D σ H => te σ H fun x H1 => g x σ H1 D.nx
theorem ps_asg {tg e : Expr} {te : TE} {g : TG} (he : PE X e te) (hg : PG X tg g) (hs : swapsWithSole [tg] e pos.line X.env = pure false := by rfl) (hw : swappedStores [tg] e X.env = pure none := by rfl)
    (h1 : (assignEach [tg] X.env).map (·.2) = [assign tg X.env] := by rfl) : PS X (.Assign [tg] e pos) (tAsg te g) := by
  intro pins s σ H D I h
  refine wpAny_Assign_stores (thn (he pins s σ H _ I h) fun v s1 ⟨x, H1, I1, r1, q1⟩ => ?_) hs hw
  rw [h1]
  exact thn (hg pins s1 σ H1 x v _ I1 r1 q1) fun _ s2 q => q
/-- name = value -/
theorem ps_set {i : Nat} {x : Str} {e : Expr} {te : TE} {pos' : Pos} (hN : X.N.Nodup) (hi : X.N[i]? = some x) (hx : Loc X.env.scope x) (he : PE X e te) (hs : swapsWith e (some (.Name x pos')) pos.line X.env = pure false := by rfl) (hf : X.fn x = true ∨ X.env.scope.names.lookup x = some .local := by first | exact .inl rfl | exact .inr rfl | assumption) :
    PS X (.Assign [.Name x pos'] e pos) (tAsg te (gName i)) := by
  intro pins s σ H D I h
  refine wpAny_Assign_Name (thn (he pins s σ H _ I h) fun v s1 ⟨y, H1, I1, r1, q1⟩ => ?_) hs
  exact store_ok I1 hN hi hx r1 (fun s2 I2 => ⟨_, H1, I2, q1⟩) hf
end

section
variable {X : Cx} {pos : Pos}
/-- the invariant W with its measure -/
def tWhile (c : TT) (tb : TS) : TS := fun D σ H => ∃ W : Nat → St → Hp → Prop, (∃ m, W m σ H) ∧ ∀ m σ H, W m σ H →
  c σ H fun b H1 => if b = true then ∃ N : St → Hp → Prop, (∀ σ' H', N σ' H' → ∃ m', m' < m ∧ W m' σ' H') ∧ tb { D with nx := N, ct := N, bk := D.nx } σ H1 else D.nx σ H1
end

/-- at turn i: it yields x (the heap may grow), or it stops -/
structure It where
  go : Nat → Hp → Prop
  yld : Nat → Hp → V → Hp → Prop
  stop : Nat → Hp → Prop
/-- the iterator's own objects may turn: they are not the frame's, not pinned, younger than the entry (or a comprehension's own) -/
def FpOk (X : Cx) (pins : List (Addr × Obj)) (H : Hp) (b : Addr) : Prop :=
  H b = none ∧ b ≠ X.env.locals ∧ b ∉ X.fs ∧ (b ∈ X.ex ∨ X.s₀.heap.objs.size ≤ b) ∧ (∀ x c, X.env.cells.lookup x = some c → c ≠ b) ∧ ∀ p ∈ X.pn ++ pins, p.1 ≠ b
theorem Inv.fpOk {X : Cx} {pins : List (Addr × Obj)} {σ : St} {H H' : Hp} {s : Shared} {b : Addr} (I : Inv X pins σ H s) (hb : s.heap.objs.size ≤ b) (hn : H' b = none) : FpOk X pins H' b := by
  refine ⟨hn, Nat.ne_of_gt (Nat.lt_of_lt_of_le I.lt hb), I.nofs hb, .inr (Nat.le_trans I.sz hb), fun x c e z => ?_, fun p hp z => ?_⟩
  · obtain ⟨v, q⟩ := I.cell x c e
    exact absurd (Nat.lt_of_lt_of_le q.lt (by rw [z]; exact hb)) (Nat.lt_irrefl _)
  · exact absurd (Nat.lt_of_lt_of_le (Heap.lt_size (I.pin p hp).1) (by rw [z]; exact hb)) (Nat.lt_irrefl _)
structure Turn (P : Program) (w : World) (K : PySem.W.Frag) (tg : Expr) (J : It) (fp : List Addr) (it : Addr) (tn : Nat → Heap → Prop) : Prop where
  mem : it ∈ fp
  obj : ∀ i h, tn i h → ∀ b ∈ fp, ∃ o, h.get? b = some o ∧ ∀ v, o.data ≠ .cell v
  keep : ∀ i h h', tn i h → (∀ b ∈ fp, ∀ o, h.get? b = some o → h'.get? b = some o) → tn i h'
  item : ∀ (X : Cx), X.prog = P → X.w = w → X.K = K → X.calm = true → ∀ (i : Nat) (pins : List (Addr × Obj)) (s : Shared) (σ : St) (H : Hp) (E : Value → Shared → Prop), Inv X pins σ H s → (∀ b ∈ fp, FpOk X pins H b) → tn i s.heap → J.go i H →
    wpAny (model P w) X.A (pyNext (.ref it)) (fun r s1 => ∃ u, r = some u ∧
      wpAny (model P w) X.A (letOwnedTupleGo tg (.ref it) u) (fun _ s2 => ∃ x H', Inv X pins σ H' s2 ∧ RelV x u ∧ J.yld i H x H' ∧ tn (i + 1) s2.heap ∧ ∀ b ∈ fp, H' b = none) E s1) E s
  done : ∀ (X : Cx), X.prog = P → X.w = w → X.K = K → X.calm = true → ∀ (i : Nat) (pins : List (Addr × Obj)) (s : Shared) (σ : St) (H : Hp) (E : Value → Shared → Prop), Inv X pins σ H s → (∀ b ∈ fp, FpOk X pins H b) → tn i s.heap → J.stop i H →
    wpAny (model P w) X.A (pyNext (.ref it)) (fun r s1 => r = none ∧ Inv X pins σ H s1) E s
  self : ∀ (A : Around) (i : Nat) (s : Shared) (Q : Value → Shared → Prop) (E : Value → Shared → Prop), tn i s.heap → Q (.ref it) s → wpAny (model P w) A (pyIter (.ref it)) Q E s
abbrev TI := St → Hp → (It → Hp → Prop) → Prop
/-- an iterator has come -/
def PIE (X : Cx) (pins : List (Addr × Obj)) (σ : St) (tg : Expr) (R : It → Hp → Prop) (itv : Value) (s2 : Shared) : Prop :=
  ∃ (it : Addr) (fp : List Addr) (tn : Nat → Heap → Prop) (J : It) (H' : Hp), itv = .ref it ∧ Inv X pins σ H' s2 ∧ Turn X.prog X.w X.K tg J fp it tn ∧ tn 0 s2.heap ∧ (∀ b ∈ fp, FpOk X pins H' b) ∧ R J H'
def PI (X : Cx) (tg iter : Expr) (wi : TI) : Prop :=
  ∀ (pins : List (Addr × Obj)) (s : Shared) (σ : St) (H : Hp) (R : It → Hp → Prop), Inv X pins σ H s → wi σ H R →
    wpAny (model X.prog X.w) X.A (eval iter X.env) (fun v s1 => wpAny (model X.prog X.w) X.A (pyIter v) (PIE X pins σ tg R) X.xe s1) X.xe s

/-- the step ahead of the store is nothing for an iterator that keeps no tuple -/
theorem go_of {M : Model} {A : Around} {E : Value → Shared → Prop} {s : Shared} {tg : Expr} {it : Addr} {u : Value} {o : Obj} {n : String} {vs : Array Value} {Q : Unit → Shared → Prop} (ho : s.heap.get? it = some o) (hc : o.cls = .type n) (hd : o.data = .fields vs)
    (hn : ["enumerate", "zip", "dict_itemiterator", "dict_reverseitemiterator", "odict_iterator", "itertools.zip_longest", "itertools.pairwise"].contains n = false) (hQ : Q () s) : wpAny M A (letOwnedTupleGo tg (.ref it) u) Q E s := by
  unfold letOwnedTupleGo
  cases tg <;> first
    | exact wpAny_pure hQ
    | (cases u <;> first
        | exact wpAny_pure hQ
        | (refine wpAny_bind (wpAny_load ho ?_)
           rw [hc, hd]
           show wpAny M A (if (["enumerate", "zip", "dict_itemiterator", "dict_reverseitemiterator", "odict_iterator", "itertools.zip_longest", "itertools.pairwise"].contains n && vs[0]? == some (rawInt _)) = true then _ else _) Q E s
           rw [if_neg (by intro h; rw [hn, Bool.false_and] at h; cases h)]
           exact wpAny_pure hQ))

/-- the list at a, as it stands at each turn (a loop may append to it) -/
def Itl (K : PySem.W.Frag) (a : Addr) : It :=
  ⟨fun i H => ∃ xs x, SqL K H a xs ∧ xs[i]? = some x, fun i H x H' => H' = H ∧ ∀ xs, SqL K H a xs → xs[i]? = some x, fun i H => ∃ xs, SqL K H a xs ∧ xs.length ≤ i⟩
def Itt (K : PySem.W.Frag) (a : Addr) : It :=
  ⟨fun i H => ∃ xs x, SqT K H a xs ∧ xs[i]? = some x, fun i H x H' => H' = H ∧ ∀ xs, SqT K H a xs → xs[i]? = some x, fun i H => ∃ xs, SqT K H a xs ∧ xs.length ≤ i⟩
/-- lo, lo + 1, .. (n of them) -/
def Itr (lo : Int) (n : Nat) : It := ⟨fun i _ => i < n, fun i H x H' => H' = H ∧ x = .int (lo + i), fun i _ => n ≤ i⟩
theorem turn_list {P : Program} {w : World} {K : PySem.W.Frag} {tg : Expr} (a it : Addr) : Turn P w K tg (Itl K a) [it] it (fun i h => h.IsListIter it a i) where
  mem := by simp
  obj := fun i h st b hb => by
    have e : b = it := by simpa using hb
    subst e
    obtain ⟨o, e, c, d⟩ := st
    exact ⟨o, e, fun v z => by rw [d] at z; cases z⟩
  keep := fun i h h' st k => st.at fun o e => k it (by simp) o e
  item := by
    intro X hP hw hK hc i pins s σ H E I hf st hg
    subst hP hw hK
    obtain ⟨xs, x, hq, hx⟩ := hg
    obtain ⟨its, rv, p, hz⟩ := I.list hq
    obtain ⟨u, hu, ru⟩ := rv.get hx
    obtain ⟨f0, f1, f2, f3, f4, f5⟩ := hf it (by simp)
    refine wpAny_pyNext_list_item st p.isList (x := u) (by simpa using hu) fun h' st' sb => ?_
    have I1 : Inv X pins σ H { s with heap := h' } := I.turned (t' := s.toks) (fun b o hb e => (sb.2 b hb).trans e) f0 f1 f3 f4 f5
    obtain ⟨o, e, c, d⟩ := id st'
    exact ⟨u, rfl, go_of (s := { s with heap := h' }) e c d (by decide) ⟨x, H, I1, ru, ⟨rfl, fun ys hy => by rw [I.list_inj hy hq]; exact hx⟩, st', fun b hb => (hf b hb).1⟩⟩
  done := by
    intro X hP hw hK hc i pins s σ H E I hf st hg
    subst hP hw hK
    obtain ⟨xs, hq, hx⟩ := hg
    obtain ⟨its, rv, p, hz⟩ := I.list hq
    obtain ⟨f0, f1, f2, f3, f4, f5⟩ := hf it (by simp)
    have hl := rv.length
    exact wpAny_pyNext_list_end (I.ok.hd hc) st p.isList (by simp; omega) fun h' eb => ⟨rfl, I.turned (t' := s.toks) (fun b o hb e => eb b o hb e) f0 f1 f3 f4 f5⟩
  self := fun _ _ _ _ _ st h => wpAny_pyIter_listiter st h
theorem turn_range {P : Program} {w : World} {K : PySem.W.Frag} {tg : Expr} (it : Addr) (lo : Int) (n : Nat) : Turn P w K tg (Itr lo n) [it] it (fun i h => IsRangeIter h it (lo + (i : Nat) * 1) ((n : Int) - (i : Nat)) 1) where
  mem := by simp
  obj := fun i h st b hb => by
    have e : b = it := by simpa using hb
    subst e
    exact ⟨_, st, fun v z => by
      have z' : Data.fields _ = Data.cell v := z
      cases z'⟩
  keep := fun i h h' st k => k it (by simp) _ st
  item := by
    intro X hP hw hK hc i pins s σ H E I hf st hg
    subst hP hw hK
    obtain ⟨f0, f1, f2, f3, f4, f5⟩ := hf it (by simp)
    have W := Walks.range (prog := X.prog) (w := X.w) (I.ok.hd hc) it lo 1 n
    refine W.item i s _ _ hg st fun v h' tk hv st' kk => ?_
    obtain ⟨t, rfl⟩ := hv
    have I1 : Inv X pins σ H { s with heap := h', toks := tk } := I.turned (fun b o hb e => kk b o (by simpa using hb) e) f0 f1 f3 f4 f5
    refine ⟨_, rfl, go_of (s := { s with heap := h', toks := tk }) (n := "range_iterator") st' rfl rfl (by decide) ⟨.int (lo + i), H, I1, ⟨t, ?_⟩, ⟨rfl, rfl⟩, st', fun b hb => (hf b hb).1⟩⟩
    rw [Int.mul_one]
  done := by
    intro X hP hw hK hc i pins s σ H E I hf st hg
    subst hP hw hK
    obtain ⟨f0, f1, f2, f3, f4, f5⟩ := hf it (by simp)
    exact wpAny_pyNext_range_end (I.ok.hd hc) st (by have : n ≤ i := hg; omega) fun h' eb => ⟨rfl, I.turned (t' := s.toks) (fun b o hb e => eb b o hb e) f0 f1 f3 f4 f5⟩
  self := fun _ _ _ _ _ st h => wpAny_pyIter_rangeiter st h
end L2

namespace L2
open PySem PySem.Spec PyProof.Rows
section
variable {X : Cx} {tg : Expr}
def iList (K : PySem.W.Frag) (tl : TE) : TI := fun σ H R => tl σ H fun x H1 => ∃ a, x = .ref a ∧ (∃ xs, SqL K H1 a xs) ∧ R (Itl K a) H1
def iTup (K : PySem.W.Frag) (tl : TE) : TI := fun σ H R => tl σ H fun x H1 => ∃ a, x = .ref a ∧ (∃ xs, SqT K H1 a xs) ∧ R (Itt K a) H1
theorem pi_list {l : Expr} {tl : TE} (hl : PE X l tl) : PI X tg l (iList X.K tl) := by
  intro pins s σ H R I h
  refine thn (hl pins s σ H _ I h) fun v s1 ⟨x, H1, I1, r1, q1⟩ => ?_
  obtain ⟨a, e, ⟨xs, hq⟩, q⟩ := q1
  subst e
  cases r1
  obtain ⟨its, rv, p, hz⟩ := I1.list hq
  refine wpAny_pyIter_list p.isList ?_
  refine ⟨s1.heap.objs.size, [s1.heap.objs.size], _, _, H1, rfl, I1.kept (t' := s1.toks) fun b o e => Heap.get?_push_of_some _ e, turn_list a _, ⟨_, Heap.get?_push_size _ rfl, rfl, rfl⟩, fun b hb => ?_, q⟩
  have e : b = s1.heap.objs.size := by simpa using hb
  subst e
  exact I1.fpOk (Nat.le_refl _) (I1.hok.fresh (Nat.le_refl _))
/-- a range object just made, walked -/
theorem range_it {pins : List (Addr × Obj)} {σ : St} {H : Hp} {s : Shared} {R : It → Hp → Prop} {E : Value → Shared → Prop} {lo hi : Int} {t u v : Tok} {tk : Nat} (I : Inv X pins σ H s) (h1 : -(2 ^ 62) ≤ lo) (h2 : lo < 2 ^ 62) (h3 : -(2 ^ 62) ≤ hi) (h4 : hi < 2 ^ 62)
    (q : R (Itr lo (hi - lo).toNat) H) : wpAny (model X.prog X.w) X.A (pyIter (.ref s.heap.objs.size)) (PIE X pins σ tg R) E { s with heap := s.heap.push { cls := .type "range", data := .fields #[.int lo t, .int hi u, .int 1 v] }, toks := tk } := by
  refine wpAny_pyIter_range (IsRange.new ..) (small_one h1 h2 h3 h4) ?_
  have I1 : Inv X pins σ H { s with heap := s.heap.push { cls := .type "range", data := .fields #[.int lo t, .int hi u, .int 1 v] }, toks := tk } := I.kept fun b o e => Heap.get?_push_of_some _ e
  refine ⟨(s.heap.push { cls := .type "range", data := .fields #[.int lo t, .int hi u, .int 1 v] }).objs.size, [(s.heap.push { cls := .type "range", data := .fields #[.int lo t, .int hi u, .int 1 v] }).objs.size], _, _, H, rfl,
    I1.kept (t' := tk) fun b o e => Heap.get?_push_of_some _ e, turn_range _ lo (hi - lo).toNat, ?_, fun b hb => ?_, q⟩
  · have e1 : lo + ((0 : Nat) : Int) * 1 = lo := by simp
    have e2 : (((hi - lo).toNat : Nat) : Int) - ((0 : Nat) : Int) = Builtin.Range.rangeSize lo hi 1 := by rw [rangeSize_one]; split <;> omega
    show IsRangeIter _ _ (lo + ((0 : Nat) : Int) * 1) ((((hi - lo).toNat : Nat) : Int) - ((0 : Nat) : Int)) 1
    rw [e1, e2]
    exact Heap.get?_push_size _ rfl
  · have e : b = (s.heap.push { cls := .type "range", data := .fields #[.int lo t, .int hi u, .int 1 v] }).objs.size := by simpa using hb
    subst e
    exact I1.fpOk (Nat.le_refl _) (I1.hok.fresh (Nat.le_refl _))
def iRng1 (ta : TA) : TI := fun σ H R => ta σ H fun vs H1 => ∃ j : Int, vs = [.int j] ∧ -(2 ^ 62) ≤ j ∧ j < 2 ^ 62 ∧ R (Itr 0 j.toNat) H1
def iRng2 (ta : TA) : TI := fun σ H R => ta σ H fun vs H1 => ∃ i j : Int, vs = [.int i, .int j] ∧ (-(2 ^ 62) ≤ i ∧ i < 2 ^ 62 ∧ -(2 ^ 62) ≤ j ∧ j < 2 ^ 62) ∧ R (Itr i (j - i).toNat) H1
theorem pi_range1 {a : Expr} {ta : TA} {p pos : Pos} (hg : Gl X "range") (hm : X.mg "range" = none) (ha : PA X [a] ta) (hs : starEach [a] X.env = [(false, eval a X.env)] := by rfl) : PI X tg (.Call (.Name "range" p) [a] [] pos) (iRng1 ta) := by
  intro pins s σ H R I h
  refine Call_ (ld_blt I hg hm boot_range (PyProof.Rows.callWith_type1 (thn (ha pos pins s σ H _ I h) fun us s1 ⟨vs, H1, I1, r1, q1⟩ => ?_) hs rfl))
  obtain ⟨j, e, q1, q2, q⟩ := q1
  subst e
  cases r1 with
  | cons r rr =>
    cases rr
    obtain ⟨t, rfl⟩ := r
    exact call_range_1 (range_it I1 (by omega) (by omega) q1 q2 (by simpa using q))
/-- W: the invariant by the turn and a measure; N: what the body is to reach -/
def tFor (wi : TI) (g : TG) (tb : TS) : TS := fun D σ H => wi σ H fun J H1 => ∃ W : Nat → Nat → St → Hp → Prop, (∃ m, W 0 m σ H1) ∧ ∀ i m σ H, W i m σ H →
  (J.stop i H ∧ D.nx σ H) ∨ (J.go i H ∧ ∃ N : St → Hp → Prop, (∀ σ' H', N σ' H' → ∃ m', m' < m ∧ W (i + 1) m' σ' H') ∧ ∀ x H', J.yld i H x H' → g x σ H' fun σ2 H2 => tb { D with nx := N, ct := N, bk := D.nx } σ2 H2)
/-- the records at fp as they stand -/
def pinsAt (fp : List Addr) (h : Heap) : List (Addr × Obj) := fp.filterMap fun b => (h.get? b).map fun o => (b, o)
theorem mem_pinsAt {fp : List Addr} {h : Heap} {b : Addr} {o : Obj} (hb : b ∈ fp) (e : h.get? b = some o) : (b, o) ∈ pinsAt fp h := List.mem_filterMap.mpr ⟨b, hb, by rw [e]; rfl⟩
theorem of_pinsAt {fp : List Addr} {h : Heap} {p : Addr × Obj} (hp : p ∈ pinsAt fp h) : p.1 ∈ fp ∧ h.get? p.1 = some p.2 := by
  obtain ⟨b, hb, e⟩ := List.mem_filterMap.mp hp
  cases q : h.get? b with
  | none => rw [q] at e; cases e
  | some o =>
    rw [q] at e
    have e' : (b, o) = p := Option.some.inj e
    subst e'
    exact ⟨hb, q⟩
theorem Inv.pinned {pins : List (Addr × Obj)} {σ : St} {H : Hp} {s : Shared} {fp : List Addr} (I : Inv X pins σ H s) (hf : ∀ b ∈ fp, FpOk X pins H b) (ho : ∀ b ∈ fp, ∃ o, s.heap.get? b = some o ∧ ∀ v, o.data ≠ .cell v) : Inv X (pins ++ pinsAt fp s.heap) σ H s :=
  I.pins_of fun p hp => (List.mem_append.mp hp).elim (fun z => I.pin p (List.mem_append_right _ z)) fun z => by
    obtain ⟨hb, e⟩ := of_pinsAt z
    obtain ⟨f0, f1, f2, _⟩ := hf p.1 hb
    obtain ⟨o, e', d⟩ := ho p.1 hb
    rw [e] at e'; cases e'
    exact ⟨e, f0, f1, f2, d⟩
theorem Inv.unpinned {pins pl : List (Addr × Obj)} {σ : St} {H : Hp} {s : Shared} (I : Inv X (pins ++ pl) σ H s) : Inv X pins σ H s := I.pins_of fun p hp => I.pin p (List.mem_append_right _ (List.mem_append_left _ hp))
theorem ps_for {iter : Expr} {body : List Stmt} {wi : TI} {g : TG} {tb : TS} {pos : Pos} (hp : PassesOwn (model X.prog X.w) X.A X.env X.xe) (hc : X.calm = true) (hi : PI X tg iter wi) (hg : PG X tg g) (hb : PSs X body tb)
    (hs : ∀ x, foldedSetIterable iter X.env x = pure x := by intro _; rfl) : PS X (.For tg iter body [] pos) (tFor wi g tb) := by
  intro pins s σ H D I h
  refine wpAny_For (thn (hi pins s σ H _ I h) fun v s1 h1 => thn h1 fun itv s2 h2 => ?_) hs
  obtain ⟨it, fp, tn, J, H2, e, I2, T, st2, f2, W, ⟨m0, w0⟩, turn⟩ := h2
  subst e
  -- what stays true of the iterator's objects through the loop
  have stat : ∀ {H' : Hp}, (∀ b ∈ fp, H' b = none) → ∀ b ∈ fp, FpOk X pins H' b := fun hn b hb => ⟨hn b hb, (f2 b hb).2⟩
  refine codeAny_forLoop_any (fun n s' => ∃ i σ' H', Inv X pins σ' H' s' ∧ tn i s'.heap ∧ (∀ b ∈ fp, H' b = none) ∧ W i n σ' H') ?_ m0 ⟨0, σ, H2, I2, st2, fun b hb => (f2 b hb).1, w0⟩
  rintro n s3 ⟨i, σ3, H3, I3, st3, fr3, w3⟩
  rcases turn i n σ3 H3 w3 with ⟨stop, qn⟩ | ⟨go, N, hN, step⟩
  · refine wpAny_passesOwn hp (thn (T.done X rfl rfl rfl hc i pins s3 σ3 H3 X.xe I3 (stat fr3) st3 stop) fun r s4 ⟨hr, I4⟩ => ?_)
    subst hr
    exact wpAny_execs_nil ⟨σ3, H3, I4, qn⟩
  · refine wpAny_passesOwn hp (thn (T.item X rfl rfl rfl hc i pins s3 σ3 H3 X.xe I3 (stat fr3) st3 go) fun r s4 ⟨u, hr, h4⟩ => ?_)
    subst hr
    refine wpAny_passesOwn hp (thn h4 fun _ s5 ⟨x, H5, I5, r5, y5, st5, fr5⟩ => ?_)
    have I5' := I5.pinned (stat fr5) (T.obj _ _ st5)
    refine wpAny_passesOwn hp (thn (hg _ s5 σ3 H5 x u _ I5' r5 (step x H5 y5)) fun _ s6 ⟨σ6, H6, I6, q6⟩ => ?_)
    refine wpAny_passesOwn hp (thn (hb _ s6 σ6 H6 _ I6 q6) fun f s7 q7 => ?_)
    have again : ∀ {σ7 : St} {H7 : Hp}, Inv X (pins ++ pinsAt fp s5.heap) σ7 H7 s7 → N σ7 H7 → ∃ m, m < n ∧ ∃ i σ' H', Inv X pins σ' H' s7 ∧ tn i s7.heap ∧ (∀ b ∈ fp, H' b = none) ∧ W i m σ' H' := fun {σ7 H7} I7 n7 => by
      obtain ⟨m', hm, w7⟩ := hN σ7 H7 n7
      refine ⟨m', hm, i + 1, σ7, H7, I7.unpinned, T.keep _ _ _ st5 fun b hb o e => (I7.pin (b, o) (List.mem_append_right _ (List.mem_append_right _ (mem_pinsAt hb e)))).1, fun b hb => ?_, w7⟩
      obtain ⟨o, e, d⟩ := T.obj _ _ st5 b hb
      exact (I7.pin (b, o) (List.mem_append_right _ (List.mem_append_right _ (mem_pinsAt hb e)))).2.1
    cases f with
    | next => obtain ⟨σ7, H7, I7, n7⟩ := q7; exact again I7 n7
    | cont => obtain ⟨σ7, H7, I7, n7⟩ := q7; exact again I7 n7
    | brk => obtain ⟨σ7, H7, I7, q7⟩ := q7; exact ⟨σ7, H7, I7.unpinned, q7⟩
    | ret v => obtain ⟨x7, σ7, H7, I7, r7, q7⟩ := q7; exact ⟨x7, σ7, H7, I7.unpinned, r7, q7⟩
end

end L2

namespace L2
open PySem PySem.Spec PyProof.Rows

abbrev R2 := V → V → Hp → VK → Prop
/-- a two-place operation on values: f is binaryOp op, inplaceOp op or compareOp op -/
def OpR (X : Cx) (f : Value → Value → Sem Value) (r : R2) : Prop :=
  ∀ (pins : List (Addr × Obj)) (s : Shared) (σ : St) (H : Hp) (x y : V) (v u : Value) (Q : VK), Inv X pins σ H s → RelV x v → RelV y u → r x y H Q →
    wpAny (model X.prog X.w) X.A (f v u) (EP X pins σ Q) X.xe s
/-- a one-place operation -/
def UnR (X : Cx) (f : Value → Sem Value) (r : V → Hp → VK → Prop) : Prop :=
  ∀ (pins : List (Addr × Obj)) (s : Shared) (σ : St) (H : Hp) (x : V) (v : Value) (Q : VK), Inv X pins σ H s → RelV x v → r x H Q →
    wpAny (model X.prog X.w) X.A (f v) (EP X pins σ Q) X.xe s
/-- a call of a value that is known (a builtin, a type) with values -/
def CallR (X : Cx) (f : Value) (r : List V → Hp → VK → Prop) : Prop :=
  ∀ (pins : List (Addr × Obj)) (s : Shared) (σ : St) (H : Hp) (xs : List V) (us : List Value) (Q : VK), Inv X pins σ H s → Vals xs us → r xs H Q →
    wpAny (model X.prog X.w) X.A (call f us) (EP X pins σ Q) X.xe s
def tOp (r : R2) (ta tb : TE) : TE := fun σ H Q => ta σ H fun x H1 => tb σ H1 fun y H2 => r x y H2 Q
def tUn (r : V → Hp → VK → Prop) (ta : TE) : TE := fun σ H Q => ta σ H fun x H1 => r x H1 Q
/-- ints in, under C, and a value out -/
def rI (C : Int → Int → Prop) (g : Int → Int → V) : R2 := fun x y H Q => ∃ i j, x = .int i ∧ y = .int j ∧ C i j ∧ Q (g i j) H
def rI0 (g : Int → Int → V) : R2 := fun x y H Q => ∃ i j, x = .int i ∧ y = .int j ∧ Q (g i j) H
def rU (g : Int → V) : V → Hp → VK → Prop := fun x H Q => ∃ i, x = .int i ∧ Q (g i) H

section
variable {X : Cx} {a b c : Expr} {ta tb tc : TE} {pos : Pos}

theorem binT (ha : PE X a ta) (hb : PE X b tb) {pins : List (Addr × Obj)} {s : Shared} {σ : St} {H : Hp} {R : V → V → Hp → Prop} (I : Inv X pins σ H s)
    (h : ta σ H fun x H1 => tb σ H1 fun y H2 => R x y H2) {Q : Value → Shared → Prop} {f : Value → Value → Sem Value}
    (hf : ∀ v u s2 x y H2, Inv X pins σ H2 s2 → RelV x v → RelV y u → R x y H2 → wpAny (model X.prog X.w) X.A (f v u) Q X.xe s2) :
    wpAny (model X.prog X.w) X.A (eval a X.env) (fun v s₁ => wpAny (model X.prog X.w) X.A (eval b X.env) (fun u s₂ => wpAny (model X.prog X.w) X.A (f v u) Q X.xe s₂) X.xe s₁) X.xe s := by
  refine thn (ha pins s σ H _ I h) fun v s1 ⟨x, H1, I1, r1, q1⟩ => ?_
  refine thn (hb pins s1 σ H1 _ I1 q1) fun u s2 ⟨y, H2, I2, r2, q2⟩ => ?_
  exact hf v u s2 x y H2 I2 r1 r2 q2

theorem pe_op {op : Operator} {r : R2} (ho : OpR X (binaryOp op) r) (ha : PE X a ta) (hb : PE X b tb) : PE X (.BinOp a op b pos) (tOp r ta tb) := by
  intro pins s σ H Q I h
  exact wpAny_BinOp (binT ha hb I h fun v u s2 x y H2 I2 rx ry q => ho pins s2 σ H2 x y v u Q I2 rx ry q)
theorem pe_un {op : UnaryOp} {r : V → Hp → VK → Prop} (ho : UnR X (unaryOp op) r) (ha : PE X a ta) : PE X (.UnaryOp op a pos) (tUn r ta) := by
  intro pins s σ H Q I h
  exact UnaryOp_ (thn (ha pins s σ H _ I h) fun v s1 ⟨x, H1, I1, r1, q1⟩ => ho pins s1 σ H1 x v Q I1 r1 q1)
theorem opI {f : Value → Value → Sem Value} {C : Int → Int → Prop} {g : Int → Int → Int}
    (rule : ∀ (i j : Int) (t u : Tok) (s : Shared) (Q : Value → Shared → Prop) (E : Value → Shared → Prop), C i j → Q (.int (g i j) s.toks) { s with toks := s.toks + 1 } → wpAny (model X.prog X.w) X.A (f (.int i t) (.int j u)) Q E s) :
    OpR X f (rI C fun i j => .int (g i j)) := by
  intro pins s σ H x y v u Q I rx ry h
  obtain ⟨i, j, rfl, rfl, hc, q⟩ := h
  obtain ⟨t, rfl⟩ := rx
  obtain ⟨t', rfl⟩ := ry
  exact rule i j t t' s _ _ hc ⟨.int (g i j), H, I.tok _, ⟨_, rfl⟩, q⟩
theorem opI0 {f : Value → Value → Sem Value} {g : Int → Int → Int}
    (rule : ∀ (i j : Int) (t u : Tok) (s : Shared) (Q : Value → Shared → Prop) (E : Value → Shared → Prop), Q (.int (g i j) s.toks) { s with toks := s.toks + 1 } → wpAny (model X.prog X.w) X.A (f (.int i t) (.int j u)) Q E s) :
    OpR X f (rI0 fun i j => .int (g i j)) := by
  intro pins s σ H x y v u Q I rx ry h
  obtain ⟨i, j, rfl, rfl, q⟩ := h
  obtain ⟨t, rfl⟩ := rx
  obtain ⟨t', rfl⟩ := ry
  exact rule i j t t' s _ _ ⟨.int (g i j), H, I.tok _, ⟨_, rfl⟩, q⟩
theorem opB0 {f : Value → Value → Sem Value} {g : Int → Int → Bool}
    (rule : ∀ (i j : Int) (t u : Tok) (s : Shared) (Q : Value → Shared → Prop) (E : Value → Shared → Prop), Q (.bool (g i j)) s → wpAny (model X.prog X.w) X.A (f (.int i t) (.int j u)) Q E s) :
    OpR X f (rI0 fun i j => .bl (g i j)) := by
  intro pins s σ H x y v u Q I rx ry h
  obtain ⟨i, j, rfl, rfl, q⟩ := h
  obtain ⟨t, rfl⟩ := rx
  obtain ⟨t', rfl⟩ := ry
  exact rule i j t t' s _ _ ⟨.bl (g i j), H, I, rfl, q⟩

def CDiv (i j : Int) : Prop := 0 < j ∧ j < 1073741824
def CPow (i j : Int) : Prop := 0 ≤ j ∧ j ≤ 1000000 ∧ i.natAbs < 2 ^ 64
def CMul (i j : Int) : Prop := (-(2 ^ 64) < i ∧ i < 2 ^ 64) ∨ (-(2 ^ 64) < j ∧ j < 2 ^ 64)
theorem CMul.ok {i j : Int} (h : CMul i j) : IntMulOk i j := by
  rcases h with ⟨h1, h2⟩ | ⟨h1, h2⟩
  · exact .of_left (intBits_le_64 h1 h2)
  · exact .of_right (intBits_le_64 h1 h2)
theorem op_add : OpR X (binaryOp .Add) (rI0 fun i j => .int (i + j)) := opI0 fun _ _ _ _ _ _ _ q => add_int q
theorem op_sub : OpR X (binaryOp .Sub) (rI0 fun i j => .int (i - j)) := opI0 fun _ _ _ _ _ _ _ q => sub_int q
theorem op_mul : OpR X (binaryOp .Mult) (rI CMul fun i j => .int (i * j)) := opI fun _ _ _ _ _ _ _ hc q => mul_int q hc.ok
/-- // by a positive divisor -/
theorem op_fdiv : OpR X (binaryOp .FloorDiv) (rI CDiv fun i j => .int (i / j)) := opI fun i j _ _ _ _ _ hc q => by
  have h1 : (0 : Int) < j := hc.1
  have h2 : j < 1073741824 := hc.2
  exact floordiv_int (by omega) (by rw [Int.fdiv_eq_ediv_of_nonneg i (by omega)]; exact q) (.inl (PyProof.noPylong_small (by omega)))
/-- % by a positive divisor of any size -/
theorem op_mod : OpR X (binaryOp .Mod) (rI (fun _ j => 0 < j) fun i j => .int (i % j)) := opI fun i j _ _ _ _ _ hc q => by
  have h1 : (0 : Int) < j := hc
  exact mod_int' (by omega) (by rw [Int.fmod_eq_emod_of_nonneg i (by omega)]; exact q)
theorem op_pow : OpR X (binaryOp .Pow) (rI CPow fun i j => .int (i ^ j.toNat)) := opI fun _ _ _ _ _ _ _ hc q => pow_int_small hc.1 hc.2.1 hc.2.2 q
theorem op_and : OpR X (binaryOp .BitAnd) (rI0 fun i j => .int (Builtin.bitAnd i j)) := opI0 fun _ _ _ _ _ _ _ q => and_int q
theorem op_or : OpR X (binaryOp .BitOr) (rI0 fun i j => .int (Builtin.bitOr i j)) := opI0 fun _ _ _ _ _ _ _ q => or_int q
theorem unI {f : Value → Sem Value} {g : Int → Int}
    (rule : ∀ (i : Int) (t : Tok) (s : Shared) (Q : Value → Shared → Prop) (E : Value → Shared → Prop), Q (.int (g i) s.toks) { s with toks := s.toks + 1 } → wpAny (model X.prog X.w) X.A (f (.int i t)) Q E s) :
    UnR X f (rU fun i => .int (g i)) := by
  intro pins s σ H x v Q I rx h
  obtain ⟨i, rfl, q⟩ := h
  obtain ⟨t, rfl⟩ := rx
  exact rule i t s _ _ ⟨.int (g i), H, I.tok _, ⟨_, rfl⟩, q⟩
theorem un_neg : UnR X (unaryOp .USub) (rU fun i => .int (-i)) := unI fun _ _ _ _ _ q => neg_int q
end

/-- the scalars that == tells apart as data does -/
def scal : V → V → Bool
  | .non, .non => true | .non, .int _ => true | .int _, .non => true | .non, .bl _ => true | .bl _, .non => true | .non, .str _ => true | .str _, .non => true
  | .int _, .int _ => true | .bl _, .bl _ => true | .str _, .str _ => true | .byt _, .byt _ => true
  | .int _, .str _ => true | .str _, .int _ => true | .bl _, .str _ => true | .str _, .bl _ => true
  | _, _ => false
def rEq : R2 := fun x y H Q => scal x y = true ∧ Q (.bl (decide (x = y))) H
def rNe : R2 := fun x y H Q => scal x y = true ∧ Q (.bl (!decide (x = y))) H

theorem dec_int {i j : Int} : decide (V.int i = V.int j) = (i == j) := by
  rw [Bool.eq_iff_iff]
  simp
theorem dec_bl {i j : Bool} : decide (V.bl i = V.bl j) = (i == j) := by
  rw [Bool.eq_iff_iff]
  simp
theorem dec_str {i j : Str} : decide (V.str i = V.str j) = (i == j) := by
  rw [Bool.eq_iff_iff]
  simp
theorem dec_byt {i j : Array UInt8} : decide (V.byt i = V.byt j) = (i.toList == j.toList) := by
  rw [Bool.eq_iff_iff]
  cases i
  cases j
  simp

section
variable {X : Cx} {a b c : Expr} {ta tb tc : TE} {pos : Pos}
theorem fin_bl {pins : List (Addr × Obj)} {σ : St} {H : Hp} {s : Shared} {Q : VK} {k k' : Bool} (I : Inv X pins σ H s) (q : Q (.bl k) H) (e : k = k') : EP X pins σ Q (.bool k') s := by
  subst e
  exact ⟨.bl k, H, I, rfl, q⟩
theorem op_eq : OpR X (compareOp .Eq) rEq := by
  intro pins s σ H x y v u Q I rx ry h
  obtain ⟨hs, q⟩ := h
  cases x with
  | non =>
    cases rx
    cases y with
    | non => cases ry; exact PySem.EqNone.eq_none_none (fin_bl I q (by simp))
    | bl j => cases ry; exact PySem.EqNone.eq_none_bool (fin_bl I q (by simp))
    | int j => obtain ⟨t', rfl⟩ := ry; exact PySem.EqNone.eq_none_int (fin_bl I q (by simp))
    | str j => obtain ⟨t', rfl⟩ := ry; exact PySem.EqNone.eq_none_str (fin_bl I q (by simp))
    | _ => exact absurd (show false = true from hs) Bool.false_ne_true
  | bl i =>
    cases rx
    cases y with
    | non => cases ry; exact PySem.EqNone.eq_bool_none (fin_bl I q (by simp))
    | bl j => cases ry; exact eq_bool (fin_bl I q dec_bl)
    | str j => obtain ⟨t', rfl⟩ := ry; exact PySem.EqMixed.eq_bool_str (fin_bl I q (by simp))
    | _ => exact absurd (show false = true from hs) Bool.false_ne_true
  | int i =>
    obtain ⟨t, rfl⟩ := rx
    cases y with
    | non => cases ry; exact PySem.EqNone.eq_int_none (fin_bl I q (by simp))
    | int j => obtain ⟨t', rfl⟩ := ry; exact eq_int (fin_bl I q dec_int)
    | str j => obtain ⟨t', rfl⟩ := ry; exact PySem.EqMixed.eq_int_str (fin_bl I q (by simp))
    | _ => exact absurd (show false = true from hs) Bool.false_ne_true
  | str i =>
    obtain ⟨t, rfl⟩ := rx
    cases y with
    | non => cases ry; exact PySem.EqNone.eq_str_none (fin_bl I q (by simp))
    | bl j => cases ry; exact PySem.EqMixed.eq_str_bool (fin_bl I q (by simp))
    | int j => obtain ⟨t', rfl⟩ := ry; exact PySem.EqMixed.eq_str_int (fin_bl I q (by simp))
    | str j => obtain ⟨t', rfl⟩ := ry; exact eq_str (fin_bl I q dec_str)
    | _ => exact absurd (show false = true from hs) Bool.false_ne_true
  | byt i =>
    obtain ⟨t, rfl⟩ := rx
    cases y with
    | byt j => obtain ⟨t', rfl⟩ := ry; exact PySem.W.eq_bytes (fin_bl I q dec_byt)
    | _ => exact absurd (show false = true from hs) Bool.false_ne_true
  | _ => cases y <;> exact absurd (show false = true from hs) Bool.false_ne_true
theorem op_ne : OpR X (compareOp .NotEq) rNe := by
  intro pins s σ H x y v u Q I rx ry h
  obtain ⟨hs, q⟩ := h
  cases x with
  | non =>
    cases rx
    cases y with
    | non => cases ry; exact PySem.EqNone.ne_none_none (fin_bl I q (by simp))
    | bl j => cases ry; exact PySem.EqNone.ne_none_bool (fin_bl I q (by simp))
    | int j => obtain ⟨t', rfl⟩ := ry; exact PySem.EqNone.ne_none_int (fin_bl I q (by simp))
    | str j => obtain ⟨t', rfl⟩ := ry; exact PySem.EqNone.ne_none_str (fin_bl I q (by simp))
    | _ => exact absurd (show false = true from hs) Bool.false_ne_true
  | bl i =>
    cases rx
    cases y with
    | non => cases ry; exact PySem.EqNone.ne_bool_none (fin_bl I q (by simp))
    | bl j => cases ry; exact ne_bool (fin_bl I q (congrArg not dec_bl))
    | str j => obtain ⟨t', rfl⟩ := ry; exact PySem.EqMixed.ne_bool_str (fin_bl I q (by simp))
    | _ => exact absurd (show false = true from hs) Bool.false_ne_true
  | int i =>
    obtain ⟨t, rfl⟩ := rx
    cases y with
    | non => cases ry; exact PySem.EqNone.ne_int_none (fin_bl I q (by simp))
    | int j => obtain ⟨t', rfl⟩ := ry; exact ne_int (fin_bl I q (congrArg not dec_int))
    | str j => obtain ⟨t', rfl⟩ := ry; exact PySem.EqMixed.ne_int_str (fin_bl I q (by simp))
    | _ => exact absurd (show false = true from hs) Bool.false_ne_true
  | str i =>
    obtain ⟨t, rfl⟩ := rx
    cases y with
    | non => cases ry; exact PySem.EqNone.ne_str_none (fin_bl I q (by simp))
    | bl j => cases ry; exact PySem.EqMixed.ne_str_bool (fin_bl I q (by simp))
    | int j => obtain ⟨t', rfl⟩ := ry; exact PySem.EqMixed.ne_str_int (fin_bl I q (by simp))
    | str j => obtain ⟨t', rfl⟩ := ry; exact ne_str (fin_bl I q (congrArg not dec_str))
    | _ => exact absurd (show false = true from hs) Bool.false_ne_true
  | byt i =>
    obtain ⟨t, rfl⟩ := rx
    cases y with
    | byt j => obtain ⟨t', rfl⟩ := ry; exact PySem.W.ne_bytes (fin_bl I q (congrArg not dec_byt))
    | _ => exact absurd (show false = true from hs) Bool.false_ne_true
  | _ => cases y <;> exact absurd (show false = true from hs) Bool.false_ne_true

theorem op_lt : OpR X (compareOp .Lt) (rI0 fun i j => .bl (decide (i < j))) := opB0 fun _ _ _ _ _ _ _ q => lt_int q
theorem op_le : OpR X (compareOp .LtE) (rI0 fun i j => .bl (decide (i ≤ j))) := opB0 fun _ _ _ _ _ _ _ q => le_int q
theorem op_gt : OpR X (compareOp .Gt) (rI0 fun i j => .bl (decide (j < i))) := opB0 fun _ _ _ _ _ _ _ q => gt_int q
theorem op_ge : OpR X (compareOp .GtE) (rI0 fun i j => .bl (decide (j ≤ i))) := opB0 fun _ _ _ _ _ _ _ q => ge_int q
/-- two rules for one operation: by cases -/
theorem OpR.or {f : Value → Value → Sem Value} {r r' : R2} (h : OpR X f r) (h' : OpR X f r') : OpR X f (fun x y H Q => r x y H Q ∨ r' x y H Q) := by
  intro pins s σ H x y v u Q I rx ry q
  rcases q with q | q
  · exact h pins s σ H x y v u Q I rx ry q
  · exact h' pins s σ H x y v u Q I rx ry q

theorem nomark (b : Expr) {op : CmpOp} (h : op ≠ .In := by decide) (h2 : op ≠ .NotIn := by decide) : behindInMarks op b = false := by
  have e1 : (op == CmpOp.In) = false := by cases op <;> first | rfl | exact absurd rfl h
  have e2 : (op == CmpOp.NotIn) = false := by cases op <;> first | rfl | exact absurd rfl h2
  cases b <;> simp [behindInMarks, e1, e2]
/-- a comparison as a value; hm: nomark b, or (for in, not in) by with_unfolding_all rfl -/
theorem pe_cmpR {op : CmpOp} {r : R2} (ho : OpR X (compareOp op) r) (ha : PE X a ta) (hb : PE X b tb) (hm : behindInMarks op b = false) : PE X (.Compare a [op] [b] pos) (tOp r ta tb) := by
  intro pins s σ H Q I h
  exact wpAny_Compare1 (binT ha hb I h fun v u s2 x y H2 I2 rx ry q => ho pins s2 σ H2 x y v u Q I2 rx ry q) hm
/-- a reading of a value as a test -/
def tTest (t : TE) : TT := fun σ H Q => t σ H fun x H' => ∃ k, x = .bl k ∧ Q k H'
theorem pt_cmpR {op : CmpOp} {r : R2} (ho : OpR X (compareOp op) r) (ha : PE X a ta) (hb : PE X b tb) (hm : behindInMarks op b = false) : PT X (.Compare a [op] [b] pos) (tTest (tOp r ta tb)) := by
  intro pins s σ H Q I h
  refine wpAny_isTrue_Compare1 (thn (ha pins s σ H _ I h) fun v s1 ⟨x, H1, I1, r1, q1⟩ => thn (hb pins s1 σ H1 _ I1 q1) fun u s2 ⟨y, H2, I2, r2, q2⟩ =>
    thn (ho pins s2 σ H2 x y v u _ I2 r1 r2 q2) fun c s3 ⟨z, H3, I3, r3, k, e, q3⟩ => ?_) hm
  subst e
  cases r3
  exact wpAny_truthy_bool ⟨H3, I3, q3⟩
/-- a op1 b op2 c -/
def tChain (r r' : R2) (ta tb tc : TE) : TE := fun σ H Q => ta σ H fun x H1 => tb σ H1 fun y H2 => r x y H2 fun z H3 => ∃ k, z = .bl k ∧
  (if k = true then tc σ H3 fun w' H4 => r' y w' H4 Q else Q (.bl false) H3)
theorem pe_chain {op op' : CmpOp} {r r' : R2} (ho : OpR X (compareOp op) r) (ho' : OpR X (compareOp op') r') (ha : PE X a ta) (hb : PE X b tb) (hc : PE X c tc)
    (hm : lastMarks [op, op'] [b, c] = false := by with_unfolding_all rfl) : PE X (.Compare a [op, op'] [b, c] pos) (tChain r r' ta tb tc) := by
  intro pins s σ H Q I h
  refine Compare_chain (thn (ha pins s σ H _ I h) fun v s1 ⟨x, H1, I1, r1, q1⟩ => chain_link (thn (hb pins s1 σ H1 _ I1 q1) fun u s2 ⟨y, H2, I2, r2, q2⟩ =>
    thn (ho pins s2 σ H2 x y v u _ I2 r1 r2 q2) fun d s3 ⟨z, H3, I3, r3, k, e, q3⟩ => ?_)) hm
  subst e
  cases r3
  refine wpAny_truthy_bool ?_
  cases k with
  | false => exact ite_ff ⟨.bl false, H3, I3, rfl, q3⟩
  | true => exact ite_tt (chain_last (thn (hc pins s3 σ H3 _ I3 q3) fun w' s4 ⟨z', H4, I4, r4, q4⟩ => ho' pins s4 σ H4 y z' u w' Q I4 r2 r4 q4))
theorem pt_chain {op op' : CmpOp} {r r' : R2} (ho : OpR X (compareOp op) r) (ho' : OpR X (compareOp op') r') (ha : PE X a ta) (hb : PE X b tb) (hc : PE X c tc)
    (hm : lastMarks [op, op'] [b, c] = false := by with_unfolding_all rfl) : PT X (.Compare a [op, op'] [b, c] pos) (tTest (tChain r r' ta tb tc)) := by
  intro pins s σ H Q I h
  refine isTrue_chain (thn (ha pins s σ H _ I h) fun v s1 ⟨x, H1, I1, r1, q1⟩ => test_link (thn (hb pins s1 σ H1 _ I1 q1) fun u s2 ⟨y, H2, I2, r2, q2⟩ =>
    thn (ho pins s2 σ H2 x y v u _ I2 r1 r2 q2) fun d s3 ⟨z, H3, I3, r3, k, e, q3⟩ => ?_)) hm
  subst e
  cases r3
  refine wpAny_truthy_bool ?_
  cases k with
  | false =>
    obtain ⟨k', e', q'⟩ := q3
    cases e'
    exact ite_ff ⟨H3, I3, q'⟩
  | true =>
    refine ite_tt (test_last (thn (hc pins s3 σ H3 _ I3 q3) fun w' s4 ⟨z', H4, I4, r4, q4⟩ => thn (ho' pins s4 σ H4 y z' u w' _ I4 r2 r4 q4) fun d' s5 ⟨z2, H5, I5, r5, k2, e2, q5⟩ => ?_))
    subst e2
    cases r5
    exact wpAny_truthy_bool ⟨H5, I5, q5⟩

theorem line63 : (sizeLine : Nat) < 2 ^ 63 := by rw [sizeLine_eq]; decide
theorem vals1 {x : V} {us : List Value} (r : Vals [x] us) : ∃ u, us = [u] ∧ RelV x u := by
  cases r with
  | cons r1 r2 => cases r2; exact ⟨_, rfl, r1⟩
theorem vals2 {x y : V} {us : List Value} (r : Vals [x, y] us) : ∃ u w', us = [u, w'] ∧ RelV x u ∧ RelV y w' := by
  cases r with
  | cons r1 r2 =>
    cases r2 with
    | cons r3 r4 => cases r4; exact ⟨_, _, rfl, r1, r3⟩
end
end L2

namespace L2
open PySem PySem.Spec PyProof.Rows

structure ObjM (h : Heap) (x dx C : Addr) (mA : Str → Option Value) : Prop where
  obj : h.get? x = some (PySem.W.instObj C dx)
  ns : h.Ns1 dx mA
  ne : dx ≠ x

theorem lookIn_ns {h : Heap} {dx : Addr} {mA : Str → Option Value} (n : h.Ns1 dx mA) : ∃ od, h.get? dx = some od ∧ ∀ name, PySem.W.lookIn name od = some (mA name) := by
  obtain ⟨o, es, ep, ho, hd, hk, _, hm⟩ := n
  refine ⟨o, ho, fun name => ?_⟩
  have e := hm name
  unfold nsFind findBy at e
  rw [← Array.find?_toList] at e
  unfold PySem.W.lookIn
  rw [hd]
  dsimp only
  split
  · rename_i y q
    rw [q] at e
    exact congrArg some e
  · rename_i q
    rw [q] at e
    have a : es.toList.any (·.refKey) = false := by
      rw [List.any_eq_false]
      intro y hy
      obtain ⟨z, t, hkey⟩ := hk y (Array.mem_toList_iff.mp hy)
      simp [DictEntry.refKey, hkey]
    have a' : ¬ es.toList.any (·.refKey) = true := by rw [a]; exact Bool.false_ne_true
    rw [if_neg a']
    exact congrArg some e

theorem ObjM.look {h : Heap} {x dx C : Addr} {mA : Str → Option Value} (I : ObjM h x dx C mA) : ∃ od, PySem.W.InstAt h x (PySem.W.instObj C dx) C (some od) ∧ ∀ name, PySem.W.lookIn name od = some (mA name) :=
  let ⟨od, ho, hl⟩ := lookIn_ns I.ns
  ⟨od, ⟨I.obj, rfl, rfl, ho⟩, hl⟩

section
variable {prog : Program} {w : World} {A : Around} {E : Value → Shared → Prop} {s : Shared} {K : PySem.W.Frag} {x dx C f : Addr} {mA : Str → Option Value} {name : Str} {v : Value}

theorem set_map {ns : List Str} {Q : Unit → Shared → Prop} (X : K.In s.heap) (I : ObjM s.heap x dx C mA)
    (hs : PySem.W.findIn K (.ref C) "__setattr__" = some (some (.builtin "object.__setattr__"))) (hp : PySem.W.plainOver K C = true) (ht : PySem.W.takerIn K C name = some none) (hh : PySem.W.hasDictIn K C = true)
    (hw : PySem.Within mA ns) (hsz : ns.length ≤ sizeLine)
    (h : ∀ h', ObjM h' x dx C (fun y => if y = name then some v else mA y) → Heap.SameBut dx s.heap h' → Q () { s with heap := h', toks := s.toks + 2 }) :
    wpAny (model prog w) A (setAttr (.ref x) name v) Q E s := by
  obtain ⟨od, J, hl⟩ := I.look
  refine PySem.W.set_plain X J hs (PySem.W.osa_open (s := { s with toks := s.toks + 1 }) (r := none) X J hp ht fun b => ?_)
  obtain ⟨cd, hc, hd'⟩ := PySem.W.any_some hh
  have hx : s.heap.get? x = some ⟨.ref C, some dx, .plain, #[]⟩ := I.obj
  refine wpAny_bind (wpAny_pure (wpAny_bind (wpAny_bind (wpAny_loadPart hx (wpAny_bind (PySem.W.Looks.here (s := { s with toks := s.toks + 1 }) (PySem.W.looks_clsIn X hc) ?_))))))
  rw [hd']
  refine wpAny_pure (a := some dx) (wpAny_bind (wpAny_pure (wpAny_bind ?_)))
  refine wpAny_nsSet1 (s := { s with toks := s.toks + 1 }) I.ns fun h' hn2 hs2 => ?_
  obtain ⟨oD, esD, epD, hoD, hdD, hcD⟩ := hn2.count (PySem.Within.cons name v hw)
  refine wpAny_bind (wpAny_lookBehind hoD (by rw [hdD]; exact pastItsLine_dict (Nat.le_trans hcD (by rw [List.length_cons]; omega))) ?_)
  exact wpAny_pure (h _ ⟨(hs2.2 _ (Ne.symm I.ne)).trans I.obj, hn2, I.ne⟩ hs2)

/-- C(..): the dict at the heap's end, the instance behind it; then its __init__ -/
theorem make_map {R : Result → Shared → Prop} {vs : List Value} {kw : List (Str × Value)} (X : K.In s.heap) (hm : PySem.W.makesIn K C = true)
    (hi : PySem.W.findIn K (.ref C) "__init__" = some (some (.ref f))) (hf : PySem.W.typeIn K (.ref f) = some (.type "function"))
    (h : codeAny (model prog w) (A.under (.builtin "type.__call__" ⟨.ref C :: vs, kw⟩)) (.call (.ref f) ⟨.ref (s.heap.objs.size + 1) :: vs, kw⟩) (PySem.W.InitBack (s.heap.objs.size + 1) R)
      { s with heap := (s.heap.push PySem.W.emptyDict).push (PySem.W.instObj C s.heap.objs.size) }) :
    codeAny (model prog w) A (.call (.ref C) ⟨vs, kw⟩) R s := by
  obtain ⟨hh, g, d, t, os⟩ := s
  exact PySem.W.make_core (PySem.W.makes_of X hm) (PySem.W.looks_findIn X hi) (fun self => PySem.W.bind_fn X self hf) (.inl rfl) h
end

def putF (f : Str) (v : V) : List (Str × V) → List (Str × V)
  | [] => [(f, v)]
  | (g, x) :: r => if g = f then (g, v) :: r else (g, x) :: putF f v r
theorem lookup_putF (f g : Str) (v : V) : ∀ fs : List (Str × V), (putF f v fs).lookup g = if g = f then some v else fs.lookup g
  | [] => by
    show List.lookup g [(f, v)] = _
    by_cases h : g = f
    · have hb : (g == f) = true := beq_iff_eq.mpr h
      simp only [List.lookup, hb, if_pos h]
    · have hb : (g == f) = false := beq_eq_false_iff_ne.mpr h
      simp only [List.lookup, hb, if_neg h]
  | (k, x) :: r => by
    have ih := lookup_putF f g v r
    rw [show putF f v ((k, x) :: r) = (if k = f then (k, v) :: r else (k, x) :: putF f v r) from rfl]
    by_cases hk : k = f
    · rw [if_pos hk]
      by_cases h : g = k
      · have hb : (g == k) = true := beq_iff_eq.mpr h
        simp only [List.lookup, hb, if_pos (h.trans hk)]
      · have hb : (g == k) = false := beq_eq_false_iff_ne.mpr h
        simp only [List.lookup, hb, if_neg (fun e : g = f => h (e.trans hk.symm))]
    · rw [if_neg hk]
      by_cases h : g = k
      · have hb : (g == k) = true := beq_iff_eq.mpr h
        simp only [List.lookup, hb, if_neg (fun e : g = f => hk (h.symm.trans e))]
      · have hb : (g == k) = false := beq_eq_false_iff_ne.mpr h
        simp only [List.lookup, hb]
        exact ih
theorem keys_putF (f : Str) (v : V) : ∀ fs : List (Str × V), f ∈ (putF f v fs).map (·.1) ∧ ∀ g, g ∈ fs.map (·.1) → g ∈ (putF f v fs).map (·.1)
  | [] => ⟨by simp [putF], fun g h => by simp at h⟩
  | (k, x) :: r => by
    obtain ⟨i1, i2⟩ := keys_putF f v r
    rw [show putF f v ((k, x) :: r) = (if k = f then (k, v) :: r else (k, x) :: putF f v r) from rfl]
    by_cases hk : k = f
    · rw [if_pos hk]
      subst hk
      exact ⟨by simp, fun g h => by simpa using h⟩
    · rw [if_neg hk]
      refine ⟨?_, fun g h => ?_⟩
      · rw [List.map_cons]
        exact List.mem_cons_of_mem _ i1
      · rw [List.map_cons] at h ⊢
        rcases List.mem_cons.mp h with e | e
        · exact List.mem_cons.mpr (.inl e)
        · exact List.mem_cons_of_mem _ (i2 g e)
theorem length_putF (f : Str) (v : V) : ∀ fs : List (Str × V), (putF f v fs).length ≤ fs.length + 1
  | [] => by simp [putF]
  | (k, x) :: r => by
    have ih := length_putF f v r
    rw [show putF f v ((k, x) :: r) = (if k = f then (k, v) :: r else (k, x) :: putF f v r) from rfl]
    by_cases hk : k = f
    · rw [if_pos hk, List.length_cons, List.length_cons]; omega
    · rw [if_neg hk, List.length_cons, List.length_cons]; omega

theorem RelO.some_of {v : V} {o : Option Value} (r : RelO (some v) o) : ∃ u, o = some u ∧ RelV v u := by
  cases o with
  | none => exact (show False from r).elim
  | some u => exact ⟨u, rfl, r⟩
theorem handed_of {v : V} {u : Value} (r : RelV v u) : PySem.W.handedIn u = true := by
  cases v with
  | non => cases (show u = Value.none from r); rfl
  | bl b => cases (show u = Value.bool b from r); rfl
  | int i => obtain ⟨t, e⟩ := (show ∃ t, u = Value.int i t from r); cases e; rfl
  | str x => obtain ⟨t, e⟩ := (show ∃ t, u = Value.str x t from r); cases e; rfl
  | byt b => obtain ⟨t, e⟩ := (show ∃ t, u = Value.bytes b t from r); cases e; rfl
  | flt b => obtain ⟨t, e⟩ := (show ∃ t, u = Value.float b t from r); cases e; rfl
  | ref a => cases (show u = Value.ref a from r); rfl
  | ty n => cases (show u = Value.type n from r); rfl

section
variable {P : Program} {w : World} {H H' : Hp} {h h' : Heap} {a C dx : Addr} {fs fs' : List (Str × V)}
theorem ins_get (hok : HOk P w H h) (e : H a = some (.ins C dx fs)) : ∃ mA, ObjM h a dx C mA ∧ (∀ f, RelO (fs.lookup f) (mA f)) ∧ PySem.Within mA (fs.map (·.1)) ∧ fs.length ≤ 1000 ∧ H dx = some (.own a) := by
  obtain ⟨d, z, ne, ob, mA, n, r, q⟩ := (show ObjOk P w H h a (.ins C dx fs) from hok a _ e)
  exact ⟨mA, ⟨ob, n, ne⟩, r, q, z, d⟩
end

structure Cls (K : PySem.W.Frag) (C : Addr) : Prop where
  pg : PySem.W.plainGet K C Str.empty = true
  hd : PySem.W.hasDictIn K C = true
  po : PySem.W.plainOver K C = true
  sa : PySem.W.findIn K (.ref C) "__setattr__" = some (some (.builtin "object.__setattr__"))
theorem Cls.get {K : PySem.W.Frag} {C : Addr} (c : Cls K C) (f : Str) : PySem.W.plainGet K C f = true := c.pg
/-- no class of it has the name -/
def NoAttr (K : PySem.W.Frag) (C : Addr) (f : Str) : Prop := PySem.W.findIn K (.ref C) f = some none
theorem NoAttr.taker {K : PySem.W.Frag} {C : Addr} {f : Str} (n : NoAttr K C f) : PySem.W.takerIn K C f = some none := by
  unfold PySem.W.takerIn
  rw [show PySem.W.findIn K (.ref C) f = some none from n]
  rfl
/-- a constant of the class -/
structure Con (K : PySem.W.Frag) (C : Addr) (f : Str) (v : V) (u : Value) : Prop where
  at_ : PySem.W.findIn K (.ref C) f = some (some u)
  rel : RelV v u
  get : PySem.W.specialIn K u "__get__" = some none
  cp : PySem.W.copiedNames.contains f = false
/-- a method: a plain def of the class or of one above it -/
structure Meth (K : PySem.W.Frag) (C : Addr) (m : Str) (f : Addr) : Prop where
  at_ : PySem.W.findIn K (.ref C) m = some (some (.ref f))
  fn : PySem.W.isFn K (.ref f) = true
  kp : PySem.W.keepIn K (.ref f) = true

section
variable {X : Cx} {pins : List (Addr × Obj)} {σ : St} {H : Hp} {s : Shared} {a C dx : Addr} {fs : List (Str × V)} {f : Str} {v : V} {A : Around} {E : Value → Shared → Prop}

theorem setattr_ok {y : V} {u : Value} {Q : Unit → Shared → Prop} (I : Inv X pins σ H s) (e : H a = some (.ins C dx fs)) (c : Cls X.K C) (n : NoAttr X.K C f) (hl : fs.length < 1000) (ry : RelV y u)
    (h : ∀ s', Inv X pins σ (upd H a (.ins C dx (putF f y fs))) s' → Q () s') : wpAny (model X.prog X.w) A (setAttr (.ref a) f u) Q E s := by
  obtain ⟨mA, O, r, wi, _, ho⟩ := ins_get I.hok e
  have hz : (fs.map (·.1)).length ≤ sizeLine := by rw [List.length_map, sizeLine_eq]; omega
  refine set_map I.kIn O c.sa c.po n.taker c.hd wi hz fun h' O' sb => h _ ?_
  have hd : ∃ o, h'.get? dx = some o := let ⟨o, _, _, e', _⟩ := O'.ns; ⟨o, e'⟩
  refine I.write (x := a) (e := dx) (by rw [e]; exact True.intro) (.inr ho) (fun b q hb z => (sb.2 b hb).trans z) hd ?_
  refine ⟨by rw [upd_ne O.ne]; exact ho, ?_, O.ne, O'.obj, _, O'.ns, fun g => ?_, fun g hg => ?_⟩
  · have := length_putF f y fs; omega
  · show RelO ((putF f y fs).lookup g) (if g = f then some u else mA g)
    rw [lookup_putF]
    by_cases q : g = f
    · rw [if_pos q, if_pos q]; exact ry
    · rw [if_neg q, if_neg q]; exact r g
  · by_cases q : g = f
    · rw [q]; exact (keys_putF f y fs).1
    · refine (keys_putF f y fs).2 g (wi g fun z => hg ?_)
      show (if g = f then some u else mA g) = none
      rw [if_neg q]; exact z

/-- a new instance, tracked, without attributes -/
theorem Inv.made (I : Inv X pins σ H s) : Inv X pins σ (upd (upd H s.heap.objs.size (.own (s.heap.objs.size + 1))) (s.heap.objs.size + 1) (.ins C s.heap.objs.size []))
    { s with heap := (s.heap.push PySem.W.emptyDict).push (PySem.W.instObj C s.heap.objs.size) } := by
  have e1 : (s.heap.push PySem.W.emptyDict).get? s.heap.objs.size = some PySem.W.emptyDict := Heap.get?_push_size s.heap rfl
  have e2 : ((s.heap.push PySem.W.emptyDict).push (PySem.W.instObj C s.heap.objs.size)).get? (s.heap.objs.size + 1) = some (PySem.W.instObj C s.heap.objs.size) := by
    have := Heap.get?_push_size (s.heap.push PySem.W.emptyDict) (o := PySem.W.instObj C s.heap.objs.size) rfl
    rwa [Heap.size_push] at this
  have e3 : (s.heap.push PySem.W.emptyDict).Ns s.heap.objs.size (fun _ => none) := ⟨PySem.W.emptyDict, #[], _, e1, rfl, (fun e he => absurd he (by simp)), fun _ => rfl⟩
  have I1 := I.laid (a := s.heap.objs.size) (o := .own (s.heap.objs.size + 1)) (h' := s.heap.push PySem.W.emptyDict) (t' := s.toks) (fun b u q => Heap.get?_push_of_some _ q) (Nat.le_refl _) ⟨_, e1⟩
  refine I1.laid (a := s.heap.objs.size + 1) (o := .ins C s.heap.objs.size []) (t' := s.toks) (fun b u q => Heap.get?_push_of_some _ q) (Nat.le_of_eq (Heap.size_push _ _)) ?_
  have ne : s.heap.objs.size ≠ s.heap.objs.size + 1 := Nat.ne_of_lt (Nat.lt_succ_self _)
  refine ⟨by rw [upd_ne ne, upd_same], Nat.zero_le _, ne, e2, fun _ => none, (Heap.Ns1.of_empty e3).at fun o q => Heap.get?_push_of_some _ q, fun _ => True.intro, fun y hy => absurd rfl hy⟩

/-- e.f where nothing but the object is asked: through attributeBase (super) and the last hold -/
theorem attr_of {prog : Program} {w : World} {env : Env} {e : Expr} {f : Str} {pos : Pos} {s : Shared} {Q : Value → Shared → Prop} (hb : attributeBase e f env (eval e env) = eval e env)
    (h : wpAny (model prog w) A (eval e env) (fun o s₁ => wpAny (model prog w) A (getAttr o f true) Q E s₁) E s) : wpAny (model prog w) A (eval (.Attribute e f pos) env) Q E s :=
  Attribute_any_ h (by rw [arm_eval_Attribute, hb])
end

/-- e.f, an attribute of the instance -/
def tFld (K : PySem.W.Frag) (ta : TE) (f : Str) : TE := fun σ H Q => ta σ H fun x H1 => ∃ a C dx fs v, x = .ref a ∧ H1 a = some (.ins C dx fs) ∧ Cls K C ∧ NoAttr K C f ∧ fs.lookup f = some v ∧ Q v H1
/-- e.f = value -/
def sFld (K : PySem.W.Frag) (ta tv : TE) (f : Str) : TS := fun D σ H => tv σ H fun y H1 => ta σ H1 fun x H2 => ∃ a C dx fs, x = .ref a ∧ H2 a = some (.ins C dx fs) ∧ Cls K C ∧ NoAttr K C f ∧ fs.length < 1000 ∧
  D.nx σ (upd H2 a (.ins C dx (putF f y fs)))
section
variable {X : Cx} {o e value : Expr} {f : Str} {pos pos' tpos : Pos} {ta tv : TE}
theorem ps_fld (ha : PE X o ta) (hv : PE X value tv) (hs : swapsWith value (some (.Attribute o f pos')) pos.line X.env = pure false) : PS X (.Assign [.Attribute o f pos'] value pos) (sFld X.K ta tv f) := by
  intro pins s σ H D I h
  refine plainObj_wpAny_Assign_Attribute (thn (hv pins s σ H _ I h) fun u s1 ⟨y, H1, I1, ry, q⟩ => thn (ha pins s1 σ H1 _ I1 q) fun ov s2 ⟨x, H2, I2, rx, a, C, dx, fs, ex, ea, c, n, l, q2⟩ => ?_) hs
  subst ex
  obtain rfl : ov = Value.ref a := rx
  exact setattr_ok I2 ea c n l ry fun s3 I3 => ⟨σ, _, I3, q2⟩
end

section
variable {X : Cx} {pins : List (Addr × Obj)} {σ : St} {H : Hp} {s : Shared} {A : Around} {E : Value → Shared → Prop} {Q : Value → Shared → Prop} {c : Value} {b : Bool}
/-- the type of a value, as the fragment's deciders take it; for an instance its class -/
inductive TyOf (K : PySem.W.Frag) (H : Hp) : V → Value → Prop where
  | non : TyOf K H .non (.type "NoneType")
  | bl (x : Bool) : TyOf K H (.bl x) (.type "bool")
  | int (i : Int) : TyOf K H (.int i) (.type "int")
  | str (x : Str) : TyOf K H (.str x) (.type "str")
  | flt (x : UInt64) : TyOf K H (.flt x) (.type "float")
  | lst {a : Addr} {xs : List V} (e : H a = some (.lst xs)) : TyOf K H (.ref a) (.type "list")
  | frz {a : Addr} {o : Obj} {xs : List V} (e : H a = some (.frz o (.lst xs))) : TyOf K H (.ref a) (.type "list")
  | tup {a : Addr} {xs : List V} (e : H a = some (.tup xs)) : TyOf K H (.ref a) (.type "tuple")
  | dK {a : Addr} {kvs : List (Key × V)} (e : H a = some (.dK kvs)) : TyOf K H (.ref a) (.type "dict")
  | dT {a : Addr} {kvs : List (List Key × V)} (e : H a = some (.dT kvs)) : TyOf K H (.ref a) (.type "dict")
  | ins {a C dx : Addr} {fs : List (Str × V)} (e : H a = some (.ins C dx fs)) (cl : Cls K C) (ha : PySem.W.findIn K (.ref C) "__class__" = some (some (.builtin "object.__class__")))
      (hn : PySem.W.specialIn K (.builtin "object.__class__") "__get__" = some (some (.builtin "getset_descriptor.__get__"))) (htk : PySem.W.takesIn K (.builtin "object.__class__") = some true)
      (hm : PySem.W.mroIn K C (.type "object") = some true) : TyOf K H (.ref a) (.ref C)
/-- isinstance(x, c) for one class c, a built-in or an own one: kitOne's answer -/
theorem isinst_ok {x : V} {u t : Value} (I : Inv X pins σ H s) (rx : RelV x u) (ty : TyOf X.K H x t) (e : PySem.W.kitOne X.K t c = some b) (h : ∀ tk, Q (.bool b) { s with toks := tk }) :
    wpAny (model X.prog X.w) A (call (.builtin "isinstance") [u, c]) Q E s := by
  cases ty with
  | non => cases (show u = Value.none from rx); exact PySem.W.kia_one PySem.W.kitx_none I.kIn True.intro e (fun z => nomatch z) h
  | bl y => cases (show u = Value.bool y from rx); exact PySem.W.kia_one PySem.W.kitx_bool I.kIn True.intro e (fun z => nomatch z) h
  | int i => obtain ⟨t, q⟩ := (show ∃ t, u = Value.int i t from rx); cases q; exact PySem.W.kia_one PySem.W.kitx_int I.kIn True.intro e (fun z => nomatch z) h
  | str y => obtain ⟨t, q⟩ := (show ∃ t, u = Value.str y t from rx); cases q; exact PySem.W.kia_one PySem.W.kitx_str I.kIn True.intro e (fun z => nomatch z) h
  | flt y => obtain ⟨t, q⟩ := (show ∃ t, u = Value.float y t from rx); cases q; exact PySem.W.kia_one PySem.W.kitx_float I.kIn True.intro e (fun z => nomatch z) h
  | @lst a xs ea =>
    cases (show u = Value.ref a from rx)
    obtain ⟨_, _, n, _, h1⟩ := (show ObjOk X.prog X.w H s.heap a (.lst xs) from I.hok a _ ea)
    exact PySem.W.kia_one PySem.W.kitx_list I.kIn ⟨_, h1, rfl⟩ e (fun z => nomatch z) h
  | @frz a ob xs ea =>
    cases (show u = Value.ref a from rx)
    obtain ⟨_, _, _, n, _, h1⟩ := (show ObjOk X.prog X.w H s.heap a (.frz ob (.lst xs)) from I.hok a _ ea)
    exact PySem.W.kia_one PySem.W.kitx_list I.kIn ⟨_, h1, rfl⟩ e (fun z => nomatch z) h
  | @tup a xs ea =>
    cases (show u = Value.ref a from rx)
    obtain ⟨_, _, _, p⟩ := (show ObjOk X.prog X.w H s.heap a (.tup xs) from I.hok a _ ea)
    obtain ⟨o, h1, h2, _⟩ := p
    exact PySem.W.kia_one PySem.W.kitx_tuple I.kIn ⟨o, h1, h2⟩ e (fun z => nomatch z) h
  | @dK a kvs ea =>
    cases (show u = Value.ref a from rx)
    obtain ⟨_, _, vs, _, p⟩ := (show ObjOk X.prog X.w H s.heap a (.dK kvs) from I.hok a _ ea)
    obtain ⟨o, es, ep, h1, h2, _⟩ := p
    exact PySem.W.kia_one PySem.W.kitx_dict I.kIn ⟨o, h1, h2.1⟩ e (fun z => nomatch z) h
  | @dT a kvs ea =>
    cases (show u = Value.ref a from rx)
    obtain ⟨_, _, xs, _, o, es, ep, h1, h2, _⟩ := (show ObjOk X.prog X.w H s.heap a (.dT kvs) from I.hok a _ ea)
    exact PySem.W.kia_one PySem.W.kitx_dict I.kIn ⟨o, h1, h2.1⟩ e (fun z => nomatch z) h
  | @ins a C dx fs ea cl ha hn htk hm =>
    cases (show u = Value.ref a from rx)
    obtain ⟨mA, O, _⟩ := ins_get I.hok ea
    obtain ⟨od, J, _⟩ := O.look
    exact PySem.W.kia_one (PySem.W.kitx_own (cl.get _) cl.hd ha hn htk hm) I.kIn J e (fun z => nomatch z) h
end
end L2

namespace L2
open PySem PySem.Spec PyProof.Rows

structure Room (k : Nat) (A : Around) : Prop where
  hd : A.handled = none
  dp : A.depth + 3 * k + 5 < recursionLimit
  un : A.units + 16 * k + 200 < cLine
theorem Room.mono {j k : Nat} {A : Around} (r : Room k A) (h : j ≤ k) : Room j A := ⟨r.hd, by have := r.dp; omega, by have := r.un; omega⟩
theorem Room.deeper {k : Nat} {A : Around} (r : Room (k + 1) A) (env : Env) : Room k (A.deeper env) :=
  ⟨r.hd, by have := r.dp; show A.depth + 1 + 3 * k + 5 < _; omega, by have := r.un; show A.units + 3 + 16 * k + 200 < _; omega⟩
theorem Room.in1 {k : Nat} {A : Around} (r : Room (k + 1) A) : Room k A.in1 :=
  ⟨r.hd, by have := r.dp; show A.depth + 3 * k + 5 < _; omega, by have := r.un; show A.units + 1 + 16 * k + 200 < _; omega⟩
theorem make_depth {A : Around} {C : Addr} {us : List Value} {kw : List (Str × Value)} : (A.under (.builtin "type.__call__" ⟨.ref C :: us, kw⟩)).depth = A.depth + 1 := by
  first | rfl | simp [Around.under, Code.weight, Code.isCreation, Code.isGuard, Code.isCaller, Code.frames, Code.isFrame, guardIds]
theorem make_units {A : Around} {C : Addr} {us : List Value} {kw : List (Str × Value)} : (A.under (.builtin "type.__call__" ⟨.ref C :: us, kw⟩)).units = A.units + 1 := by
  first | rfl | simp [Around.under, Code.cUnits, Code.frames, Code.isFrame]
theorem Room.make {k : Nat} {A : Around} (r : Room (k + 1) A) (C : Addr) (us : List Value) (kw : List (Str × Value)) : Room k (A.under (.builtin "type.__call__" ⟨.ref C :: us, kw⟩)) :=
  ⟨r.hd, by have := r.dp; rw [make_depth]; omega, by have := r.un; rw [make_units]; omega⟩
theorem Room.depth {k : Nat} {A : Around} (r : Room k A) : A.depth < recursionLimit := by have := r.dp; omega
theorem Room.units {k : Nat} {A : Around} (r : Room k A) : A.units + 64 < cLine := by have := r.un; omega
def tNil : TA := fun _ H Q => Q [] H
def tCons (ta : TE) (tr : TA) : TA := fun σ H Q => ta σ H fun x H1 => tr σ H1 fun xs H2 => Q (x :: xs) H2
section
variable {X : Cx} {e : Expr} {es : List Expr} {te : TE} {t : TA} {pos : Pos}
theorem pa_nil : PA X [] tNil := fun _ _ _ _ H Q I h => Calls.spliced_nil ⟨[], H, I, .nil, h⟩
theorem pa_cons (ha : PE X e te) (hr : PA X es t) (hs : starEach (e :: es) X.env = (false, eval e X.env) :: starEach es X.env := by rfl) : PA X (e :: es) (tCons te t) := by
  intro pos pins s σ H Q I h
  rw [hs]
  show wpAny _ _ (spliced ((false, eval e X.env) :: backTo pos (starEach es X.env))) _ _ s
  refine Calls.spliced_cons (thn (ha pins s σ H _ I h) fun u s1 ⟨x, H1, I1, r1, q1⟩ => ?_)
  exact thn (hr pos pins s1 σ H1 _ I1 q1) fun us s2 ⟨xs, H2, I2, r2, q2⟩ => ⟨x :: xs, H2, I2, .cons r1 r2, q2⟩

/-- a tuple, a list of written items -/
def tTup (t : TA) : TE := fun σ H Q => t σ H fun xs H1 => xs.length ≤ sizeLine ∧ ∀ p, H1 p = none → Q (.ref p) (upd H1 p (.tup xs))
def tLst (t : TA) : TE := fun σ H Q => t σ H fun xs H1 => xs.length ≤ sizeLine ∧ ∀ p, H1 p = none → Q (.ref p) (upd H1 p (.lst xs))
theorem pe_tup {x1} (h : PA X es t) : PE X (.Tuple es x1 pos) (tTup t) := by
  intro pins s σ H Q I hq
  refine wpAny_Tuple_spliced (thn (h pos pins s σ H _ I hq) fun us s1 ⟨xs, H1, I1, r, z, q⟩ => ⟨by rw [← r.length]; exact z, ?_⟩)
  have hf : H1 s1.heap.objs.size = none := I1.hok.fresh (Nat.le_refl _)
  refine ⟨.ref s1.heap.objs.size, upd H1 s1.heap.objs.size (.tup xs), I1.laid (t' := s1.toks) (fun b u e => Heap.get?_push_of_some _ e) (Nat.le_refl _) ?_, rfl, q _ hf⟩
  exact ⟨z, us, r, ⟨_, Heap.get?_push_size _ rfl, rfl, _, rfl⟩⟩
theorem pe_lst (h : PA X es t) : PE X (.List es pos) (tLst t) := by
  intro pins s σ H Q I hq
  refine wpAny_List_spliced (thn (h pos pins s σ H _ I hq) fun us s1 ⟨xs, H1, I1, r, z, q⟩ => ⟨by rw [← r.length]; exact z, ?_⟩)
  have hf : H1 s1.heap.objs.size = none := I1.hok.fresh (Nat.le_refl _)
  refine ⟨.ref s1.heap.objs.size, upd H1 s1.heap.objs.size (.lst xs), I1.laid (t' := s1.toks) (fun b u e => Heap.get?_push_of_some _ e) (Nat.le_refl _) ?_, rfl, q _ hf⟩
  exact ⟨z, us, 0, r, Heap.get?_push_size _ rfl⟩
end

/-- a def's promise: the bound arguments in the parameters' order, the heap, the wanted end, the wanted exception -/
abbrev Sp := List V → Hp → VK → XK → Prop
/-- how an exception lies behind a call (file 08 gives it): the callers' frames, abstract heap and state ahead of the call, the wish, the exception, the state -/
abbrev CXT := List Env → Hp → Shared → XK → Value → Shared → Prop

/-- the state at a call -/
structure Env0 (P : Program) (w : World) (K : PySem.W.Frag) (mg : Str → Option Value) (base : Heap) (A : Around) (outer : List Env) (s : Shared) (H : Hp) : Prop where
  frames : A.frames = some outer
  mod : Mod K mg base
  bs : ∀ b o, base.get? b = some o → s.heap.get? b = some o ∧ H b = none
  bsz : base.objs.size ≤ s.heap.objs.size
  funs : s.heap.FunFrames base outer
  frf : ∀ b ∈ frs outer, H b = none
  hok : HOk P w H s.heap
  bare : AllBare s.gens
/-- a call's end -/
def CE (outer : List Env) (P : Program) (w : World) (H : Hp) (s : Shared) (Q : VK) (u : Value) (s' : Shared) : Prop :=
  ∃ v H', s'.os = s.os ∧ AllBare s'.gens ∧ Un (frs outer) [] H H' s.heap s'.heap ∧ HOk P w H' s'.heap ∧ RelV v u ∧ Q v H'
def CR (CX : CXT) (outer : List Env) (P : Program) (w : World) (H : Hp) (s : Shared) (Q : VK) (E : XK) (r : Result) (s' : Shared) : Prop :=
  match r with
  | .ok (.ret u) => CE outer P w H s Q u s'
  | .ok _ => False
  | .error e => CX outer H s E e s'
structure FnOk (P : Program) (w : World) (K : PySem.W.Frag) (mg : Str → Option Value) (base : Heap) (CX : CXT) (k : Nat) (f : Addr) (fd : FuncData) (ps : List Str) (sp : Sp) : Prop where
  len : ∀ vs H Q E, sp vs H Q E → vs.length = ps.length
  run : ∀ (A : Around) (outer : List Env) (s : Shared) (H : Hp) (args : Args) (us : List Value) (vs : List V) (Q : VK) (E : XK), Room k A → Env0 P w K mg base A outer s H → BindsTo s fd args (ps.zip us) → Vals vs us → sp vs H Q E →
    codeAny (model P w) A (.call (.ref f) args) (CR CX outer P w H s Q E) s
theorem FnOk.mono {P : Program} {w : World} {K : PySem.W.Frag} {mg : Str → Option Value} {base : Heap} {CX : CXT} {j k : Nat} {f : Addr} {fd : FuncData} {ps : List Str} {sp : Sp} (F : FnOk P w K mg base CX j f fd ps sp) (h : j ≤ k) :
    FnOk P w K mg base CX k f fd ps sp := ⟨F.len, fun A outer s H args us vs Q E hr => F.run A outer s H args us vs Q E (hr.mono h)⟩
theorem Env0.make {P : Program} {w : World} {K : PySem.W.Frag} {mg : Str → Option Value} {base : Heap} {A : Around} {outer : List Env} {s : Shared} {H : Hp} (e : Env0 P w K mg base A outer s H) (C : Addr) (us : List Value) (kw : List (Str × Value)) :
    Env0 P w K mg base (A.under (.builtin "type.__call__" ⟨.ref C :: us, kw⟩)) outer s H := ⟨by first | exact e.frames | (simpa [Around.under, Code.envs, Code.isFrame, pushEnvs] using e.frames), e.mod, e.bs, e.bsz, e.funs, e.frf, e.hok, e.bare⟩
theorem Env0.in1 {P : Program} {w : World} {K : PySem.W.Frag} {mg : Str → Option Value} {base : Heap} {A : Around} {outer : List Env} {s : Shared} {H : Hp} (e : Env0 P w K mg base A outer s H) :
    Env0 P w K mg base A.in1 outer s H := ⟨e.frames, e.mod, e.bs, e.bsz, e.funs, e.frf, e.hok, e.bare⟩

section
variable {X : Cx} {pins : List (Addr × Obj)} {σ : St} {H : Hp} {s s' : Shared}
/-- from a body: what a callee wants -/
theorem Inv.env0 (I : Inv X pins σ H s) : Env0 X.prog X.w X.K X.mg X.base X.A X.stack s H :=
  ⟨I.ok.frames, I.ok.mod, I.bs, Nat.le_trans I.ok.bsz I.sz, I.stack, I.stkFree, I.hok, I.bare⟩
/-- behind a call -/
theorem Inv.after {Q : VK} {u : Value} (I : Inv X pins σ H s) (h : CE X.stack X.prog X.w H s Q u s') : EP X pins σ Q u s' := by
  obtain ⟨v, H', os, bare, un, hok, r, q⟩ := h
  obtain ⟨hh, g, d, t, os'⟩ := s'
  obtain rfl : os' = s.os := os
  exact ⟨v, H', I.call (h' := hh) (g' := g) (d' := d) (t' := t) (ch := []) un hok bare (fun b z => absurd z (by simp)), r, q⟩
end

/-- f(..): the written arguments, then the defaults dvs; E: what is wanted of an exception -/
def tCall (sp : Sp) (dvs : List V) (E : XK) (t : TA) : TE := fun σ H Q => t σ H fun vs H1 => sp (vs ++ dvs) H1 Q E
/-- o.m(..) of an instance of the class at C -/
def tMeth (C : Addr) (m : Str) (sp : Sp) (dvs : List V) (E : XK) (ta : TE) (t : TA) : TE := fun σ H Q => ta σ H fun x H1 => ∃ a dx fs, x = .ref a ∧ H1 a = some (.ins C dx fs) ∧ fs.lookup m = none ∧
  t σ H1 fun vs H2 => sp (x :: (vs ++ dvs)) H2 Q E
/-- C(..): a new instance and its dict, then __init__ -/
def tMake (C : Addr) (sp : Sp) (dvs : List V) (E : XK) (t : TA) : TE := fun σ H Q => t σ H fun vs H1 => ∀ x dx, H1 x = none → H1 dx = none → dx ≠ x →
  sp (.ref x :: (vs ++ dvs)) (upd (upd H1 dx (.own x)) x (.ins C dx [])) (fun v H2 => v = .non ∧ Q (.ref x) H2) E

/-- how the parameters are bound: us the positional arguments, kw the keywords' values by name, ds the defaults that fill up -/
def Binds (K : PySem.W.Frag) (fd : FuncData) (ps : List Str) (ds : List Value) : Prop :=
  ∀ (s : Shared) (us : List Value), K.In s.heap → (us ++ ds).length = ps.length → BindsTo s fd ⟨us, []⟩ (ps.zip (us ++ ds))
/-- every parameter is given -/
theorem Binds.all {K : PySem.W.Frag} {fd : FuncData} {ps : List Str} (h : ∀ us : List Value, us.length = ps.length → bindArgs fd ⟨us, []⟩ = pure (ps.zip us)) : Binds K fd ps [] := fun s us _ hl => by
  rw [List.append_nil] at hl ⊢
  exact .of_eq (h us hl)

/-- an exception of a callee reaches what this body wants of exceptions -/
def Passes (CX : CXT) (X : Cx) (E : XK) : Prop := ∀ (pins : List (Addr × Obj)) (σ : St) (H : Hp) (s : Shared) (e : Value) (s' : Shared), Inv X pins σ H s → CX X.stack H s E e s' → X.xe e s'

section
variable {X : Cx} {CX : CXT} {k : Nat} {f C : Addr} {fd : FuncData} {ps : List Str} {sp : Sp} {dvs : List V} {ds : List Value} {E : XK} {x m : Str} {p pos apos : Pos} {e o : Expr} {es : List Expr} {ta : TE} {t : TA}

/-- the callee runs -/
theorem run_fn {pins : List (Addr × Obj)} {σ : St} {H : Hp} {s : Shared} {Q : VK} {us : List Value} {vs : List V} (F : FnOk X.prog X.w X.K X.mg X.base CX k f fd ps sp) (hr : Room k X.A) (hb : Binds X.K fd ps ds) (hd : Vals dvs ds) (hx : Passes CX X E)
    (I : Inv X pins σ H s) (r : Vals vs us) (h : sp (vs ++ dvs) H Q E) : wpAny (model X.prog X.w) X.A (call (.ref f) us) (EP X pins σ Q) X.xe s := by
  have r2 : Vals (vs ++ dvs) (us ++ ds) := r.append hd
  have hl : (us ++ ds).length = ps.length := by rw [← r2.length]; exact F.len _ _ _ _ h
  refine wpAny_call (codeAny_mono (F.run X.A X.stack s H ⟨us, []⟩ (us ++ ds) (vs ++ dvs) Q E hr I.env0 (hb s us I.kIn hl) r2 h) fun r s' hq => ?_)
  cases r with
  | error e => exact hx pins σ H s e s' I hq
  | ok fl =>
    cases fl with
    | ret u => exact I.after hq
    | next => exact False.elim hq
    | brk => exact False.elim hq
    | cont => exact False.elim hq

theorem pe_call (F : FnOk X.prog X.w X.K X.mg X.base CX k f fd ps sp) (hr : Room k X.A) (hg : Gl X x) (hm : X.mg x = some (.ref f)) (hk : PySem.W.keepIn X.K (.ref f) = true) (hb : Binds X.K fd ps ds) (hd : Vals dvs ds) (hx : Passes CX X E)
    (ha : PA X (e :: es) t) (hdb : (x == ("__debug__" : Str)) = false := by decide) (he : starEach (e :: es) X.env = (false, eval e X.env) :: starEach es X.env := by rfl) (hpl : (backTo pos (starEach es X.env)).any (·.1) = false := by rfl) :
    PE X (.Call (.Name x p) (e :: es) [] pos) (tCall sp dvs E t) := by
  intro pins s σ H Q I h
  refine wpAny_Call_Name_kw (ld_glob I hg hm ?_ hdb)
  refine PySem.W.callWith_K (h₀ := X.base) I.ok.mod.kin hk (thn (ha pos pins s σ H _ I h) fun us s1 ⟨vs, H1, I1, r, q⟩ => ⟨I1.kIn, ?_⟩) he hpl
  exact run_fn F hr hb hd hx I1 r q
/-- what a class must have to be made -/
structure Mk (K : PySem.W.Frag) (C f : Addr) : Prop where
  makes : PySem.W.makesIn K C = true
  init : PySem.W.findIn K (.ref C) "__init__" = some (some (.ref f))
  fn : PySem.W.isFn K (.ref f) = true
  kp : PySem.W.keepIn K (.ref C) = true

end

section
variable {X : Cx} {CX : CXT} {k : Nat} {f C : Addr} {fd : FuncData} {ps ks : List Str} {sp : Sp} {E : XK} {x m : Str} {p pos apos kpos : Pos} {e o : Expr} {es : List Expr} {kws : List Keyword} {te ta : TE} {t tk : TA} {nm : Option Str}
/-- how a call with keywords binds: g puts the positional values us and the keywords' values ws (names ks) in the parameters' order, defaults among them -/
structure KBinds (K : PySem.W.Frag) (fd : FuncData) (ps ks : List Str) (g : List Value → List Value → List Value) (gV : List V → List V → List V) : Prop where
  to : ∀ (s : Shared) (us ws : List Value), K.In s.heap → (g us ws).length = ps.length → BindsTo s fd ⟨us, ks.zip ws⟩ (ps.zip (g us ws))
  rel : ∀ {vs : List V} {us : List Value} {zs : List V} {ws : List Value}, Vals vs us → Vals zs ws → Vals (gV vs zs) (g us ws)
variable {g : List Value → List Value → List Value} {gV : List V → List V → List V}
end

/-- names: the parameters first -/
structure FnScope (N P : List Str) (sc : Scope) : Prop where
  kind : sc.kind = .function
  co : sc.isCoroutine = false
  gen : sc.isGenerator = false
  nd : N.Nodup
  pre : N.take P.length = P
  par : ∀ x ∈ P, sc.names.lookup x = some .local ∨ sc.names.lookup x = some .cell
  nofree : ∀ y ∈ sc.names, y.2 ≠ .free

theorem bindL_out {kindOf : Str → Option NameKind} {x : Str} : ∀ {binds : List (Str × Value)} {m : Str → Option Value}, (∀ v, (x, v) ∉ binds) → bindL kindOf binds m x = m x
  | [], _, _ => rfl
  | (n, v) :: r, m, h => by
    unfold bindL
    rw [bindL_out fun w hw => h w (List.mem_cons_of_mem _ hw)]
    split
    · have : x ≠ n := by rintro rfl; exact h v List.mem_cons_self
      simp [this]
    · rfl
theorem bindC_out {kindOf : Str → Option NameKind} {x : Str} : ∀ {binds : List (Str × Value)} {m : Str → Option Value}, (∀ v, (x, v) ∉ binds) → bindC kindOf binds m x = m x
  | [], _, _ => rfl
  | (n, v) :: r, m, h => by
    unfold bindC
    rw [bindC_out fun w hw => h w (List.mem_cons_of_mem _ hw)]
    split
    · rfl
    · have : x ≠ n := by rintro rfl; exact h v List.mem_cons_self
      simp [this]
theorem bindL_get {kindOf : Str → Option NameKind} {x : Str} {v : Value} : ∀ {P : List Str} {vs : List Value} {i : Nat} {m : Str → Option Value}, P.Nodup → P[i]? = some x → vs[i]? = some v → kindOf x = some .local →
    bindL kindOf (P.zip vs) m x = some v
  | [], _, _, _, _, h, _, _ => by simp at h
  | _ :: _, [], _, _, _, _, h, _ => by simp at h
  | p :: P, w :: vs, 0, m, nd, h1, h2, hk => by
    simp at h1 h2; subst h1; subst h2
    show bindL kindOf ((p, w) :: P.zip vs) m p = _
    unfold bindL
    rw [bindL_out fun v hv => (List.nodup_cons.mp nd).1 (List.of_mem_zip hv).1, if_pos hk]
    simp
  | p :: P, w :: vs, i + 1, m, nd, h1, h2, hk => by
    show bindL kindOf ((p, w) :: P.zip vs) m x = _
    unfold bindL
    exact bindL_get (i := i) (List.nodup_cons.mp nd).2 (by simpa using h1) (by simpa using h2) hk
theorem bindC_get {kindOf : Str → Option NameKind} {x : Str} {v : Value} : ∀ {P : List Str} {vs : List Value} {i : Nat} {m : Str → Option Value}, P.Nodup → P[i]? = some x → vs[i]? = some v → kindOf x ≠ some .local →
    bindC kindOf (P.zip vs) m x = some v
  | [], _, _, _, _, h, _, _ => by simp at h
  | _ :: _, [], _, _, _, _, h, _ => by simp at h
  | p :: P, w :: vs, 0, m, nd, h1, h2, hk => by
    simp at h1 h2; subst h1; subst h2
    show bindC kindOf ((p, w) :: P.zip vs) m p = _
    unfold bindC
    rw [bindC_out fun v hv => (List.nodup_cons.mp nd).1 (List.of_mem_zip hv).1, if_neg hk]
    simp
  | p :: P, w :: vs, i + 1, m, nd, h1, h2, hk => by
    show bindC kindOf ((p, w) :: P.zip vs) m x = _
    unfold bindC
    exact bindC_get (i := i) (List.nodup_cons.mp nd).2 (by simpa using h1) (by simpa using h2) hk

/-- the names' values at the entry -/
def start (N : List Str) (vs : List V) : St := vs.map some ++ List.replicate (N.length - vs.length) none

/-- the context of a def's body, at its entry; an exception leaves the frame, then lies as CX says -/
def cxOf (CX : CXT) (P : Program) (w : World) (K : PySem.W.Frag) (mg : Str → Option Value) (base : Heap) (N : List Str) (qual : Str) (scope : Scope) (f : Addr) (cd : Value) (A : Around) (outer : List Env) (s : Shared) (H : Hp) (E : XK) : Cx where
  prog := P
  w := w
  K := K
  mg := mg
  base := base
  A := A.deeper (envOfC qual scope s.heap.objs.size f cd)
  N := N
  s₀ := s
  H₀ := H
  env := envOfC qual scope s.heap.objs.size f cd
  outer := outer
  stack := envOfC qual scope s.heap.objs.size f cd :: outer
  ex := []
  calm := true
  fn := fun _ => true
  pn := []
  xe := fun e s' => wpAny (model P w) (A.deeper (envOfC qual scope s.heap.objs.size f cd)) (leaving (envOfC qual scope s.heap.objs.size f cd) e) (fun _ s'' => CX outer H s E e s'') (fun e' s'' => CX outer H s E e' s'') s'

theorem cell_has {sc : Scope} {n : Nat} {x : Str} (h : sc.names.lookup x = some .cell) : ∃ c, (cellsFrom n sc.names []).lookup x = some c := by
  have q := PySem.W.cellsFrom_some sc.names n [] (.inl h)
  exact Option.isSome_iff_exists.mp q

theorem inv_start {CX : CXT} {P : Program} {w : World} {K : PySem.W.Frag} {mg : Str → Option Value} {base : Heap} {N ps : List Str} {qual : Str} {scope : Scope} {f : Addr} {cd : Value} {A : Around} {outer : List Env} {s s1 : Shared} {H : Hp} {E : XK} {us : List Value} {vs : List V}
    (S : FnScope N ps scope) (hd : A.handled = none) (e0 : Env0 P w K mg base A outer s H) (hl : vs.length = ps.length) (r : Vals vs us)
    (x : InCallC s s.heap.objs.size (bindL (envOfC qual scope s.heap.objs.size f cd).kindOf (ps.zip us) fun _ => none) (cellsFrom (s.heap.objs.size + 1) scope.names []) (bindC (envOfC qual scope s.heap.objs.size f cd).kindOf (ps.zip us) fun _ => none) s1) :
    Inv (cxOf CX P w K mg base N qual scope f cd A outer s H E) [] (start N vs) H s1 := by
  have hpl : ps.length ≤ N.length := by have := congrArg List.length S.pre; rw [List.length_take] at this; omega
  obtain ⟨h1, tk, rfl, hk⟩ := x.done
  have noA : ∀ b : Addr, b ∉ (cxOf CX P w K mg base N qual scope f cd A outer s H E).ex := fun b z => absurd (show b ∈ ([] : List Addr) from z) (by simp)
  refine ⟨⟨e0.mod, S.kind, rfl, rfl, Nat.le_refl _, fun y z c h1 h2 => ?_, fun y hy => ?_, fun y c _ h => ?_, fun _ => hd, Around.frames_deeper e0.frames, .inr ⟨rfl, rfl⟩, fun b z => absurd z (noA b), e0.bs, e0.bsz, fun b _ _ => noA b, fun b z => absurd z (noA b), e0.funs, e0.frf⟩,
    rfl, e0.bare, Un.kept hk, ⟨_, x.toInCall.ns, fun i y v h1 h2 h3 => ?_⟩, fun y c h => ⟨_, x.cell y c h⟩, e0.hok.fresh (Nat.le_refl _), fun y c h => ?_, fun p hp => absurd (show p ∈ ([] : List (Addr × Obj)) from hp) (by simp), e0.hok.kept hk, ?_⟩
  · exact name_of_addr x.apart (PySem.mem_of_lookup h1) (PySem.mem_of_lookup h2)
  · have hy : scope.names.lookup y = some .cell ∨ scope.names.lookup y = some .free := hy
    rcases hy with hy | hy
    · exact cell_has hy
    · exact absurd rfl (S.nofree _ (PySem.mem_of_lookup hy))
  · exact Nat.le_of_lt (x.above y c (PySem.mem_of_lookup h))
  · have hi : i < vs.length := by
      unfold start at h2
      by_cases hi : i < vs.length
      · exact hi
      · rw [List.getElem?_append_right (by simpa using hi)] at h2
        rw [List.getElem?_replicate] at h2
        split at h2 <;> cases h2
    have ha : vs[i]? = some v := by
      unfold start at h2
      rw [List.getElem?_append_left (by simpa using hi), List.getElem?_map] at h2
      cases e : vs[i]? with
      | none => rw [e] at h2; cases h2
      | some a => rw [e] at h2; cases h2; rfl
    obtain ⟨u, hu, rv⟩ := r.get ha
    have hp : ps[i]? = some y := by
      rw [← S.pre, List.getElem?_take_of_lt (by omega)]; exact h1
    have ndP : ps.Nodup := by rw [← S.pre]; exact S.nd.sublist (List.take_sublist _ _)
    refine ⟨u, rv, ?_⟩
    rcases S.par y (List.mem_of_getElem? hp) with k | k
    · exact .inl ⟨k, bindL_get ndP hp hu k⟩
    · obtain ⟨c, e⟩ := cell_has (n := s.heap.objs.size + 1) k
      refine .inr ⟨.inl k, c, e, ?_⟩
      have q := x.cell y c e
      rw [bindC_get ndP hp hu (by show scope.names.lookup y ≠ _; rw [k]; decide)] at q
      exact q
  · exact e0.hok.fresh (Nat.le_of_lt (x.above y c (PySem.mem_of_lookup h)))
  · unfold start
    show _ = N.length
    rw [List.length_append, List.length_map, List.length_replicate]
    omega

/-- THE RULE: a def (or a method) of the text, by its body. The body's reading t is chosen for each entry; it is run at the parameters' values -/
theorem fn_of {CX : CXT} {P : Program} {w : World} {K : PySem.W.Frag} {mg : Str → Option Value} {base : Heap} {k : Nat} {f : Addr} {name qual : Str} {params : Arguments} {body : List Stmt} {scope : Scope} {dV kV doc pm cdv ct oc : Value} {an od : Option Addr}
    {osl : Array (Option Value)} {N ps : List Str} {sp : Sp} (lk : K.lookup f = some ⟨oc, od, .func (PySem.W.fnOf name qual params body scope dV kV doc pm an cdv ct), osl⟩) (hcd : PySem.W.codeIn K cdv qual = true) (S : FnScope N ps scope)
    (len : ∀ vs H Q E, sp vs H Q E → vs.length = ps.length)
    (hbody : ∀ (A : Around) (outer : List Env) (s : Shared) (H : Hp) (vs : List V) (Q : VK) (E : XK), Room k (A.deeper (envOfC qual scope s.heap.objs.size f cdv)) → sp vs H Q E →
      ∃ t, PSs (cxOf CX P w K mg base N qual scope f cdv A outer s H E) body t ∧ t { nx := fun _ H' => Q .non H', rt := Q } (start N vs) H) :
    FnOk P w K mg base CX (k + 1) f (PySem.W.fnOf name qual params body scope dV kV doc pm an cdv ct) ps sp := by
  refine ⟨len, fun A outer s H args us vs Q E hr e0 hb r hsp => ?_⟩
  have hl := len _ _ _ _ hsp
  have KX : K.In s.heap := e0.mod.kin.keeps fun b o e => (e0.bs b o e).1
  have lim : s.heap.NoLimit := e0.mod.nolimit.keeps fun b o e => (e0.bs b o e).1
  have hkind : ∀ y ∈ ps.zip us, scope.names.lookup y.1 = some .local ∨ (scope.names.lookup y.1 = some .cell ∧ ((cellsFrom (s.heap.objs.size + 1) scope.names []).lookup y.1).isSome = true) := fun ⟨n, v⟩ hy => by
    rcases S.par n (List.of_mem_zip hy).1 with q | q
    · exact .inl q
    · exact .inr ⟨q, PySem.W.cellsFrom_some _ _ _ (.inl q)⟩
  refine codeAny_call_function hr.depth (KX _ _ lk) rfl S.co S.gen rfl (PySem.W.codeRec_of KX hcd) (hb _ _ _ _ ?_)
  refine wpAny_newFunctionEnv_cells S.kind hkind fun env he s1 x => ?_
  subst he
  refine ⟨lim.keeps x.toInCall.keep, codeAny_func ?_⟩
  obtain ⟨t, ht, hq⟩ := hbody A outer s H vs Q E (hr.deeper _) hsp
  have I : Inv (cxOf CX P w K mg base N qual scope f cdv A outer s H E) [] (start N vs) H s1 := inv_start S hr.hd e0 hl r x
  refine wpAny_mono (ht [] s1 (start N vs) H _ I hq) (fun fl s' hs => ?_) fun e s' hs => hs
  have fin : ∀ {σ' : St} {H' : Hp} {v : V} {u : Value}, Inv (cxOf CX P w K mg base N qual scope f cdv A outer s H E) [] σ' H' s' → RelV v u → Q v H' → CE outer P w H s Q u s' :=
    fun {σ' H' v u} J rv q => ⟨v, H', J.os, J.bare, J.base, J.hok, rv, q⟩
  cases fl with
  | ret u =>
    obtain ⟨v, σ', H', J, rv, q⟩ := hs
    exact fin J rv q
  | next =>
    obtain ⟨σ', H', J, q⟩ := hs
    exact fin (v := V.non) (u := Value.none) J rfl q
  | brk =>
    obtain ⟨_, _, _, q⟩ := hs
    exact False.elim q
  | cont =>
    obtain ⟨_, _, _, q⟩ := hs
    exact False.elim q
end L2

namespace L2
open PySem PySem.Spec PyProof.Rows
section
variable {X : Cx} {x : Str} {p pos : Pos} {e : Expr} {es : List Expr} {t : TA} {id T : String} {r : List V → Hp → VK → Prop}

def tCB (r : List V → Hp → VK → Prop) (t : TA) : TE := fun σ H Q => t σ H fun vs H1 => r vs H1 Q
/-- f(e, ..), f a built-in function -/
theorem pe_callB (hc : CallR X (.builtin id) r) (hg : Gl X x) (hm : X.mg x = none) (hv : bootBuiltins x = some (.builtin id)) (ha : PA X (e :: es) t) (hn : x ≠ "__name__" := by decide) (hdb : (x == ("__debug__" : Str)) = false := by decide)
    (he : starEach (e :: es) X.env = (false, eval e X.env) :: starEach es X.env := by rfl) (hpl : (backTo pos (starEach es X.env)).any (·.1) = false := by rfl) : PE X (.Call (.Name x p) (e :: es) [] pos) (tCB r t) := by
  intro pins s σ H Q I h
  refine wpAny_Call_Name_kw (ld_blt I hg hm hv ?_ hn hdb)
  exact PyProof.Rows.callWith_builtin1 (thn (ha pos pins s σ H _ I h) fun us s1 ⟨vs, H1, I1, r1, q1⟩ => hc pins s1 σ H1 vs us Q I1 r1 q1) he hpl
/-- T(e, ..), T a built-in type -/
theorem pe_callTy (hc : CallR X (.type T) r) (hg : Gl X x) (hm : X.mg x = none) (hv : bootBuiltins x = some (.type T)) (ha : PA X (e :: es) t) (hn : x ≠ "__name__" := by decide) (hdb : (x == ("__debug__" : Str)) = false := by decide)
    (he : starEach (e :: es) X.env = (false, eval e X.env) :: starEach es X.env := by rfl) (hpl : (backTo pos (starEach es X.env)).any (·.1) = false := by rfl) : PE X (.Call (.Name x p) (e :: es) [] pos) (tCB r t) := by
  intro pins s σ H Q I h
  refine wpAny_Call_Name_kw (ld_blt I hg hm hv ?_ hn hdb)
  exact PyProof.Rows.callWith_type1 (thn (ha pos pins s σ H _ I h) fun us s1 ⟨vs, H1, I1, r1, q1⟩ => hc pins s1 σ H1 vs us Q I1 r1 q1) he hpl
end
end L2

namespace HT
open PySem PyProof.Rows

section
open PySem.SeqAt
open PySem.AutoSeq1 (wpAny_loadPart')
open PySem.MeetsSeq PySem.MeetsSeq2 PySem.MeetsSeq3

end

section
variable {prog : Program} {w : World} {A : Around} {E : Value → Shared → Prop} {s : Shared}

/-- a slice's bound as a place among n (d where it is left out) -/
def sIx (n d : Nat) : Option Int → Nat
  | none => d
  | some v => if v < 0 then (v + (n : Int)).toNat else min v.toNat n
end
end HT

namespace L2
open PySem PySem.Spec PyProof.Rows

abbrev TO := St → Hp → (Option Int → Hp → Prop) → Prop
def tNoPart : TO := fun _ H Q => Q none H
def tPart (t : TE) : TO := fun σ H Q => t σ H fun x H1 => ∃ i, x = .int i ∧ Q (some i) H1

section
variable {X : Cx} {e : Expr} {te : TE} {lo hi : Option Expr} {tl th : TO} {pos p2 : Pos}

/-- what a slice of a value is, by values: the slice object stands at sl -/
def SlR (X : Cx) (r : V → Option Int → Option Int → Hp → VK → Prop) : Prop :=
  ∀ (pins : List (Addr × Obj)) (s : Shared) (σ : St) (H : Hp) (x : V) (v vl vu : Value) (lo hi : Option Int) (sl : Addr) (Q : VK), Inv X pins σ H s → RelV x v → s.heap.IsSliceOf sl vl vu .none → IsPart vl lo → IsPart vu hi → r x lo hi H Q →
    ∃ T id, typeLookup (.type T) "__getitem__" = pure (some (.builtin id)) ∧ s.TypeIs v T ∧ wpAny (model X.prog X.w) X.A (getItem v (.ref sl)) (EP X pins σ Q) X.xe s
theorem SlR.or {r r' : V → Option Int → Option Int → Hp → VK → Prop} (h : SlR X r) (h' : SlR X r') : SlR X (fun x lo hi H Q => r x lo hi H Q ∨ r' x lo hi H Q) := by
  intro pins s σ H x v vl vu lo hi sl Q I rx hs pl pu q
  rcases q with q | q
  · exact h pins s σ H x v vl vu lo hi sl Q I rx hs pl pu q
  · exact h' pins s σ H x v vl vu lo hi sl Q I rx hs pl pu q
def tSl (r : V → Option Int → Option Int → Hp → VK → Prop) (te : TE) (tl th : TO) : TE := fun σ H Q => te σ H fun x H1 => tl σ H1 fun l H2 => th σ H2 fun u H3 => r x l u H3 Q
/-- the items of xs[lo:hi] -/
def cutV (xs : List V) (lo hi : Option Int) : List V := (xs.drop (HT.sIx xs.length 0 lo)).take (HT.sIx xs.length xs.length hi - HT.sIx xs.length 0 lo)
end
end L2

namespace L2
open PySem PySem.Spec PyProof.Rows

/-- the place that an index of any sign means -/
def ixN (n : Nat) (i : Int) : Option Nat := if 0 ≤ i then (if i < n then some i.toNat else none) else if -(n : Int) ≤ i then some (i + n).toNat else none
def atI {α : Type} (xs : List α) (i : Int) : Option α := (ixN xs.length i).bind fun j => xs[j]?
theorem ixN_seq {n : Nat} {i : Int} {j : Nat} (h : ixN n i = some j) : seqIndex? i n = some j ∧ j < n ∧ -(n : Int) ≤ i ∧ i < n := by
  unfold ixN at h
  by_cases h0 : 0 ≤ i
  · rw [if_pos h0] at h
    by_cases h1 : i < n
    · rw [if_pos h1] at h
      have e : i.toNat = j := Option.some.inj h
      exact ⟨by rw [seqIndex_of h0 h1, e], by omega, by omega, h1⟩
    · rw [if_neg h1] at h; cases h
  · rw [if_neg h0] at h
    by_cases h1 : -(n : Int) ≤ i
    · rw [if_pos h1] at h
      have e : (i + n).toNat = j := Option.some.inj h
      exact ⟨by rw [seqIndex_neg (by omega) h1, e], by omega, h1, by omega⟩
    · rw [if_neg h1] at h; cases h
theorem atI_get {α : Type} {xs : List α} {i : Int} {v : α} (h : atI xs i = some v) : ∃ j, seqIndex? i xs.length = some j ∧ xs[j]? = some v ∧ j < xs.length ∧ -(xs.length : Int) ≤ i ∧ i < xs.length := by
  unfold atI at h
  cases e : ixN xs.length i with
  | none => rw [e] at h; cases h
  | some j =>
    rw [e] at h
    obtain ⟨h1, h2, h3, h4⟩ := ixN_seq e
    exact ⟨j, h1, h, h2, h3, h4⟩
theorem atI_nat {α : Type} {xs : List α} {j : Nat} {v : α} (h : xs[j]? = some v) : atI xs (j : Int) = some v := by
  have hj : j < xs.length := (List.getElem?_eq_some_iff.mp h).1
  have e : ixN xs.length (j : Int) = some j := by
    unfold ixN
    rw [if_pos (by omega), if_pos (by omega)]; simp
  unfold atI; rw [e]; exact h
/-- what stands as an index of a plain subscript -/
def PlainIx (b : Expr) : Prop := ∀ o i, subscripted b false o i = operate [o, i] (getItem o i)
/-- a subscript by values -/
def IxR (X : Cx) (r : R2) : Prop :=
  ∀ (value slice : Expr) (pins : List (Addr × Obj)) (s : Shared) (σ : St) (H : Hp) (x y : V) (v u : Value) (Q : VK), Inv X pins σ H s → RelV x v → RelV y u → r x y H Q →
    subscripted slice false v u = operate [v, u] (getItem v u) → wpAny (model X.prog X.w) X.A (subscriptTail value slice v u) (EP X pins σ Q) X.xe s
/-- a call of a builtin's method by values: the receiver, the arguments -/
def MtR (X : Cx) (id : String) (r : V → List V → Hp → VK → Prop) : Prop :=
  ∀ (pins : List (Addr × Obj)) (s : Shared) (σ : St) (H : Hp) (x : V) (xs : List V) (v : Value) (us : List Value) (Q : VK), Inv X pins σ H s → RelV x v → Vals xs us → r x xs H Q →
    wpAny (model X.prog X.w) X.A (call (.builtin id) (v :: us)) (EP X pins σ Q) X.xe s
section
variable {X : Cx} {a b : Expr} {ta tb : TE} {pos : Pos}
theorem IxR.or {r r' : R2} (h : IxR X r) (h' : IxR X r') : IxR X (fun x y H Q => r x y H Q ∨ r' x y H Q) := by
  intro value slice pins s σ H x y v u Q I rx ry q hs
  rcases q with q | q
  · exact h value slice pins s σ H x y v u Q I rx ry q hs
  · exact h' value slice pins s σ H x y v u Q I rx ry q hs
theorem MtR.or {id : String} {r r' : V → List V → Hp → VK → Prop} (h : MtR X id r) (h' : MtR X id r') : MtR X id (fun x xs H Q => r x xs H Q ∨ r' x xs H Q) := by
  intro pins s σ H x xs v us Q I rx rs q
  rcases q with q | q
  · exact h pins s σ H x xs v us Q I rx rs q
  · exact h' pins s σ H x xs v us Q I rx rs q
/-- a[b] -/
theorem pe_ix {r : R2} (hr : IxR X r) (ha : PE X a ta) (hb : PE X b tb) (hs : PlainIx b) : PE X (.Subscript a b pos) (tOp r ta tb) := by
  intro pins s σ H Q I h
  exact Subscript_ (binT ha hb I h fun v u s2 x y H2 I2 rx ry q => hr a b pins s2 σ H2 x y v u Q I2 rx ry q (hs _ _))

def rIxL (K : PySem.W.Frag) : R2 := fun x y H Q => ∃ p xs i v, x = .ref p ∧ y = .int i ∧ SqL K H p xs ∧ atI xs i = some v ∧ Q v H
def rIxT (K : PySem.W.Frag) : R2 := fun x y H Q => ∃ p xs i v, x = .ref p ∧ y = .int i ∧ SqT K H p xs ∧ atI xs i = some v ∧ Q v H
theorem ix_list : IxR X (rIxL X.K) := by
  intro value slice pins s σ H x y v u Q I rx ry h hs
  obtain ⟨p, xs, i, z, rfl, rfl, hq, he, q⟩ := h
  cases rx
  obtain ⟨t, rfl⟩ := ry
  obtain ⟨its, r, pl, hz⟩ := I.list hq
  obtain ⟨j, h1, h2, h3, h4, h5⟩ := atI_get he
  obtain ⟨w, ew, rw'⟩ := r.get h2
  have hl := r.length
  have hn := line63
  have fin : EP X pins σ Q w s := ⟨z, H, I, rw', q⟩
  by_cases h0 : 0 ≤ i
  · have hj : i.toNat = j := by
      rw [seqIndex_of h0 h5] at h1
      exact Option.some.inj h1
    exact item_listR pl.isList h0 (by omega) (by rw [hj]; simpa using ew) fin hs
  · have hj : (i + (its.toArray.size : Int)).toNat = j := by
      rw [seqIndex_neg (by omega) h4] at h1
      rw [List.size_toArray, ← hl]
      exact Option.some.inj h1
    exact subscriptTail_builtinR (x := w) pl.isList.typeIs slot_list_getitem.lookup
      (wpAny_getItem_list_neg (Q := fun r s' => r = w ∧ EP X pins σ Q r s') pl.isList (by omega) (by rw [List.size_toArray] <;> omega) (by omega) (by rw [hj]; simpa using ew) ⟨rfl, fin⟩) hs
theorem ix_tup : IxR X (rIxT X.K) := by
  intro value slice pins s σ H x y v u Q I rx ry h hs
  obtain ⟨p, xs, i, z, rfl, rfl, hq, he, q⟩ := h
  cases rx
  obtain ⟨t, rfl⟩ := ry
  obtain ⟨its, r, pl, hz⟩ := I.tuple hq
  obtain ⟨j, h1, h2, h3, h4, h5⟩ := atI_get he
  obtain ⟨w, ew, rw'⟩ := r.get h2
  have hl := r.length
  have hn := line63
  have fin : EP X pins σ Q w s := ⟨z, H, I, rw', q⟩
  exact subscriptTail_builtinR (x := w) pl.typeIs slot_tuple_getitem.lookup
    (getItem_tuple (j := j) (Q := fun r s' => r = w ∧ EP X pins σ Q r s') pl (by omega) (by omega) (by rw [List.size_toArray, ← hl]; exact h1) (by simpa using ew) ⟨rfl, fin⟩) hs
/-- the list's object behind a store -/
theorem mapSeq_set (its : List Value) (n j : Nat) (u : Value) : Obj.mapSeq (·.setIfInBounds j u) { cls := .type "list", data := .seq its.toArray n } = { cls := .type "list", data := .seq (its.set j u).toArray n } := by
  simp [Obj.mapSeq]
theorem Inv.lst {pins : List (Addr × Obj)} {σ : St} {H : Hp} {s : Shared} {p : Addr} {xs : List V} (I : Inv X pins σ H s) (h : H p = some (.lst xs)) :
    ∃ (its : List Value) (n : Nat), Vals xs its ∧ s.heap.get? p = some { cls := .type "list", data := .seq its.toArray n } ∧ xs.length ≤ sizeLine := by
  obtain ⟨z, its, n, r, e⟩ := I.hok p _ h
  exact ⟨its, n, r, e, z⟩
/-- the list at p is written by an update of its object -/
theorem Inv.lstUpd {pins : List (Addr × Obj)} {σ : St} {H : Hp} {s : Shared} {p : Addr} {xs ys : List V} {its its' : List Value} {n n' : Nat} {f : Obj → Obj} (I : Inv X pins σ H s) (h : H p = some (.lst xs))
    (ho : s.heap.get? p = some { cls := .type "list", data := .seq its.toArray n }) (hf : f { cls := .type "list", data := .seq its.toArray n } = { cls := .type "list", data := .seq its'.toArray n' }) (r : Vals ys its') (hz : ys.length ≤ sizeLine) (t : Nat) :
    Inv X pins σ (upd H p (.lst ys)) { s with heap := s.heap.update p f, toks := t } := by
  have e : (s.heap.update p f).get? p = some { cls := .type "list", data := .seq its'.toArray n' } := by
    rw [Heap.get?_update_self f ho (by rw [hf] <;> rfl), hf]
  refine I.write (x := p) (e := p) (by rw [h]; trivial) (.inl rfl) (fun b u hb q => (Heap.get?_update_other _ _ (Ne.symm hb)).trans q) ⟨_, e⟩ ?_
  exact ⟨hz, its', n', r, e⟩
def rSetL : V → V → V → Hp → (Hp → Prop) → Prop := fun o i v H Q => ∃ p xs k j, o = .ref p ∧ i = .int k ∧ H p = some (.lst xs) ∧ ixN xs.length k = some j ∧ Q (upd H p (.lst (xs.set j v)))
theorem set_list : PSet X rSetL := by
  intro pins s σ H o i v ov iv u Q I ro ri rv h
  obtain ⟨p, xs, k, j, rfl, rfl, hp, hj, q⟩ := h
  cases ro
  obtain ⟨t, rfl⟩ := ri
  obtain ⟨its, n, r, ho, hz⟩ := I.lst hp
  obtain ⟨h1, h2, h3, h4⟩ := ixN_seq hj
  have hl := r.length
  have hn := line63
  have I' : Inv X pins σ (upd H p (.lst (xs.set j v))) { s with heap := s.heap.update p (Obj.mapSeq (·.setIfInBounds j u)) } :=
    I.lstUpd hp ho (mapSeq_set its n j u) (r.set rv j) (by rw [List.length_set]; exact hz) s.toks
  by_cases h0 : 0 ≤ k
  · have hk : k.toNat = j := by
      rw [seqIndex_of h0 h4] at h1
      exact Option.some.inj h1
    exact PySem.W.ki_setAt ho h0 (by omega) (by rw [List.size_toArray, ← hl]; exact h4) (by rw [hk]; exact ⟨_, I', q⟩)
  · have hk : (k + (its.toArray.size : Int)).toNat = j := by
      rw [seqIndex_neg (by omega) h3] at h1
      rw [List.size_toArray, ← hl]
      exact Option.some.inj h1
    exact PySem.W.ki_setBack ho (by omega) (by rw [List.size_toArray, ← hl]; exact h3) (by omega) (by rw [hk]; exact ⟨_, I', q⟩)

/-- xs[lo:hi] of a list: a new list -/
def rSlL (K : PySem.W.Frag) : V → Option Int → Option Int → Hp → VK → Prop := fun x lo hi H Q => ∃ a xs, x = .ref a ∧ SqL K H a xs ∧ ∀ p, H p = none → Q (.ref p) (upd H p (.lst (cutV xs lo hi)))
def flatV : V → Bool
  | .non => true
  | .bl _ => true
  | .int _ => true
  | .str _ => true
  | _ => false
/-- == of flat values -/
def eqV : V → V → Bool
  | .non, .non => true
  | .bl a, .bl b => a == b
  | .bl a, .int b => (if a then 1 else 0) == b
  | .int a, .bl b => a == (if b then 1 else 0)
  | .int a, .int b => a == b
  | .str a, .str b => a == b
  | _, _ => false
theorem eqAt_V {A : Around} {s : Shared} {y x : V} {u v : Value} (ry : RelV y u) (rx : RelV x v) (fy : flatV y = true) (fx : flatV x = true) : SeqAt.EqAt A s u v (eqV y x) := by
  cases y with
  | non =>
    cases ry
    cases x with
    | non => cases rx; exact SeqAt.EqAt.same _
    | bl b => cases rx; exact SeqAt.EqAt.none_bool b
    | int b => obtain ⟨t, rfl⟩ := rx; exact SeqAt.EqAt.none_int b t
    | str b => obtain ⟨t, rfl⟩ := rx; exact SeqAt.EqAt.none_str b t
    | _ => exact absurd (show false = true from fx) Bool.false_ne_true
  | bl a =>
    cases ry
    cases x with
    | non => cases rx; exact SeqAt.EqAt.bool_none a
    | bl b => cases rx; exact SeqAt.EqAt.bool_bool a b
    | int b => obtain ⟨t, rfl⟩ := rx; exact SeqAt.EqAt.bool_int a b t
    | str b => obtain ⟨t, rfl⟩ := rx; exact SeqAt.EqAt.bool_str a b t
    | _ => exact absurd (show false = true from fx) Bool.false_ne_true
  | int a =>
    obtain ⟨t', rfl⟩ := ry
    cases x with
    | non => cases rx; exact SeqAt.EqAt.int_none a t'
    | bl b => cases rx; exact SeqAt.EqAt.int_bool a t' b
    | int b => obtain ⟨t, rfl⟩ := rx; exact SeqAt.EqAt.int_int a t' b t
    | str b => obtain ⟨t, rfl⟩ := rx; exact SeqAt.EqAt.int_str a t' b t
    | _ => exact absurd (show false = true from fx) Bool.false_ne_true
  | str a =>
    obtain ⟨t', rfl⟩ := ry
    cases x with
    | non => cases rx; exact SeqAt.EqAt.str_none a t'
    | bl b => cases rx; exact SeqAt.EqAt.str_bool a t' b
    | int b => obtain ⟨t, rfl⟩ := rx; exact SeqAt.EqAt.str_int a t' b t
    | str b => obtain ⟨t, rfl⟩ := rx; exact SeqAt.EqAt.str_str a t' b t
    | _ => exact absurd (show false = true from fx) Bool.false_ne_true
  | _ => exact absurd (show false = true from fy) Bool.false_ne_true
/-- the items' answers, read off the values (a value's own answer does not lean on its token) -/
def eqU (x : V) (u : Value) : Bool := match u with
  | .none => eqV .non x
  | .bool b => eqV (.bl b) x
  | .int i _ => eqV (.int i) x
  | .str z _ => eqV (.str z) x
  | _ => false
theorem eqU_of {x y : V} {u : Value} (r : RelV y u) (f : flatV y = true) : eqU x u = eqV y x := by
  cases y with
  | non => cases r; rfl
  | bl b => cases r; rfl
  | int i => obtain ⟨t, rfl⟩ := r; rfl
  | str z => obtain ⟨t, rfl⟩ := r; rfl
  | _ => exact absurd (show false = true from f) Bool.false_ne_true
theorem mem_eqAt {A : Around} {s : Shared} {x : V} {v : Value} (rx : RelV x v) (fx : flatV x = true) : ∀ {xs : List V} {us : List Value}, Vals xs us → xs.all flatV = true → ∀ u ∈ us, SeqAt.EqAt A s u v (eqU x u)
  | _, _, .nil, _ => fun u hu => by cases hu
  | y :: xs, u :: us, .cons r t, f => fun u' hu => by
    rw [List.all_cons, Bool.and_eq_true] at f
    rcases List.mem_cons.mp hu with rfl | hu
    · rw [eqU_of r f.1]; exact eqAt_V r rx f.1 fx
    · exact mem_eqAt rx fx t f.2 u' hu
theorem call_len_seq : CallR X (.builtin "len") (fun xs H Q => ∃ p ys, xs = [.ref p] ∧ (SqL X.K H p ys ∨ SqT X.K H p ys) ∧ Q (.int ys.length) H) := by
  intro pins s σ H xs us Q I r h
  obtain ⟨p, ys, rfl, hq, q⟩ := h
  obtain ⟨u, rfl, rx⟩ := vals1 r
  cases rx
  have hn := line63
  rcases hq with hq | hq
  · obtain ⟨its, r', pl, hz⟩ := I.list hq
    have hlen := r'.length
    exact Calls.call_len_list pl.isList (by simp only [List.size_toArray] <;> omega) ⟨.int ys.length, H, I.tok _, ⟨s.toks + 1, by rw [List.size_toArray, hlen]⟩, q⟩
  · obtain ⟨its, r', pl, hz⟩ := I.tuple hq
    have hlen := r'.length
    exact len_tuple pl (by simp only [List.size_toArray] <;> omega) ⟨.int ys.length, H, I.tok _, ⟨s.toks + 1, by rw [List.size_toArray, hlen]⟩, q⟩
theorem CallR.or {f : Value} {r r' : List V → Hp → VK → Prop} (h : CallR X f r) (h' : CallR X f r') : CallR X f (fun xs H Q => r xs H Q ∨ r' xs H Q) := by
  intro pins s σ H xs us Q I rs q
  rcases q with q | q
  · exact h pins s σ H xs us Q I rs q
  · exact h' pins s σ H xs us Q I rs q
theorem call_list_of : CallR X (.type "list") (fun xs H Q => ∃ p ys, xs = [.ref p] ∧ (SqL X.K H p ys ∨ SqT X.K H p ys) ∧ ∀ l, H l = none → Q (.ref l) (upd H l (.lst ys))) := by
  intro pins s σ H xs us Q I r h
  obtain ⟨p, ys, rfl, hq, q⟩ := h
  obtain ⟨u, rfl, rx⟩ := vals1 r
  cases rx
  have fin : ∀ (its : List Value), Vals ys its → ys.length ≤ sizeLine → ∀ (h' : Heap) (c' : Nat), (∀ b o', s.heap.get? b = some o' → h'.get? b = some o') →
      h'.get? s.heap.objs.size = some { cls := .type "list", dict := none, data := .seq its.toArray c', slots := #[] } → EP X pins σ Q (.ref s.heap.objs.size) { s with heap := h' } := fun its r' hz h' c' kp e =>
    ⟨.ref s.heap.objs.size, _, I.laid (t' := s.toks) kp (Nat.le_refl _) (show ObjOk X.prog X.w _ h' _ (.lst ys) from ⟨hz, its, c', r', e⟩), rfl, q _ (I.hok.fresh (Nat.le_refl _))⟩
  rcases hq with hq | hq
  · obtain ⟨its, r', pl, hz⟩ := I.list hq
    have hlen := r'.length
    obtain ⟨o, ho, hc, n, hd⟩ := pl.isList
    exact call_list_seq p (.inl rfl) ho hc hd (fun h' c' kp e => fin its r' hz h' c' kp e) (by simp only [List.size_toArray] <;> omega)
  · obtain ⟨its, r', pl, hz⟩ := I.tuple hq
    have hlen := r'.length
    obtain ⟨o, ho, hc, n, hd⟩ := pl
    exact call_list_seq p (.inr rfl) ho hc hd (fun h' c' kp e => fin its r' hz h' c' kp e) (by simp only [List.size_toArray] <;> omega)
theorem call_tuple_of : CallR X (.type "tuple") (fun xs H Q => ∃ p ys, xs = [.ref p] ∧ ((SqL X.K H p ys ∧ ∀ l, H l = none → Q (.ref l) (upd H l (.tup ys))) ∨ (SqT X.K H p ys ∧ Q (.ref p) H))) := by
  intro pins s σ H xs us Q I r h
  obtain ⟨p, ys, rfl, h⟩ := h
  obtain ⟨u, rfl, rx⟩ := vals1 r
  cases rx
  rcases h with ⟨hq, q⟩ | ⟨hq, q⟩
  · obtain ⟨its, r', pl, hz⟩ := I.list hq
    have hlen := r'.length
    refine call_tuple_list pl.isList (fun h' kp => ?_) (by simp only [List.size_toArray] <;> omega)
    have I1 : Inv X pins σ H { s with heap := h' } := I.kept (t' := s.toks) kp
    have I2 : Inv X pins σ (upd H h'.objs.size (.tup ys)) { s with heap := h'.push { cls := .type "tuple", data := .seq its.toArray } } :=
      I1.laid (t' := s.toks) (fun b o e => Heap.get?_push_of_some _ e) (Nat.le_refl _) (show ObjOk X.prog X.w _ _ _ (.tup ys) from ⟨hz, its, r', IsTup.new _ _⟩)
    exact ⟨.ref h'.objs.size, _, I2, rfl, q _ (I1.hok.fresh (Nat.le_refl _))⟩
  · obtain ⟨its, r', pl, hz⟩ := I.tuple hq
    exact call_tuple_same pl ⟨.ref p, H, I, rfl, q⟩

/-- the value is of that builtin type -/
def tyV (K : PySem.W.Frag) (T : String) (x : V) (H : Hp) : Prop := match x with
  | .str _ => T = "str"
  | .int _ => T = "int"
  | .ref p => (T = "list" ∧ ∃ xs, SqL K H p xs) ∨ (T = "tuple" ∧ ∃ o, K.lookup p = some o ∧ o.cls = .type "tuple" ∧ o.dict = none) ∨
      (T = "dict" ∧ ((∃ kvs, H p = some (.dK kvs)) ∨ ∃ kvs, H p = some (.dT kvs))) ∨ (T = "set" ∧ ∃ S n, H p = some (.set S n))
  | _ => False
theorem tyV_is {pins : List (Addr × Obj)} {σ : St} {H : Hp} {s : Shared} {T : String} {x : V} {v : Value} (I : Inv X pins σ H s) (r : RelV x v) (ty : tyV X.K T x H) :
    s.TypeIs v T ∧ ∀ a, v = .ref a → ∃ ob, s.heap.get? a = some ob ∧ ob.dict = none := by
  cases x with
  | str z =>
    obtain ⟨t, rfl⟩ := r
    cases (show T = "str" from ty)
    exact ⟨typeIs_str s z t, fun _ e => nomatch e⟩
  | int i =>
    obtain ⟨t, rfl⟩ := r
    cases (show T = "int" from ty)
    exact ⟨typeIs_int s i t, fun _ e => nomatch e⟩
  | ref p =>
    cases r
    rcases ty with ⟨rfl, xs, hq⟩ | ⟨rfl, o, hk, hc, hd⟩ | ⟨rfl, hk⟩ | ⟨rfl, S, n, hk⟩
    · obtain ⟨its, _, pl, _⟩ := I.list hq
      refine ⟨pl.isList.typeIs, fun a e => ?_⟩
      cases e
      obtain ⟨o, n, e, c, hd, _⟩ := pl
      exact ⟨o, e, hd⟩
    · refine ⟨⟨o, I.kIn p o hk, hc⟩, fun a e => ?_⟩
      cases e
      exact ⟨o, I.kIn _ o hk, hd⟩
    · have z : ∃ o, s.heap.get? p = some o ∧ o.ExactDict := by
        rcases hk with ⟨kvs, hk⟩ | ⟨kvs, hk⟩
        · obtain ⟨_, _, _, _, o, _, _, e, ex, _⟩ := I.hok p _ hk
          exact ⟨o, e, ex⟩
        · obtain ⟨_, _, _, _, o, _, _, e, ex, _⟩ := I.hok p _ hk
          exact ⟨o, e, ex⟩
      obtain ⟨o, e, ex⟩ := z
      refine ⟨⟨o, e, ex.1⟩, fun a e2 => ?_⟩
      cases e2
      exact ⟨o, e, ex.2.1⟩
    · obtain ⟨o, _, _, _, e, ex, _⟩ := I.hok p _ hk
      refine ⟨⟨o, e, ex.1⟩, fun a e2 => ?_⟩
      cases e2
      exact ⟨o, e, ex.2.1⟩
  | _ => exact False.elim ty
def tBM0 (K : PySem.W.Frag) (T : String) (r : V → List V → Hp → VK → Prop) (to : TE) : TE := fun σ H Q => to σ H fun x H1 => tyV K T x H1 ∧ r x [] H1 Q
def tBM (K : PySem.W.Frag) (T : String) (r : V → List V → Hp → VK → Prop) (to : TE) (t : TA) : TE := fun σ H Q => to σ H fun x H1 => tyV K T x H1 ∧ t σ H1 fun xs H2 => r x xs H2 Q
variable {o e : Expr} {es : List Expr} {to : TE} {t : TA} {name : Str} {apos cpos : Pos} {T id : String} {r : V → List V → Hp → VK → Prop}
theorem pe_bm (pa : PlainAttrs T) (slot : Slot T name id) (hty : typeOf (.builtin id) = pure (.type "method_descriptor")) (hm : MtR X id r) (ho : PE X o to) (ha : PA X (e :: es) t)
    (hbase : attributeBase o name X.env (eval o X.env) = eval o X.env := by rfl)
    (hfew : ((backTo cpos (starEach (e :: es) X.env)).all (fun x => !x.1) && (backToKw cpos (keywordEach [] X.env)).all (fun x => x.1.isSome)
      && decide ((e :: es).length + ([] : List Keyword).length + (if ([] : List Keyword).isEmpty then 0 else 1) < 30)) = true := by rfl)
    (hline : (apos.endLine == cpos.line) = true := by rfl) (hs : starEach (e :: es) X.env = (false, eval e X.env) :: starEach es X.env := by rfl) (hplain : (backTo cpos (starEach es X.env)).any (·.1) = false := by rfl) :
    PE X (.Call (.Attribute o name apos) (e :: es) [] cpos) (tBM X.K T r to t) := by
  intro pins s σ H Q I h
  refine wpAny_Call_method_late hbase hfew hline rfl (thn (ho pins s σ H _ I h) fun v s1 ⟨x, H1, I1, r1, ty, q1⟩ => ?_)
  obtain ⟨h1, h2⟩ := tyV_is I1 r1 ty
  refine ⟨T, id, pa, slot, hty, h1, h2, ?_⟩
  have hA := ha cpos pins s1 σ H1 _ I1 q1
  rw [hs] at hA ⊢
  refine Calls.callWith_builtin (by show (false || (backTo cpos (starEach es X.env)).any (·.1)) = false; rw [hplain] <;> rfl) (Calls.evalArgs_plain ?_)
  exact thn hA fun us s2 ⟨vs, H2, I2, r2, q2⟩ => hm pins s2 σ H2 x vs v us Q I2 r1 r2 q2
/- xs.append(e), list.index on a module's tuple .. are MtR facts of 06m -/
end
end L2

namespace L2
open PySem PySem.Spec PyProof.Rows

def MtM (X : Cx) (id : String) (r : V → List V → Hp → VK → Prop) : Prop :=
  ∀ (pins : List (Addr × Obj)) (s : Shared) (σ : St) (H : Hp) (x : V) (xs : List V) (v : Value) (us : List Value) (Q : VK), Inv X pins σ H s → RelV x v → Vals xs us → r x xs H Q →
    wpAny (model X.prog X.w) X.A (call (.builtin id) (v :: us)) (EP X pins σ Q) X.xe s

theorem Vals.one : ∀ {x : V} {us : List Value}, Vals [x] us → ∃ u, us = [u] ∧ RelV x u
  | _, _, .cons r .nil => ⟨_, rfl, r⟩
theorem Vals.two : ∀ {x y : V} {us : List Value}, Vals [x, y] us → ∃ u v, us = [u, v] ∧ RelV x u ∧ RelV y v
  | _, _, _, .cons r (.cons q .nil) => ⟨_, _, rfl, r, q⟩
theorem Vals.zero : ∀ {us : List Value}, Vals [] us → us = []
  | _, .nil => rfl
theorem Vals.eraseIdx : ∀ {xs : List V} {us : List Value} (i : Nat), Vals xs us → Vals (xs.eraseIdx i) (us.eraseIdx i)
  | _, _, _, .nil => .nil
  | _, _, 0, .cons _ t => t
  | _, _, i + 1, .cons r t => .cons r (Vals.eraseIdx i t)
section
variable {X : Cx} {pins : List (Addr × Obj)} {σ : St} {H : Hp} {s : Shared} {l b : Addr} {xs ys zs : List V}

theorem Inv.lset {its its' : List Value} {n : Nat} {f : Array Value → Array Value} {t' : Nat} (I : Inv X pins σ H s) (hH : H l = some (.lst xs))
    (e : s.heap.get? l = some { cls := .type "list", data := .seq its.toArray n }) (hf : f its.toArray = its'.toArray) (hv : Vals ys its') (hz : ys.length ≤ sizeLine) :
    Inv X pins σ (upd H l (.lst ys)) { s with heap := s.heap.update l (Obj.mapSeq f), toks := t' } := by
  have q := PySem.IsL.update e f
  rw [hf] at q
  refine I.write (x := l) (e := l) (by rw [hH]; exact trivial) (.inl rfl) (fun b' u hb hu => (Heap.get?_update_other s.heap (Obj.mapSeq f) (Ne.symm hb)).trans hu) ⟨_, q⟩ ?_
  exact ⟨hz, its', _, hv, q⟩
theorem Inv.lnew {its : List Value} {t' : Nat} (I : Inv X pins σ H s) (hv : Vals ys its) (hz : ys.length ≤ sizeLine) :
    Inv X pins σ (upd H s.heap.objs.size (.lst ys)) { s with heap := s.heap.push { cls := .type "list", data := .seq its.toArray }, toks := t' } :=
  I.laid (fun _ _ q => Heap.get?_push_of_some _ q) (Nat.le_refl _) ⟨hz, its, 0, hv, Heap.get?_push_size _ rfl⟩
theorem Inv.fresh (I : Inv X pins σ H s) : H s.heap.objs.size = none := I.hok.fresh (Nat.le_refl _)
theorem Inv.lstM (I : Inv X pins σ H s) (hH : H l = some (.lst xs)) : xs.length ≤ sizeLine ∧ ∃ (its : List Value) (n : Nat), Vals xs its ∧ xs.length = its.length ∧ s.heap.get? l = some { cls := .type "list", data := .seq its.toArray n } := by
  obtain ⟨z, its, n, r, e⟩ := I.hok l _ hH
  exact ⟨z, its, n, r, r.length, e⟩

end

section
variable {X : Cx}

def rAppend : V → List V → Hp → VK → Prop := fun x vs H Q => ∃ l xs y, x = .ref l ∧ vs = [y] ∧ H l = some (.lst xs) ∧ xs.length < sizeLine ∧ Q .non (upd H l (.lst (xs ++ [y])))
theorem mt_append : MtM X "list.append" rAppend := by
  intro pins s σ H x vs v us Q I rx rv h
  obtain ⟨l, xs, y, rfl, rfl, hH, hz, q⟩ := h
  cases rx
  obtain ⟨u, rfl, ru⟩ := rv.one
  obtain ⟨z, its, n, r, hl, e⟩ := I.lstM hH
  refine call_meets F.slot_list_append ⟨_, e, rfl⟩ F.entry_list_append (F.args_list_append_2 _ _) (PySem.list_append l its.toArray n u (by rw [List.size_toArray]; omega)) ⟨e, ?_⟩
  refine ⟨.non, _, I.lset (its' := its ++ [u]) hH e (by simp) (r.append (.cons ru .nil)) ?_, rfl, q⟩
  rw [List.length_append, List.length_singleton]
  omega

def rClear : V → List V → Hp → VK → Prop := fun x vs H Q => ∃ l xs, x = .ref l ∧ vs = [] ∧ H l = some (.lst xs) ∧ Q .non (upd H l (.lst []))
def rCat : R2 := fun x y H Q => ∃ l b xs zs, x = .ref l ∧ y = .ref b ∧ H l = some (.lst xs) ∧ H b = some (.lst zs) ∧ xs.length + zs.length ≤ sizeLine ∧ ∀ p, H p = none → Q (.ref p) (upd H p (.lst (xs ++ zs)))
end

section
variable {prog : Program} {w : World} {A : Around} {E : Value → Shared → Prop} {s : Shared}
end

section
variable {X : Cx}
end
end L2

namespace Att
open PySem PySem.W PySem.Calls PyProof.Rows

theorem ints_of_wellAll {P : Params} {h : Heap} : ∀ (ns : List Int) (vs : List Value), WellAll P h vs (ns.map WData.int) → IntsAre vs ns := by
  intro ns
  induction ns with
  | nil =>
    intro vs w
    rw [List.map_nil] at w
    cases w
    exact .nil
  | cons n ns ih =>
    intro vs w
    rw [List.map_cons] at w
    cases w with
    | cons a b =>
      cases a
      exact .cons _ _ (ih _ b)

theorem script_of {l : OpenLaw} {n : Nat} (hn : l.most = some n) {P : Params} {h : Heap} {args : List WData} {vals : List Value}
    (hpre : l.row.toRowW.claim.pre args = true) (hwl : WellAll P h vals args) :
    ∃ a vs ns, vals = [Value.ref a] ∧ args = [WData.list (ns.map WData.int)] ∧ h.get? a = some { cls := .type "list", data := .seq vs.toArray } ∧ IntsAre vs ns ∧ ns.length ≤ n := by
  have hsh : WShape.hasAll [] args [.list .int] = true := (pre_splitW hpre).1
  have hc : l.pre.holds [] { args := args } = true := (pre_splitW hpre).2
  obtain ⟨d, r, rfl, h1, h2⟩ := hasAllW_cons hsh
  obtain rfl := hasAllW_nil h2
  obtain ⟨xs, rfl, h3⟩ := hasW_list h1
  obtain ⟨ns, rfl⟩ := items_int h3
  have hlen : ns.length ≤ n := by
    unfold OpenLaw.pre at hc
    have h4 : (WTm.not (.lt (.lit (.int (n : Int))) (.len (.arg 0)))).holds [] { args := [.list (ns.map .int)] } = true := by
      have h4 := (holds_andW hc).1
      rw [hn] at h4
      exact h4
    have h5 := condW_of h4 (w_not (w_lt w_lit (w_len_list (w_arg rfl))))
    rw [List.length_map] at h5
    refine Nat.le_of_not_lt fun q => ?_
    have q' : (n : Int) < ((ns.length : Nat) : Int) := by omega
    first
      | (rw [decide_eq_true q'] at h5; exact absurd h5 (by decide))
      | (simp at h5; omega)
  cases hwl with
  | cons w1 w2 =>
    cases w2
    cases w1 with
    | list ho hall => exact ⟨_, _, ns, rfl, rfl, ho, ints_of_wellAll ns _ hall, hlen⟩

theorem post_true (l : OpenLaw) (args : List WData) : l.row.toRowW.claim.post args (.bool true) args = true :=
  postW_of (r := l.row.toRowW) (X := (true == true))
    (show WShape.has [] (.bool true) .bool = true by first | rfl | decide | simp [WShape.has, WShape.arms, WShape.armsAll])
    (show (WTm.eq .res (.lit (.bool true))).value [] { args := args, res := some (.bool true), after := args } = some (.bool (true == true)) from w_eq_bool (w_res rfl) w_lit) rfl

/-- the same from a codeAny of the CALL (for a layer whose function contracts speak of calls) -/
theorem attach_call {l : OpenLaw} {n : Nat} {q : Program} {loose : List Str} {XP : (Str → Option Value) → Heap → Prop} {YP : World → Heap → Prop} {d : DefRec}
    (hn : l.most = some n) (hdf : d.params.defaults = [])
    (call : ∀ (w : World) (s₀ s₁ : Shared) (mg mb : Str → Option Value) (fa : Addr) (o : Obj) (pm cd doc : Value) (a : Addr) (vs : List Value) (ns : List Int),
      Ground q loose [] XP w s₀ mg mb s₁.heap → YP w s₁.heap →
      s₁.heap.get? fa = some o → o.data = .func (docDef d.name d.params d.body d.scope pm cd doc) → s₁.heap.CodeRec cd d.name → mg d.name = some (.ref fa) →
      s₁.heap.get? a = some { cls := .type "list", data := .seq vs.toArray } → IntsAre vs ns → ns.length ≤ n → s₁.gens = #[] →
      codeAny (model l.prog w) callerA (.call (.ref fa) ⟨[.ref a], []⟩) (fun r s' => r = .ok (.ret (.bool true)) ∧ OldK s₁.heap s'.heap ∧ s'.os = s₁.os ∧ AllBare s'.gens) s₁) :
    WalkO q loose XP YP l.row.toRowW d [] (fun f vs => PySem.call f vs) := by
  intro w s₀ s₁ mg mb G Y fa o pm cd doc dV kV ho hd hcd hD hmg hg args vals as hpre hlay hrd hwl hlo
  obtain rfl : dV = .none := Dflts.none hD hdf
  obtain rfl : kV = .none := Dflts.noKw hD
  obtain ⟨a, vs, ns, rfl, rfl, hobj, hints, hlen⟩ := script_of hn hpre hwl
  refine enter_call (codeAny_mono (call w s₀ s₁ mg mb fa o pm cd doc a vs ns G Y ho (fd_plain hd) hcd hmg hobj hints hlen hg) fun r s' hq => ?_)
  obtain ⟨rfl, h2, h3, h4⟩ := hq
  exact ⟨.inl ⟨.bool true, .bool true, [], rfl, fun _ => rfl, .bool true, post_true l _, fun _ => ⟨List.Pairwise.nil, fun _ hm => (nomatch hm)⟩⟩, h2, h3, h4⟩

section
variable {prog : Program} {w : World} {A : Around} {E : Value → Shared → Prop} {s : Shared} {K : Frag}

end
end Att

namespace L2
open PySem PySem.Spec PyProof.Rows

theorem vals_ints : ∀ {vs : List Value} {ns : List Int}, IntsAre vs ns → Vals (ns.map V.int) vs
  | _, _, .nil => .nil
  | _, _, .cons n t h => .cons ⟨t, rfl⟩ (vals_ints h)

/-- nothing is tracked but the script, known to the object (or it is an object of the module) -/
def Only (H : Hp) : Prop := ∀ b, H b = none ∨ ∃ o xs, H b = some (.frz o (.lst xs))

/-- THE HEAD: the law's promise, at the heap behind the top. F, the promise of the law's def, may use that base is part of the heap (so K.In base, base.Ns mainGlobals mg stand in Mod) -/
theorem law_call {P : Program} {w : World} {K : PySem.W.Frag} {mg mb : Str → Option Value} {CX : CXT} {k : Nat} {fa a : Addr} {fd : FuncData} {x : Str} {sp : Sp} {s₁ : Shared} {vs : List Value} {ns : List Int}
    (KX : K.In s₁.heap) (hns : s₁.heap.Ns mainGlobals mg) (hb : s₁.heap.Ns builtinsNs mb) (hbb : ∀ x : Str, x ≠ "__name__" → mb x = bootBuiltins x) (hlim : s₁.heap.NoLimit) (hg : s₁.gens = #[])
    (ha : s₁.heap.get? a = some { cls := .type "list", data := .seq vs.toArray }) (hi : IntsAre vs ns) (hl : ns.length ≤ sizeLine) (hr : Room k callerA)
    (F : ∀ base : Heap, K.In base → base.Ns mainGlobals mg → FnOk P w K mg base CX k fa fd [x] sp) (hbind : ∀ (s : Shared) (u : Value), BindsTo s fd ⟨[u], []⟩ [(x, u)])
    (hsp : ∀ H : Hp, Only H → SqL K H a (ns.map V.int) → sp [.ref a] H (fun v _ => v = .bl true) fun _ _ _ => False)
    (hCX : ∀ H e s', CX [] H s₁ (fun _ _ _ => False) e s' → False) :
    codeAny (model P w) callerA (.call (.ref fa) ⟨[.ref a], []⟩) (fun r s' => r = .ok (.ret (.bool true)) ∧ OldK s₁.heap s'.heap ∧ s'.os = s₁.os ∧ AllBare s'.gens) s₁ := by
  have rv := vals_ints hi
  have lenV := hi.length
  -- from an abstract heap in which nothing but the script may be tracked
  have core : ∀ H : Hp, Only H → SqL K H a (ns.map V.int) → HOk P w H s₁.heap → (∀ b, H b ≠ none → b = a) → (H a ≠ none → K.lookup a = none) →
      codeAny (model P w) callerA (.call (.ref fa) ⟨[.ref a], []⟩) (fun r s' => r = .ok (.ret (.bool true)) ∧ OldK s₁.heap s'.heap ∧ s'.os = s₁.os ∧ AllBare s'.gens) s₁ := by
    intro H hO hS hok hA hK
    have base_of : ∀ {b : Addr} {o : Obj}, s₁.heap.get? b = some o → H b = none → (hidT s₁.heap H).get? b = some o := fun e n => hidT_get e n
    have noA : ∀ {b : Addr} {o : Obj} {es : Array DictEntry} {ep : Nat}, s₁.heap.get? b = some o → o.data = .dict es ep → H b = none := fun {b o es ep} e d => by
      cases q : H b with
      | none => rfl
      | some u =>
        have e' : b = a := hA b (by rw [q]; simp)
        subst e'
        rw [ha] at e; cases e
        have d' : Data.seq vs.toArray _ = Data.dict es ep := d
        cases d'
    have nsK : ∀ {b : Addr} {m : Str → Option Value}, s₁.heap.Ns b m → (hidT s₁.heap H).Ns b m := fun {b m} ⟨o, es, ep, e, d, r⟩ => ⟨o, es, ep, base_of e (noA e d), d, r⟩
    have hKb : K.In (hidT s₁.heap H) := fun b o e => base_of (KX b o e) (by
      cases q : H b with
      | none => rfl
      | some u =>
        have e' : b = a := hA b (by rw [q]; simp)
        subst e'
        rw [hK (by rw [q]; simp)] at e; cases e)
    have hM : Mod K mg (hidT s₁.heap H) := ⟨hKb, nsK hns, ⟨mb, nsK hb, hbb⟩, let ⟨mc, h1, h2⟩ := hlim; ⟨mc, nsK h1, h2⟩⟩
    have e0 : Env0 P w K mg (hidT s₁.heap H) callerA [] s₁ H := ⟨rfl, hM, fun b o e => of_hidT e, Nat.le_of_eq (hidT_size _ _), trivial, fun b hb => absurd (show b ∈ ([] : List Addr) from hb) (by simp), hok, .of_eq hg⟩
    refine codeAny_mono ((F _ hKb (nsK hns)).run callerA [] s₁ H ⟨[.ref a], []⟩ [.ref a] [.ref a] _ _ hr e0 (hbind s₁ (.ref a)) (.cons rfl .nil) (hsp H hO hS)) fun r s' h => ?_
    cases r with
    | error e => exact (hCX H e s' h).elim
    | ok fl =>
      cases fl with
      | next => exact False.elim h
      | brk => exact False.elim h
      | cont => exact False.elim h
      | ret u =>
        obtain ⟨v, H', os, bare, un, hok', r', q⟩ := h
        have q' : v = .bl true := q
        subst q'
        obtain rfl : u = Value.bool true := r'
        refine ⟨rfl, OldK.of_keep fun b o e => ?_, os, bare⟩
        cases q : H b with
        | none => exact un.keep b o e q (by intro z; exact absurd (show b ∈ ([] : List Addr) from z) (by simp)) (by simp)
        | some u =>
          rcases hO b with z | ⟨ob, xs, z⟩
          · rw [q] at z; cases z
          · have z2 := un.frzs b ob _ z
            obtain ⟨e1, _⟩ := hok b _ z
            obtain ⟨e2, _⟩ := hok' b _ z2
            rw [e] at e1; cases e1
            exact e2
  cases hk : K.lookup a with
  | some o =>
    -- the script is one of the module's own objects
    have e := KX a o hk
    rw [ha] at e
    cases e
    refine core (fun _ => none) (fun _ => .inl rfl) (.inr ⟨_, vs.toArray, _, hk, rfl, rfl, rfl, by rw [List.size_toArray, lenV]; exact hl, by simpa using rv⟩) (fun b u z => by have z' : (none : Option HO) = some u := z; cases z') (fun b z => absurd rfl z) fun z => absurd rfl z
  | none =>
    refine core (fun b => if b = a then some (.frz { cls := .type "list", data := .seq vs.toArray } (.lst (ns.map V.int))) else none) (fun b => ?_) (.inl (.inr ⟨{ cls := .type "list", data := .seq vs.toArray }, if_pos rfl⟩)) (fun b u z => ?_) (fun b z => ?_) fun _ => hk
    · by_cases hb : b = a
      · exact .inr ⟨_, _, if_pos hb⟩
      · exact .inl (if_neg hb)
    · by_cases hb : b = a
      · have z' := (if_pos hb).symm.trans z
        cases z'
        subst hb
        exact ⟨ha, by rw [List.length_map]; exact hl, vs, _, rv, ha⟩
      · have z' := (if_neg hb).symm.trans z
        cases z'
    · by_cases hb : b = a
      · exact hb
      · exact absurd (if_neg hb) z
end L2

namespace L2
open PySem PySem.Spec PyProof.Rows

/-- the goal that k_head leaves (case hc), from the law's promise. F gives the function object fd (K's own) once, then the promise over every base -/
theorem walk_of {l : PySem.W.OpenLaw} {n k : Nat} {q : Program} {loose : List Str} {XP : (Str → Option Value) → Heap → Prop} {YP : World → Heap → Prop} {d : DefRec} {K : Params → PySem.W.Frag} {CX : World → CXT} {sp : World → Sp} {x : Str}
    (hn : l.most = some n) (hn2 : n ≤ sizeLine) (hdf : d.params.defaults = []) (hr : Room k callerA)
    (hY : ∀ (w : World) (h : Heap), YP w h → (K w.params).In h)
    (F : ∀ (w : World) (mg : Str → Option Value) (fa : Addr) (h : Heap), (K w.params).In h → h.Ns mainGlobals mg → mg d.name = some (.ref fa) →
      ∃ fd : FuncData, (∀ (s : Shared) (u : Value), BindsTo s fd ⟨[u], []⟩ [(x, u)]) ∧
        ∀ base : Heap, (K w.params).In base → base.Ns mainGlobals mg → FnOk l.prog w (K w.params) mg base (CX w) k fa fd [x] (sp w))
    (hsp : ∀ (w : World) (H : Hp) (a : Addr) (ns : List Int), ns.length ≤ n → Only H → SqL (K w.params) H a (ns.map V.int) → sp w [.ref a] H (fun v _ => v = .bl true) fun _ _ _ => False)
    (hCX : ∀ (w : World) (H : Hp) (s : Shared) (e : Value) (s' : Shared), CX w [] H s (fun _ _ _ => False) e s' → False) :
    PySem.W.WalkO q loose XP YP l.row.toRowW d [] (fun f vs => PySem.call f vs) := by
  refine Att.attach_call hn hdf fun w s₀ s₁ mg mb fa o pm cd doc a vs ns G Y ho hd hcd hmg hobj hints hlen hg => ?_
  have KX := hY w _ Y
  obtain ⟨fd, hb, hF⟩ := F w mg fa _ KX G.T.g hmg
  exact law_call KX G.T.g G.T.b G.T.builtins G.T.nolimit hg hobj hints (Nat.le_trans hlen hn2) hr hF hb (fun H hO hS => hsp w H a ns hlen hO hS) fun H e s' => hCX w H s₁ e s'
end L2

/- THE LAST THEOREM (shape; LID, My.* are yours):
   My.Adr: a structure of the addresses that your layer names (classes, functions); My.Txt K t: a structure (Prop) of the equations over K;
   My.txt_mk : {K} {implicit addresses ..} (e1 : nsIn K mainGlobals "law" = some (some (.ref f))) (e2 : K.lookup f = some ⟨oc, od, .func (fnOf "law" "law" params body scope dV kV doc pm an cdv ct), sl⟩) (e3 : codeIn K cdv "law" = true) .. : ∃ t, My.Txt K t

(the tactic k_is has no namespace: write k_is) -/

namespace L2
open PySem PySem.Spec PyProof.Rows

/-- the j-th statement of a class's body -/
def inClass (s : Stmt) (j : Nat) : Stmt := match s with
  | .ClassDef _ _ _ body _ _ _ _ _ _ _ => body.getD j (.Pass ⟨0, 0, 0, 0⟩)
  | _ => .Pass ⟨0, 0, 0, 0⟩
def defArgs (s : Stmt) : Arguments := match s with
  | .FunctionDef _ a _ _ _ _ _ _ _ _ => a
  | _ => { posonlyargs := [], args := [], vararg := none, kwonlyargs := [], kw_defaults := [], kwarg := none, defaults := [] }
def defBody (s : Stmt) : List Stmt := match s with
  | .FunctionDef _ _ b _ _ _ _ _ _ _ => b
  | _ => []
def defScope (s : Stmt) : Scope := match s with
  | .FunctionDef _ _ _ _ _ _ sc _ _ _ => sc
  | _ => { kind := .function, names := [], isGenerator := false, isCoroutine := false }

abbrev CX0 : CXT := fun _ _ _ _ _ _ => False
abbrev E0 : XK := fun _ _ _ => False
theorem pass0 {X : Cx} : Passes CX0 X E0 := fun _ _ _ _ _ _ _ h => h.elim

structure Fun (K : PySem.W.Frag) (x qual : Str) (st : Stmt) (f : Addr) (fd : FuncData) : Prop where
  ex : ∃ (oc : Value) (od : Option Addr) (kV doc pm : Value) (an : Option Addr) (cdv ct : Value) (osl : Array (Option Value)),
    fd = PySem.W.fnOf x qual (defArgs st) (defBody st) (defScope st) .none kV doc pm an cdv ct ∧ K.lookup f = some ⟨oc, od, .func fd, osl⟩ ∧ PySem.W.codeIn K cdv qual = true
  kp : PySem.W.keepIn K (.ref f) = true
section
variable {P : Program} {w : World} {K : PySem.W.Frag} {mg : Str → Option Value} {base : Heap}
/-- THE RULE for a def: its body as a term of rules, and the reading of that term -/
theorem Fun.ok {x qual : Str} {st : Stmt} {f : Addr} {fd : FuncData} {N ps : List Str} {k : Nat} {sp : Sp} (F : Fun K x qual st f fd) (S : FnScope N ps (defScope st)) (len : ∀ vs H Q E, sp vs H Q E → vs.length = ps.length)
    (hbody : ∀ (cdv : Value) (A : Around) (outer : List Env) (s : Shared) (H : Hp) (vs : List V) (Q : VK) (E : XK), Room k (A.deeper (envOfC qual (defScope st) s.heap.objs.size f cdv)) → sp vs H Q E →
      ∃ t, PSs (cxOf CX0 P w K mg base N qual (defScope st) f cdv A outer s H E).nox (defBody st) t ∧ t { nx := fun _ H' => Q .non H', rt := Q } (start N vs) H) : FnOk P w K mg base CX0 (k + 1) f fd ps sp := by
  obtain ⟨oc, od, kV, doc, pm, an, cdv, ct, osl, rfl, lk, hcd⟩ := F.ex
  refine fn_of lk hcd S len fun A outer s H vs Q E hr hsp => ?_
  obtain ⟨t, h, q⟩ := hbody cdv A outer s H vs Q E hr hsp
  exact ⟨t, h.nox, q⟩
/-- how its arguments bind (no defaults): h is «fun _ _ _ _ _ _ us hl => match us, hl with | [_, _], _ => rfl», one _ a parameter -/
theorem Fun.binds {x qual : Str} {st : Stmt} {f : Addr} {fd : FuncData} {ps : List Str} (F : Fun K x qual st f fd)
    (h : ∀ (kV doc pm : Value) (an : Option Addr) (cdv ct : Value) (us : List Value), us.length = ps.length → bindArgs (PySem.W.fnOf x qual (defArgs st) (defBody st) (defScope st) .none kV doc pm an cdv ct) ⟨us, []⟩ = pure (ps.zip us)) : Binds K fd ps [] := by
  obtain ⟨oc, od, kV, doc, pm, an, cdv, ct, osl, rfl, lk, hcd⟩ := F.ex
  exact .all (h kV doc pm an cdv ct)
theorem fun_mk {x qual : Str} {st : Stmt} {f : Addr} {oc : Value} {od an : Option Addr} {osl : Array (Option Value)} {kV doc pm cdv ct : Value} (l : K.lookup f = some ⟨oc, od, .func (PySem.W.fnOf x qual (defArgs st) (defBody st) (defScope st) .none kV doc pm an cdv ct), osl⟩)
    (c : PySem.W.codeIn K cdv qual = true) (k : PySem.W.keepIn K (.ref f) = true) : Fun K x qual st f (PySem.W.fnOf x qual (defArgs st) (defBody st) (defScope st) .none kV doc pm an cdv ct) := ⟨⟨oc, od, kV, doc, pm, an, cdv, ct, osl, rfl, l, c⟩, k⟩
end
theorem small1000 {n : Nat} (h : n ≤ 1000) : n < sizeLine := Nat.lt_of_le_of_lt h (by decide)

section
variable {X : Cx}
theorem pv (i : Nat) {x : Str} {pos : Pos} (hN : X.N[i]? = some x := by rfl) (hv : Vis X.env.scope x := by first | exact Or.inl rfl | exact Or.inr (Or.inl rfl) | exact Or.inr (Or.inr rfl)) (hd : (x == ("__debug__" : Str)) = false := by decide)
    (hcd : (x == ("__classdict__" : Str)) = false := by decide) : PE X (.Name x pos) (tVar i) := pe_var hN hv hd hcd
end

/-- all that was tracked is as it was -/
def Same (H H' : Hp) : Prop := ∀ b o, H b = some o → H' b = some o
theorem Same.refl (H : Hp) : Same H H := fun _ _ h => h
theorem Same.trans {H H1 H2 : Hp} (a : Same H H1) (b : Same H1 H2) : Same H H2 := fun c o h => b c o (a c o h)
theorem Same.free {H H' : Hp} (e : Same H H') {l : Addr} (h : H' l = Option.none) : H l = Option.none := by
  cases q : H l with
  | none => rfl
  | some o =>
    rw [e l o q] at h
    cases h
theorem Same.seq {K : PySem.W.Frag} {H H' : Hp} {a : Addr} {xs : List V} (e : Same H H') (h : SqL K H a xs) : SqL K H' a xs := by
  rcases h with (h | ⟨o, h⟩) | h
  · exact .inl (.inl (e _ _ h))
  · exact .inl (.inr ⟨o, e _ _ h⟩)
  · exact .inr h

end L2

set_option Elab.async false
set_option linter.all false
set_option maxRecDepth 100000
set_option maxHeartbeats 4000000
namespace L2
open PySem PySem.Spec PyProof.Rows
structure Cal (P : Program) (w : World) (K : PySem.W.Frag) (mg : Str → Option Value) (base : Heap) (x : Str) (ps : List Str) (k : Nat) (sp : Sp) : Prop where
  ex : ∃ (f : Addr) (fd : FuncData), FnOk P w K mg base CX0 k f fd ps sp ∧ Binds K fd ps [] ∧ PySem.W.keepIn K (.ref f) = true ∧ mg x = some (.ref f)
theorem pe_cal {X : Cx} {x : Str} {ps : List Str} {k : Nat} {sp : Sp} {e : Expr} {es : List Expr} {t : TA} {p pos : Pos} (C : Cal X.prog X.w X.K X.mg X.base x ps k sp) (hr : Room k X.A) (hg : Gl X x) (ha : PA X (e :: es) t)
    (hdb : (x == ("__debug__" : Str)) = false := by decide) (he : starEach (e :: es) X.env = (false, eval e X.env) :: starEach es X.env := by rfl) (hpl : (backTo pos (starEach es X.env)).any (·.1) = false := by rfl) :
    PE X (.Call (.Name x p) (e :: es) [] pos) (tCall sp [] E0 t) := by
  obtain ⟨f, fd, F, b, hk, hm⟩ := C.ex
  exact pe_call F hr hg hm hk b .nil pass0 ha hdb he hpl
def subN (n T : String) : Bool := n == T || (n == "bool" && T == "int")
def tyN (H : Hp) (x : V) (n : String) : Prop := match x with
  | .bl _ => n = "bool"
  | .int _ => n = "int"
  | .str _ => n = "str"
  | .ref a => (n = "list" ∧ ∃ xs, H a = some (.lst xs)) ∨ (n = "tuple" ∧ ∃ xs, H a = some (.tup xs))
  | _ => False
theorem tyN_int {H : Hp} {i : Int} {n : String} : tyN H (.int i) n = (n = "int") := rfl
theorem tyN_bl {H : Hp} {i : Bool} {n : String} : tyN H (.bl i) n = (n = "bool") := rfl
theorem tyN_str {H : Hp} {i : Str} {n : String} : tyN H (.str i) n = (n = "str") := rfl
theorem tyN_ref {H : Hp} {a : Addr} {n : String} : tyN H (.ref a) n = ((n = "list" ∧ ∃ xs, H a = some (.lst xs)) ∨ (n = "tuple" ∧ ∃ xs, H a = some (.tup xs))) := rfl
def okT (T : String) : Prop := T = "int" ∨ T = "bool" ∨ T = "str" ∨ T = "list" ∨ T = "tuple"
theorem kit_sub {K : PySem.W.Frag} {n T : String} (hn : okT n) (hT : okT T) : PySem.W.kitOne K (.type n) (.type T) = some (subN n T) := by
  rcases hn with rfl | rfl | rfl | rfl | rfl <;> rcases hT with rfl | rfl | rfl | rfl | rfl <;> rfl
theorem tyN_of {K : PySem.W.Frag} {H : Hp} {x : V} {n : String} (h : tyN H x n) : TyOf K H x (.type n) ∧ okT n := by
  cases x with
  | bl b => cases (show n = "bool" from h); exact ⟨.bl b, by simp [okT]⟩
  | int i => cases (show n = "int" from h); exact ⟨.int i, by simp [okT]⟩
  | str i => cases (show n = "str" from h); exact ⟨.str i, by simp [okT]⟩
  | ref a =>
    rcases (show (n = "list" ∧ ∃ xs, H a = some (.lst xs)) ∨ (n = "tuple" ∧ ∃ xs, H a = some (.tup xs)) from h) with ⟨rfl, xs, e⟩ | ⟨rfl, xs, e⟩
    · exact ⟨.lst e, by simp [okT]⟩
    · exact ⟨.tup e, by simp [okT]⟩
  | _ => exact False.elim h
theorem okT_int : okT "int" := by simp [okT]
theorem okT_bool : okT "bool" := by simp [okT]
theorem okT_str : okT "str" := by simp [okT]
theorem okT_list : okT "list" := by simp [okT]
theorem okT_tuple : okT "tuple" := by simp [okT]
theorem subN_ii : subN "int" "int" = true := rfl
theorem subN_ib : subN "int" "bool" = false := rfl
theorem subN_bb : subN "bool" "bool" = true := rfl
theorem subN_bi : subN "bool" "int" = true := rfl
theorem subN_ss : subN "str" "str" = true := rfl
theorem subN_ll : subN "list" "list" = true := rfl
theorem subN_tt : subN "tuple" "tuple" = true := rfl
def rIsi : List V → Hp → VK → Prop := fun xs H Q => ∃ x T n, xs = [x, .ty T] ∧ okT T ∧ tyN H x n ∧ Q (.bl (subN n T)) H
theorem call_isi {X : Cx} : CallR X (.builtin "isinstance") rIsi := by
  intro pins s σ H xs us Q I r h
  obtain ⟨x, T, n, rfl, hT, ty, q⟩ := h
  obtain ⟨u, u', rfl, rx, rT⟩ := vals2 r
  obtain rfl : u' = Value.type T := rT
  obtain ⟨ty', hn⟩ := tyN_of (K := X.K) ty
  exact isinst_ok I rx ty' (kit_sub hn hT) fun tk => ⟨.bl _, H, I.tok _, rfl, q⟩
theorem scal_ii {i j : Int} : scal (.int i) (.int j) = true := rfl
theorem scal_bb {i j : Bool} : scal (.bl i) (.bl j) = true := rfl
theorem scal_ss {i j : Str} : scal (.str i) (.str j) = true := rfl
theorem tEqI' {i j : Int} : decide (V.int i = V.int j) = decide (i = j) := by
  by_cases h : i = j
  · subst h; simp
  · have : ¬ V.int i = V.int j := fun e => h (V.int.inj e)
    simp [h, this]
def tCut (t u : TS) : TS := fun D σ H => ∃ R : St → Hp → Prop, t { D with nx := R } σ H ∧ ∀ σ' H', R σ' H' → u D σ' H'
theorem pss_cut {X : Cx} {st : Stmt} {rest : List Stmt} {t u : TS} (h1 : PS X st t) (h2 : PSs X rest u) : PSs X (st :: rest) (tCut t u) := by
  intro pins s σ H D I h
  obtain ⟨R, ha, hb⟩ := h
  refine wpAny_execs_cons (thn (h1 pins s σ H { D with nx := R } I ha) fun f s1 q => ?_)
  cases f with
  | next =>
    obtain ⟨σ', H', I', q⟩ := q
    exact h2 pins s1 σ' H' D I' (hb σ' H' q)
  | ret v => exact q
  | brk => exact q
  | cont => exact q
theorem cut_of {t u : TS} {D : Ends} {σ : St} {H : Hp} (R : St → Hp → Prop) (h1 : t { D with nx := R } σ H) (h2 : ∀ σ' H', R σ' H' → u D σ' H') : tCut t u D σ H := ⟨R, h1, h2⟩
theorem for_rangeW {lo : Int} {n : Nat} {σ : St} {H : Hp} {DN : St → Hp → Prop} {B : (St → Hp → Prop) → V → St → Hp → Prop} (Pv : Nat → St → Hp → Prop) (h0 : Pv 0 σ H)
    (hs : ∀ i σ H, i < n → Pv i σ H → B (Pv (i + 1)) (.int (lo + i)) σ H) (hd : ∀ σ H, Pv n σ H → DN σ H) :
    ∃ W : Nat → Nat → St → Hp → Prop, (∃ m, W 0 m σ H) ∧ ∀ i m σ H, W i m σ H →
      ((Itr lo n).stop i H ∧ DN σ H) ∨ ((Itr lo n).go i H ∧ ∃ N : St → Hp → Prop, (∀ σ' H', N σ' H' → ∃ m', m' < m ∧ W (i + 1) m' σ' H') ∧ ∀ x H', (Itr lo n).yld i H x H' → B N x σ H') := by
  refine ⟨fun i m σ H => m = n - i ∧ i ≤ n ∧ Pv i σ H, ⟨n, by simp, Nat.zero_le _, h0⟩, ?_⟩
  rintro i m σ H ⟨rfl, hi, p⟩
  by_cases hlt : i < n
  · refine .inr ⟨hlt, Pv (i + 1), fun σ' H' p' => ⟨n - (i + 1), by omega, rfl, hlt, p'⟩, fun x H' y => ?_⟩
    obtain ⟨e, y⟩ := y
    subst e y
    exact hs i σ _ hlt p
  · have e : i = n := by omega
    subst e
    exact .inl ⟨Nat.le_refl _, hd σ H p⟩
theorem for_listW {K : PySem.W.Frag} {a : Addr} {xs : List V} {σ : St} {H : Hp} {DN : St → Hp → Prop} {B : (St → Hp → Prop) → V → St → Hp → Prop} (Pv : Nat → St → Hp → Prop) (h0 : Pv 0 σ H)
    (hl : ∀ i σ H, i ≤ xs.length → Pv i σ H → SqL K H a xs)
    (hs : ∀ i x σ H, xs[i]? = some x → Pv i σ H → B (Pv (i + 1)) x σ H) (hd : ∀ σ H, Pv xs.length σ H → DN σ H) :
    ∃ W : Nat → Nat → St → Hp → Prop, (∃ m, W 0 m σ H) ∧ ∀ i m σ H, W i m σ H →
      ((Itl K a).stop i H ∧ DN σ H) ∨ ((Itl K a).go i H ∧ ∃ N : St → Hp → Prop, (∀ σ' H', N σ' H' → ∃ m', m' < m ∧ W (i + 1) m' σ' H') ∧ ∀ x H', (Itl K a).yld i H x H' → B N x σ H') := by
  refine ⟨fun i m σ H => m = xs.length - i ∧ i ≤ xs.length ∧ Pv i σ H, ⟨xs.length, by simp, Nat.zero_le _, h0⟩, ?_⟩
  rintro i m σ H ⟨rfl, hi, p⟩
  have q := hl i σ H hi p
  by_cases hlt : i < xs.length
  · refine .inr ⟨⟨xs, xs[i], q, by simp [hlt]⟩, Pv (i + 1), fun σ' H' p' => ⟨xs.length - (i + 1), by omega, rfl, hlt, p'⟩, fun x H' y => ?_⟩
    obtain ⟨e, y⟩ := y
    subst e
    exact hs i x σ _ (y xs q) p
  · have e : i = xs.length := by omega
    subst e
    exact .inl ⟨⟨xs, q, Nat.le_refl _⟩, hd σ H p⟩
end L2

set_option Elab.async false
set_option linter.all false
set_option maxRecDepth 100000
set_option maxHeartbeats 4000000
namespace L2
open PySem PySem.Spec PyProof.Rows
def clStep (env : Env) (cs : List (Str × Addr)) (y : Str × NameKind) : List (Str × Addr) := if y.2 == .free then (y.1, (env.cells.lookup y.1).getD 0) :: cs else cs
def clOf (names : List (Str × NameKind)) (env : Env) : List (Str × Addr) := names.foldl (clStep env) []
theorem closure_go {env : Env} : ∀ (names : List (Str × NameKind)) (acc : List (Str × Addr)), (∀ y ∈ names, y.2 = .free → ∃ c, env.cells.lookup y.1 = some c) →
    (forIn names acc fun (x : Str × NameKind) (cs : List (Str × Addr)) => if (x.2 == NameKind.free) = true then (do let a ← cellOf env x.1; pure (ForInStep.yield ((x.1, a) :: cs))) else (pure (ForInStep.yield cs) : Sem (ForInStep (List (Str × Addr))))) = pure (names.foldl (clStep env) acc)
  | [], _, _ => rfl
  | y :: r, acc, h => by
    have ih := closure_go (env := env) r
    rw [List.forIn_cons]
    by_cases hk : y.2 = .free
    · obtain ⟨c, hc⟩ := h y List.mem_cons_self hk
      have hb : (y.2 == NameKind.free) = true := by rw [hk]; rfl
      have e : cellOf env y.1 = pure c := by unfold cellOf; rw [hc]
      rw [if_pos hb, e]
      show (forIn r ((y.1, c) :: acc) _ : Sem _) = _
      rw [ih _ fun z hz => h z (List.mem_cons_of_mem _ hz), List.foldl_cons]
      show _ = pure (r.foldl (clStep env) (if (y.2 == NameKind.free) = true then (y.1, (env.cells.lookup y.1).getD 0) :: acc else acc))
      rw [if_pos hb, hc]; rfl
    · have hb : ¬ (y.2 == NameKind.free) = true := by simpa using hk
      rw [if_neg hb]
      show (forIn r acc _ : Sem _) = _
      rw [ih _ fun z hz => h z (List.mem_cons_of_mem _ hz), List.foldl_cons]
      show _ = pure (r.foldl (clStep env) (if (y.2 == NameKind.free) = true then (y.1, (env.cells.lookup y.1).getD 0) :: acc else acc))
      rw [if_neg hb]
theorem closure_is {scope : Scope} {env : Env} (h : ∀ y ∈ scope.names, y.2 = .free → ∃ c, env.cells.lookup y.1 = some c) : closureFor scope env = pure (clOf scope.names env) := by
  have e := closure_go scope.names [] h
  unfold closureFor clOf
  refine Eq.trans ?_ (congrArg (fun t => t >>= fun (r : List (Str × Addr)) => (pure r : Sem (List (Str × Addr)))) e)
  rfl
theorem mem_cl {env : Env} : ∀ {names : List (Str × NameKind)} {acc : List (Str × Addr)} {p : Str × Addr}, p ∈ names.foldl (clStep env) acc → p ∈ acc ∨ ((p.1, NameKind.free) ∈ names ∧ p.2 = (env.cells.lookup p.1).getD 0)
  | [], _, _, h => .inl h
  | y :: r, acc, p, h => by
    rw [List.foldl_cons] at h
    rcases mem_cl h with h | ⟨h, e⟩
    · unfold clStep at h
      split at h
      · rename_i hk
        rcases List.mem_cons.mp h with rfl | h
        · have : y.2 = .free := by simpa using hk
          exact .inr ⟨by rw [← this]; exact List.mem_cons_self, rfl⟩
        · exact .inl h
      · exact .inl h
    · exact .inr ⟨List.mem_cons_of_mem _ h, e⟩
theorem cl_mem {env : Env} {x : Str} : ∀ {names : List (Str × NameKind)} {acc : List (Str × Addr)}, ((∃ c, (x, c) ∈ acc) ∨ (x, NameKind.free) ∈ names) → ∃ c, (x, c) ∈ names.foldl (clStep env) acc
  | [], _, h => by
    rcases h with h | h
    · exact h
    · cases h
  | y :: r, acc, h => by
    rw [List.foldl_cons]
    refine cl_mem ?_
    rcases h with ⟨c, h⟩ | h
    · refine .inl ⟨c, ?_⟩
      unfold clStep
      split
      · exact List.mem_cons_of_mem _ h
      · exact h
    · rcases List.mem_cons.mp h with rfl | h
      · refine .inl ⟨(env.cells.lookup x).getD 0, ?_⟩
        unfold clStep
        exact List.mem_cons_self
      · exact .inr h
theorem lookup_some_of_mem {x : Str} {c : Addr} : ∀ {l : List (Str × Addr)}, (x, c) ∈ l → ∃ c', l.lookup x = some c'
  | [], h => by cases h
  | (y, d) :: r, h => by
    rw [List.lookup_cons]
    by_cases e : x == y
    · rw [e]; exact ⟨d, rfl⟩
    · have e' : (x == y) = false := by simpa using e
      rw [e']
      rcases List.mem_cons.mp h with z | z
      · cases z; simp at e
      · exact lookup_some_of_mem z

def Cx.comp (X : Cx) (scope : Scope) (N' : List Str) (s₀ : Shared) (H₀ : Hp) (fp : List Addr) (C : Addr) : Cx where
  prog := X.prog
  w := X.w
  K := X.K
  mg := X.mg
  base := X.base
  A := X.A
  N := N'
  s₀ := s₀
  H₀ := H₀
  env := compEnvC scope (clOf scope.names X.env) C X.env
  outer := X.stack
  stack := X.stack
  ex := fp
  fn := fun _ => false
  calm := X.calm
  pn := []
  xe := fun _ _ => False
/-- what is asked of the scopes (all by rfl) -/
structure CompSc (X : Cx) (scope : Scope) (N' own fnames : List Str) (fr : List Nat) : Prop where
  kind : scope.kind = .function
  nocell : (scope.names.all fun y => y.2 != .cell) = true
  free : (scope.names.all fun y => y.2 != .free || X.env.kindOf y.1 == some .cell) = true
  loc : (scope.names.all fun y => y.2 != .local || scope.names.lookup y.1 == some .local) = true
  fn : (fnames.all fun x => X.env.kindOf x == some .cell && (relabel scope X.env).names.lookup x == some .cell) = true
  N : N' = own ++ fnames
  fr : fr.map (fun j => X.N[j]?) = fnames.map some
/-- the block's first names: its own are unset, the free ones as they stand -/
def compSt (k : Nat) (fr : List Nat) (σ : St) : St := List.replicate k none ++ fr.map fun j => (σ[j]?).getD none

/-- the tests of a comprehension -/
def PTs (X : Cx) (ifs : List Expr) (t : TT) : Prop :=
  ∀ (pins : List (Addr × Obj)) (s : Shared) (σ : St) (H : Hp) (Q : Bool → Hp → Prop), Inv X pins σ H s → t σ H Q →
    wpAny (model X.prog X.w) X.A (forIn ifs true fun c r => if r = true then do let ok ← isTrue c X.env (eval c X.env); pure (ForInStep.yield ok) else pure (ForInStep.yield r)) (TP X pins σ Q) X.xe s
def tTrue : TT := fun _ H Q => Q true H
theorem pts_nil {X : Cx} : PTs X [] tTrue := fun pins s σ H Q I h => wpAny_pure ⟨H, I, h⟩
section
variable {X : Cx} {scope : Scope} {N' own fnames : List Str} {fr : List Nat} {pins : List (Addr × Obj)} {σ : St} {H : Hp} {s₃ : Shared} {fp : List Addr}
theorem CompSc.has (S : CompSc X scope N' own fnames fr) (ok : X.Ok) : ∀ y ∈ scope.names, y.2 = .free → ∃ c, X.env.cells.lookup y.1 = some c := fun y hy hf => by
  have h := List.all_eq_true.mp S.free y hy
  rw [hf] at h
  exact ok.has _ (.inl (by simpa using h))
theorem CompSc.cell (S : CompSc X scope N' own fnames fr) (ok : X.Ok) {y : Str} {c : Addr} (h : (clOf scope.names X.env).lookup y = some c) : X.env.cells.lookup y = some c := by
  rcases mem_cl (PySem.mem_of_lookup h) with z | ⟨z, e⟩
  · cases z
  · obtain ⟨d, hd⟩ := S.has ok _ z rfl
    have hd' : X.env.cells.lookup y = some d := hd
    have e' : c = (X.env.cells.lookup y).getD 0 := e
    rw [hd'] at e'
    rw [hd', e']; rfl
theorem mem_of_lookupK {x : Str} {k : NameKind} : ∀ {l : List (Str × NameKind)}, l.lookup x = some k → (x, k) ∈ l
  | [], h => by simp at h
  | (y, d) :: r, h => by
    rw [List.lookup_cons] at h
    by_cases e : x == y
    · rw [e] at h
      have e1 : x = y := by simpa using e
      cases h; subst e1
      exact List.mem_cons_self
    · have e' : (x == y) = false := by simpa using e
      rw [e'] at h
      exact List.mem_cons_of_mem _ (mem_of_lookupK h)
theorem CompSc.names (S : CompSc X scope N' own fnames fr) {y : Str} {k : NameKind} (h : (relabel scope X.env).names.lookup y = some k) (hk : k = .cell ∨ k = .free) : (y, NameKind.free) ∈ scope.names := by
  have hm := mem_of_lookupK h
  unfold relabel at hm
  obtain ⟨⟨n, k0⟩, hn, e⟩ := List.mem_map.mp hm
  dsimp only at e
  split at e
  · rename_i hc
    have : k0 = .free := by
      simp only [Bool.and_eq_true, beq_iff_eq] at hc
      exact hc.1.1
    cases e; subst this; exact hn
  · cases e
    rcases hk with rfl | rfl
    · have := List.all_eq_true.mp S.nocell _ hn
      simp at this
    · exact hn
/-- the block's context is in order -/
theorem comp_ok {C : Addr} (S : CompSc X scope N' own fnames fr) (I : Inv X pins σ H s₃) (hC : s₃.heap.objs.size ≤ C) (hf : ∀ b ∈ fp, FpOk X pins H b) (hlt : ∀ b ∈ fp, b < s₃.heap.objs.size) : (X.comp scope N' s₃ H fp C).Ok := by
  have cellI : ∀ y c, (clOf scope.names X.env).lookup y = some c → X.env.cells.lookup y = some c := fun y c h => S.cell I.ok h
  refine ⟨I.ok.mod, S.kind, I.ok.glob, I.ok.blt, hC, fun x y c h1 h2 => I.ok.inj x y c (cellI x c h1) (cellI y c h2), fun x hx => ?_, fun x c h => (by cases h), I.ok.hd, I.ok.frames, .inl rfl, fun b hb => ⟨?_, fun x c h => (hf b hb).2.2.2.2.1 x c (cellI x c h)⟩, fun b o e => I.bs b o e, Nat.le_trans I.ok.bsz I.sz, fun b o e hb => ?_, fun b hb hb' => ?_, I.stack, I.stkFree⟩
  · have hm : (x, NameKind.free) ∈ scope.names := by
      rcases hx with h | h
      · exact S.names (show (relabel scope X.env).names.lookup x = some .cell from h) (.inl rfl)
      · exact S.names (show (relabel scope X.env).names.lookup x = some .free from h) (.inr rfl)
    obtain ⟨c, hc⟩ := cl_mem (env := X.env) (acc := []) (.inr hm)
    exact lookup_some_of_mem hc
  · intro z
    have h1 := hlt b hb
    have z' : b = C := z
    rw [z'] at h1
    exact absurd (Nat.lt_of_lt_of_le h1 hC) (Nat.lt_irrefl _)
  · obtain ⟨_, _, _, h3, _⟩ := hf b hb
    rcases h3 with h3 | h3
    · exact I.ok.noex b o e h3
    · exact absurd (Nat.lt_of_lt_of_le (Heap.lt_size e) (Nat.le_trans I.ok.bsz h3)) (Nat.lt_irrefl _)
  · obtain ⟨_, h1, h2, _⟩ := hf b hb
    rcases List.mem_cons.mp (I.stkSub b hb') with z | z
    · exact h1 z
    · exact h2 z
theorem comp_start {h₄ : Heap} {t₄ : Nat} {m : Str → Option Value} (S : CompSc X scope N' own fnames fr) (I : Inv X pins σ H s₃) (hf : ∀ b ∈ fp, FpOk X pins H b) (hlt : ∀ b ∈ fp, b < s₃.heap.objs.size)
    (k : ∀ b o, s₃.heap.get? b = some o → h₄.get? b = some o) (hn : h₄.Ns s₃.heap.objs.size m) :
    Inv (X.comp scope N' s₃ H fp s₃.heap.objs.size) [] (compSt own.length fr σ) H { s₃ with heap := h₄, toks := t₄ } := by
  have hlen : fr.length = fnames.length := by simpa using congrArg List.length S.fr
  refine ⟨comp_ok S I (Nat.le_refl _) hf hlt, rfl, I.bare, Un.kept k, ⟨m, hn, fun i x v e1 e2 e3 => ?_⟩, fun y c h => ?_, I.hok.fresh (Nat.le_refl _), fun y c h => I.freeC y c (S.cell I.ok h), fun p hp => absurd (show p ∈ ([] : List (Addr × Obj)) from hp) (by simp), I.hok.kept k, ?_⟩
  · have e1' : (own ++ fnames)[i]? = some x := by rw [← S.N]; exact e1
    have hi : own.length ≤ i := by
      refine Nat.le_of_not_lt fun z => ?_
      unfold compSt at e2
      rw [List.getElem?_append_left (by simpa using z), List.getElem?_replicate, if_pos z] at e2
      cases e2
    unfold compSt at e2
    rw [List.getElem?_append_right (by simpa using hi), List.length_replicate, List.getElem?_map] at e2
    rw [List.getElem?_append_right hi] at e1'
    cases q : fr[i - own.length]? with
    | none => rw [q] at e2; cases e2
    | some t =>
      rw [q] at e2
      have e2' : (σ[t]?).getD none = some v := Option.some.inj e2
      have hσ : σ[t]? = some (some v) := by
        cases z : σ[t]? with
        | none => rw [z] at e2'; cases e2'
        | some o => rw [z] at e2'; exact congrArg some e2'
      have hN : X.N[t]? = some x := by
        have z := congrArg (fun l => l[i - own.length]?) S.fr
        simp only [List.getElem?_map, q, e1', Option.map_some] at z
        exact Option.some.inj z
      have hx : x ∈ fnames := List.mem_of_getElem? e1'
      have hk := List.all_eq_true.mp S.fn x hx
      simp only [Bool.and_eq_true, beq_iff_eq] at hk
      obtain ⟨mX, _, hl⟩ := I.loc
      obtain ⟨u, r, l⟩ := hl t x v hN hσ (.inr (.inl hk.1))
      refine ⟨u, r, ?_⟩
      rcases l with ⟨kl, _⟩ | ⟨_, c, hc, o, ho, hd⟩
      · rw [hk.1] at kl; cases kl
      · obtain ⟨d, hd'⟩ := cl_mem (env := X.env) (acc := []) (.inr (S.names hk.2 (.inl rfl)))
        obtain ⟨c', hc'⟩ := lookup_some_of_mem hd'
        have z := S.cell I.ok hc'
        rw [hc] at z
        cases z
        exact .inr ⟨.inl hk.2, c, hc', o, k c o ho, hd⟩
  · obtain ⟨v, o, ho, hd⟩ := I.cell y c (S.cell I.ok h)
    exact ⟨v, o, k c o ho, hd⟩
  · unfold compSt
    show _ = N'.length
    rw [S.N, List.length_append, List.length_append, List.length_replicate, List.length_map, hlen]

/-- the block: what is wanted of its turns -/
def tBlk (k : Nat) (fr : List Nat) (g : TG) (tt : TT) (te : TE) (J : It) (σ : St) (H1 : Hp) (Q : VK) : Prop :=
  ∀ D, H1 D = none → ∃ W : Nat → Nat → St → Hp → Prop, (∃ m, W 0 m (compSt k fr σ) (upd H1 D (.lst []))) ∧ ∀ i m σ' H', W i m σ' H' →
    (J.stop i H' ∧ Q (.ref D) H') ∨ (J.go i H' ∧ ∃ N : St → Hp → Prop, (∀ σ2 H2, N σ2 H2 → ∃ m', m' < m ∧ W (i + 1) m' σ2 H2) ∧ ∀ x H2, J.yld i H' x H2 →
      g x σ' H2 fun σ2 H3 => tt σ2 H3 fun b H4 => if b = true then te σ2 H4 fun v H5 => ∃ xs, H5 D = some (.lst xs) ∧ xs.length < sizeLine ∧ N σ2 (upd H5 D (.lst (xs ++ [v]))) else N σ2 H4)
def tComp (wi : TI) (k : Nat) (fr : List Nat) (g : TG) (tt : TT) (te : TE) : TE := fun σ H Q => wi σ H fun J H1 => tBlk k fr g tt te J σ H1 Q

theorem comp_run {elt tg iter : Expr} {ifs : List Expr} {pos : Pos} {g : TG} {tt : TT} {te : TE} {s₂ : Shared} {H2 : Hp} {J : It} {it : Addr} {tn : Nat → Heap → Prop} {RR : Value → Addr → Result → Shared → Prop} {E : Value → Shared → Prop} {Q : VK}
    (S : CompSc X scope N' own fnames fr) (hc : X.calm = true)
    (hb : ∀ (s₀ : Shared) (H₀ : Hp) (fp : List Addr) (C : Addr), PG (X.comp scope N' s₀ H₀ fp C) tg g ∧ PTs (X.comp scope N' s₀ H₀ fp C) ifs tt ∧ PE (X.comp scope N' s₀ H₀ fp C) elt te)
    (I2 : Inv X pins σ H2 s₂) (T : Turn X.prog X.w X.K tg J fp it tn) (st2 : tn 0 s₂.heap) (f2 : ∀ b ∈ fp, FpOk X pins H2 b) (hq : tBlk own.length fr g tt te J σ H2 Q)
    (hRR : ∀ D C H' s', Inv X pins σ H' s' → (∃ m, s'.heap.Ns C m) → FpOk X pins H' C → Q (.ref D) H' → RR (.ref D) C (.ok .next) s') :
    wpAny (model X.prog X.w) X.A (newList []) (fun acc s₃ => wpAny (model X.prog X.w) X.A (newFunctionEnv scope X.env.globals (clOf scope.names X.env) [] X.env.qual none .none (some X.env)) (fun cenv s₄ =>
      codeAny (model X.prog X.w) X.A (.compStart (.ListComp elt [⟨tg, iter, ifs, 0⟩] scope pos) 0 (.ref it) acc { cenv with scope := relabel scope X.env }) (RR acc cenv.locals) s₄) E s₃) E s₂ := by
  have nocell : ∀ y ∈ scope.names, y.2 ≠ .cell := fun y hy z => by
    have := List.all_eq_true.mp S.nocell y hy
    rw [z] at this
    simp at this
  refine wpAny_newObj_type (wpAny_newFunctionEnv nocell (by intro y hy; simp at hy) (fun h₁ hns₁ hsb₁ => ?_) S.kind)
  have hlt2 : ∀ b ∈ fp, b < s₂.heap.objs.size := fun b hb' => by
    obtain ⟨o, e, _⟩ := T.obj _ _ st2 b hb'
    exact Heap.lt_size e
  have I3 : Inv X pins σ (upd H2 s₂.heap.objs.size (.lst [])) { s₂ with heap := s₂.heap.push { cls := .type "list", data := .seq ([] : List Value).toArray }, toks := s₂.toks } := I2.lnew (its := []) (ys := []) .nil (Nat.zero_le _)
  have hD : H2 s₂.heap.objs.size = none := I2.fresh
  obtain ⟨W, ⟨m0, w0⟩, turn⟩ := hq _ hD
  generalize hs3 : ({ s₂ with heap := s₂.heap.push { cls := .type "list", data := .seq ([] : List Value).toArray }, toks := s₂.toks } : Shared) = s₃ at I3
  have eh : s₃.heap = s₂.heap.push { cls := .type "list", data := .seq ([] : List Value).toArray } := by rw [← hs3]
  have hsz : s₃.heap.objs.size = s₂.heap.objs.size + 1 := by rw [eh, Heap.size_push]
  have f3 : ∀ b ∈ fp, FpOk X pins (upd H2 s₂.heap.objs.size (.lst [])) b := fun b hb' => by
    refine ⟨?_, (f2 b hb').2⟩
    rw [upd_ne (Nat.ne_of_lt (hlt2 b hb'))]
    exact (f2 b hb').1
  have hlt3 : ∀ b ∈ fp, b < s₃.heap.objs.size := fun b hb' => by rw [hsz]; exact Nat.lt_succ_of_lt (hlt2 b hb')
  have old : ∀ b o, s₃.heap.get? b = some o → h₁.get? b = some o := fun b o e => by
    have hb1 : b ≠ s₃.heap.objs.size := Nat.ne_of_lt (Heap.lt_size e)
    refine hsb₁.extBut b o ?_ ?_
    · show b ≠ (s₂.heap.push _).objs.size
      rw [← eh]; exact hb1
    · show (Heap.push (s₂.heap.push _) _).get? b = some o
      rw [← eh]
      exact Heap.get?_push_of_some _ e
  have hns : ∃ m, h₁.Ns s₃.heap.objs.size m := ⟨_, by rw [eh]; exact hns₁⟩
  obtain ⟨m1, hns⟩ := hns
  have I4 : Inv (X.comp scope N' s₃ (upd H2 s₂.heap.objs.size (.lst [])) fp s₃.heap.objs.size) [] (compSt own.length fr σ) (upd H2 s₂.heap.objs.size (.lst [])) { s₃ with heap := h₁, toks := s₂.toks + ([] : List (Str × Value)).length } :=
    comp_start S I3 f3 hlt3 old hns
  have st4 : tn 0 h₁ := T.keep _ _ _ st2 fun b hb' o e => old b o (by rw [eh]; exact Heap.get?_push_of_some _ e)
  obtain ⟨hpg, hpt, hpe⟩ := hb s₃ (upd H2 s₂.heap.objs.size (.lst [])) fp s₃.heap.objs.size
  have fpok : ∀ {H' : Hp}, (∀ b ∈ fp, H' b = none) → ∀ b ∈ fp, FpOk (X.comp scope N' s₃ (upd H2 s₂.heap.objs.size (.lst [])) fp s₃.heap.objs.size) [] H' b := fun hn b hb' =>
    ⟨hn b hb', fun z => by
        have h1 := hlt3 b hb'
        have z' : b = s₃.heap.objs.size := z
        rw [z'] at h1
        exact absurd h1 (Nat.lt_irrefl _), fun z => I4.ok.exfs b hb' z, .inl hb', fun x c e => (I4.ok.exf b hb').2 x c e, fun p hp => absurd (show p ∈ ([] : List (Addr × Obj)) from hp) (by simp)⟩
  have loop : ∀ s4 : Shared, s4 = { s₃ with heap := h₁, toks := s₂.toks + ([] : List (Str × Value)).length } →
      codeAny (model X.prog X.w) X.A (.compLoop (.ListComp elt [⟨tg, iter, ifs, 0⟩] scope pos) 0 (.ref it) (.ref s₂.heap.objs.size) (compEnvC scope (clOf scope.names X.env) s₃.heap.objs.size X.env)) (RR (.ref s₂.heap.objs.size) s₃.heap.objs.size) s4 := by
    rintro s4 rfl
    refine codeAny_loop rfl (fun n s => ∃ i σ' H', Inv (X.comp scope N' s₃ (upd H2 s₂.heap.objs.size (.lst [])) fp s₃.heap.objs.size) [] σ' H' s ∧ tn i s.heap ∧ (∀ b ∈ fp, H' b = none) ∧ W i n σ' H') ?_ m0
      ⟨0, _, _, I4, st4, fun b hb' => (f3 b hb').1, w0⟩
    rintro n s5 ⟨i, σ5, H5, I5, st5, fr5, w5⟩
    show wpAny _ X.A ((compTurn (.ListComp elt [⟨tg, iter, ifs, 0⟩] scope pos) 0 (.ref it) (.ref s₂.heap.objs.size) (compEnvC scope (clOf scope.names X.env) s₃.heap.objs.size X.env)).onRaise (fun x => do noteFrame x (compEnvC scope (clOf scope.names X.env) s₃.heap.objs.size X.env); theTreesLotGoes x)) _ _ s5
    refine wpAny_noted ?_
    rw [compTurn_list]
    refine wpAny_bind (wpAny_standAt (wpAny_bind ?_))
    rcases turn i n σ5 H5 w5 with ⟨stop, q⟩ | ⟨go, N, hN, step⟩
    · refine wpAny_mono (T.done (X.comp scope N' s₃ (upd H2 s₂.heap.objs.size (.lst [])) fp s₃.heap.objs.size) rfl rfl rfl hc i [] s5 σ5 H5 (fun _ _ => False) I5 (fpok fr5) st5 stop) (fun r s6 hr => ?_) fun _ _ z => z.elim
      obtain ⟨rfl, I6⟩ := hr
      refine wpAny_pure ?_
      obtain ⟨m6, hn6, _⟩ := id I6.loc
      have I7 : Inv X pins σ H5 s6 := I3.call' (ch := fp) I6.os I6.base I6.hok I6.bare fun b hb' => by
        obtain ⟨_, h1, _, h3, h4, h5⟩ := f3 b hb'
        exact ⟨h3, h1, h4, h5⟩
      exact hRR _ _ H5 s6 I7 ⟨m6, hn6⟩ (I3.fpOk (Nat.le_refl _) I6.free) q
    · refine wpAny_mono (T.item (X.comp scope N' s₃ (upd H2 s₂.heap.objs.size (.lst [])) fp s₃.heap.objs.size) rfl rfl rfl hc i [] s5 σ5 H5 (fun _ _ => False) I5 (fpok fr5) st5 go) (fun r s6 hr => ?_) fun _ _ z => z.elim
      obtain ⟨u, rfl, h6⟩ := hr
      refine wpAny_bind (wpAny_mono h6 (fun _ s7 h7 => ?_) fun _ _ z => z.elim)
      obtain ⟨x, H7, I7, r7, y7, st7, fr7⟩ := h7
      have I7' := I7.pinned (fpok fr7) (T.obj _ _ st7)
      refine wpAny_bind (wpAny_mono (hpg _ s7 σ5 H7 x u _ I7' r7 (step x H7 y7)) (fun _ s8 h8 => ?_) fun _ _ z => z.elim)
      obtain ⟨σ8, H8, I8, q8⟩ := h8
      have again' : ∀ {σ9 : St} {H9 : Hp} {s9 : Shared}, Inv (X.comp scope N' s₃ (upd H2 s₂.heap.objs.size (.lst [])) fp s₃.heap.objs.size) ([] ++ pinsAt fp s7.heap) σ9 H9 s9 → N σ9 H9 →
          ∃ m, m < n ∧ ∃ i σ' H', Inv (X.comp scope N' s₃ (upd H2 s₂.heap.objs.size (.lst [])) fp s₃.heap.objs.size) [] σ' H' s9 ∧ tn i s9.heap ∧ (∀ b ∈ fp, H' b = none) ∧ W i m σ' H' := fun {σ9 H9 s9} I9 n9 => by
        obtain ⟨m', hm, w9⟩ := hN σ9 H9 n9
        refine ⟨m', hm, i + 1, σ9, H9, I9.unpinned, T.keep _ _ _ st7 fun b hb' o e => (I9.pin (b, o) (List.mem_append_right _ (List.mem_append_right _ (mem_pinsAt hb' e)))).1, fun b hb' => ?_, w9⟩
        obtain ⟨o, e, d⟩ := T.obj _ _ st7 b hb'
        exact (I9.pin (b, o) (List.mem_append_right _ (List.mem_append_right _ (mem_pinsAt hb' e)))).2.1
      refine wpAny_bind (wpAny_mono (hpt _ s8 σ8 H8 _ I8 q8) (fun b s9 h9 => ?_) fun _ _ z => z.elim)
      obtain ⟨H9, I9, q9⟩ := h9
      cases b with
      | false =>
        rw [if_neg Bool.false_ne_true] at q9
        exact wpAny_pure ⟨rfl, again' I9 q9⟩
      | true =>
        rw [if_pos rfl] at q9
        refine wpAny_bind (wpAny_bind (wpAny_mono (hpe _ s9 σ8 H9 _ I9 q9) (fun v s10 h10 => ?_) fun _ _ z => z.elim))
        obtain ⟨y, H10, I10, r10, xs, hx, hz, q10⟩ := h10
        refine wpAny_bind (wpAny_mono (mt_append (X := X.comp scope N' s₃ (upd H2 s₂.heap.objs.size (.lst [])) fp s₃.heap.objs.size) _ s10 σ8 H10 (.ref s₂.heap.objs.size) [y] (.ref s₂.heap.objs.size) [v] (fun _ H' => N σ8 H') I10 rfl (.cons r10 .nil) ⟨_, xs, y, rfl, rfl, hx, hz, q10⟩) (fun r s11 h11 => ?_) fun _ _ z => z.elim)
        obtain ⟨_, H11, I11, _, q11⟩ := h11
        exact wpAny_pure (wpAny_pure ⟨rfl, again' I11 q11⟩)
  have e3 : ({ s₂ with heap := s₂.heap.push { cls := .type "list", data := .seq ([] : List Value).toArray } } : Shared) = s₃ := hs3
  have go4 := codeAny_compStart_list (loop _ rfl) (T.self X.A 0 _ _ _ st4 (loop _ rfl))
  subst hs3
  exact go4
/-- x = [..]: the name is stored ahead of the block's end -/
theorem ps_comp {i : Nat} {x : Str} {pos' spos : Pos} {elt tg iter : Expr} {ifs : List Expr} {pos : Pos} {wi : TI} {g : TG} {tt : TT} {te : TE} (hN : X.N.Nodup) (hi' : X.N[i]? = some x) (hx : X.env.scope.names.lookup x = some .local) (S : CompSc X scope N' own fnames fr) (hc : X.calm = true) (hi : PI X tg iter wi)
    (hb : ∀ (s₀ : Shared) (H₀ : Hp) (fp : List Addr) (C : Addr), PG (X.comp scope N' s₀ H₀ fp C) tg g ∧ PTs (X.comp scope N' s₀ H₀ fp C) ifs tt ∧ PE (X.comp scope N' s₀ H₀ fp C) elt te)
    (hsw : swapsWith (.ListComp elt [⟨tg, iter, ifs, 0⟩] scope pos) (some (.Name x pos')) spos.line X.env = pure true := by rfl)
    (hs : ∀ x, foldedSetIterable iter X.env x = pure x := by intro _; rfl) : PS X (.Assign [.Name x pos'] (.ListComp elt [⟨tg, iter, ifs, 0⟩] scope pos) spos) (tAsg (tComp wi own.length fr g tt te) (gName i)) := by
  intro pins s σ H D I h
  rw [exec_Assign_Name_used _ _ _ _ hsw]
  refine wpAny_bind (wpAny_standAt (wpAny_bind ?_))
  show wpAny _ X.A (do let _ ← comprehension (.ListComp elt [⟨tg, iter, ifs, 0⟩] scope pos) scope X.env _ (newList []) false (eval iter X.env) (some (assign (.Name x pos') X.env))) _ _ s
  refine wpAny_bind (wpAny_mono (wpAny_comprehension_free (use := some (assign (.Name x pos') X.env)) (Q := fun _ s' => SP X pins D .next s') rfl hs (closure_is (S.has I.ok)) S.kind (fun y hy hl => ?_)
    (wpAny_mono (hi pins s σ H _ I h) (fun xv s₁ h₁ => wpAny_mono h₁ (fun itv s₂ h₂ => ?_) fun _ _ e => e) fun _ _ e => e)) (fun _ s' hq => wpAny_pure (wpAny_pure hq)) fun _ _ e => e)
  · have := List.all_eq_true.mp S.loc y hy
    rw [hl] at this
    simpa using this
  · obtain ⟨it, fp, tn, J, H2, rfl, I2, T, st2, f2, q2⟩ := h₂
    refine comp_run S hc hb I2 T st2 f2 q2 (RR := fun acc C => compPost (model X.prog X.w) X.A X.xe (some (assign (.Name x pos') X.env)) (fun _ s' => SP X pins D .next s') acc C) fun D' C H' s' I' hn fC q => ?_
    obtain ⟨m, hn⟩ := hn
    obtain ⟨f0, f1, f2', f3, f4, f5⟩ := fC
    show wpAny _ X.A (assign (.Name x pos') X.env (.ref D')) _ _ _
    refine wpAny_assign_Name (store_ok2 I' hN hi' (.inl hx) (v := .ref D') rfl (fun s'' I'' hch => ?_) (.inr hx))
    obtain ⟨a, hsa, hca⟩ := hch
    have hCa : C ≠ a := by
      rcases hca with z | z
      · rw [z]; exact f1
      · exact fun e => f4 x a z e.symm
    refine ⟨m, hn.sameBut hsa hCa, fun h' hs' => ⟨_, H', I''.turned (t' := s''.toks) (fun b o hb' e => (hs'.2 b hb').trans e) f0 f1 f3 f4 f5, q⟩⟩
end
end L2

set_option Elab.async false
set_option linter.all false
set_option maxRecDepth 100000
set_option maxHeartbeats 4000000
namespace L2
open PySem PySem.Spec PyProof.Rows
inductive DV where
  | int (i : Int) | bl (b : Bool) | str (x : Str) | non | lst (xs : List DV) | tup (xs : List DV)
def Den (K : PySem.W.Frag) (H : Hp) : Nat → V → DV → Prop
  | _, .int i, .int j => i = j
  | _, .bl i, .bl j => i = j
  | _, .str i, .str j => i = j
  | _, .non, .non => True
  | n + 1, .ref a, .lst ds => ∃ xs, SqL K H a xs ∧ Paired (Den K H n) xs ds
  | n + 1, .ref a, .tup ds => ∃ xs, SqT K H a xs ∧ Paired (Den K H n) xs ds
  | _, _, _ => False
/-- two data that are compared place by place -/
def Like : Nat → DV → DV → Prop
  | _, .int _, .int _ => True
  | _, .bl _, .bl _ => True
  | _, .str _, .str _ => True
  | _, .non, .non => True
  | n + 1, .lst ds, .lst es => ds.length = es.length → ∀ (i : Nat) d e, ds[i]? = some d → es[i]? = some e → Like n d e
  | n + 1, .tup ds, .tup es => ∀ (i : Nat) d e, ds[i]? = some d → es[i]? = some e → Like n d e
  | _, _, _ => False
theorem Paired.get' {α β : Type} {F : α → β → Prop} : ∀ {xs : List α} {ys : List β} {i : Nat} {x : α}, Paired F xs ys → xs[i]? = some x → ∃ y, ys[i]? = some y ∧ F x y
  | _, _, _, _, .nil, e => by simp at e
  | _, _, 0, _, .cons r _, e => by simp at e; subst e; exact ⟨_, rfl, r⟩
  | _, _, i + 1, x, .cons _ t, e => by
    obtain ⟨u, h1, h2⟩ := Paired.get' (i := i) (x := x) t (by simpa using e)
    exact ⟨u, by simpa using h1, h2⟩
section
variable {X : Cx} {pins : List (Addr × Obj)} {σ : St} {H : Hp} {s : Shared}
theorem paired_inj {α β : Type} {F : α → β → Prop} (hF : ∀ x d e, F x d → F x e → d = e) : ∀ {xs : List α} {ds es : List β}, Paired F xs ds → Paired F xs es → ds = es
  | _, _, _, .nil, .nil => rfl
  | _, _, _, .cons a b, .cons c d => by rw [hF _ _ _ a c, paired_inj hF b d]
theorem not_both (I : Inv X pins σ H s) {a : Addr} {xs ys : List V} (h : SqL X.K H a xs) (h' : SqT X.K H a ys) : False := by
  obtain ⟨its, _, ⟨o, n, e, c, _⟩, _⟩ := I.list h
  obtain ⟨its', _, ⟨o', e', c', _⟩, _⟩ := I.tuple h'
  rw [e] at e'; cases e'
  rw [c] at c'
  exact absurd c' (by decide)
theorem den_inj (I : Inv X pins σ H s) : ∀ (n : Nat) (x : V) (d e : DV), Den X.K H n x d → Den X.K H n x e → d = e := by
  intro n
  induction n with
  | zero =>
    intro x d e h1 h2
    cases x <;> cases d <;> simp only [Den] at h1 <;> cases e <;> simp only [Den] at h2 <;> first | rfl | (subst h1; subst h2; rfl)
  | succ n ih =>
    intro x d e h1 h2
    cases x with
    | ref a =>
      cases d with
      | lst ds =>
        obtain ⟨xs, hs, hp⟩ : ∃ xs, SqL X.K H a xs ∧ Paired (Den X.K H n) xs ds := h1
        cases e with
        | lst es =>
          obtain ⟨ys, hs', hp'⟩ : ∃ xs, SqL X.K H a xs ∧ Paired (Den X.K H n) xs es := h2
          rw [I.list_inj hs' hs] at hp'
          rw [paired_inj ih hp hp']
        | tup es =>
          obtain ⟨ys, hs', hp'⟩ : ∃ xs, SqT X.K H a xs ∧ Paired (Den X.K H n) xs es := h2
          exact (not_both I hs hs').elim
        | _ => exact False.elim h2
      | tup ds =>
        obtain ⟨xs, hs, hp⟩ : ∃ xs, SqT X.K H a xs ∧ Paired (Den X.K H n) xs ds := h1
        cases e with
        | tup es =>
          obtain ⟨ys, hs', hp'⟩ : ∃ xs, SqT X.K H a xs ∧ Paired (Den X.K H n) xs es := h2
          rw [I.tuple_inj hs' hs] at hp'
          rw [paired_inj ih hp hp']
        | lst es =>
          obtain ⟨ys, hs', hp'⟩ : ∃ xs, SqL X.K H a xs ∧ Paired (Den X.K H n) xs es := h2
          exact (not_both I hs' hs).elim
        | _ => exact False.elim h2
      | _ => exact False.elim h1
    | int i => cases d <;> simp only [Den] at h1 <;> cases e <;> simp only [Den] at h2 <;> (subst h1; subst h2; rfl)
    | bl i => cases d <;> simp only [Den] at h1 <;> cases e <;> simp only [Den] at h2 <;> (subst h1; subst h2; rfl)
    | str i => cases d <;> simp only [Den] at h1 <;> cases e <;> simp only [Den] at h2 <;> (subst h1; subst h2; rfl)
    | non => cases d <;> simp only [Den] at h1 <;> cases e <;> simp only [Den] at h2 <;> rfl
    | _ => cases d <;> exact False.elim h1
open Classical in
/-- the answer of == -/
noncomputable def eqD (d e : DV) : Bool := decide (d = e)
theorem eqD_same (d : DV) : eqD d d = true := by simp [eqD]
theorem all_places {ds es : List DV} (h : ds.length = es.length) : ((List.range ds.length).all fun j => eqD (ds[j]?.getD (.int 0)) (es[j]?.getD (.int 0))) = eqD (.lst ds) (.lst es) := by
  rw [Bool.eq_iff_iff]
  simp only [List.all_eq_true, List.mem_range, eqD, decide_eq_true_eq, DV.lst.injEq]
  constructor
  · intro hj
    refine List.ext_getElem? fun i => ?_
    by_cases hi : i < ds.length
    · have := hj i hi
      rw [List.getElem?_eq_getElem hi, List.getElem?_eq_getElem (by omega : i < es.length)] at this ⊢
      simpa using this
    · rw [List.getElem?_eq_none (by omega), List.getElem?_eq_none (by omega)]
  · rintro rfl j _
    rfl
theorem all_placesT {ds es : List DV} : (((List.range (min ds.length es.length)).all fun j => eqD (ds[j]?.getD (.int 0)) (es[j]?.getD (.int 0))) && ds.length == es.length) = eqD (.tup ds) (.tup es) := by
  by_cases h : ds.length = es.length
  · have e : eqD (.tup ds) (.tup es) = eqD (.lst ds) (.lst es) := by simp [eqD]
    rw [e, ← all_places h, h]
    simp [h]
  · have : ¬ ds = es := fun e => h (congrArg List.length e)
    have e : eqD (.tup ds) (.tup es) = false := by simp [eqD, this]
    rw [e]
    simp [h]
theorem eqAt_D (I : Inv X pins σ H s) : ∀ (n : Nat) (A : Around) (x y : V) (d e : DV) (u v : Value), Den X.K H n x d → Den X.K H n y e → Like n d e → RelV x u → RelV y v → A.units + n < cLine → SeqAt.EqAt A s u v (eqD d e) := by
  intro n
  have leaf : ∀ (n : Nat) (A : Around) (x y : V) (d e : DV) (u v : Value), (∀ a, x ≠ .ref a) → Den X.K H n x d → Den X.K H n y e → Like n d e → RelV x u → RelV y v → SeqAt.EqAt A s u v (eqD d e) := by
    intro n A x y d e u v hx h1 h2 hl r1 r2
    cases x with
    | ref a => exact absurd rfl (hx a)
    | non =>
      cases d <;> simp only [Den] at h1
      cases e <;> simp only [Like] at hl
      cases y <;> simp only [Den] at h2
      cases r1
      cases r2
      rw [eqD_same]
      exact SeqAt.EqAt.same _
    | int i =>
      cases d <;> simp only [Den] at h1
      subst h1
      cases e <;> simp only [Like] at hl
      cases y <;> simp only [Den] at h2
      subst h2
      obtain ⟨t, rfl⟩ := r1
      obtain ⟨t', rfl⟩ := r2
      rename_i j
      have e1 : eqD (.int i) (.int j) = (i == j) := by
        rw [Bool.eq_iff_iff]; simp [eqD]
      rw [e1]
      exact SeqAt.EqAt.int_int i t j t'
    | bl i =>
      cases d <;> simp only [Den] at h1
      subst h1
      cases e <;> simp only [Like] at hl
      cases y <;> simp only [Den] at h2
      subst h2
      cases r1
      cases r2
      rename_i j
      have e1 : eqD (.bl i) (.bl j) = (i == j) := by
        rw [Bool.eq_iff_iff]; simp [eqD]
      rw [e1]
      exact SeqAt.EqAt.bool_bool i j
    | str i =>
      cases d <;> simp only [Den] at h1
      subst h1
      cases e <;> simp only [Like] at hl
      cases y <;> simp only [Den] at h2
      subst h2
      obtain ⟨t, rfl⟩ := r1
      obtain ⟨t', rfl⟩ := r2
      rename_i j
      have e1 : eqD (.str i) (.str j) = (i == j) := by
        rw [Bool.eq_iff_iff]; simp [eqD]
      rw [e1]
      exact SeqAt.EqAt.str_str i t j t'
    | _ => cases n <;> cases d <;> exact False.elim h1
  induction n with
  | zero =>
    intro A x y d e u v h1 h2 hl r1 r2 hu
    refine leaf 0 A x y d e u v (fun a z => ?_) h1 h2 hl r1 r2
    subst z
    cases d <;> exact False.elim h1
  | succ n ih =>
    intro A x y d e u v h1 h2 hl r1 r2 hu
    cases x with
    | ref a =>
      cases r1
      cases d with
      | lst ds =>
        obtain ⟨xs, hs, hp⟩ : ∃ xs, SqL X.K H a xs ∧ Paired (Den X.K H n) xs ds := h1
        cases e with
        | lst es =>
          cases y with
          | ref b =>
            cases r2
            obtain ⟨ys, hs', hp'⟩ : ∃ xs, SqL X.K H b xs ∧ Paired (Den X.K H n) xs es := h2
            by_cases hab : a = b
            · subst hab
              rw [I.list_inj hs' hs] at hp'
              rw [paired_inj (den_inj I n) hp hp', eqD_same]
              exact SeqAt.EqAt.same _
            · refine SeqAt.EqAt.of_refs hab ?_
              obtain ⟨its, ri, pl, _⟩ := I.list hs
              obtain ⟨its', ri', pl', _⟩ := I.list hs'
              have l1 := ri.length
              have l2 := ri'.length
              have l3 : xs.length = ds.length := Paired.length hp
              have l4 : ys.length = es.length := Paired.length hp'
              by_cases hlen : ds.length = es.length
              · rw [← all_places hlen]
                have hsz : its.toArray.size = its'.toArray.size := by rw [List.size_toArray, List.size_toArray]; omega
                have := SeqAt.RcAt.lists (e := fun j => eqD (ds[j]?.getD (.int 0)) (es[j]?.getD (.int 0))) pl.isList pl'.isList hsz (by omega : A.units < cLine) (fun j h1' h2' => ?_)
                · rw [List.size_toArray, ← l1, l3] at this
                  exact this
                · rw [List.size_toArray] at h1' h2'
                  have hj1 : xs[j]? = some xs[j] := List.getElem?_eq_getElem (by omega)
                  have hj2 : ys[j]? = some ys[j] := List.getElem?_eq_getElem (by omega)
                  obtain ⟨d', hd, hdd⟩ := Paired.get' hp hj1
                  obtain ⟨e', he, hee⟩ := Paired.get' hp' hj2
                  obtain ⟨u', hu', ru'⟩ := ri.get hj1
                  obtain ⟨v', hv', rv'⟩ := ri'.get hj2
                  have eu : its.toArray[j] = u' := by
                    have : its[j]? = some its[j] := List.getElem?_eq_getElem h1'
                    rw [this] at hu'; simpa using Option.some.inj hu'
                  have ev : its'.toArray[j] = v' := by
                    have : its'[j]? = some its'[j] := List.getElem?_eq_getElem h2'
                    rw [this] at hv'; simpa using Option.some.inj hv'
                  rw [eu, ev, hd, he]
                  exact ih A.in1 _ _ d' e' u' v' hdd hee (hl hlen j d' e' hd he) ru' rv' (by show A.units + 1 + n < cLine; omega)
              · have hne : ¬ ds = es := fun z => hlen (congrArg List.length z)
                have e1 : eqD (.lst ds) (.lst es) = false := by simp [eqD, hne]
                rw [e1]
                exact SeqAt.RcAt.lists_lengths pl.isList pl'.isList (by simp only [List.size_toArray, bne_iff_ne, ne_eq]; omega) (by omega)
          | _ => exact False.elim h2
        | _ => exact False.elim hl
      | tup ds =>
        obtain ⟨xs, hs, hp⟩ : ∃ xs, SqT X.K H a xs ∧ Paired (Den X.K H n) xs ds := h1
        cases e with
        | tup es =>
          cases y with
          | ref b =>
            cases r2
            obtain ⟨ys, hs', hp'⟩ : ∃ xs, SqT X.K H b xs ∧ Paired (Den X.K H n) xs es := h2
            by_cases hab : a = b
            · subst hab
              rw [I.tuple_inj hs' hs] at hp'
              rw [paired_inj (den_inj I n) hp hp', eqD_same]
              exact SeqAt.EqAt.same _
            · refine SeqAt.EqAt.of_refs hab ?_
              obtain ⟨its, ri, pl, _⟩ := I.tuple hs
              obtain ⟨its', ri', pl', _⟩ := I.tuple hs'
              have l1 := ri.length
              have l2 := ri'.length
              have l3 : xs.length = ds.length := Paired.length hp
              have l4 : ys.length = es.length := Paired.length hp'
              rw [← all_placesT]
              have := SeqAt.RcAt.tuples (e := fun j => eqD (ds[j]?.getD (.int 0)) (es[j]?.getD (.int 0))) (show s.heap.IsTuple a its.toArray from pl) (show s.heap.IsTuple b its'.toArray from pl') (by omega : A.units < cLine) (fun j h1' h2' => ?_)
              · rw [List.size_toArray, List.size_toArray, ← l1, l3, ← l2, l4] at this
                exact this
              · rw [List.size_toArray] at h1' h2'
                have hj1 : xs[j]? = some xs[j] := List.getElem?_eq_getElem (by omega)
                have hj2 : ys[j]? = some ys[j] := List.getElem?_eq_getElem (by omega)
                obtain ⟨d', hd, hdd⟩ := Paired.get' hp hj1
                obtain ⟨e', he, hee⟩ := Paired.get' hp' hj2
                obtain ⟨u', hu', ru'⟩ := ri.get hj1
                obtain ⟨v', hv', rv'⟩ := ri'.get hj2
                have eu : its.toArray[j] = u' := by
                  have : its[j]? = some its[j] := List.getElem?_eq_getElem h1'
                  rw [this] at hu'; simpa using Option.some.inj hu'
                have ev : its'.toArray[j] = v' := by
                  have : its'[j]? = some its'[j] := List.getElem?_eq_getElem h2'
                  rw [this] at hv'; simpa using Option.some.inj hv'
                rw [eu, ev, hd, he]
                exact ih A.in1 _ _ d' e' u' v' hdd hee (hl j d' e' hd he) ru' rv' (by show A.units + 1 + n < cLine; omega)
          | _ => exact False.elim h2
        | _ => exact False.elim hl
      | _ => exact False.elim h1
    | int i => exact leaf (n + 1) A (.int i) y d e u v (fun _ z => nomatch z) h1 h2 hl r1 r2
    | bl i => exact leaf (n + 1) A (.bl i) y d e u v (fun _ z => nomatch z) h1 h2 hl r1 r2
    | str i => exact leaf (n + 1) A (.str i) y d e u v (fun _ z => nomatch z) h1 h2 hl r1 r2
    | non => exact leaf (n + 1) A .non y d e u v (fun _ z => nomatch z) h1 h2 hl r1 r2
    | _ => cases d <;> exact False.elim h1
end
section
variable {X : Cx} {pins : List (Addr × Obj)} {σ : St} {H : Hp} {s : Shared}
theorem rc_lists (I : Inv X pins σ H s) {n : Nat} {A : Around} {a b : Addr} {ds es : List DV} (h1 : Den X.K H (n + 1) (.ref a) (.lst ds)) (h2 : Den X.K H (n + 1) (.ref b) (.lst es)) (hl : Like (n + 1) (.lst ds) (.lst es)) (hu : A.units + n + 1 < cLine) :
    SeqAt.RcAt A s (.ref a) (.ref b) (eqD (.lst ds) (.lst es)) ∧ SeqAt.RcNeAt A s (.ref a) (.ref b) (!eqD (.lst ds) (.lst es)) := by
  obtain ⟨xs, hs, hp⟩ : ∃ xs, SqL X.K H a xs ∧ Paired (Den X.K H n) xs ds := h1
  obtain ⟨ys, hs', hp'⟩ : ∃ xs, SqL X.K H b xs ∧ Paired (Den X.K H n) xs es := h2
  obtain ⟨its, ri, pl, _⟩ := I.list hs
  obtain ⟨its', ri', pl', _⟩ := I.list hs'
  have l1 := ri.length
  have l2 := ri'.length
  have l3 : xs.length = ds.length := Paired.length hp
  have l4 : ys.length = es.length := Paired.length hp'
  have go : ∀ j (h1' : j < its.toArray.size) (h2' : j < its'.toArray.size), ds.length = es.length → SeqAt.EqAt A.in1 s its.toArray[j] its'.toArray[j] (eqD (ds[j]?.getD (.int 0)) (es[j]?.getD (.int 0))) := fun j h1' h2' hlen => by
    rw [List.size_toArray] at h1' h2'
    have hj1 : xs[j]? = some xs[j] := List.getElem?_eq_getElem (by omega)
    have hj2 : ys[j]? = some ys[j] := List.getElem?_eq_getElem (by omega)
    obtain ⟨d', hd, hdd⟩ := Paired.get' hp hj1
    obtain ⟨e', he, hee⟩ := Paired.get' hp' hj2
    obtain ⟨u', hu', ru'⟩ := ri.get hj1
    obtain ⟨v', hv', rv'⟩ := ri'.get hj2
    have eu : its.toArray[j] = u' := by
      have : its[j]? = some its[j] := List.getElem?_eq_getElem h1'
      rw [this] at hu'; simpa using Option.some.inj hu'
    have ev : its'.toArray[j] = v' := by
      have : its'[j]? = some its'[j] := List.getElem?_eq_getElem h2'
      rw [this] at hv'; simpa using Option.some.inj hv'
    rw [eu, ev, hd, he]
    exact eqAt_D I n A.in1 _ _ d' e' u' v' hdd hee (hl hlen j d' e' hd he) ru' rv' (by show A.units + 1 + n < cLine; omega)
  by_cases hlen : ds.length = es.length
  · rw [← all_places hlen]
    have hsz : its.toArray.size = its'.toArray.size := by rw [List.size_toArray, List.size_toArray]; omega
    have r1 := SeqAt.RcAt.lists (e := fun j => eqD (ds[j]?.getD (.int 0)) (es[j]?.getD (.int 0))) pl.isList pl'.isList hsz (by omega : A.units < cLine) (fun j h1' h2' => go j h1' h2' hlen)
    have r2 := SeqAt.RcNeAt.lists (e := fun j => eqD (ds[j]?.getD (.int 0)) (es[j]?.getD (.int 0))) pl.isList pl'.isList hsz (by omega : A.units < cLine) (fun j h1' h2' => go j h1' h2' hlen)
    rw [List.size_toArray, ← l1, l3] at r1 r2
    exact ⟨r1, r2⟩
  · have hne : ¬ ds = es := fun z => hlen (congrArg List.length z)
    have e1 : eqD (.lst ds) (.lst es) = false := by simp [eqD, hne]
    rw [e1]
    exact ⟨SeqAt.RcAt.lists_lengths pl.isList pl'.isList (by simp only [List.size_toArray, bne_iff_ne, ne_eq]; omega) (by omega), SeqAt.RcNeAt.lists_lengths pl.isList pl'.isList (by simp only [List.size_toArray, bne_iff_ne, ne_eq]; omega) (by omega)⟩
theorem rc_tuples (I : Inv X pins σ H s) {n : Nat} {A : Around} {a b : Addr} {ds es : List DV} (h1 : Den X.K H (n + 1) (.ref a) (.tup ds)) (h2 : Den X.K H (n + 1) (.ref b) (.tup es)) (hl : Like (n + 1) (.tup ds) (.tup es)) (hu : A.units + n + 1 < cLine) :
    SeqAt.RcAt A s (.ref a) (.ref b) (eqD (.tup ds) (.tup es)) ∧ SeqAt.RcNeAt A s (.ref a) (.ref b) (!eqD (.tup ds) (.tup es)) := by
  obtain ⟨xs, hs, hp⟩ : ∃ xs, SqT X.K H a xs ∧ Paired (Den X.K H n) xs ds := h1
  obtain ⟨ys, hs', hp'⟩ : ∃ xs, SqT X.K H b xs ∧ Paired (Den X.K H n) xs es := h2
  obtain ⟨its, ri, pl, _⟩ := I.tuple hs
  obtain ⟨its', ri', pl', _⟩ := I.tuple hs'
  have l1 := ri.length
  have l2 := ri'.length
  have l3 : xs.length = ds.length := Paired.length hp
  have l4 : ys.length = es.length := Paired.length hp'
  have go : ∀ j (h1' : j < its.toArray.size) (h2' : j < its'.toArray.size), SeqAt.EqAt A.in1 s its.toArray[j] its'.toArray[j] (eqD (ds[j]?.getD (.int 0)) (es[j]?.getD (.int 0))) := fun j h1' h2' => by
    rw [List.size_toArray] at h1' h2'
    have hj1 : xs[j]? = some xs[j] := List.getElem?_eq_getElem (by omega)
    have hj2 : ys[j]? = some ys[j] := List.getElem?_eq_getElem (by omega)
    obtain ⟨d', hd, hdd⟩ := Paired.get' hp hj1
    obtain ⟨e', he, hee⟩ := Paired.get' hp' hj2
    obtain ⟨u', hu', ru'⟩ := ri.get hj1
    obtain ⟨v', hv', rv'⟩ := ri'.get hj2
    have eu : its.toArray[j] = u' := by
      have : its[j]? = some its[j] := List.getElem?_eq_getElem h1'
      rw [this] at hu'; simpa using Option.some.inj hu'
    have ev : its'.toArray[j] = v' := by
      have : its'[j]? = some its'[j] := List.getElem?_eq_getElem h2'
      rw [this] at hv'; simpa using Option.some.inj hv'
    rw [eu, ev, hd, he]
    exact eqAt_D I n A.in1 _ _ d' e' u' v' hdd hee (hl j d' e' hd he) ru' rv' (by show A.units + 1 + n < cLine; omega)
  rw [← all_placesT]
  have r1 := SeqAt.RcAt.tuples (e := fun j => eqD (ds[j]?.getD (.int 0)) (es[j]?.getD (.int 0))) (show s.heap.IsTuple a its.toArray from pl) (show s.heap.IsTuple b its'.toArray from pl') (by omega : A.units < cLine) go
  have r2 := SeqAt.RcNeAt.tuples (e := fun j => eqD (ds[j]?.getD (.int 0)) (es[j]?.getD (.int 0))) (show s.heap.IsTuple a its.toArray from pl) (show s.heap.IsTuple b its'.toArray from pl') (by omega : A.units < cLine) go
  rw [List.size_toArray, List.size_toArray, ← l1, l3, ← l2, l4] at r1 r2
  exact ⟨r1, r2⟩
end
/-- == of two lists, two tuples by what they hold -/
def rEqD (K : PySem.W.Frag) (n : Nat) : R2 := fun x y H Q => ∃ a b d e, x = .ref a ∧ y = .ref b ∧ Den K H (n + 1) (.ref a) d ∧ Den K H (n + 1) (.ref b) e ∧ Like (n + 1) d e ∧ Q (.bl (eqD d e)) H
def rNeD (K : PySem.W.Frag) (n : Nat) : R2 := fun x y H Q => ∃ a b d e, x = .ref a ∧ y = .ref b ∧ Den K H (n + 1) (.ref a) d ∧ Den K H (n + 1) (.ref b) e ∧ Like (n + 1) d e ∧ Q (.bl (!eqD d e)) H
theorem op_eqD {X : Cx} {k : Nat} (n : Nat) (hr : Room k X.A) (hn : n ≤ 9 := by decide) : OpR X (compareOp .Eq) (rEqD X.K n) := by
  intro pins s σ H x y v u Q I rx ry h
  obtain ⟨a, b, d, e, rfl, rfl, hd, he, hl, q⟩ := h
  cases rx; cases ry
  have hu := hr.units
  cases d with
  | lst ds =>
    cases e with
    | lst es => exact (rc_lists I (A := X.A) hd he hl (by omega)).1 _ _ _ _ ⟨.bl _, H, I, rfl, q⟩
    | _ => exact False.elim hl
  | tup ds =>
    cases e with
    | tup es => exact (rc_tuples I (A := X.A) hd he hl (by omega)).1 _ _ _ _ ⟨.bl _, H, I, rfl, q⟩
    | _ => exact False.elim hl
  | _ => exact False.elim hd
theorem op_neD {X : Cx} {k : Nat} (n : Nat) (hr : Room k X.A) (hn : n ≤ 9 := by decide) : OpR X (compareOp .NotEq) (rNeD X.K n) := by
  intro pins s σ H x y v u Q I rx ry h
  obtain ⟨a, b, d, e, rfl, rfl, hd, he, hl, q⟩ := h
  cases rx; cases ry
  have hu := hr.units
  cases d with
  | lst ds =>
    cases e with
    | lst es => exact (rc_lists I (A := X.A) hd he hl (by omega)).2 _ _ _ _ ⟨.bl _, H, I, rfl, q⟩
    | _ => exact False.elim hl
  | tup ds =>
    cases e with
    | tup es => exact (rc_tuples I (A := X.A) hd he hl (by omega)).2 _ _ _ _ ⟨.bl _, H, I, rfl, q⟩
    | _ => exact False.elim hl
  | _ => exact False.elim hd
theorem paired_ints {F : V → DV → Prop} (hF : ∀ i : Int, F (.int i) (.int i)) : ∀ ns : List Int, Paired F (ns.map V.int) (ns.map DV.int)
  | [] => .nil
  | i :: r => .cons (hF i) (paired_ints hF r)
theorem den_int {K : PySem.W.Frag} {H : Hp} {n : Nat} {i : Int} : Den K H n (.int i) (.int i) := by cases n <;> rfl
theorem den_ints {K : PySem.W.Frag} {H : Hp} {n : Nat} {a : Addr} {ns : List Int} (h : SqL K H a (ns.map V.int)) : Den K H (n + 1) (.ref a) (.lst (ns.map DV.int)) := ⟨_, h, paired_ints (fun _ => den_int) ns⟩
end L2

set_option Elab.async false
set_option linter.all false
set_option maxRecDepth 100000
set_option maxHeartbeats 4000000
namespace L2
open PySem PySem.Spec PyProof.Rows
section
variable {X : Cx}
end
end L2

set_option Elab.async false
set_option linter.all false
set_option maxRecDepth 100000
set_option maxHeartbeats 4000000
namespace L2
open PySem PySem.Spec PyProof.Rows
section
variable {prog : Program} {w : World} {A : Around} {E : Value → Shared → Prop} {s : Shared}
end
set_option maxHeartbeats 4000000 in
theorem enum_newL (l : Addr) (vs : Array Value) (t : Tok) :
    Meets (Builtin.«enumerate.__new__» ⟨[.type "enumerate", .ref l], [("start", .int 1 t)]⟩) (fun _ R s => s.heap.IsList l vs ∧
      R (.ok (.ret (.ref (s.heap.push { cls := .type "list_iterator", data := .fields #[.ref l, .int 0 0] }).objs.size)))
        { s with heap := (s.heap.push { cls := .type "list_iterator", data := .fields #[.ref l, .int 0 0] }).push { cls := .type "enumerate", data := .fields #[.none, .bool false, .ref s.heap.objs.size, rawInt 1, .none, .none] } }) :=
  .of_wp fun prog w A R s h => by
    obtain ⟨hp, g, d, tk, os⟩ := s; obtain ⟨hL, h⟩ := h
    obtain ⟨⟨c, dc, dt, sl⟩, hl, hc, n, hd⟩ := id hL
    replace hc : c = .type "list" := hc
    replace hd : dt = .seq vs n := hd
    subst hc hd
    have hsub := sub_enumerate
    wp_walk using PySem.AutoSeq1.wpAny_loadPart' hl
    refine wpAny_stack_any fun st => wpAny_pure ?_
    dsimp only
    split
    · split
      all_goals
        refine wpAny_bind (wpAny_of_eq (a := (Value.ref l, some (Value.int 1 t))) ?e ?_)
        case e => rfl
        show wpAny _ _ (Builtin.SmallTypes.indexObject _ (Value.int 1 t) >>= _) _ _ _
        wp_walk using wpAny_pyIter_list hL
        exact ⟨_, rfl, h⟩
    · rw [if_neg Bool.false_ne_true]
      refine wpAny_bind (wpAny_of_eq (a := (Value.ref l, some (Value.int 1 t))) ?e ?_)
      case e => rfl
      show wpAny _ _ (Builtin.SmallTypes.indexObject _ (Value.int 1 t) >>= _) _ _ _
      wp_walk using wpAny_pyIter_list hL
      exact ⟨_, rfl, h⟩
section
variable {prog : Program} {w : World} {A : Around} {E : Value → Shared → Prop} {s : Shared}
/-- T(a, .., k=v) of a built-in type that has a __new__ of its own and object's __init__ -/
theorem callTyK {T newId : String} {Bn : Builtin} {a : Value} {args : List Value} {kw : List (Str × Value)} {S : PySem.Spec} {R : Value → Shared → Prop} (ft : TypeCalled T newId "object.__init__") (hne : (some newId != some "object.__new__") = true)
    (hct : checkTypeCall T ⟨a :: args, kw⟩ = pure ()) (hcn : checkBuiltinCall newId ⟨.type T :: a :: args, kw⟩ = pure ()) (hok : ∀ obj, argsOk "object.__init__" ⟨obj :: a :: args, kw⟩) (eN : entryFor table newId = some Bn) (gN : Meets (Bn ⟨.type T :: a :: args, kw⟩) S)
    (h : S A.in1 (wants (fun obj s1 => s1.TypeIs obj T ∧ R obj s1) E) s) : wpAny (model prog w) A (call (.type T) (a :: args) kw) R E s := by
  obtain ⟨c, tl, hmro⟩ := ft.mro
  have hmade := ft.made
  have hsub := ft.sub
  refine wpAny_call (codeAny_of_tree ?_)
  show wpAny (model prog w) _ (callAny (.type T) _) _ _ _
  refine wpAny_pure ⟨Code.quiet_builtin _ (by decide +kernel), codeAny_builtin F.entry_type_call ?_⟩
  rw [Around.under_plain (weight_type_call_type T (a :: args) kw) (units_type_call_type T (a :: args) kw)]
  have h1 := ft.notType
  have h2 := ft.canCreate
  repeat (any_goals (first | assumption | wp_step))
  refine codeAny_mono (codeAny_call_builtin ft.plain eN (wpAny_of_eq hcn (gN prog w A.in1 _ s h))) fun r s1 hr => ?_
  cases r with
  | error e => exact hr
  | ok fl =>
    cases fl with
    | ret obj =>
      obtain ⟨hT, hq⟩ := hr
      have hli := ft.init.lookup
      have hbi := ft.init.bind obj
      repeat (any_goals (first | assumption | wp_step))
      have gi : Meets (Builtin.«object.__init__» ⟨obj :: a :: args, kw⟩) (fun _ R s => s.TypeIs obj T ∧ R (.ok (.ret .none)) s) := by
        refine Meets.of_wp fun prog w A R s hs => ?_
        obtain ⟨hT, hq⟩ := hs
        have hm := ft.made
        have hl := ft.init.lookup
        repeat (any_goals (first | assumption | wp_step))
        exact ⟨_, rfl, hq⟩
      refine codeAny_mono (codeAny_call_builtin ft.init.plain F.entry_object_init (ft.init.check _ _ _ _ _ _ _ _ hT (hok obj) (gi prog w A.in1 (wants (fun r s2 => r = .none ∧ R obj s2) E) s1 ⟨hT, rfl, hq⟩))) fun r2 s2 hr2 => ?_
      cases r2 with
      | error e => exact hr2
      | ok fl2 =>
        cases fl2 with
        | ret r =>
          obtain ⟨rfl, hq⟩ := hr2
          repeat (any_goals (first | assumption | wp_step))
        | _ => exact hr2.elim
    | _ => exact hr.elim
theorem ck_enum (a v : Value) : checkTypeCall "enumerate" ⟨[a], [("start", v)]⟩ = pure () := by kernel_rfl
theorem cn_enum (a v : Value) : checkBuiltinCall "enumerate.__new__" ⟨[.type "enumerate", a], [("start", v)]⟩ = pure () := by kernel_rfl
theorem ci_enum (o a v : Value) : argsOk "object.__init__" ⟨[o, a], [("start", v)]⟩ := by unfold argsOk; kernel_rfl
theorem call_enumL {l : Addr} {vs : Array Value} {t : Tok} {R : Value → Shared → Prop} (hL : s.heap.IsList l vs)
    (k : ∀ g, IsEnum g (s.heap.objs.size + 1) s.heap.objs.size 1 .none → g.IsListIter s.heap.objs.size l 0 → (∀ b o, s.heap.get? b = some o → g.get? b = some o) → R (.ref (s.heap.objs.size + 1)) { s with heap := g }) :
    wpAny (model prog w) A (call (.type "enumerate") [.ref l] [("start", .int 1 t)]) R E s := by
  refine callTyK F.called_enumerate (by decide) (ck_enum _ _) (cn_enum _ _) (fun o => ci_enum o _ _) F.entry_enumerate_new (enum_newL l vs t) ⟨hL, ?_⟩
  have hz : (s.heap.push { cls := .type "list_iterator", data := .fields #[.ref l, .int 0 0] }).objs.size = s.heap.objs.size + 1 := Heap.size_push ..
  have he := Heap.get?_push_size (s.heap.push { cls := .type "list_iterator", data := .fields #[.ref l, .int 0 0] }) (o := { cls := .type "enumerate", data := .fields #[.none, .bool false, .ref s.heap.objs.size, rawInt 1, .none, .none] }) rfl
  show _ ∧ _
  rw [hz] at he ⊢
  exact ⟨⟨_, he, rfl⟩, k _ he ⟨_, Heap.get?_push_of_some _ (Heap.get?_push_size _ rfl), rfl, rfl⟩ fun b o q => Heap.get?_push_of_some _ (Heap.get?_push_of_some _ q)⟩
end
end L2

set_option Elab.async false
set_option linter.all false
set_option maxRecDepth 100000
set_option maxHeartbeats 400000
namespace L2
open PySem PySem.Spec PyProof.Rows
def Iten (S : Hp → Addr → List V → Prop) (a : Addr) (k : Nat) : It :=
  ⟨fun i H => ∃ xs x, S H a xs ∧ xs[i]? = some x, fun i H x H' => ∃ t y, x = .ref t ∧ H t = none ∧ H' = upd H t (.tup [.int (((k + i : Nat)) : Int), y]) ∧ ∀ xs, S H a xs → xs[i]? = some y, fun i H => ∃ xs, S H a xs ∧ xs.length = i⟩
section
variable {X : Cx} {pins : List (Addr × Obj)} {σ : St} {H : Hp} {s : Shared}
/-- two records turn, a pair is laid -/
theorem Inv.pair {e it t : Addr} {g : Heap} {tk : Nat} {o : HO} (I : Inv X pins σ H s) (fe : FpOk X pins H e) (fi : FpOk X pins H it) (ht : s.heap.objs.size ≤ t)
    (k : ∀ b o, b ≠ e → b ≠ it → s.heap.get? b = some o → g.get? b = some o) (new : ObjOk X.prog X.w (upd H t o) g t o) : Inv X pins σ (upd H t o) { s with heap := g, toks := tk } := by
  have hn : H t = none := I.hok.fresh ht
  obtain ⟨e0, e1, e2, e3, e4, e5⟩ := fe
  obtain ⟨i0, i1, i2, i3, i4, i5⟩ := fi
  have nt : ∀ b o, s.heap.get? b = some o → b ≠ t := fun b o q z => by
    subst z
    exact absurd (Nat.lt_of_lt_of_le (Heap.lt_size q) ht) (Nat.lt_irrefl _)
  have nch : ∀ b, b ∉ [e, it] → b ≠ e ∧ b ≠ it := fun b hb => ⟨fun z => hb (by simp [z]), fun z => hb (by simp [z])⟩
  have ne : ∀ b u, H b = some u → b ≠ e ∧ b ≠ it := fun b u q => ⟨ne_of_none q e0, ne_of_none q i0⟩
  refine I.step (g' := s.gens) (d' := s.drawn) (ch := [e, it]) (fun b hb => ?_) (fun b o _ _ hc q _ => k b o (nch b hc).1 (nch b hc).2 q) (fun b o _ _ hc q _ => ⟨o.slots, k b o (nch b hc).1 (nch b hc).2 q⟩) (fun b o _ q n => by rw [upd_ne (nt b o q)]; exact n)
    (fun b o hc q => ⟨o, k b o (nch b hc).1 (nch b hc).2 q⟩) (fun b xs q => by rw [upd_ne (ne_of_none q hn)]; exact q) (fun b o u q => by rw [upd_ne (ne_of_none q hn)]; exact q) (fun b ps q => ⟨#[], by rw [upd_ne (ne_of_none q hn), q]; simp⟩) (fun m hm => ?_) (fun b u q => ?_) I.bare
  · rcases List.mem_cons.mp hb with z | z
    · subst z; exact ⟨e3, e1, e4, e5⟩
    · have z' : b = it := by simpa using z
      subst z'; exact ⟨i3, i1, i4, i5⟩
  · obtain ⟨ol, es, ep, ho, r⟩ := hm
    exact ⟨ol, es, ep, k _ ol (Ne.symm e1) (Ne.symm i1) ho, r⟩
  · by_cases hb : b = t
    · subst hb; rw [upd_same] at q; cases q; exact new
    · rw [upd_ne hb] at q
      refine (I.hok b u q).stay (fun c v hc z => k c v ?_ ?_ z) (fun c z => by rw [upd_ne (ne_of_none z hn)]; exact z) fun c xs z => by rw [upd_ne (ne_of_none z hn)]; exact z
      · rcases hc with z' | z'
        · rw [z']; exact (ne b u q).1
        · exact (ne c _ z').1
      · rcases hc with z' | z'
        · rw [z']; exact (ne b u q).2
        · exact (ne c _ z').2
end
/-- what draws from the sequence at a by the iterator at it -/
structure SrcOk (P : Program) (w : World) (K : PySem.W.Frag) (S : Hp → Addr → List V → Prop) (a it : Addr) (sq : Heap → Array Value → Prop) (ti : Nat → Heap → Prop) : Prop where
  obj : ∀ i h, ti i h → ∃ o, h.get? it = some o ∧ ∀ v, o.data ≠ .cell v
  keep : ∀ i h h', ti i h → (∀ o, h.get? it = some o → h'.get? it = some o) → ti i h'
  sk : ∀ h h' vs, sq h vs → (∀ o, h.get? a = some o → h'.get? a = some o) → sq h' vs
  ne : ∀ h vs i, sq h vs → ti i h → a ≠ it
  nee : ∀ h vs e j old, sq h vs → IsEnum h e it j old → a ≠ e
  abs : ∀ (X : Cx) (pins : List (Addr × Obj)) (σ : St) (H : Hp) (s : Shared) (xs : List V), X.K = K → Inv X pins σ H s → S H a xs → ∃ its : List Value, Vals xs its ∧ sq s.heap its.toArray
  one : ∀ (X : Cx) (pins : List (Addr × Obj)) (σ : St) (H : Hp) (s : Shared) (xs ys : List V), X.K = K → Inv X pins σ H s → S H a xs → S H a ys → xs = ys
  item : ∀ (A : Around) (i : Nat) (s : Shared) (vs : Array Value) (u : Value) (Q : Value → Shared → Prop) (E : Value → Shared → Prop), ti i s.heap → sq s.heap vs → vs[i]? = some u →
    (∀ g, ti (i + 1) g → Heap.SameBut it s.heap g → Q u { s with heap := g }) → wpAny (model P w) A (Builtin.SmallTypes.nextOf (.ref it)) Q E s
  done : ∀ (A : Around) (i : Nat) (s : Shared) (vs : Array Value) (Q : Value → Shared → Prop) (E : Value → Shared → Prop), A.handled = none → ti i s.heap → sq s.heap vs → vs[i]? = none →
    (∀ g e, Heap.ExtBut it s.heap g → (∃ o, g.get? e = some o ∧ o.cls = .type "StopIteration") → E (.ref e) { s with heap := g }) → wpAny (model P w) A (Builtin.SmallTypes.nextOf (.ref it)) Q E s
theorem src_list {P : Program} {w : World} {K : PySem.W.Frag} (a it : Addr) : SrcOk P w K (SqL K) a it (fun h vs => h.IsList a vs) (fun i h => h.IsListIter it a i) where
  obj := fun i h st => by
    obtain ⟨o, e, c, d⟩ := st
    exact ⟨o, e, fun v z => by rw [d] at z; cases z⟩
  keep := fun i h h' st k => st.at k
  sk := fun h h' vs q k => q.at k
  ne := fun h vs i q st z => by
    obtain ⟨o, e, c, _⟩ := q
    obtain ⟨o', e', c', _⟩ := st
    rw [z, e'] at e
    cases e
    rw [c'] at c
    exact absurd (Value.type.inj c) (by decide)
  nee := fun h vs e j old q en z => by
    obtain ⟨o, q, c, _⟩ := q
    subst z
    rw [show h.get? a = _ from en] at q
    cases q
    exact absurd (Value.type.inj c) (by decide)
  abs := fun X pins σ H s xs hK I hq => by
    subst hK
    obtain ⟨its, rv, p, hz⟩ := I.list hq
    exact ⟨its, rv, p.isList⟩
  one := fun X pins σ H s xs ys hK I h1 h2 => by subst hK; exact I.list_inj h1 h2
  item := fun A i s vs u Q E st q hx k => wpAny_nextOf_list_item st q hx k
  done := fun A i s vs Q E hh st q hx k => wpAny_nextOf_list_end hh st q hx k
theorem SrcOk.draws {P : Program} {w : World} {K : PySem.W.Frag} {S : Hp → Addr → List V → Prop} {a it : Addr} {sq : Heap → Array Value → Prop} {ti : Nat → Heap → Prop} (O : SrcOk P w K S a it sq ti) {A : Around} (hh : A.handled = none) (k : Nat) (vs : Array Value) :
    Draws P w A it [it, a] (k + vs.size) (fun j y => ∃ i, j = k + i ∧ vs[i]? = some y) (fun j h => ∃ i, j = k + i ∧ ti i h ∧ sq h vs) where
  live := fun j h q => by
    obtain ⟨i, _, st, _⟩ := q
    obtain ⟨o, e, _⟩ := O.obj i h st
    exact ⟨o, e⟩
  frame := fun j h h' q kk => by
    obtain ⟨i, e, st, sv⟩ := q
    exact ⟨i, e, O.keep i h h' st fun o z => kk it (by simp) o z, O.sk h h' vs sv fun o z => kk a (by simp) o z⟩
  item := fun j s Q E hj q kq => by
    obtain ⟨i, rfl, st, sv⟩ := q
    have hi : i < vs.size := by omega
    refine O.item A i s vs vs[i] Q E st sv (by simp [hi]) fun g st' sb => ?_
    exact kq _ g s.toks ⟨i, rfl, by simp [hi]⟩ ⟨i + 1, by omega, st', O.sk _ _ vs sv fun o z => (sb.2 a (O.ne _ vs i sv st)).trans z⟩ sb
  done := fun s Q E q kq => by
    obtain ⟨i, hi, st, sv⟩ := q
    have : i = vs.size := by omega
    subst this
    exact O.done A _ s vs Q E hh st sv (by simp) kq
theorem turn_enum {P : Program} {w : World} {K : PySem.W.Frag} {S : Hp → Addr → List V → Prop} {elts : List Expr} {x1 : Nat} {tp : Pos} (a e it : Addr) (k : Nat) (hei : e ≠ it) {sq : Heap → Array Value → Prop} {ti : Nat → Heap → Prop} (O : SrcOk P w K S a it sq ti) :
    Turn P w K (.Tuple elts x1 tp) (Iten S a k) [e, it] e (fun i h => (∃ old, IsEnum h e it (((k + i : Nat)) : Int) old) ∧ ti i h) where
  mem := by simp
  obj := fun i h st b hb => by
    obtain ⟨⟨old, he⟩, st⟩ := st
    rcases List.mem_cons.mp hb with z | z
    · subst z
      exact ⟨_, he, fun v z => by
        have z' : Data.fields _ = Data.cell v := z
        cases z'⟩
    · have z' : b = it := by simpa using z
      subst z'
      exact O.obj i h st
  keep := fun i h h' st kk => by
    obtain ⟨⟨old, he⟩, st⟩ := st
    exact ⟨⟨old, kk e (by simp) _ he⟩, O.keep i h h' st fun o q => kk it (by simp) o q⟩
  item := by
    intro X hP hw hK hc i pins s σ H E I hf st hg
    obtain ⟨⟨old, he⟩, st⟩ := st
    obtain ⟨xs, x, hq, hx⟩ := hg
    have fe := hf e (by simp)
    have fi := hf it (by simp)
    obtain ⟨its, rv, sv⟩ := O.abs X pins σ H s xs hK I hq
    obtain ⟨u, hu, ru⟩ := rv.get hx
    have hlt : i < its.toArray.size := by
      rw [List.size_toArray]
      exact (List.getElem?_eq_some_iff.mp hu).1
    have hef : e ∉ [it, a] := fun z => by
      rcases List.mem_cons.mp z with z | z
      · exact hei z
      · exact O.nee _ _ _ _ _ sv he (by simpa using z : e = a).symm
    have hel : e < s.heap.objs.size := Heap.lt_size he
    have hil : it < s.heap.objs.size := by obtain ⟨o, q, _⟩ := O.obj i _ st; exact Heap.lt_size q
    refine wpAny_pyNext_enum_itemD (O.draws (A := X.A.in1) (I.ok.hd hc) k its.toArray) he ⟨i, rfl, st, sv⟩ (by omega) hei hef fun y g tk hy ho hst hT hsz hk => ?_
    obtain ⟨i', e1, hy⟩ := hy
    have e2 : i' = i := by omega
    subst e2
    have e3 : y = u := by
      have hu' : its.toArray[i']? = some u := by simpa using hu
      rw [hu'] at hy
      exact (Option.some.inj hy).symm
    subst e3
    refine ⟨_, rfl, wpAny_letOwnedTupleGo_enum ho fun g2 he2 hs2 => ?_⟩
    have nse : s.heap.objs.size ≠ e := Nat.ne_of_gt hel
    have hT2 : g2.get? s.heap.objs.size = some { cls := .type "tuple", data := .seq #[.int ((k + i' : Nat) : Int) tk, y] } := (hs2.2 _ nse).trans hT
    have I2 : Inv X pins σ (upd H s.heap.objs.size (.tup [.int (((k + i' : Nat)) : Int), x])) { s with heap := g2, toks := tk + 1 } := by
      refine I.pair fe fi (Nat.le_refl _) (fun b o h1 h2 q => (hs2.2 b h1).trans (hk b o h1 h2 q)) ?_
      exact ⟨by show 2 ≤ sizeLine; decide, [.int ((k + i' : Nat) : Int) tk, y], .cons ⟨tk, rfl⟩ (.cons ru .nil), ⟨_, hT2, rfl, 0, rfl⟩⟩
    obtain ⟨i2, e4, st2, _⟩ := hst
    have e5 : i2 = i' + 1 := by omega
    subst e5
    refine ⟨.ref s.heap.objs.size, _, I2, rfl, ⟨_, x, rfl, I.fresh, rfl, fun ys hys => ?_⟩, ⟨⟨y, ?_⟩, O.keep _ _ _ st2 fun o q => (hs2.2 it (Ne.symm hei)).trans q⟩, fun b hb => ?_⟩
    · rw [O.one X pins σ H s ys xs hK I hys hq]
      exact hx
    · have : (((k + (i' + 1) : Nat)) : Int) = ((k + i' : Nat) : Int) + 1 := by omega
      rw [this]
      exact he2
    · rcases List.mem_cons.mp hb with z | z
      · subst z
        rw [upd_ne (Ne.symm nse)]
        exact fe.1
      · have z' : b = it := by simpa using z
        subst z'
        rw [upd_ne (Nat.ne_of_lt hil)]
        exact fi.1
  done := by
    intro X hP hw hK hc i pins s σ H E I hf st hg
    obtain ⟨⟨old, he⟩, st⟩ := st
    obtain ⟨xs, hq, hx⟩ := hg
    obtain ⟨its, rv, sv⟩ := O.abs X pins σ H s xs hK I hq
    have hl := rv.length
    obtain ⟨f0, f1, f2, f3, f4, f5⟩ := hf it (by simp)
    exact wpAny_pyNext_enum_endD (O.draws (A := X.A.in1) (I.ok.hd hc) k its.toArray) he ⟨i, by simp; omega, st, sv⟩ fun g eb => ⟨rfl, I.turned (t' := s.toks) (fun b o hb q => eb b o hb q) f0 f1 f3 f4 f5⟩
  self := fun A i s Q E st h => by
    obtain ⟨⟨old, he⟩, st⟩ := st
    exact wpAny_pyIter_enum he h
theorem for_enumW {S : Hp → Addr → List V → Prop} {a : Addr} {k : Nat} {xs : List V} {σ : St} {H : Hp} {DN : St → Hp → Prop} {B : (St → Hp → Prop) → V → St → Hp → Prop} (Pv : Nat → St → Hp → Prop) (h0 : Pv 0 σ H)
    (hl : ∀ i σ H, i ≤ xs.length → Pv i σ H → S H a xs)
    (hs : ∀ i x σ H t, xs[i]? = some x → Pv i σ H → H t = none → B (Pv (i + 1)) (.ref t) σ (upd H t (.tup [.int (((k + i : Nat)) : Int), x]))) (hd : ∀ σ H, Pv xs.length σ H → DN σ H) :
    ∃ W : Nat → Nat → St → Hp → Prop, (∃ m, W 0 m σ H) ∧ ∀ i m σ H, W i m σ H →
      ((Iten S a k).stop i H ∧ DN σ H) ∨ ((Iten S a k).go i H ∧ ∃ N : St → Hp → Prop, (∀ σ' H', N σ' H' → ∃ m', m' < m ∧ W (i + 1) m' σ' H') ∧ ∀ x H', (Iten S a k).yld i H x H' → B N x σ H') := by
  refine ⟨fun i m σ H => m = xs.length - i ∧ i ≤ xs.length ∧ Pv i σ H, ⟨xs.length, by simp, Nat.zero_le _, h0⟩, ?_⟩
  rintro i m σ H ⟨rfl, hi, p⟩
  have q := hl i σ H hi p
  by_cases hlt : i < xs.length
  · refine .inr ⟨⟨xs, xs[i], q, by simp [hlt]⟩, Pv (i + 1), fun σ' H' p' => ⟨xs.length - (i + 1), by omega, rfl, hlt, p'⟩, fun x H' y => ?_⟩
    obtain ⟨t, y, e, ht, e', hy⟩ := y
    subst e e'
    exact hs i y σ _ t (hy xs q) p ht
  · have e : i = xs.length := by omega
    subst e
    exact .inl ⟨⟨xs, q, rfl⟩, hd σ H p⟩
def iEnL (K : PySem.W.Frag) (k : Nat) (te : TE) : TI := fun σ H R => te σ H fun x H1 => ∃ a, x = .ref a ∧ (∃ xs, SqL K H1 a xs) ∧ R (Iten (SqL K) a k) H1
def iEnT (K : PySem.W.Frag) (k : Nat) (te : TE) : TI := fun σ H R => te σ H fun x H1 => ∃ a, x = .ref a ∧ (∃ xs, SqT K H1 a xs) ∧ R (Iten (SqT K) a k) H1
section
variable {X : Cx} {elts : List Expr} {x1 : Nat} {tp : Pos}
/-- an enumerate object has come, over the iterator at it -/
theorem enum_pie {S : Hp → Addr → List V → Prop} {sq : Heap → Array Value → Prop} {ti : Nat → Heap → Prop} {pins : List (Addr × Obj)} {σ : St} {H : Hp} {s : Shared} {R : It → Hp → Prop} {E : Value → Shared → Prop} {a : Addr} {k : Nat} {g : Heap} {c : Int} (I : Inv X pins σ H s)
    (O : SrcOk X.prog X.w X.K S a s.heap.objs.size sq ti) (hc : c = (k : Int)) (he : IsEnum g (s.heap.objs.size + 1) s.heap.objs.size c .none) (hi : ti 0 g) (hk : ∀ b o, s.heap.get? b = some o → g.get? b = some o) (q : R (Iten S a k) H) :
    wpAny (model X.prog X.w) X.A (pyIter (.ref (s.heap.objs.size + 1))) (PIE X pins σ (.Tuple elts x1 tp) R) E { s with heap := g } := by
  subst hc
  refine wpAny_pyIter_enum he ⟨s.heap.objs.size + 1, [s.heap.objs.size + 1, s.heap.objs.size], _, _, H, rfl, I.kept (t' := s.toks) hk, turn_enum a _ _ k (Nat.succ_ne_self _) O, ⟨⟨_, he⟩, hi⟩, fun b hb => ?_, q⟩
  rcases List.mem_cons.mp hb with z | z
  · subst z
    exact I.fpOk (Nat.le_succ _) (I.hok.fresh (Nat.le_succ _))
  · have z' : b = s.heap.objs.size := by simpa using z
    subst z'
    exact I.fpOk (Nat.le_refl _) (I.hok.fresh (Nat.le_refl _))
theorem pi_enum_list {e : Expr} {te : TE} {p pos : Pos} (hg : Gl X "enumerate") (hm : X.mg "enumerate" = none) (he : PE X e te) (hs : starEach [e] X.env = [(false, eval e X.env)] := by rfl) : PI X (.Tuple elts x1 tp) (.Call (.Name "enumerate" p) [e] [] pos) (iEnL X.K 0 te) := by
  intro pins s σ H R I h
  refine Call_ (ld_blt I hg hm boot_enumerate (PyProof.Rows.callWith_type1 ?_ hs rfl))
  rw [hs]
  refine Calls.spliced_cons (thn (he pins s σ H _ I h) fun v s1 ⟨x, H1, I1, rx, q1⟩ => Calls.spliced_nil ?_)
  obtain ⟨a, rfl, ⟨xs, hq⟩, q⟩ := q1
  cases rx
  obtain ⟨its, rv, pl, _⟩ := I1.list hq
  exact call_enumerate_list pl.isList fun g e1 e2 _ hk => enum_pie I1 (src_list a _) rfl e1 e2 hk q
/-- T(e, k=v ..) -/
theorem callWith_tyK {M : Model} {A : Around} {E : Value → Shared → Prop} {s : Shared} {env : Env} {pos : Pos} {T : String} {x : Sem Value} {rest : List (Bool × Sem Value)} {kws : List (Option Str × Sem Value)} {Q : Value → Shared → Prop} (h1 : rest.any (·.1) = false) (h2 : kws.all (·.1.isSome) = true) (h3 : kws.any (·.1.isNone) = false)
    (h : wpAny M A (spliced ((false, x) :: rest)) (fun vs s1 => wpAny M A (evalAll (kws.map (·.2))) (fun ks s2 => wpAny M A (call (.type T) vs ((kws.filterMap (·.1)).zip ks)) Q E s2) E s1) E s) : wpAny M A (callWith pos (.type T) [] ((false, x) :: rest) kws) Q E s := by
  unfold callWith
  refine wpAny_bind (wpAny_holding (wpAny_mono (evalArgs_kwB h2 (Q := fun a s1 => wpAny M A (call (.type T) ([] ++ a.pos) a.kw) Q E s1) h) (fun a s1 z => wpAny_bind (wpAny_standAt ?_)) fun _ _ z => z))
  simp only [List.any_cons, h1, h3, Bool.or_false, Bool.false_or]
  exact wpAny_bind (wpAny_pure (wpAny_bind (wpAny_mono z (fun r s2 hr => wpAny_bind (wpAny_holding (wpAny_point (wpAny_pure hr)))) fun _ _ z => z)))
theorem enum1_call {e : Expr} {te : TE} {p pos kp ip : Pos} {j : Nat} {pins : List (Addr × Obj)} {s : Shared} {σ : St} {H : Hp} {Q : VK} {R : Value → Shared → Prop} (hg : Gl X "enumerate") (hm : X.mg "enumerate" = none) (he : PE X e te) (hs : starEach [e] X.env = [(false, eval e X.env)])
    (I : Inv X pins σ H s) (h : te σ H Q) (k : ∀ x v H1 s1 t, Inv X pins σ H1 s1 → RelV x v → Q x H1 → wpAny (model X.prog X.w) X.A (call (.type "enumerate") [v] [("start", .int 1 t)]) R X.xe s1) :
    wpAny (model X.prog X.w) X.A (eval (.Call (.Name "enumerate" p) [e] [⟨some "start", .Constant (.int 1) j ip, kp⟩] pos) X.env) R X.xe s := by
  refine wpAny_Call_Name_kw (ld_blt I hg hm boot_enumerate ?_)
  rw [hs]
  refine callWith_tyK (env := X.env) (rest := []) rfl rfl rfl ?_
  refine Calls.spliced_cons (thn (he pins s σ H Q I h) fun v s1 ⟨x, H1, I1, rx, q⟩ => Calls.spliced_nil ?_)
  refine kws_cons (wpAny_Constant_int (kws_nil ?_))
  exact k x v H1 _ _ (I1.tok _) rx q
theorem pi_enum1_list {e : Expr} {te : TE} {p pos kp ip : Pos} {j : Nat} (hg : Gl X "enumerate") (hm : X.mg "enumerate" = none) (he : PE X e te) (hs : starEach [e] X.env = [(false, eval e X.env)] := by rfl) : PI X (.Tuple elts x1 tp) (.Call (.Name "enumerate" p) [e] [⟨some "start", .Constant (.int 1) j ip, kp⟩] pos) (iEnL X.K 1 te) := by
  intro pins s σ H R I h
  refine enum1_call hg hm he hs I h fun x v H1 s1 t I1 rx q1 => ?_
  obtain ⟨a, rfl, ⟨xs, hq⟩, q⟩ := q1
  cases rx
  obtain ⟨its, rv, pl, _⟩ := I1.list hq
  exact call_enumL pl.isList fun g e1 e2 hk => enum_pie I1 (src_list a _) rfl e1 e2 hk q
end
structure CalI (P : Program) (w : World) (K : PySem.W.Frag) (mg : Str → Option Value) (base : Heap) (x : Str) (C : Addr) (ps : List Str) (k : Nat) (sp : Sp) : Prop where
  ex : ∃ (f : Addr) (fd : FuncData), FnOk P w K mg base CX0 k f fd ps sp ∧ Binds K fd ps [] ∧ Mk K C f ∧ mg x = some (.ref C)
structure CalM (P : Program) (w : World) (K : PySem.W.Frag) (mg : Str → Option Value) (base : Heap) (C : Addr) (m : Str) (ps : List Str) (k : Nat) (sp : Sp) : Prop where
  ex : ∃ (f : Addr) (fd : FuncData), FnOk P w K mg base CX0 k f fd ps sp ∧ Binds K fd ps [] ∧ Meth K C m f ∧ Cls K C
/-- a number of the module -/
theorem pe_globI {X : Cx} {x : Str} {n : Int} {pos : Pos} (hg : Gl X x) (hm : ∃ tk, X.mg x = some (.int n tk)) (hd : (x == ("__debug__" : Str)) = false := by decide) : PE X (.Name x pos) (tC (.int n)) := by
  obtain ⟨tk, hm⟩ := hm
  exact pe_glob hg hm ⟨tk, rfl⟩ hd
def rInsert : V → List V → Hp → VK → Prop := fun x vs H Q => ∃ l xs i y, x = .ref l ∧ vs = [.int i, y] ∧ H l = some (.lst xs) ∧ 0 ≤ i ∧ i ≤ xs.length ∧ xs.length < sizeLine ∧ Q .non (upd H l (.lst (xs.take i.toNat ++ y :: xs.drop i.toNat)))
end L2
namespace L2
open PySem PySem.Spec PyProof.Rows
section
variable {X : Cx} {K : PySem.W.Frag}
def rLen (K : PySem.W.Frag) : List V → Hp → VK → Prop := fun xs H Q => ∃ p ys, xs = [.ref p] ∧ (SqL K H p ys ∨ SqT K H p ys) ∧ Q (.int ys.length) H
theorem call_lenK (hK : X.K = K) : CallR X (.builtin "len") (rLen K) := by subst hK; exact call_len_seq
def rListOf (K : PySem.W.Frag) : List V → Hp → VK → Prop := fun xs H Q => ∃ p ys, xs = [.ref p] ∧ (SqL K H p ys ∨ SqT K H p ys) ∧ ∀ l, H l = none → Q (.ref l) (upd H l (.lst ys))
theorem call_listK (hK : X.K = K) : CallR X (.type "list") (rListOf K) := by subst hK; exact call_list_of
def rTupL (K : PySem.W.Frag) : List V → Hp → VK → Prop := fun xs H Q => ∃ p ys, xs = [.ref p] ∧ SqL K H p ys ∧ ∀ l, H l = none → Q (.ref l) (upd H l (.tup ys))
/-- tuple(x) of a list -/
theorem call_tuple_L (hK : X.K = K) : CallR X (.type "tuple") (rTupL K) := by
  subst hK
  intro pins s σ H xs us Q I r h
  obtain ⟨p, ys, e, hs, q⟩ := h
  exact call_tuple_of pins s σ H xs us Q I r ⟨p, ys, e, .inl ⟨hs, q⟩⟩
end
theorem SqL.off {K : PySem.W.Frag} {H : Hp} {a x : Addr} {xs : List V} {o : HO} (h : SqL K H a xs) (h1 : ∀ ys, H x ≠ some (.lst ys)) (h2 : ∀ v u, H x ≠ some (.frz v u)) : SqL K (upd H x o) a xs := by
  rcases h with (h | ⟨v, h⟩) | h
  · have ne : a ≠ x := fun z => h1 _ (z ▸ h)
    exact .inl (.inl (by rw [upd_ne ne]; exact h))
  · have ne : a ≠ x := fun z => h2 _ _ (z ▸ h)
    exact .inl (.inr ⟨v, by rw [upd_ne ne]; exact h⟩)
  · exact .inr h
end L2
namespace L2
/-- one statement of a block; the rest waits under a name -/
theorem seq_of {t u : TS} {D : Ends} {σ : St} {H : Hp} (h : ∀ U : TS, U = u → t { D with nx := U D } σ H) : tSeq t u D σ H := h u rfl
end L2

set_option Elab.async false
set_option linter.all false
set_option maxRecDepth 100000
set_option maxHeartbeats 400000
namespace L2
open PySem PySem.Spec PyProof.Rows
/-- what of the heap ahead (s) and of the tracked (H') the part B that stays has -/
structure Flies (P : Program) (w : World) (l : List Env) (H : Hp) (s : Shared) (H' : Hp) (B : Heap) (a : Addr) (cls a0 : Value) (s' : Shared) : Prop where
  os : s'.os = s.os
  bare : AllBare s'.gens
  un : Un (frs l) [] H H' s.heap s'.heap
  hok : HOk P w H' s'.heap
  fly : Heap.FlyingW B l a cls a0 s'.heap
  cov : ∀ b o, s.heap.get? b = some o → b ∉ frs l → ∃ o', B.get? b = some o'
  trk : ∀ b u, H' b = some u → ∃ o', B.get? b = some o'
  own : ∀ b u, H' b = some u → b ∉ frs l
def CX1 (P : Program) (w : World) : CXT := fun outer H s E e s' => ∃ (a : Addr) (cls : Value) (H' : Hp) (B : Heap) (a0 : Value), e = .ref a ∧ Flies P w outer H s H' B a cls a0 s' ∧ E cls none H'
theorem ObjOk.there {P : Program} {w : World} {H : Hp} {h : Heap} {a : Addr} {o : HO} (x : ObjOk P w H h a o) : ∃ ob, h.get? a = some ob := by
  cases o with
  | lst xs => obtain ⟨_, _, _, _, e⟩ := x; exact ⟨_, e⟩
  | tup xs => obtain ⟨_, _, _, ob, e, _⟩ := x; exact ⟨_, e⟩
  | dK kvs => obtain ⟨_, _, _, _, o, _, _, e, _⟩ := x; exact ⟨_, e⟩
  | dT kvs => obtain ⟨_, _, _, _, o, _, _, e, _⟩ := x; exact ⟨_, e⟩
  | set S n => obtain ⟨o, _, _, _, e, _⟩ := x; exact ⟨_, e⟩
  | ins C dx fs => obtain ⟨_, _, _, e, _⟩ := x; exact ⟨_, e⟩
  | own y => exact x
  | xd fs => obtain ⟨_, ⟨o, _, _, e, _⟩, _⟩ := x; exact ⟨_, e⟩
  | rng lo hi => obtain ⟨_, _, _, e⟩ := x; exact ⟨_, e⟩
  | frz ob u => exact ⟨_, x.1⟩
  | tbl ps => exact ⟨_, x⟩
  | met f y => exact ⟨_, x⟩
  | ext φ => exact x.2.1
section
variable {P : Program} {w : World} {l : List Env} {H H' : Hp} {s s' : Shared} {B h'' : Heap} {a : Addr} {cls a0 : Value}
theorem Flies.same (F : Flies P w l H s H' B a cls a0 s') {b : Addr} {o o' : Obj} (e : B.get? b = some o') (q : s'.heap.get? b = some o) : o' = o := by
  have z := F.fly.1 b o' e
  rw [q] at z
  exact (Option.some.inj z).symm
/-- B stays, the frames keep all but slots: the same of another heap -/
theorem Flies.next (F : Flies P w l H s H' B a cls a0 s') (st : B.StaysIn h'') (us : s'.heap.UpToSlots h'') : Un (frs l) [] H H' s.heap h'' ∧ HOk P w H' h'' := by
  have keep : ∀ b o, s.heap.get? b = some o → H b = none → b ∉ frs l → b ∉ ([] : List Addr) → h''.get? b = some o := fun b o e n hb hx => by
    obtain ⟨o', eb⟩ := F.cov b o e hb
    have q := F.un.keep b o e n hb hx
    rw [F.same eb q] at eb
    exact st b o eb
  have fr : ∀ b ∈ frs l, ∀ o, s'.heap.get? b = some o → ∃ sl, h''.get? b = some { o with slots := sl } := fun b hb o e => by
    obtain ⟨_, o', e', nf⟩ := F.fly.2.2.1.mem hb
    rw [e] at e'
    cases e'
    exact us b o e nf
  refine ⟨⟨keep, fun b o e n hb hx => ?_, F.un.free, fun b o e hx => ?_, F.un.tups, F.un.frzs, F.un.tbls⟩, fun b u e => ?_⟩
  · obtain ⟨sl, e1⟩ := F.un.slot b o e n hb hx
    obtain ⟨sl', e2⟩ := fr b hb _ e1
    exact ⟨sl', e2⟩
  · by_cases hb : b ∈ frs l
    · obtain ⟨o', e1⟩ := F.un.there b o e hx
      obtain ⟨sl, e2⟩ := fr b hb _ e1
      exact ⟨_, e2⟩
    · obtain ⟨o', eb⟩ := F.cov b o e hb
      exact ⟨o', st b o' eb⟩
  · have one : ∀ c v, (∃ u, H' c = some u) → s'.heap.get? c = some v → h''.get? c = some v := fun c v ⟨u, hc⟩ q => by
      obtain ⟨o', eb⟩ := F.trk c u hc
      rw [F.same eb q] at eb
      exact st c v eb
    refine (F.hok b u e).stay (fun c v hc q => one c v ?_ q) (fun _ q => q) fun _ _ q => q
    rcases hc with z | z
    · exact ⟨u, by rw [z]; exact e⟩
    · exact ⟨_, z⟩
end
/-- a def's body as its entry lays it -/
structure Body (X : Cx) : Prop where
  st : X.stack = X.env :: X.outer
  fr : X.env.frame = some X.env.locals
  ex : X.ex = []
section
variable {X : Cx} {pins : List (Addr × Obj)} {σ : St} {H H' : Hp} {s s' : Shared} {B : Heap} {a : Addr} {cls a0 : Value}
theorem Body.frs (b : Body X) : frs X.stack = X.env.locals :: X.fs := by
  rw [b.st]
  unfold L2.frs
  rw [List.filterMap_cons, b.fr]
  rfl
theorem body_ne (I : Inv X pins σ H s) {b : Addr} {o : Obj} (e : X.s₀.heap.get? b = some o) : b ≠ X.env.locals := Nat.ne_of_lt (Nat.lt_of_lt_of_le (Heap.lt_size e) I.ok.above)
/-- an exception of a callee flies on: what is known at this body's entry -/
theorem Flies.up (hb : Body X) (I : Inv X pins σ H s) (F : Flies X.prog X.w X.stack H s H' B a cls a0 s') {h'' : Heap} (fly : Heap.FlyingW B X.outer a cls a0 h'') (us : s'.heap.UpToSlots h'') :
    Flies X.prog X.w X.outer X.H₀ X.s₀ H' B a cls a0 { s' with heap := h'' } := by
  obtain ⟨u, k⟩ := F.next fly.1 us
  have nf : ∀ b o, X.s₀.heap.get? b = some o → b ∉ X.fs → b ∉ L2.frs X.stack := fun b o e hn z => by
    rw [hb.frs] at z
    rcases List.mem_cons.mp z with z | z
    · exact body_ne I e z
    · exact hn z
  have ib := I.base
  rw [hb.ex] at ib
  refine ⟨F.os.trans I.os, F.bare, ⟨fun b o e n hn hx => ?_, fun b o e n hn hx => ?_, fun b o e n hx => ?_, fun b o e hx => ?_, fun b xs e => u.tups b xs (ib.tups b xs e), fun b o v e => u.frzs b o v (ib.frzs b o v e), fun b ps e => ?_⟩, k, fly, fun b o e hn => ?_, F.trk, fun b v e z => F.own b v e ?_⟩
  · exact u.keep b o (ib.keep b o e n hn hx) (ib.free b o e n hx) (nf b o e hn) hx
  · obtain ⟨sl, e1⟩ := ib.slot b o e n hn hx
    obtain ⟨sl', e2⟩ := u.slot b _ e1 (ib.free b o e n hx) (by rw [hb.frs]; exact List.mem_cons_of_mem _ hn) hx
    exact ⟨sl', e2⟩
  · obtain ⟨o', e1⟩ := ib.there b o e hx
    exact u.free b o' e1 (ib.free b o e n hx) hx
  · obtain ⟨o', e1⟩ := ib.there b o e hx
    exact u.there b o' e1 hx
  · obtain ⟨m1, e1⟩ := ib.tbls b ps e
    obtain ⟨m2, e2⟩ := u.tbls b _ e1
    exact ⟨m1 ++ m2, by rw [e2, Array.append_assoc]⟩
  · obtain ⟨o', e1⟩ := ib.there b o e (by simp)
    exact F.cov b o' e1 (nf b o e hn)
  · rw [hb.frs]
    exact List.mem_cons_of_mem _ z
/-- .. and lies before the frame's own code -/
theorem Flies.inv (I : Inv X pins σ H s) (F : Flies X.prog X.w X.stack H s H' B a cls a0 s') {h'' : Heap} {t : Nat} (st : B.StaysIn h'') (us : s'.heap.UpToSlots h'') : Inv X pins σ H' { s' with heap := h'', toks := t } := by
  obtain ⟨u, k⟩ := F.next st us
  exact I.call' (s' := { s' with heap := h'', toks := t }) (ch := []) F.os u k F.bare fun b z => absurd z (by simp)
/-- an exception that is just made, in this body -/
theorem Flies.made (hb : Body X) (I : Inv X pins σ H s) {h' h'' : Heap} {t : Nat} (mk : ∀ b o, s.heap.get? b = some o → h'.get? b = some o) (fly : Heap.FlyingW (PySem.W.hideAll s.heap (L2.frs X.stack)) X.outer a cls a0 h'') (us : h'.UpToSlots h'') :
    Flies X.prog X.w X.outer X.H₀ X.s₀ H (PySem.W.hideAll s.heap (L2.frs X.stack)) a cls a0 { s with heap := h'', toks := t } := by
  have inB : ∀ b o, s.heap.get? b = some o → b ∉ L2.frs X.stack → (PySem.W.hideAll s.heap (L2.frs X.stack)).get? b = some o := fun b o e n => PySem.W.hideAll_get _ e n
  have own : ∀ b u, H b = some u → b ∉ L2.frs X.stack := fun b u e z => by rw [I.stkFree b z] at e; cases e
  have nf : ∀ b o, X.s₀.heap.get? b = some o → b ∉ X.fs → b ∉ L2.frs X.stack := fun b o e hn z => by
    rw [hb.frs] at z
    rcases List.mem_cons.mp z with z | z
    · exact body_ne I e z
    · exact hn z
  have fr : ∀ b ∈ X.fs, ∀ o, s.heap.get? b = some o → ∃ sl, h''.get? b = some { o with slots := sl } := fun b hb' o e => by
    obtain ⟨_, o', e', nfd⟩ := I.funs.mem hb'
    rw [e] at e'
    cases e'
    exact us b o (mk b o e) nfd
  have ib := I.base
  rw [hb.ex] at ib
  refine ⟨I.os, I.bare, ⟨fun b o e n hn hx => fly.1 b o (inB b o (ib.keep b o e n hn hx) (nf b o e hn)), fun b o e n hn hx => ?_, ib.free, fun b o e hx => ?_, ib.tups, ib.frzs, ib.tbls⟩, fun b u e => ?_, fly, fun b o e hn => ?_, fun b u e => ?_, fun b u e z => own b u e ?_⟩
  · obtain ⟨sl, e1⟩ := ib.slot b o e n hn hx
    obtain ⟨sl', e2⟩ := fr b hn _ e1
    exact ⟨sl', e2⟩
  · obtain ⟨o', e1⟩ := ib.there b o e hx
    by_cases hn : b ∈ X.fs
    · obtain ⟨sl, e2⟩ := fr b hn _ e1
      exact ⟨_, e2⟩
    · exact ⟨o', fly.1 b o' (inB b o' e1 (nf b o e hn))⟩
  · refine (I.hok b u e).stay (fun c v hc q => fly.1 c v (inB c v q ?_)) (fun _ q => q) fun _ _ q => q
    rcases hc with z | z
    · rw [z]; exact own b u e
    · exact own c _ z
  · obtain ⟨o', e1⟩ := ib.there b o e (by simp)
    exact ⟨o', inB b o' e1 (nf b o e hn)⟩
  · obtain ⟨o', e1⟩ := (I.hok b u e).there
    exact ⟨o', inB b o' e1 (own b u e)⟩
  · rw [hb.frs]
    exact List.mem_cons_of_mem _ z
end
/-- an exception that is made here is as the wish E wants it -/
def Raisy (X : Cx) (E : XK) : Prop := ∀ (pins : List (Addr × Obj)) (σ : St) (H : Hp) (s : Shared) (h' : Heap) (a : Addr) (cls : Value) (args : List Value), Inv X pins σ H s → Heap.MadeExcOf s.heap h' a cls args → E cls none H → X.xe (.ref a) { s with heap := h' }
section
variable {P : Program} {w : World} {K : PySem.W.Frag} {mg : Str → Option Value} {base : Heap} {N : List Str} {qual : Str} {scope : Scope} {f : Addr} {cd : Value} {A : Around} {outer : List Env} {s₀ : Shared} {H₀ : Hp} {E : XK}
theorem body_of {CX : CXT} : Body (cxOf CX P w K mg base N qual scope f cd A outer s₀ H₀ E) := ⟨rfl, rfl, rfl⟩
theorem body_nox {X : Cx} (b : Body X) : Body X.nox := ⟨b.st, b.fr, b.ex⟩
end
abbrev bmV : List Value := [.type "ValueError", .type "Exception", .type "BaseException", .type "object"]
structure ExcC (K : PySem.W.Frag) (mg : Str → Option Value) (x : Str) (C : Addr) : Prop where
  at_ : mg x = some (.ref C)
  ok : PySem.W.excIn K C bmV "ValueError.__new__" = true
theorem ExcC.obj {K : PySem.W.Frag} {mg : Str → Option Value} {x : Str} {C : Addr} (c : ExcC K mg x C) {h : Heap} (X : K.In h) : ∃ bm N nm q bs hdct sn sub ab col dd k0 k1 k2 k3 k5 mN, h.get? C = some (excClassObj nm q C N bs bm hdct sn sub ab col dd k0 k1 k2 k3 k5 "ValueError.__new__") ∧ h.Ns N mN ∧ mN "__init__" = none ∧ OwnTail h bmV bm := by
  have z := c.ok
  unfold PySem.W.excIn at z
  split at z
  · rename_i dd cd sl ho
    split at z
    · rename_i C' bm k0 k1 k2 k3 n k5 hm hs
      simp only [Bool.and_eq_true, beq_iff_eq, Bool.not_eq_true'] at z
      obtain ⟨⟨⟨⟨⟨e1, e2⟩, e3⟩, e4⟩, e5⟩, e6⟩ := z
      subst e1 e2
      obtain ⟨nm, bs, mro, ns, qn, hd, sn, sub, ab, col, del⟩ := cd
      dsimp only at hm e3 e5 e6
      subst hm e3
      obtain ⟨sl⟩ := sl
      have hs' : sl = [k0, k1, k2, k3, some (.builtin "ValueError.__new__"), k5] := hs
      subst hs'
      exact ⟨bm, ns, nm, qn, bs, hd, sn, sub, ab, col, dd, k0, k1, k2, k3, k5, _, X _ _ ho, .of_isNs (PySem.W.isNs_of_in X e5), PySem.W.nsMap_none_of_in X e5 e6, PySem.W.tail_of_in X e4⟩
    · cases z
  · cases z
def tRaise (E : XK) (C : Addr) (ta : TA) : TS := fun _ σ H => ta σ H fun vs H1 => vs.length ≤ sizeLine ∧ E (.ref C) none H1
theorem ps_raise {X : Cx} {E : XK} {x : Str} {C : Addr} {e : Expr} {es : List Expr} {t : TA} {np cpos pos : Pos} (hR : Raisy X E) (hc : X.calm = true) (hg : Gl X x) (c : ExcC X.K X.mg x C) (ha : PA X (e :: es) t)
    (hdb : (x == ("__debug__" : Str)) = false := by decide) (he : starEach (e :: es) X.env = (false, eval e X.env) :: starEach es X.env := by rfl) (hpl : (backTo cpos (starEach es X.env)).any (·.1) = false := by rfl) :
    PS X (.Raise (some (.Call (.Name x np) (e :: es) [] cpos)) none pos) (tRaise E C t) := by
  intro pins s σ H D I h
  obtain ⟨bm, Na, nm, q, bs, hdct, sn, sub, ab, col, dd, k0, k1, k2, k3, k5, mN, hC, hN, hni, TL⟩ := c.obj I.mod.kin
  refine wpAny_Raise_call_subT (C := C) (nm := nm) (q := q) (N := Na) (bs := bs) (bm := bm) (hdct := hdct) (sn := sn) (sub := sub) (ab := ab) (col := col) (dd := dd) (k0 := k0) (k1 := k1) (k2 := k2) (k3 := k3) (k5 := k5) PySem.F.excBase_ValueError (mN := mN) (TL.hasType PySem.F.excBase_ValueError.hasBase) (I.ok.hd hc) ?_ hni (ld_glob I hg c.at_ ⟨rfl, ?_⟩ hdb)
  · rw [he]
    show (false || (backTo cpos (starEach es X.env)).any (·.1)) = false
    rw [hpl]
    rfl
  · have z := ha cpos pins s σ H _ I h
    rw [he] at z ⊢
    refine Calls.evalArgs_plain (wpAny_mono z (fun us s1 y => ?_) fun _ _ y => y)
    obtain ⟨vs, H1, I1, r, hl, qE⟩ := y
    exact ⟨rfl, by rw [← r.length]; exact hl, I1.bk _ _ hC, hN.keeps I1.bk, TL.keeps I1.bk, fun h' a mk => hR pins σ H1 s1 h' a _ _ I1 mk qE⟩
structure CalX (P : Program) (w : World) (K : PySem.W.Frag) (mg : Str → Option Value) (base : Heap) (x : Str) (ps : List Str) (k : Nat) (sp : Sp) : Prop where
  ex : ∃ (f : Addr) (fd : FuncData), FnOk P w K mg base (CX1 P w) k f fd ps sp ∧ Binds K fd ps [] ∧ PySem.W.keepIn K (.ref f) = true ∧ mg x = some (.ref f)
def tCallX (sp : Sp) (t : TA) : St → Hp → VK → XK → Prop := fun σ H Q E => t σ H fun vs H1 => sp (vs ++ []) H1 Q E
def tDropX (te : St → Hp → VK → XK → Prop) : Ends → St → Hp → XK → Prop := fun D σ H E => te σ H (fun _ H1 => D.nx σ H1) E
def tSetX (i : Nat) (te : St → Hp → VK → XK → Prop) : Ends → St → Hp → XK → Prop := fun D σ H E => te σ H (fun v H1 => D.nx (σ.set i (some v)) H1) E
def Cx.mrk (X : Cx) (a : Addr) : Cx := { X with A := X.A.mark (some (.ref a)), calm := false, xe := fun _ _ => False }
theorem Inv.mrk {X : Cx} {pins : List (Addr × Obj)} {σ : St} {H : Hp} {s : Shared} (I : Inv X pins σ H s) (a : Addr) : Inv (X.mrk a) pins σ H s :=
  ⟨⟨I.ok.mod, I.ok.kind, I.ok.glob, I.ok.blt, I.ok.above, I.ok.inj, I.ok.has, I.ok.cab, (fun z => by cases z), I.ok.frames, I.ok.stk, I.ok.exf, I.ok.bs, I.ok.bsz, I.ok.noex, I.ok.exfs, I.ok.funs, I.ok.frf⟩, I.os, I.bare, I.base, I.loc, I.cell, I.free, I.freeC, I.pin, I.hok, I.len⟩
theorem Inv.unmrk {X : Cx} {pins : List (Addr × Obj)} {σ σ' : St} {H H' : Hp} {s s' : Shared} {a : Addr} (I : Inv X pins σ H s) (J : Inv (X.mrk a) pins σ' H' s') : Inv X pins σ' H' s' :=
  ⟨I.ok, J.os, J.bare, J.base, J.loc, J.cell, J.free, J.freeC, J.pin, J.hok, J.len⟩
theorem SP.unmrk {X : Cx} {pins : List (Addr × Obj)} {σ : St} {H : Hp} {s s' : Shared} {a : Addr} {D : Ends} {f : Flow} (I : Inv X pins σ H s) (h : SP (X.mrk a) pins D f s') : SP X pins D f s' := by
  cases f with
  | next => obtain ⟨σ', H', J, q⟩ := h; exact ⟨σ', H', I.unmrk J, q⟩
  | ret v => obtain ⟨x, σ', H', J, r, q⟩ := h; exact ⟨x, σ', H', I.unmrk J, r, q⟩
  | brk => obtain ⟨σ', H', J, q⟩ := h; exact ⟨σ', H', I.unmrk J, q⟩
  | cont => obtain ⟨σ', H', J, q⟩ := h; exact ⟨σ', H', I.unmrk J, q⟩
def tTry0 (C : Addr) (tb : Ends → St → Hp → XK → Prop) (ts to : TS) : TS := fun D σ H => tb { D with nx := to D } σ H fun cls _ H' => cls = .ref C ∧ ts D σ H'
end L2

set_option Elab.async false
set_option linter.all false
set_option maxRecDepth 100000
set_option maxHeartbeats 400000
namespace L2
open PySem PySem.Spec PySem.Calls PyProof.Rows
/-- what of an own exception class is looked at -/
structure ExcG (K : PySem.W.Frag) (C : Addr) : Prop where
  ga : PySem.W.findIn K (.ref C) "__getattribute__" = some (some (.builtin "BaseException.__getattribute__"))
  cl : PySem.W.findIn K (.ref C) "__class__" = some (some (.builtin "object.__class__"))
  no : PySem.W.findIn K (.ref C) "__getattr__" = some none
  be : PySem.W.mroIn K C (.type "BaseException") = some true
  ob : PySem.W.mroIn K C (.type "object") = some true
section
variable {K : PySem.W.Frag} {prog : Program} {w : World} {A : Around} {E : Value → Shared → Prop} {h : Heap} {g : Array GenState} {d : Drawn} {t : Nat} {os : OsState} {a C : Addr} {o : Obj}
theorem class_get_exc {R : Result → Shared → Prop} (Z : ExcG K C) (X : K.In h) (hx : h.get? a = some o) (hc : o.cls = .ref C) (hq : R (.ok (.ret (.ref C))) ⟨h, g, d, t, os⟩) :
    codeAny (model prog w) A (.call (.builtin "getset_descriptor.__get__") ⟨[.builtin "object.__class__", .ref a, .ref C], []⟩) R ⟨h, g, d, t, os⟩ := by
  have hT5 : (⟨h, g, d, t, os⟩ : Shared).TypeIs (.builtin "object.__class__") "getset_descriptor" := F.typeOf_object_class
  have L := PySem.W.looks_mroIn (M := model prog w) X Z.ob
  rw [← F.owner_object_class] at L
  refine codeAny_call_builtin F.slot_gs_get.plain F.entry_gs_get (F.slot_gs_get.check _ _ _ _ _ _ _ _ hT5 (F.args_gs_get _ _ _) ?_)
  repeat (any_goals (first | assumption | (with_reducible refine wpAny_loadPart_at hx ?_; rw [hc]) | (with_reducible refine PySem.W.Looks.at L ?_) | wp_step))
  refine ⟨Code.quiet_builtin _ (by decide +kernel), codeAny_builtin F.entry_object_class ?_⟩
  repeat (any_goals (first | assumption | (with_reducible refine wpAny_loadPart_at hx ?_; rw [hc]) | wp_step))
theorem class_entry_exc {tk : Tok} {Q : PySem.Fin → Shared → Prop} (Z : ExcG K C) (X : K.In h) (hx : h.get? a = some o) (hc : o.cls = .ref C) (hq : Q (.done (.ret (.ref C))) ⟨h, g, d, t, os⟩) :
    wpAny (model prog w) A (Builtin.«object.__getattribute__» ⟨[.ref a, .str "__class__" tk], []⟩) Q E ⟨h, g, d, t, os⟩ := by
  have hT5 : (⟨h, g, d, t, os⟩ : Shared).TypeIs (.builtin "object.__class__") "getset_descriptor" := F.typeOf_object_class
  have L := PySem.W.looks_findIn (M := model prog w) X Z.cl
  have f5 := F.typeOf_object_class
  have f6 := F.slot_gs_get.lookup
  have f7 := F.slot_gs_set.lookup
  repeat (any_goals (first | assumption | (with_reducible refine wpAny_loadPart_at hx ?_; rw [hc]) | (with_reducible refine PySem.W.Looks.at L ?_) | wp_step))
  refine class_get_exc Z X hx hc ?_
  repeat (any_goals (first | assumption | wp_step))
theorem check_ga_exc {M : Model} {nameV : Value} {Q : Unit → Shared → Prop} (Z : ExcG K C) (X : K.In h) (hx : h.get? a = some o) (hc : o.cls = .ref C) (hq : Q () ⟨h, g, d, t, os⟩) :
    wpAny M A (checkBuiltinCall "BaseException.__getattribute__" ⟨[.ref a, nameV], []⟩) Q E ⟨h, g, d, t, os⟩ := by
  have hk : builtinKind "BaseException.__getattribute__" = some .slot := by decide +kernel
  have hsplit : splitId "BaseException.__getattribute__" = some ("BaseException", "__getattribute__") := by decide +kernel
  have ha := F.args_bexc_ga (.ref a) nameV
  have L := PySem.W.looks_mroIn (M := M) X Z.be
  simp only [checkBuiltinCall, hk, hsplit]
  refine wpAny_bind ?_
  · unfold isInstance
    repeat (first | (with_reducible refine wpAny_loadPart_at hx ?_; rw [hc]) | (with_reducible refine PySem.W.Looks.at L ?_) | wp_step)
    exact hq
theorem class_by_exc {tk : Tok} {Q : Value → Shared → Prop} (Z : ExcG K C) (X : K.In h) (hx : h.get? a = some o) (hc : o.cls = .ref C) (hq : Q (.ref C) ⟨h, g, d, t, os⟩) :
    wpAny (model prog w) A (getAttrBy (.ref a) (.str "__class__" tk) false) Q E ⟨h, g, d, t, os⟩ := by
  have f3 := PySem.F.excAttr_ValueError.ga.bind (.ref a)
  have L1 := PySem.W.looks_findIn (M := model prog w) X Z.ga
  have L2 := PySem.W.looks_findIn (M := model prog w) X Z.no
  have hx2 : (Value.builtin "BaseException.__getattribute__" == Value.builtin "object.__getattribute__") = false := by decide +kernel
  have hx1 : (onTheHeap (Value.ref C) && Value.builtin "BaseException.__getattribute__" == Value.builtin "object.__getattribute__") = false := by rw [hx2]; rfl
  repeat (any_goals (first | assumption | (with_reducible refine wpAny_loadPart_at hx ?_; rw [hc]) | (with_reducible refine PySem.W.Looks.at L1 ?_) | (with_reducible refine PySem.W.Looks.at L2 ?_) | wp_step))
  refine codeAny_call_builtin PySem.F.excAttr_ValueError.ga.plain F.entry_bexc_ga (check_ga_exc Z X hx hc (class_entry_exc Z X hx hc ?_))
  repeat (any_goals (first | assumption | wp_step))
theorem class_attr_exc {Q : Option Value → Shared → Prop} (Z : ExcG K C) (X : K.In h) (hx : h.get? a = some o) (hc : o.cls = .ref C) (hq : Q (some (.ref C)) ⟨h, g, d, t + 1, os⟩) :
    wpAny (model prog w) A (getAttr? (.ref a) "__class__") Q E ⟨h, g, d, t, os⟩ := by
  unfold getAttr? getAttrBy?
  repeat (any_goals (first | assumption | with_reducible apply class_by_exc Z X hx hc | wp_step))
end

theorem ExcG.cls {K : PySem.W.Frag} {C : Addr} (Z : ExcG K C) : ∃ c' d' cd sl, K.lookup C = some ⟨c', d', .cls cd, sl⟩ := by
  have e := Z.be
  unfold PySem.W.mroIn PySem.W.clsIn at e
  split at e
  · rename_i c' d' cd' sl' ho
    exact ⟨_, _, _, _, ho⟩
  · cases e
abbrev IsExc (a C : Addr) (h : Heap) : Prop := ∃ o, h.get? a = some o ∧ o.cls = .ref C
theorem kitx_exc {K : PySem.W.Frag} {a C : Addr} (Z : ExcG K C) : PySem.W.KitX K (.ref a) (.ref C) (IsExc a C) where
  ty := fun _ _ _ ⟨_, h1, h2⟩ => h2 ▸ (PySem.W.Looks.ld h1).andThen .now
  it := fun _ _ X _ => by
    obtain ⟨c', d', cd, sl, ho⟩ := Z.cls
    intro A' Q' E' s' k q
    unfold isType loadHead
    exact wpAny_bind (wpAny_loadPart (k _ _ (X _ _ ho)) (wpAny_pure q))
  ne := fun h tp dd its n sl X htp => by
    obtain ⟨c', d', cd, sl', ho⟩ := Z.cls
    refine Bool.eq_false_iff.mpr fun q => ?_
    have e : C = tp := Value.ref.inj (beq_iff_eq.mp q)
    subst e
    have z := (X _ _ ho).symm.trans htp
    cases z
  ca := fun {_ _ _ _ _ s} X p k => by
    obtain ⟨h, g, d, t, os⟩ := s
    obtain ⟨o, h1, h2⟩ := p
    exact class_attr_exc Z X h1 h2 k
abbrev excO (a C : Addr) : HO := .ext (IsExc a C)
theorem excO_ok {P : Program} {w : World} {H : Hp} {h : Heap} {a C : Addr} (x : IsExc a C h) : ObjOk P w H h a (excO a C) := by
  obtain ⟨o, h1, h2⟩ := x
  refine ⟨⟨o, h1, h2⟩, ⟨o, h1⟩, fun g1 g2 ⟨o', e1, e2⟩ k => ⟨o', k o' e1, e2⟩⟩
theorem excO_at {P : Program} {w : World} {H : Hp} {h : Heap} {a C : Addr} (k : HOk P w H h) (e : H a = some (excO a C)) : IsExc a C h := (show ObjOk P w H h a (.ext (IsExc a C)) from k a _ e).1
def vO : V → Value
  | .ref a => .ref a
  | .ty n => .type n
  | _ => .none
def rIsx (K : PySem.W.Frag) : List V → Hp → VK → Prop := fun xs H Q => ∃ a D c b, xs = [.ref a, c] ∧ H a = some (excO a D) ∧ ExcG K D ∧ PySem.W.kitOne K (.ref D) (vO c) = some b ∧ Q (.bl b) H
/-- a new thing of ours, all others kept -/
theorem Inv.anew {X : Cx} {pins : List (Addr × Obj)} {σ : St} {H : Hp} {s : Shared} {h' : Heap} {t : Nat} {a : Addr} {ob : HO} (I : Inv X pins σ H s) (k : ∀ b o, s.heap.get? b = some o → h'.get? b = some o) (n : s.heap.get? a = none) (ok : ObjOk X.prog X.w (upd H a ob) h' a ob) :
    H a = none ∧ Inv X pins σ (upd H a ob) { s with heap := h', toks := t } := by
  have ha : ∀ u, H a ≠ some u := fun u e => by
    obtain ⟨o, z⟩ := (I.hok a u e).there
    rw [n] at z; cases z
  have hn : H a = none := by
    cases e : H a with
    | none => rfl
    | some u => exact absurd e (ha u)
  have up : ∀ b u, H b = some u → upd H a ob b = some u := fun b u e => by
    rw [upd_ne fun z => ha u (by rw [← z]; exact e)]; exact e
  refine ⟨hn, I.step (g' := s.gens) (d' := s.drawn) (ch := []) (fun _ z => nomatch z) (fun b o _ _ _ e _ => k b o e) (fun b o _ _ _ e _ => ⟨o.slots, k b o e⟩) (fun b o _ e q => ?_) (fun b o _ e => ⟨o, k b o e⟩) (fun b xs e => up _ _ e) (fun b o u e => up _ _ e) (fun b ps e => ⟨#[], by rw [up _ _ e]; simp⟩) (fun m hm => ?_) (fun b u e => ?_) I.bare⟩
  · rw [upd_ne fun z => by rw [z, n] at e; cases e]; exact q
  · obtain ⟨o, es, ep, ho, r⟩ := hm
    exact ⟨o, es, ep, k _ o ho, r⟩
  · by_cases z : b = a
    · subst z
      rw [upd_same] at e
      cases e
      exact ok
    · rw [upd_ne z] at e
      exact (I.hok b u e).stay (fun c v _ q => k c v q) (fun c q => up _ _ q) fun _ _ q => up _ _ q
def rExc (C : Addr) : List V → Hp → VK → Prop := fun xs H Q => xs.length ≤ sizeLine ∧ ∀ a, H a = none → Q (.ref a) (upd H a (excO a C))
end L2

set_option Elab.async false
set_option linter.all false
set_option maxRecDepth 100000
set_option maxHeartbeats 400000
namespace L2
open PySem PySem.Spec PySem.Calls PyProof.Rows
/-- what an except looks at: the class W of the text, the class C that flies -/
structure ExcM (K : PySem.W.Frag) (mg : Str → Option Value) (x : Str) (W C : Addr) : Prop where
  at_ : mg x = some (.ref W)
  ty : PySem.W.typeIn K (.ref W) = some (.type "type")
  be : PySem.W.mroIn K W (.type "BaseException") = some true
  sub : PySem.W.mroIn K C (.ref W) = some true
theorem mroIn_cls {K : PySem.W.Frag} {C : Addr} {b : Value} {r : Bool} (e : PySem.W.mroIn K C b = some r) : ∃ c' d' cd sl, K.lookup C = some ⟨c', d', .cls cd, sl⟩ := by
  unfold PySem.W.mroIn PySem.W.clsIn at e
  split at e
  · rename_i c' d' cd' sl' ho
    exact ⟨_, _, _, _, ho⟩
  · cases e
theorem excMatches_own {K : PySem.W.Frag} {mg : Str → Option Value} {x : Str} {W C : Addr} {M : Model} {A : Around} {E : Value → Shared → Prop} {h : Heap} {g : Array GenState} {d : Drawn} {t : Nat} {os : OsState} {e : Addr} {oe : Obj} {Q : Bool → Shared → Prop} (Z : ExcM K mg x W C) (X : K.In h)
    (he : h.get? e = some oe) (hcls : oe.cls = .ref C) (hq : Q true ⟨h, g, d, t, os⟩) : wpAny M A (excMatches (.ref e) (.ref W)) Q E ⟨h, g, d, t, os⟩ := by
  have L1 := PySem.W.looks_typeIn (M := M) X Z.ty
  have L2 := PySem.W.looks_mroIn (M := M) X Z.be
  have L3 := PySem.W.looks_mroIn (M := M) X Z.sub
  obtain ⟨c', d', cd, sl, hW⟩ := mroIn_cls Z.be
  have hW' := X _ _ hW
  have L0 : PySem.W.Looks M h (typeOf (.ref e)) (.ref C) := hcls ▸ (PySem.W.Looks.ld he).andThen .now
  have f := tc_notTuple
  unfold excMatches
  repeat (first | (with_reducible refine PySem.W.Looks.at L0 ?_) | (with_reducible refine PySem.W.Looks.at L1 ?_) | (with_reducible refine PySem.W.Looks.at L2 ?_) | (with_reducible refine PySem.W.Looks.at L3 ?_) | (with_reducible refine wpAny_loadPart_at he ?_; rw [hcls]) | with_reducible refine wpAny_loadPart_at hW' ?_ | wp_step)
  exact hq
section
variable {X : Cx} {pins : List (Addr × Obj)} {σ : St} {H H' : Hp} {s s' : Shared} {B : Heap} {a : Addr} {cls a0 : Value}
/-- a thing that lies there is tracked from here on -/
theorem Inv.track {ob : HO} (I : Inv X pins σ H s) (n : H a = none) (ns : ∀ o, X.s₀.heap.get? a ≠ some o) (nl : X.env.locals ≠ a) (nc : ∀ x c, X.env.cells.lookup x = some c → c ≠ a) (np : ∀ p ∈ X.pn ++ pins, p.1 ≠ a) (ok : ObjOk X.prog X.w (upd H a ob) s.heap a ob) :
    Inv X pins σ (upd H a ob) s := by
  have up : ∀ b u, H b = some u → upd H a ob b = some u := fun b u e => by
    rw [upd_ne fun z => by rw [z, n] at e; cases e]; exact e
  refine ⟨I.ok, I.os, I.bare, ⟨I.base.keep, I.base.slot, fun b o e m hx => ?_, I.base.there, fun b xs e => up _ _ (I.base.tups b xs e), fun b o u e => up _ _ (I.base.frzs b o u e), fun b ps e => ?_⟩, I.loc, I.cell, ?_, fun x c e => ?_, fun p hp => ?_, fun b u e => ?_, I.len⟩
  · rw [upd_ne fun z => ns o (by rw [← z]; exact e)]
    exact I.base.free b o e m hx
  · obtain ⟨m, z⟩ := I.base.tbls b ps e
    exact ⟨m, up _ _ z⟩
  · rw [upd_ne nl]; exact I.free
  · rw [upd_ne (nc x c e)]; exact I.freeC x c e
  · obtain ⟨e, m, q⟩ := I.pin p hp
    exact ⟨e, by rw [upd_ne (np p hp)]; exact m, q⟩
  · by_cases z : b = a
    · subst z
      rw [upd_same] at e
      cases e
      exact ok
    · rw [upd_ne z] at e
      exact (I.hok b u e).stay (fun c v _ q => q) (fun c q => up _ _ q) fun _ _ q => up _ _ q
/-- what flies is new -/
theorem Flies.anew (F : Flies X.prog X.w X.stack H s H' B a cls a0 s') : a ∉ frs X.stack ∧ s.heap.get? a = none ∧ H' a = none := by
  obtain ⟨oe, vs, h1, h2, h3, h4⟩ := F.fly.first
  have nf : a ∉ frs X.stack := fun z => by
    obtain ⟨_, o', e', nfd⟩ := F.fly.2.2.1.mem z
    rw [h1] at e'
    cases e'
    exact nfd _ h3
  refine ⟨nf, ?_, ?_⟩
  · cases e : s.heap.get? a with
    | none => rfl
    | some o =>
      obtain ⟨o', z⟩ := F.cov a o e nf
      rw [F.fly.2.1] at z; cases z
  · cases e : H' a with
    | none => rfl
    | some u =>
      obtain ⟨o', z⟩ := F.trk a u e
      rw [F.fly.2.1] at z; cases z
theorem Flies.track (hb : Body X) (I : Inv X pins σ H s) (F : Flies X.prog X.w X.stack H s H' B a (.ref C) a0 s') {s'' : Shared} (J : Inv X pins σ H' s'') (x : IsExc a C s''.heap) : Inv X pins σ (upd H' a (excO a C)) s'' := by
  obtain ⟨nf, nh, nt⟩ := F.anew
  refine J.track nt (fun o e => ?_) (fun z => ?_) (fun y c e z => ?_) (fun p hp z => ?_) (excO_ok x)
  · obtain ⟨o', q⟩ := I.base.there a o e (by rw [hb.ex]; simp)
    rw [nh] at q; cases q
  · exact nf (by rw [hb.frs, ← z]; exact List.mem_cons_self)
  · obtain ⟨v, o, q, _⟩ := I.cell y c e
    rw [z, nh] at q; cases q
  · obtain ⟨q, _⟩ := I.pin p hp
    rw [z, nh] at q; cases q
end
theorem Inv.goes {X : Cx} {pins : List (Addr × Obj)} {σ : St} {H : Hp} {s : Shared} {M : Model} {A : Around} {E : Value → Shared → Prop} {i : Nat} {x : Str} {pos : Pos} {Q : Unit → Shared → Prop} (I : Inv X pins σ H s) (hN : X.N.Nodup) (hi : X.N[i]? = some x) (hl : X.env.kindOf x = some .local)
    (h : ∀ s', Inv X pins (σ.set i none) H s' → Q () s') : wpAny M A (do bindName X.env x .none; unbindBehindTheSuite X.env x pos) Q E s := by
  obtain ⟨m, hn, hv⟩ := id I.loc
  have hcls : (X.env.scope.kind == .class || (X.env.scope.kind == .module && X.env.locals != X.env.globals)) = false := by rw [I.ok.kind]; rfl
  have hiσ : i < σ.length := by rw [I.len]; exact (List.getElem?_eq_some_iff.mp hi).1
  refine wpAny_nameGoes_keeps hl hn hcls fun h' v hn' hs => h _ ?_
  have below : ∀ b o, X.s₀.heap.get? b = some o → b ≠ X.env.locals := fun b o e => Nat.ne_of_lt (Nat.lt_of_lt_of_le (Heap.lt_size e) I.ok.above)
  refine ⟨I.ok, I.os, I.bare, ⟨fun b o e n hb hx => (hs.2 b (below b o e)).trans (I.base.keep b o e n hb hx), fun b o e n hb hx => ?_, I.base.free, fun b o e hx => ?_, I.base.tups, I.base.frzs, I.base.tbls⟩, ⟨_, hn', fun j y v' e1 e2 e3 => ?_⟩, fun y c e => ?_, I.free, I.freeC, fun p hp => ?_, fun b ob e => ?_, by rw [List.length_set]; exact I.len⟩
  · obtain ⟨sl, e1⟩ := I.base.slot b o e n hb hx
    exact ⟨sl, (hs.2 b (below b o e)).trans e1⟩
  · obtain ⟨o', e1⟩ := I.base.there b o e hx
    exact ⟨o', (hs.2 b (below b o e)).trans e1⟩
  · by_cases hj : j = i
    · subst hj
      rw [List.getElem?_set_self hiσ] at e2
      cases e2
    · rw [List.getElem?_set_ne (Ne.symm hj)] at e2
      obtain ⟨u', r', q⟩ := hv j y v' e1 e2 e3
      refine ⟨u', r', ?_⟩
      rcases q with ⟨k, e⟩ | ⟨k, c, e, z⟩
      · refine .inl ⟨k, ?_⟩
        have : y ≠ x := fun e => hj (nodup_ix hN e1 (e ▸ hi))
        simp [this, e]
      · exact .inr ⟨k, c, e, z.sameBut hs (I.cne y c e)⟩
  · obtain ⟨w', z⟩ := I.cell y c e
    exact ⟨w', z.sameBut hs (I.cne y c e)⟩
  · obtain ⟨e, n, ne, nf, d⟩ := I.pin p hp
    exact ⟨(hs.2 p.1 ne).trans e, n, ne, nf, d⟩
  · refine (I.hok b ob e).stay (fun c w' hc q => (hs.2 c ?_).trans q) (fun _ q => q) fun _ _ q => q
    rintro rfl
    rcases hc with z | z
    · rw [← z, I.free] at e; cases e
    · rw [I.free] at z; cases z
/-- the name of an except is gone behind it -/
def Ends.gone (D : Ends) (i : Nat) : Ends := { nx := fun σ H => D.nx (σ.set i none) H, rt := D.rt, bk := fun σ H => D.bk (σ.set i none) H, ct := fun σ H => D.ct (σ.set i none) H }
def tTryA (i : Nat) (K : PySem.W.Frag) (mg : Str → Option Value) (x : Str) (W : Addr) (tb : Ends → St → Hp → XK → Prop) (ts to : TS) : TS := fun D σ H =>
  tb { D with nx := to D } σ H fun cls _ H' => ∃ C, cls = .ref C ∧ ExcM K mg x W C ∧ ∀ a, H' a = none → ts (D.gone i) (σ.set i (some (.ref a))) (upd H' a (excO a C))
theorem boot_ValueError : bootBuiltins "ValueError" = some (.type "ValueError") := by decide +kernel
end L2

set_option Elab.async false
set_option linter.all false
set_option maxRecDepth 100000
set_option maxHeartbeats 4000000
namespace My
open PySem L2
/-- a new list r, all else as it was -/
def New (H H' : Hp) (r : Addr) (xs : List V) : Prop := Same H H' ∧ H r = none ∧ H' r = some (.lst xs)
theorem same_new {H : Hp} {p : Addr} (h : H p = none) (o : HO) : Same H (upd H p o) := fun b u q => by rw [upd_ne (ne_of_none q h)]; exact q
theorem same_upd {H H' : Hp} {p : Addr} (h : H p = none) (g : Same H H') (o : HO) : Same H (upd H' p o) := fun b u q => by rw [upd_ne (ne_of_none q h)]; exact g b u q
theorem item_of {ns : List Int} {k : Int} (h0 : 0 ≤ k) (h : k < (ns.length : Int)) : ∃ v : Int, atI (ns.map V.int) k = some (.int v) := by
  have hk : k.toNat < ns.length := by omega
  have q : atI (ns.map V.int) ((k.toNat : Nat) : Int) = some (.int ns[k.toNat]) := atI_nat (by rw [List.getElem?_map, List.getElem?_eq_getElem hk] <;> rfl)
  rw [show ((k.toNat : Nat) : Int) = k by omega] at q
  exact ⟨_, q⟩
abbrev Pst := Int × Int × Int
def PostV (H : Hp) (v : V) (q : Pst) : Prop := ∃ t, v = .ref t ∧ H t = some (.tup [.int q.1, .int q.2.1, .int q.2.2])
def okH (h : Int) : Prop := 0 ≤ h ∧ h < 1073741824
def okP (q : Pst) : Prop := (0 ≤ q.1 ∧ q.1 < 1073741824) ∧ (0 ≤ q.2.1 ∧ q.2.1 ≤ 1000000000) ∧ (0 ≤ q.2.2 ∧ q.2.2 ≤ 1)
structure Ok (d : Int) (hs : List Int) (ps : List Pst) : Prop where
  d1 : 1 ≤ d
  d2 : d ≤ 31
  h : ∀ x ∈ hs, okH x
  hl : hs.length ≤ 8
  p : ∀ q ∈ ps, okP q
  pl : ps.length ≤ 6
theorem PostV.mono {H H' : Hp} {v : V} {q : Pst} (g : Same H H') (h : PostV H v q) : PostV H' v q := by
  obtain ⟨t, e, h⟩ := h
  exact ⟨t, e, g _ _ h⟩
abbrev Posts (H : Hp) : List V → List Pst → Prop := Paired (PostV H)
theorem Posts.mono {H H' : Hp} (g : Same H H') {ts : List V} {ps : List Pst} (h : Posts H ts ps) : Posts H' ts ps := Paired.mapP h fun _ _ => PostV.mono g
theorem Posts.off {H : Hp} {l : Addr} {o : HO} {ts : List V} {ps : List Pst} (hl : ∀ xs, H l ≠ some (.tup xs)) (h : Posts H ts ps) : Posts (upd H l o) ts ps := Paired.mapP h fun _ _ ⟨t, e, q⟩ => ⟨t, e, by
  have ne : t ≠ l := fun z => hl _ (z ▸ q)
  rw [upd_ne ne]
  exact q⟩
theorem Posts.at' {H : Hp} {ts : List V} {ps : List Pst} (h : Posts H ts ps) {i : Nat} {v : V} (e : ts[i]? = some v) : ∃ q, ps[i]? = some q ∧ PostV H v q := Paired.get' h e
theorem Posts.len {H : Hp} {ts : List V} {ps : List Pst} (h : Posts H ts ps) : ts.length = ps.length := Paired.length h
theorem Posts.get {H : Hp} {ts : List V} {ps : List Pst} (h : Posts H ts ps) {i : Nat} {q : Pst} (e : ps[i]? = some q) : ∃ t, ts[i]? = some (.ref t) ∧ H t = some (.tup [.int q.1, .int q.2.1, .int q.2.2]) := by
  have hi : i < ts.length := by rw [h.len]; exact (List.getElem?_eq_some_iff.mp e).1
  have e1 : ts[i]? = some ts[i] := List.getElem?_eq_getElem hi
  obtain ⟨q', e2, t, et, ht⟩ := h.at' e1
  rw [e] at e2
  cases e2
  exact ⟨t, by rw [e1, et], ht⟩
theorem Posts.snoc {H : Hp} {ts : List V} {ps : List Pst} {v : V} {q : Pst} (h : Posts H ts ps) (hv : PostV H v q) : Posts H (ts ++ [v]) (ps ++ [q]) := by
  induction h with
  | nil => exact .cons hv .nil
  | cons a _ ih => exact .cons a ih
theorem n1 : ¬ (("days" : Str) = "hands") := by decide +kernel
theorem n2 : ¬ (("days" : Str) = "posts") := by decide +kernel
theorem n3 : ¬ (("hands" : Str) = "posts") := by decide +kernel
def wf (d : Int) (h p : Addr) : List (Str × V) := putF "posts" (.ref p) (putF "hands" (.ref h) (putF "days" (.int d) []))
/-- a ward stands at x -/
structure WardAt (C : Addr) (H : Hp) (x : Addr) (d : Int) (hs : List Int) (ps : List Pst) : Prop where
  ex : ∃ dx ha pa ts, H x = some (.ins C dx (wf d ha pa)) ∧ H ha = some (.tup (hs.map V.int)) ∧ H pa = some (.tup ts) ∧ Posts H ts ps
theorem WardAt.mono {C : Addr} {H H' : Hp} {x : Addr} {d : Int} {hs : List Int} {ps : List Pst} (g : Same H H') (w : WardAt C H x d hs ps) : WardAt C H' x d hs ps := by
  obtain ⟨dx, ha, pa, ts, h1, h2, h3, h4⟩ := w.ex
  exact ⟨dx, ha, pa, ts, g _ _ h1, g _ _ h2, g _ _ h3, h4.mono g⟩
theorem WardAt.off {C : Addr} {H : Hp} {x : Addr} {d : Int} {hs : List Int} {ps : List Pst} {l : Addr} {xs : List V} {o : HO} (hl : H l = some (.lst xs)) (w : WardAt C H x d hs ps) : WardAt C (upd H l o) x d hs ps := by
  obtain ⟨dx, ha, pa, ts, h1, h2, h3, h4⟩ := w.ex
  refine ⟨dx, ha, pa, ts, ?_, ?_, ?_, h4.off fun ys z => by rw [hl] at z; cases z⟩
  · rw [upd_ne (ne_of h1 hl (by intro z; cases z))]; exact h1
  · rw [upd_ne (ne_of h2 hl (by intro z; cases z))]; exact h2
  · rw [upd_ne (ne_of h3 hl (by intro z; cases z))]; exact h3
def cv (h n : Int) : Bool := decide (Builtin.bitAnd h n = n)
def post0 : Pst := (0, 0, 0)
def chI (h : Int) (ps : List Pst) (i : Nat) : List Int := ((List.range i).filter fun j => cv h (ps[j]?.getD post0).1).map fun j : Nat => (j : Int) + 1
def ch (h : Int) (ps : List Pst) : List Int := 0 :: chI h ps ps.length
def ngt (ps : List Pst) : Nat → Bool
  | 0 => false
  | k + 1 => decide ((ps[k]?.getD post0).2.2 = 1)
def tb (d : Int) (hs : List Int) (ps : List Pst) : Nat → Int
  | 0 => 1
  | i + 1 => tb d hs ps i * ((ch (hs[i]?.getD 0) ps).length : Int) ^ d.toNat
theorem lt30 {n : Int} (h : okH n) : n.toNat < 2 ^ 30 := by
  have e : (2 : Nat) ^ 30 = 1073741824 := by decide
  have := h.1; have := h.2
  omega
theorem okH_of {n : Nat} (h : n < 2 ^ 30) : okH (n : Int) := by
  have e : (2 : Nat) ^ 30 = 1073741824 := by decide
  exact ⟨by omega, by omega⟩
theorem okH_and {x y : Int} (hx : okH x) (hy : okH y) : okH (Builtin.bitAnd x y) := by
  rw [PyProof.Rows.bitAnd_pp hx.1 hy.1]
  exact okH_of (Nat.lt_of_le_of_lt Nat.and_le_left (lt30 hx))
theorem or_nat {x y : Int} (hx : 0 ≤ x) (hy : 0 ≤ y) : Builtin.bitOr x y = ((x.toNat ||| y.toNat : Nat) : Int) := by
  rw [PyProof.Rows.bitOr_and, PyProof.Rows.bitAnd_pp hx hy]
  have e := PyProof.Rows.nat_or_add_and x.toNat y.toNat
  omega
theorem okH_or {x y : Int} (hx : okH x) (hy : okH y) : okH (Builtin.bitOr x y) := by
  rw [or_nat hx.1 hy.1]
  exact okH_of (Nat.or_lt_two_pow (lt30 hx) (lt30 hy))
theorem Paired.getR {α β : Type} {F : α → β → Prop} : ∀ {xs : List α} {ys : List β} {i : Nat} {y : β}, Paired F xs ys → ys[i]? = some y → ∃ x, xs[i]? = some x ∧ F x y
  | _, _, _, _, .nil, e => by simp at e
  | _, _, 0, _, .cons r _, e => by simp at e; subst e; exact ⟨_, rfl, r⟩
  | _, _, i + 1, y, .cons _ t, e => by
    obtain ⟨u, h1, h2⟩ := Paired.getR (i := i) (y := y) t (by simpa using e)
    exact ⟨u, by simpa using h1, h2⟩
theorem like_den {K : PySem.W.Frag} {H : Hp} : ∀ (n : Nat) (x : V) (d : DV), Den K H n x d → Like n d d := by
  intro n
  induction n with
  | zero =>
    intro x d h
    cases d with
    | lst ds => cases x <;> exact False.elim h
    | tup ds => cases x <;> exact False.elim h
    | _ => exact True.intro
  | succ n ih =>
    intro x d h
    cases d with
    | lst ds =>
      cases x with
      | ref a =>
        obtain ⟨xs, _, hp⟩ : ∃ xs, SqL K H a xs ∧ Paired (Den K H n) xs ds := h
        intro _ i d e h1 h2
        rw [h1] at h2
        cases h2
        obtain ⟨y, _, hy⟩ := Paired.getR hp h1
        exact ih y d hy
      | _ => exact False.elim h
    | tup ds =>
      cases x with
      | ref a =>
        obtain ⟨xs, _, hp⟩ : ∃ xs, SqT K H a xs ∧ Paired (Den K H n) xs ds := h
        intro i d e h1 h2
        rw [h1] at h2
        cases h2
        obtain ⟨y, _, hy⟩ := Paired.getR hp h1
        exact ih y d hy
      | _ => exact False.elim h
    | _ => exact True.intro
def pD (q : Pst) : DV := .tup [.int q.1, .int q.2.1, .int q.2.2]
theorem den_post {K : PySem.W.Frag} {H : Hp} {n : Nat} {v : V} {q : Pst} (h : PostV H v q) : Den K H (n + 1) v (pD q) := by
  obtain ⟨t, rfl, h⟩ := h
  exact ⟨_, SqT.of h, .cons den_int (.cons den_int (.cons den_int .nil))⟩
theorem den_posts {K : PySem.W.Frag} {H : Hp} {n : Nat} {a : Addr} {ts : List V} {ps : List Pst} (h : SqL K H a ts) (hT : Posts H ts ps) : Den K H (n + 2) (.ref a) (.lst (ps.map pD)) := by
  refine ⟨_, h, ?_⟩
  clear h
  induction hT with
  | nil => exact .nil
  | cons a _ ih => exact .cons (den_post a) ih
def wD (hs : List Int) (ps : List Pst) : DV := .lst [.lst (hs.map DV.int), .lst (ps.map pD)]
theorem den_two {K : PySem.W.Frag} {H : Hp} {a b c : Addr} {hs : List Int} {ts : List V} {ps : List Pst} (h : H c = some (.lst [.ref a, .ref b])) (ha : H a = some (.lst (hs.map V.int))) (hb : H b = some (.lst ts)) (hT : Posts H ts ps) : Den K H 3 (.ref c) (wD hs ps) :=
  ⟨_, SqL.of h, .cons (den_ints (SqL.of ha)) (.cons (den_posts (SqL.of hb) hT) .nil)⟩
end My

set_option Elab.async false
set_option linter.all false
set_option maxRecDepth 100000
set_option maxHeartbeats 1000000
namespace My
open PySem L2
def RowV (H : Hp) (v : V) (row : List Int) : Prop := ∃ t, v = .ref t ∧ H t = some (.lst (row.map V.int))
abbrev Rows (H : Hp) : List V → List (List Int) → Prop := Paired (RowV H)
theorem Rows.mono {H H' : Hp} (g : Same H H') {ts : List V} {rows : List (List Int)} (h : Rows H ts rows) : Rows H' ts rows := Paired.mapP h fun _ _ ⟨t, e, q⟩ => ⟨t, e, g _ _ q⟩
theorem Rows.len {H : Hp} {ts : List V} {rows : List (List Int)} (h : Rows H ts rows) : ts.length = rows.length := Paired.length h
theorem Rows.at' {H : Hp} {ts : List V} {rows : List (List Int)} (h : Rows H ts rows) {i : Nat} {v : V} (e : ts[i]? = some v) : ∃ row, rows[i]? = some row ∧ RowV H v row := Paired.get' h e
theorem Rows.get {H : Hp} {ts : List V} {rows : List (List Int)} (h : Rows H ts rows) {i : Nat} {row : List Int} (e : rows[i]? = some row) : ∃ t, ts[i]? = some (.ref t) ∧ H t = some (.lst (row.map V.int)) := by
  obtain ⟨v, e1, t, rfl, q⟩ := Paired.getR h e
  exact ⟨t, e1, q⟩
theorem Rows.snoc {H : Hp} {ts : List V} {rows : List (List Int)} {v : V} {row : List Int} (h : Rows H ts rows) (hv : RowV H v row) : Rows H (ts ++ [v]) (rows ++ [row]) := by
  induction h with
  | nil => exact .cons hv .nil
  | cons a _ ih => exact .cons a ih
theorem Rows.off {H : Hp} {ts : List V} {rows : List (List Int)} {l : Addr} {o : HO} (h : Rows H ts rows) (hl : V.ref l ∉ ts) : Rows (upd H l o) ts rows := by
  induction h with
  | nil => exact .nil
  | cons a _ ih =>
    obtain ⟨t, rfl, q⟩ := a
    have ne : t ≠ l := fun z => hl (by rw [z]; exact List.mem_cons_self)
    exact .cons ⟨t, rfl, by rw [upd_ne ne]; exact q⟩ (ih fun z => hl (List.mem_cons_of_mem _ z))
theorem Rows.tracked {H : Hp} {ts : List V} {rows : List (List Int)} (h : Rows H ts rows) {l : Addr} (hl : V.ref l ∈ ts) : ∃ row : List Int, H l = some (.lst (row.map V.int)) := by
  induction h with
  | nil => cases hl
  | cons a _ ih =>
    obtain ⟨t, rfl, q⟩ := a
    rcases List.mem_cons.mp hl with z | z
    · cases z
      exact ⟨_, q⟩
    · exact ih z
theorem Rows.notin {H : Hp} {ts : List V} {rows : List (List Int)} (h : Rows H ts rows) {l : Addr} (hl : H l = none) : V.ref l ∉ ts := fun z => by
  obtain ⟨row, q⟩ := h.tracked z
  rw [hl] at q
  cases q
structure RotaOk (d : Int) (n m : Nat) (rows : List (List Int)) : Prop where
  len : rows.length = n
  rl : ∀ r ∈ rows, (r.length : Int) = d
  v : ∀ r ∈ rows, ∀ x ∈ r, 0 ≤ x ∧ x ≤ (m : Int)
def val (rows : List (List Int)) (j day : Nat) : Int := ((rows[j]?.getD [])[day]?).getD 0
def held (rows : List (List Int)) (day : Nat) (post : Int) (i : Nat) : List Int := ((List.range i).filter fun j => decide (val rows j day = post)).map fun j : Nat => (j : Int)
structure CopyI (H : Hp) (D : Addr) (rows : List (List Int)) (i : Nat) (H' : Hp) : Prop where
  ex : ∃ us' : List V, us'.length = i ∧ Same H H' ∧ H' D = some (.lst us') ∧ Rows H' us' (rows.take i) ∧ us'.Nodup ∧ ∀ t, V.ref t ∈ us' → t ≠ D ∧ H t = none
theorem CopyI.start {H : Hp} {D : Addr} {rows : List (List Int)} (hD : H D = none) : CopyI H D rows 0 (upd H D (.lst [])) :=
  ⟨[], rfl, same_new hD _, upd_same, by rw [List.take_zero]; exact .nil, List.nodup_nil, fun t z => by cases z⟩
theorem CopyI.same {H H' : Hp} {D : Addr} {rows : List (List Int)} {i : Nat} (h : CopyI H D rows i H') : Same H H' := by
  obtain ⟨_, _, g, _⟩ := h.ex
  exact g
theorem CopyI.step {H H' : Hp} {D l : Addr} {rows : List (List Int)} {i : Nat} {row : List Int} (h : CopyI H D rows i H') (hD : H D = none) (hrow : rows[i]? = some row) (hl : H' l = none) (hi : i ≤ 900) :
    ∃ xs, upd H' l (.lst (row.map V.int)) D = some (.lst xs) ∧ xs.length < sizeLine ∧ CopyI H D rows (i + 1) (upd (upd H' l (.lst (row.map V.int))) D (.lst (xs ++ [.ref l]))) := by
  obtain ⟨us', hu, g, e, hR, nd, fr⟩ := h.ex
  have g2 := same_new hl (.lst (row.map V.int))
  have ne : D ≠ l := ne_of_none e hl
  have hlu : V.ref l ∉ us' := hR.notin hl
  refine ⟨us', g2 _ _ e, small1000 (by omega), us' ++ [.ref l], by rw [List.length_append, hu]; rfl, same_upd hD (g.trans g2) _, upd_same, ?_, ?_, fun t ht => ?_⟩
  · refine Rows.off ?_ ?_
    · rw [List.take_add_one, hrow]
      exact Rows.snoc (hR.mono g2) ⟨l, rfl, upd_same⟩
    · intro z
      rcases List.mem_append.mp z with z | z
      · exact (fr D z).1 rfl
      · exact ne (V.ref.inj (List.mem_singleton.mp z))
  · rw [List.nodup_append]
    refine ⟨nd, by simp, fun a ha b hb => ?_⟩
    rw [List.mem_singleton.mp hb]
    exact fun z => hlu (z ▸ ha)
  · rcases List.mem_append.mp ht with z | z
    · exact fr t z
    · have : t = l := V.ref.inj (List.mem_singleton.mp z)
      subst this
      exact ⟨ne.symm, g.free hl⟩
theorem CopyI.done {H H' : Hp} {D : Addr} {rows : List (List Int)} {i : Nat} (h : CopyI H D rows i H') (hi : i = rows.length) :
    ∃ us' : List V, Same H H' ∧ H' D = some (.lst us') ∧ Rows H' us' rows ∧ us'.Nodup ∧ ∀ t, V.ref t ∈ us' → t ≠ D ∧ H t = none := by
  obtain ⟨us', hu, g, e, hR, nd, fr⟩ := h.ex
  rw [hi, List.take_length] at hR
  exact ⟨us', g, e, hR, nd, fr⟩
theorem RotaOk.day {d : Int} {n m : Nat} {rows : List (List Int)} (h : RotaOk d n m rows) {day : Nat} (hd : (day : Int) < d) : ∀ row ∈ rows, day < row.length := fun row hr => by
  have := h.rl row hr
  omega
end My

set_option Elab.async false
set_option linter.all false
set_option maxRecDepth 100000
set_option maxHeartbeats 1000000
namespace My
open PySem L2
def isRow (d : Int) (h : Int) (ps : List Pst) (row : List Int) : Bool := decide ((row.length : Int) = d) && row.all fun v => decide (v ∈ ch h ps)
def rowB (d : Int) (hs : List Int) (ps : List Pst) (rows : List (List Int)) (j : Nat) : Bool := isRow d (hs[j]?.getD 0) ps (rows[j]?.getD [])
theorem Ok.cut {d : Int} {hs : List Int} {ps : List Pst} (h : Ok d hs ps) : ∀ d' : Int, 1 ≤ d' → d' ≤ 31 → Ok d' (hs.take 4) (ps.take 2) := fun d' h1 h2 =>
  ⟨h1, h2, fun x hx => h.h x (List.mem_of_mem_take hx), by rw [List.length_take]; have := h.hl; omega, fun x hx => h.p x (List.mem_of_mem_take hx), by rw [List.length_take]; have := h.pl; omega⟩
end My

set_option Elab.async false
set_option linter.all false
set_option maxRecDepth 100000
set_option maxHeartbeats 1000000
namespace My
open PySem L2
structure RotaT (d : Int) (hs : List Int) (ps : List Pst) (i : Nat) (rows : List (List Int)) : Prop where
  len : rows.length = i
  ok : ∀ j, j < i → rowB d hs ps rows j = true
section
variable {d : Int} {hs : List Int} {ps : List Pst} {i : Nat} {rows : List (List Int)} {row : List Int} {x : Int}
theorem RotaT.snoc (h : RotaT d hs ps i rows) (hh : hs[i]? = some x) (hr : isRow d x ps row = true) : RotaT d hs ps (i + 1) (rows ++ [row]) := by
  refine ⟨by rw [List.length_append, h.len]; rfl, fun j hj => ?_⟩
  unfold rowB
  by_cases e : j = i
  · subst e
    rw [hh, ← h.len, List.getElem?_append_right (Nat.le_refl _), Nat.sub_self]
    exact hr
  · have hj' : j < i := by omega
    rw [List.getElem?_append_left (by rw [h.len]; exact hj')]
    exact h.ok j hj'
end
section
variable {H : Hp} {us : List V} {rows : List (List Int)} {v : V} {row : List Int}
theorem Rows.ins : ∀ (k : Nat) {us : List V} {rows : List (List Int)}, Rows H us rows → RowV H v row → Rows H (us.take k ++ v :: us.drop k) (rows.take k ++ row :: rows.drop k)
  | 0, _, _, h, hv => .cons hv h
  | _ + 1, _, _, .nil, hv => .cons hv .nil
  | k + 1, _, _, .cons a r, hv => .cons a (Rows.ins k r hv)
theorem Rows.del : ∀ (k : Nat) {us : List V} {rows : List (List Int)}, Rows H us rows → Rows H (us.eraseIdx k) (rows.eraseIdx k)
  | _, _, _, .nil => by simp only [List.eraseIdx_nil]; exact .nil
  | 0, _, _, .cons _ r => r
  | k + 1, _, _, .cons a r => .cons a (Rows.del k r)
theorem nodup_ins {α : Type} {us : List α} {v : α} (k : Nat) (nd : us.Nodup) (hv : v ∉ us) : (us.take k ++ v :: us.drop k).Nodup := by
  refine (List.perm_middle.nodup_iff).mpr ?_
  rw [List.take_append_drop]
  exact List.nodup_cons.mpr ⟨hv, nd⟩
theorem mem_ins {α : Type} {us : List α} {v x : α} {k : Nat} (h : x ∈ us.take k ++ v :: us.drop k) : x = v ∨ x ∈ us := by
  rcases List.mem_append.mp h with z | z
  · exact .inr (List.mem_of_mem_take z)
  · rcases List.mem_cons.mp z with z | z
    · exact .inl z
    · exact .inr (List.mem_of_mem_drop z)
theorem len_ins {α : Type} {us : List α} {v : α} {k : Nat} : (us.take k ++ v :: us.drop k).length = us.length + 1 := by
  rw [List.length_append, List.length_cons, List.length_take, List.length_drop]
  omega
end
def CellV (H : Hp) (v : V) (q : Int × Int) : Prop := ∃ t, v = .ref t ∧ H t = some (.tup [.int q.1, .int q.2])
abbrev Cells (H : Hp) : List V → List (Int × Int) → Prop := Paired (CellV H)
theorem Cells.mono {H H' : Hp} (g : Same H H') {ts : List V} {qs : List (Int × Int)} (h : Cells H ts qs) : Cells H' ts qs := Paired.mapP h fun _ _ ⟨t, e, q⟩ => ⟨t, e, g _ _ q⟩
theorem Cells.len {H : Hp} {ts : List V} {qs : List (Int × Int)} (h : Cells H ts qs) : ts.length = qs.length := Paired.length h
theorem Cells.snoc {H : Hp} {ts : List V} {qs : List (Int × Int)} {v : V} {q : Int × Int} (h : Cells H ts qs) (hv : CellV H v q) : Cells H (ts ++ [v]) (qs ++ [q]) := by
  induction h with
  | nil => exact .cons hv .nil
  | cons a _ ih => exact .cons a ih
theorem Cells.get' {H : Hp} {ts : List V} {qs : List (Int × Int)} (h : Cells H ts qs) {i : Nat} {v : V} (e : ts[i]? = some v) : ∃ q, qs[i]? = some q ∧ CellV H v q := Paired.get' h e
theorem Cells.off {H : Hp} {ts : List V} {qs : List (Int × Int)} {l : Addr} {o : HO} (h : Cells H ts qs) (hl : ∀ xs, H l ≠ some (.tup xs)) : Cells (upd H l o) ts qs := Paired.mapP h fun _ _ ⟨t, e, q⟩ => ⟨t, e, by rw [upd_ne fun z => hl _ (by rw [← z]; exact q)]; exact q⟩
def cl (n k : Nat) : List (Int × Int) := (List.range k).map fun j => (((j % n : Nat) : Int), ((j / n : Nat) : Int))
structure Flt (H : Hp) (r : Addr) (us : List V) (n L : Nat) (H' : Hp) (us' : List V) (rows' : List (List Int)) : Prop where
  fr : ∀ c o, H c = some o → c ≠ r → V.ref c ∉ us → H' c = some o
  at_ : H' r = some (.lst us')
  rs : Rows H' us' rows'
  nd : us'.Nodup
  mem : ∀ t, V.ref t ∈ us' → V.ref t ∈ us ∨ H t = none
  nr : V.ref r ∉ us'
  len : rows'.length ≤ n
  rl : ∀ row ∈ rows', row.length ≤ L
section
variable {H H' H'' : Hp} {r : Addr} {us us' : List V} {rows rows' : List (List Int)} {n L : Nat}
theorem Rows.nor (hE : H r = some (.lst us)) (hR : Rows H us rows) : V.ref r ∉ us := fun z => by
  obtain ⟨row, e⟩ := hR.tracked z
  rw [hE] at e
  have e' : us = row.map V.int := by cases e; rfl
  rw [e'] at z
  obtain ⟨_, _, q⟩ := List.mem_map.mp z
  cases q
theorem Flt.start (hE : H r = some (.lst us)) (hR : Rows H us rows) (nd : us.Nodup) (hl : rows.length ≤ n) (hr : ∀ row ∈ rows, row.length ≤ L) : Flt H r us n L H us rows :=
  ⟨fun _ _ h _ _ => h, hE, hR, nd, fun _ h => .inl h, hR.nor hE, hl, hr⟩
theorem Flt.mono (F : Flt H r us n L H' us' rows') (g : Same H' H'') : Flt H r us n L H'' us' rows' :=
  ⟨fun c o h1 h2 h3 => g _ _ (F.fr c o h1 h2 h3), g _ _ F.at_, F.rs.mono g, F.nd, F.mem, F.nr, F.len, F.rl⟩
theorem Flt.more {m M : Nat} (F : Flt H r us n L H' us' rows') (h1 : n ≤ m) (h2 : L ≤ M) : Flt H r us m M H' us' rows' :=
  ⟨F.fr, F.at_, F.rs, F.nd, F.mem, F.nr, Nat.le_trans F.len h1, fun row h => Nat.le_trans (F.rl row h) h2⟩
theorem Flt.ins {p : Addr} {row : List Int} (k : Nat) (F : Flt H r us n L H' us' rows') (hp : H' p = none) (hr : row.length ≤ L) :
    Flt H r us (n + 1) L (upd (upd H' p (.lst (row.map V.int))) r (.lst (us'.take k ++ .ref p :: us'.drop k))) (us'.take k ++ .ref p :: us'.drop k) (rows'.take k ++ row :: rows'.drop k) := by
  have g := same_new hp (.lst (row.map V.int))
  have npr : p ≠ r := fun z => by rw [z, F.at_] at hp; cases hp
  have hnp : V.ref p ∉ us' := F.rs.notin hp
  have hnr : V.ref r ∉ us'.take k ++ .ref p :: us'.drop k := fun z => by
    rcases mem_ins z with z | z
    · exact npr (V.ref.inj z).symm
    · exact F.nr z
  refine ⟨fun c o h1 h2 h3 => ?_, upd_same, Rows.off (Rows.ins k (F.rs.mono g) ⟨p, rfl, upd_same⟩) hnr, nodup_ins k F.nd hnp, fun t ht => ?_, hnr, ?_, fun y hy => ?_⟩
  · rw [upd_ne h2]
    exact g _ _ (F.fr c o h1 h2 h3)
  · rcases mem_ins ht with z | z
    · have e : t = p := V.ref.inj z
      subst e
      by_cases hu : V.ref t ∈ us
      · exact .inl hu
      · refine .inr ?_
        cases e : H t with
        | none => rfl
        | some o => have := F.fr t o e npr hu; rw [hp] at this; cases this
    · exact F.mem t z
  · rw [len_ins]
    exact Nat.succ_le_succ F.len
  · rcases mem_ins hy with z | z
    · rw [z]; exact hr
    · exact F.rl y z
theorem Flt.del (k : Nat) (F : Flt H r us n L H' us' rows') : Flt H r us n L (upd H' r (.lst (us'.eraseIdx k))) (us'.eraseIdx k) (rows'.eraseIdx k) := by
  have hnr : V.ref r ∉ us'.eraseIdx k := fun z => F.nr (List.mem_of_mem_eraseIdx z)
  refine ⟨fun c o h1 h2 h3 => by rw [upd_ne h2]; exact F.fr c o h1 h2 h3, upd_same, Rows.off (F.rs.del k) hnr, F.nd.sublist (List.eraseIdx_sublist us' k), fun t ht => F.mem t (List.mem_of_mem_eraseIdx ht), hnr, ?_, fun y hy => F.rl y (List.mem_of_mem_eraseIdx hy)⟩
  exact Nat.le_trans (List.eraseIdx_sublist rows' k).length_le F.len
end
end My

set_option Elab.async false
set_option linter.all false
set_option maxRecDepth 100000
set_option maxHeartbeats 1000000
namespace My
open PySem L2 PySem.Spec PyProof.Rows
structure InsG (K : PySem.W.Frag) (C : Addr) : Prop where
  ha : PySem.W.findIn K (.ref C) "__class__" = some (some (.builtin "object.__class__"))
  hn : PySem.W.specialIn K (.builtin "object.__class__") "__get__" = some (some (.builtin "getset_descriptor.__get__"))
  htk : PySem.W.takesIn K (.builtin "object.__class__") = some true
  hm : PySem.W.mroIn K C (.type "object") = some true
section
variable {X : Cx}
end
end My
namespace My
open PySem L2
end My

set_option Elab.async false
set_option linter.all false
set_option maxRecDepth 100000
set_option maxHeartbeats 1000000
namespace My
open PySem L2
theorem take_one {α : Type} {xs : List α} {i : Nat} {x : α} (h : xs[i]? = some x) : xs.take (i + 1) = xs.take i ++ [x] := by
  rw [List.take_succ, h]
  rfl
def Tups (H H' : Hp) : Prop := ∀ a xs, H a = some (.tup xs) → H' a = some (.tup xs)
theorem Tups.trans {H H' H'' : Hp} (g : Tups H H') (g' : Tups H' H'') : Tups H H'' := fun a xs e => g' _ _ (g _ _ e)
structure Prt where
  h : Int
  d : Int
  p : Int
  n : Int
def PrtV (H : Hp) (v : V) (q : Prt) : Prop := ∃ t, v = .ref t ∧ H t = some (.tup [.int q.h, .int q.d, .int q.p, .int q.n])
abbrev Prts (H : Hp) : List V → List Prt → Prop := Paired (PrtV H)
theorem Prts.mono {H H' : Hp} (g : Tups H H') {ts : List V} {qs : List Prt} (h : Prts H ts qs) : Prts H' ts qs := Paired.mapP h fun _ _ ⟨t, e, q⟩ => ⟨t, e, g _ _ q⟩
structure Lin where
  ps : List Prt
  b : Int
def LinV (H : Hp) (v : V) (l : Lin) : Prop := ∃ t u ts, v = .ref t ∧ H t = some (.tup [.ref u, .int l.b]) ∧ H u = some (.tup ts) ∧ Prts H ts l.ps
abbrev Lins (H : Hp) : List V → List Lin → Prop := Paired (LinV H)
theorem LinV.mono {H H' : Hp} (g : Tups H H') {v : V} {l : Lin} (h : LinV H v l) : LinV H' v l := by
  obtain ⟨t, u, ts, e, h1, h2, h3⟩ := h
  exact ⟨t, u, ts, e, g _ _ h1, g _ _ h2, h3.mono g⟩
theorem Lins.mono {H H' : Hp} (g : Tups H H') {ts : List V} {ls : List Lin} (h : Lins H ts ls) : Lins H' ts ls := Paired.mapP h fun _ _ => LinV.mono g
def npI (ps : List Pst) (i : Nat) : List Int := ((List.range i).filter fun j => ngt ps (j + 1)).map fun j : Nat => 1 + (j : Int)
def np (ps : List Pst) : List Int := npI ps ps.length
end My
namespace My
open PySem L2
def hm (h m : Int) : List (Str × V) := putF "many" (.int m) (putF "hand" (.int h) [])
end My
namespace My
open PySem L2
end My
namespace My
open PySem L2
end My

set_option Elab.async false
set_option linter.all false
set_option maxRecDepth 100000
set_option maxHeartbeats 1000000
namespace My
open PySem L2
def at_ (bs : List Bool) (j : Nat) : Bool := bs[j]?.getD false
end My
namespace My
open PySem L2
theorem RotaOk.cut {d : Int} {n m : Nat} {rows : List (List Int)} (h : RotaOk (d + 1) n m rows) (hd : 0 ≤ d) : RotaOk d n m (rows.map fun r => r.take d.toNat) := by
  refine ⟨by rw [List.length_map]; exact h.len, fun r hr => ?_, fun r hr x hx => ?_⟩
  · obtain ⟨r0, h0, rfl⟩ := List.mem_map.mp hr
    have := h.rl r0 h0
    rw [List.length_take]
    omega
  · obtain ⟨r0, h0, rfl⟩ := List.mem_map.mp hr
    exact h.v r0 h0 x (List.mem_of_mem_take hx)
/-- a ward, a table of it and its posts -/
def AskV (C : Addr) (n : Nat) (H : Hp) (v : V) : Prop := ∃ (t y r pa : Addr) (d : Int) (hs : List Int) (ps : List Pst) (ts us : List V) (rows : List (List Int)), v = .ref t ∧ H t = some (.tup [.ref y, .ref r, .ref pa]) ∧ WardAt C H y d hs ps ∧ Ok d hs ps ∧ H r = some (.lst us) ∧ Rows H us rows ∧ RotaOk d hs.length ps.length rows ∧ H pa = some (.lst ts) ∧ Posts H ts ps ∧ hs.length = n
theorem AskV.mono {C : Addr} {n : Nat} {H H' : Hp} {v : V} (g : Same H H') (h : AskV C n H v) : AskV C n H' v := by
  obtain ⟨t, y, r, pa, d, hs, ps, ts, us, rows, e, h1, h2, h3, h4, h5, h6, h7, h8, h9⟩ := h
  exact ⟨t, y, r, pa, d, hs, ps, ts, us, rows, e, g _ _ h1, h2.mono g, h3, g _ _ h4, h5.mono g, h6, g _ _ h7, h8.mono g, h9⟩
/-- a table's rows, each cut -/
structure CutI (H : Hp) (D : Addr) (rows : List (List Int)) (n i : Nat) (H' : Hp) : Prop where
  ex : ∃ us, Same H H' ∧ H' D = some (.lst us) ∧ Rows H' us ((rows.take i).map fun r => r.take n) ∧ ∀ t, V.ref t ∈ us → t ≠ D
theorem CutI.start {H : Hp} {D : Addr} {rows : List (List Int)} {n : Nat} (hD : H D = none) : CutI H D rows n 0 (upd H D (.lst [])) := ⟨[], same_new hD _, upd_same, .nil, fun t z => by cases z⟩
theorem CutI.step {H H' : Hp} {D l : Addr} {rows : List (List Int)} {n i : Nat} {row : List Int} (h : CutI H D rows n i H') (hD : H D = none) (hrow : rows[i]? = some row) (hl : H' l = none) (hi : i ≤ 900) :
    ∃ xs, upd H' l (.lst ((row.take n).map V.int)) D = some (.lst xs) ∧ xs.length < sizeLine ∧ CutI H D rows n (i + 1) (upd (upd H' l (.lst ((row.take n).map V.int))) D (.lst (xs ++ [.ref l]))) := by
  obtain ⟨us, g, e, hR, fr⟩ := h.ex
  have gl := same_new hl (.lst ((row.take n).map V.int))
  have hul := hR.len
  rw [List.length_map, List.length_take] at hul
  refine ⟨us, gl _ _ e, small1000 (by omega), us ++ [.ref l], same_upd hD (g.trans gl) _, upd_same, ?_, fun t ht => ?_⟩
  · rw [take_one hrow, List.map_append]
    refine Rows.off (Rows.snoc (hR.mono gl) ⟨l, rfl, upd_same⟩) fun z => ?_
    rcases List.mem_append.mp z with z | z
    · exact fr D z rfl
    · exact ne_of_none e hl (V.ref.inj (List.mem_singleton.mp z))
  · rcases List.mem_append.mp ht with z | z
    · exact fr t z
    · rw [V.ref.inj (List.mem_singleton.mp z)]
      exact (ne_of_none e hl).symm
end My
namespace My
open PySem L2
end My
namespace My
open PySem L2
theorem for_of {wi : TI} {g : TG} {tb : TS} {D : Ends} {σ : St} {H : Hp} (h : ∀ B : TS, B = tb → tFor wi g B D σ H) : tFor wi g tb D σ H := h tb rfl
end My

set_option Elab.async false
set_option linter.all false
set_option maxRecDepth 100000
set_option maxHeartbeats 1000000
namespace L2
open PySem PySem.Spec PyProof.Rows
section
variable {prog : Program} {w : World} {A : Around} {E : Value → Shared → Prop} {h : Heap} {g : Array GenState} {d : Drawn} {t : Nat} {os : OsState}
variable {nm q : Str} {C N : Addr} {bs bm bmB : List Value} {hdct : Bool} {sn : List Str} {sub : List Value} {ab : Bool} {col : Option Bool} {dd : Option Addr} {k0 k1 k2 k3 k5 : Option Value} {B newId initId : String}
theorem type_call_init (F : ExcBaseFacts B newId initId bmB) (T : OwnTail h bmB bm) {mN : Str → Option Value} {rest : List Value} {fI : Addr} {oI : Obj} {Q : PySem.Fin → Shared → Prop}
    (hC : h.get? C = some (excClassObj nm q C N bs bm hdct sn sub ab col dd k0 k1 k2 k3 k5 newId)) (hn : h.Ns N mN) (hi : mN "__init__" = some (.ref fI))
    (hfI : h.get? fI = some oI) (hfc : oI.cls = .type "function")
    (hq : codeAny (model prog w) A (.call (.ref fI) ⟨.ref (h.objs.size + 1) :: rest, []⟩) (fun r s' => match r with
      | .ok (.ret v) => v = .none ∧ Q (.done (.ret (.ref (h.objs.size + 1)))) s'
      | .ok _ => False
      | .error e => E e s') ⟨(h.push { cls := .type "tuple", data := .seq rest.toArray }).push { cls := .ref C, data := .fields #[.ref h.objs.size, .none, .none, .none, .bool false, .none] }, g, d, t, os⟩) (hrest : rest.length ≤ sizeLine) :
    wpAny (model prog w) A (Builtin.«type.__call__» ⟨.ref C :: rest, []⟩) Q E ⟨h, g, d, t, os⟩ := by
  repeat (first | with_reducible refine wpAny_loadPart_at hC ?_ | with_reducible refine wpAny_madeBy_exc hC ?_ | wp_step)
  refine codeAny_call_builtin_code (Code.quiet_builtin _ F.quiet) (wpAny_check_new_subT F T hC ?_)
  refine codeAny_exc_new_subT F T hC ?_ hrest
  show wpAny _ _ _ _ _ _
  have hC1 := Heap.get?_push_of_some { cls := .ref C, data := .fields #[.ref h.objs.size, .none, .none, .none, .bool false, .none] }
    (Heap.get?_push_of_some { cls := .type "tuple", data := .seq rest.toArray } hC)
  have hfI1 := Heap.get?_push_of_some { cls := .ref C, data := .fields #[.ref h.objs.size, .none, .none, .none, .bool false, .none] }
    (Heap.get?_push_of_some { cls := .type "tuple", data := .seq rest.toArray } hfI)
  have hn1 : ((h.push { cls := .type "tuple", data := .seq rest.toArray }).push { cls := .ref C, data := .fields #[.ref h.objs.size, .none, .none, .none, .bool false, .none] }).Ns N mN :=
    let ⟨o, es, ep, e, r⟩ := hn; ⟨o, es, ep, Heap.get?_push_of_some _ (Heap.get?_push_of_some _ e), r⟩
  have hget : ((h.push { cls := .type "tuple", data := .seq rest.toArray }).push
      { cls := .ref C, data := .fields #[.ref h.objs.size, .none, .none, .none, .bool false, .none] }).get? (h.objs.size + 1) = some
      { cls := .ref C, data := .fields #[.ref h.objs.size, .none, .none, .none, .bool false, .none] } := by heap_get
  have hcC : (Value.ref C :: bm).contains (.ref C) = true := by simp
  have T1 := T.keeps (h' := (h.push { cls := .type "tuple", data := .seq rest.toArray }).push { cls := .ref C, data := .fields #[.ref h.objs.size, .none, .none, .none, .bool false, .none] })
    fun b o e => Heap.get?_push_of_some _ (Heap.get?_push_of_some _ e)
  unfold isInstance
  repeat (first | with_reducible refine wpAny_loadPart_at hget ?_ | (with_reducible refine wpAny_isSubtype_exc hC1 ?_; rw [hcC]) | wp_step)
  show wpAny _ _ (typeLookup (.ref C) _) _ _ _
  refine wpAny_typeLookup_tail hC1 hn1 T1 F.mroIs F.init.lookup ?_
  rw [hi]
  refine wpAny_holding (wpAny_bind ?_)
  unfold bindSpecial
  refine wpAny_bind (wpAny_typeOf (T := "function") ⟨_, hfI1, hfc⟩ ?_)
  rw [if_pos (by decide)]
  refine wpAny_pure (wpAny_bind (wpAny_call (codeAny_mono hq fun r s' hr => ?_)))
  cases r with
  | error e => exact hr
  | ok fl =>
    cases fl with
    | ret v =>
      obtain ⟨rfl, hQ⟩ := hr
      refine wpAny_pure ?_
      wp_walk
      exact hQ
    | _ => exact False.elim hr
theorem call_init (F : ExcBaseFacts B newId initId bmB) (T : OwnTail h bmB bm) {mN : Str → Option Value} {rest : List Value} {fI : Addr} {oI : Obj} {R : Result → Shared → Prop}
    (hC : h.get? C = some (excClassObj nm q C N bs bm hdct sn sub ab col dd k0 k1 k2 k3 k5 newId)) (hn : h.Ns N mN) (hi : mN "__init__" = some (.ref fI))
    (hfI : h.get? fI = some oI) (hfc : oI.cls = .type "function")
    (hq : codeAny (model prog w) (A.under (.builtin "type.__call__" ⟨.ref C :: rest, []⟩)) (.call (.ref fI) ⟨.ref (h.objs.size + 1) :: rest, []⟩) (fun r s' => match r with
      | .ok (.ret v) => v = .none ∧ R (.ok (.ret (.ref (h.objs.size + 1)))) s'
      | .ok _ => False
      | .error e => R (.error e) s') ⟨(h.push { cls := .type "tuple", data := .seq rest.toArray }).push { cls := .ref C, data := .fields #[.ref h.objs.size, .none, .none, .none, .bool false, .none] }, g, d, t, os⟩) (hrest : rest.length ≤ sizeLine) :
    codeAny (model prog w) A (.call (.ref C) ⟨rest, []⟩) R ⟨h, g, d, t, os⟩ := by
  have f1 := tc_lookup
  have f2 := tc_bind (.ref C)
  have hT : (⟨h, g, d, t, os⟩ : Shared).TypeIs (.ref C) "type" := ⟨_, hC, rfl⟩
  refine codeAny_of_tree ?_
  show wpAny _ _ (callAny (.ref C) _) _ _ _
  repeat (any_goals (first | assumption | with_reducible refine wpAny_loadPart_at hC ?_ | wp_step))
  refine ⟨rfl, ?_⟩
  refine codeAny_call_builtin_at (Code.quiet_builtin _ (by decide +kernel)) entry_typeCall (wpAny_check_type_call_sub hC (type_call_init (hrest := hrest) F T hC hn hi hfI hfc ?_))
  exact hq
end
theorem ns_some_of {K : PySem.W.Frag} {h : Heap} {N : Addr} {mg : Str → Option Value} {n : Str} {v : Value} (X : K.In h) (G : h.Ns N mg) (e : PySem.W.nsIn K N n = some (some v)) : mg n = some v := by
  obtain ⟨o, es, ep, ho, hd, _, hf⟩ := G
  unfold PySem.W.nsIn at e
  split at e
  · rename_i c d es' n' sl q
    have := X _ _ q
    rw [ho] at this
    cases this
    cases hd
    split at e
    · rename_i en he
      cases e
      rw [← hf]
      unfold nsFind findBy
      rw [← Array.find?_toList, he]
      rfl
    · split at e <;> cases e
  · cases e
/-- an own exception class with an __init__ of its own (f) -/
def excInI (K : PySem.W.Frag) (C f : Addr) (bmB : List Value) (newId : String) : Bool := match K.lookup C with
  | some ⟨.type "type", _, .cls cd, sl⟩ => (match cd.mro, sl.toList with
    | .ref C' :: bm, [_, _, _, _, some (.builtin n), _] => C' == C && n == newId && !cd.hasDel && PySem.W.tailIn K bmB bm && PySem.W.nsOkIn K cd.ns && PySem.W.nsIn K cd.ns "__init__" == some (some (.ref f)) && cd.hasDict && PySem.W.nsIn K cd.ns "__setattr__" == some none
    | _, _ => false)
  | _ => false
structure ExcI (K : PySem.W.Frag) (mg : Str → Option Value) (x : Str) (C f : Addr) : Prop where
  at_ : mg x = some (.ref C)
  ok : excInI K C f bmV "ValueError.__new__" = true
theorem ExcI.obj {K : PySem.W.Frag} {mg : Str → Option Value} {x : Str} {C f : Addr} (c : ExcI K mg x C f) {h : Heap} (X : K.In h) : ∃ bm N nm q bs sn sub ab col dd k0 k1 k2 k3 k5 mN, h.get? C = some (excClassObj nm q C N bs bm true sn sub ab col dd k0 k1 k2 k3 k5 "ValueError.__new__") ∧ h.Ns N mN ∧ mN "__init__" = some (.ref f) ∧ mN "__setattr__" = none ∧ OwnTail h bmV bm := by
  have z := c.ok
  unfold excInI at z
  split at z
  · rename_i dd cd sl ho
    split at z
    · rename_i C' bm k0 k1 k2 k3 n k5 hm hs
      simp only [Bool.and_eq_true, beq_iff_eq, Bool.not_eq_true'] at z
      obtain ⟨⟨⟨⟨⟨⟨⟨e1, e2⟩, e3⟩, e4⟩, e5⟩, e6⟩, e7⟩, e8⟩ := z
      subst e1 e2
      obtain ⟨nm, bs, mro, ns, qn, hd, sn, sub, ab, col, del⟩ := cd
      dsimp only at hm e3 e5 e6 e7 e8
      subst hm e3 e7
      obtain ⟨sl⟩ := sl
      have hs' : sl = [k0, k1, k2, k3, some (.builtin "ValueError.__new__"), k5] := hs
      subst hs'
      exact ⟨bm, ns, nm, qn, bs, sn, sub, ab, col, dd, k0, k1, k2, k3, k5, _, X _ _ ho, .of_isNs (PySem.W.isNs_of_in X e5), ns_some_of X (.of_isNs (PySem.W.isNs_of_in X e5)) e6, PySem.W.nsMap_none_of_in X e5 e8, PySem.W.tail_of_in X e4⟩
    · cases z
  · cases z
/-- an exception just made: no dict yet -/
abbrev IsExcN (a C : Addr) (h : Heap) : Prop := ∃ t0 : Addr, h.get? a = some { cls := .ref C, data := .fields #[.ref t0, .none, .none, .none, .bool false, .none] }
abbrev excN (a C : Addr) : HO := .ext (IsExcN a C)
theorem excN_ok {P : Program} {w : World} {H : Hp} {h : Heap} {a C : Addr} (x : IsExcN a C h) : ObjOk P w H h a (excN a C) := by
  obtain ⟨t0, h1⟩ := x
  exact ⟨⟨t0, h1⟩, ⟨_, h1⟩, fun g1 g2 ⟨t1, e1⟩ k => ⟨t1, k _ e1⟩⟩
theorem excN_at {P : Program} {w : World} {H : Hp} {h : Heap} {a C : Addr} (k : HOk P w H h) (e : H a = some (excN a C)) : IsExcN a C h := (show ObjOk P w H h a (.ext (IsExcN a C)) from k a _ e).1
theorem fn_at {K : PySem.W.Frag} {f : Addr} {v : Value} (e : PySem.W.typeIn K (.ref f) = some v) : ∃ o, K.lookup f = some o ∧ o.cls = v := by
  obtain ⟨o, h1, h2⟩ := Option.map_eq_some_iff.mp (show (K.lookup f).map (·.cls) = some v from e)
  exact ⟨o, h1, h2⟩
def tExcI (C : Addr) (sp : Sp) (E : XK) (t : TA) : TE := fun σ H Q => t σ H fun vs H1 => vs.length ≤ sizeLine ∧ ∀ x, H1 x = none → sp (.ref x :: vs) (upd H1 x (excN x C)) (fun v H2 => v = .non ∧ Q (.ref x) H2) E
section
variable {X : Cx} {CX : CXT} {k : Nat} {f C : Addr} {fd : FuncData} {ps : List Str} {sp : Sp} {E : XK} {x : Str} {p pos : Pos} {e : Expr} {es : List Expr} {t : TA}
theorem run_excI {pins : List (Addr × Obj)} {σ : St} {H : Hp} {s : Shared} {Q : VK} {us : List Value} {vs : List V} (c : ExcI X.K X.mg x C f) (hf : PySem.W.isFn X.K (.ref f) = true) (F : FnOk X.prog X.w X.K X.mg X.base CX k f fd ps sp) (hr : Room (k + 1) X.A) (hb : Binds X.K fd ps [])
    (hx : Passes CX X E) (I : Inv X pins σ H s) (r : Vals vs us) (hlen : vs.length ≤ sizeLine)
    (h : ∀ x, H x = none → sp (.ref x :: vs) (upd H x (excN x C)) (fun v H2 => v = .non ∧ Q (.ref x) H2) E) :
    wpAny (model X.prog X.w) X.A (call (.ref C) us) (EP X pins σ Q) X.xe s := by
  obtain ⟨bm, Na, nm, q, bs, sn, sub, ab, col, dd, k0, k1, k2, k3, k5, mN, hC, hN, hni, hns, TL⟩ := c.obj I.kIn
  have hft := beq_iff_eq.mp hf
  obtain ⟨hp, g, d, tk, os⟩ := s
  have hget : ((hp.push { cls := .type "tuple", data := .seq us.toArray }).push
      { cls := .ref C, data := .fields #[.ref hp.objs.size, .none, .none, .none, .bool false, .none] }).get? (hp.objs.size + 1) = some
      { cls := .ref C, data := .fields #[.ref hp.objs.size, .none, .none, .none, .bool false, .none] } := by heap_get
  obtain ⟨hn, I2⟩ := I.anew (t := tk) (a := hp.objs.size + 1) (ob := excN (hp.objs.size + 1) C) (h' := (hp.push { cls := .type "tuple", data := .seq us.toArray }).push { cls := .ref C, data := .fields #[.ref hp.objs.size, .none, .none, .none, .bool false, .none] })
    (fun b o e => Heap.get?_push_of_some _ (Heap.get?_push_of_some _ e)) (Heap.get?_none_of_le (Nat.le_succ _)) (excN_ok ⟨_, hget⟩)
  have hq := h _ hn
  have r2 : Vals (V.ref (hp.objs.size + 1) :: vs) (Value.ref (hp.objs.size + 1) :: us) := .cons rfl r
  have hl : (Value.ref (hp.objs.size + 1) :: us).length = ps.length := by
    have e := r2.length
    rw [F.len _ _ _ _ hq] at e
    exact e.symm
  obtain ⟨oI, hoI, hoc⟩ := fn_at hft
  have bd := hb ⟨(hp.push { cls := .type "tuple", data := .seq us.toArray }).push { cls := .ref C, data := .fields #[.ref hp.objs.size, .none, .none, .none, .bool false, .none] }, g, d, tk, os⟩ (Value.ref (hp.objs.size + 1) :: us) I2.kIn (by rw [List.append_nil]; exact hl)
  rw [List.append_nil] at bd
  refine wpAny_call (call_init PySem.F.excBase_ValueError TL hC hN hni (I.kIn _ _ hoI) hoc (codeAny_mono (F.run _ X.stack _ _ ⟨Value.ref (hp.objs.size + 1) :: us, []⟩ (Value.ref (hp.objs.size + 1) :: us) _ _ E (hr.make C us [])
    (I2.env0.make C us []) bd r2 hq) fun r s' hq' => ?_) (by rw [← r.length]; exact hlen))
  cases r with
  | error e => exact hx pins σ _ _ e s' I2 hq'
  | ok fl =>
    cases fl with
    | ret u =>
      obtain ⟨v, H', I3, rv, ev, q3⟩ := I2.after hq'
      subst ev
      exact ⟨rv, ⟨V.ref (hp.objs.size + 1), H', I3, rfl, q3⟩⟩
    | next => exact False.elim hq'
    | brk => exact False.elim hq'
    | cont => exact False.elim hq'
theorem pe_excI (c : ExcI X.K X.mg x C f) (hf : PySem.W.isFn X.K (.ref f) = true) (hk : PySem.W.keepIn X.K (.ref C) = true) (F : FnOk X.prog X.w X.K X.mg X.base CX k f fd ps sp) (hr : Room (k + 1) X.A) (hg : Gl X x) (hb : Binds X.K fd ps []) (hx : Passes CX X E)
    (ha : PA X (e :: es) t) (hdb : (x == ("__debug__" : Str)) = false := by decide) (he : starEach (e :: es) X.env = (false, eval e X.env) :: starEach es X.env := by rfl) (hpl : (backTo pos (starEach es X.env)).any (·.1) = false := by rfl) :
    PE X (.Call (.Name x p) (e :: es) [] pos) (tExcI C sp E t) := by
  intro pins s σ H Q I h
  refine wpAny_Call_Name_kw (ld_glob I hg c.at_ ?_ hdb)
  refine PySem.W.callWith_K (h₀ := X.base) I.ok.mod.kin hk (thn (ha pos pins s σ H _ I h) fun us s1 ⟨vs, H1, I1, r, hlen, q⟩ => ⟨I1.kIn, ?_⟩) he hpl
  exact run_excI c hf F hr hb hx I1 r hlen q
end
theorem upd_id {H : Hp} {a : Addr} {o : HO} (e : H a = some o) : upd H a o = H := by
  funext b
  by_cases z : b = a
  · rw [z, upd_same, e]
  · rw [upd_ne z]
section
variable {X : Cx} {pins : List (Addr × Obj)} {σ : St} {H : Hp} {s : Shared} {E : Value → Shared → Prop} {Q : Value → Shared → Prop} {a C f : Addr} {x y : Str} {us : List Value}
theorem base_init (I : Inv X pins σ H s) (c : ExcI X.K X.mg y C f) (ea : H a = some (excN a C)) (hl : us.length ≤ sizeLine)
    (h : ∀ s', Inv X pins σ H s' → Q .none s') : wpAny (model X.prog X.w) X.A (call (.builtin "ValueError.__init__") (.ref a :: us)) Q E s := by
  obtain ⟨bm, Na, nm, q, bs, sn, sub, ab, col, dd, k0, k1, k2, k3, k5, mN, hC, hN, hni, hns, TL⟩ := c.obj I.kIn
  obtain ⟨t0, h1⟩ := excN_at I.hok ea
  obtain ⟨hp, g, d, tk, os⟩ := s
  refine wpAny_call (codeAny_call_builtin PySem.F.excBase_ValueError.init.plain PySem.F.excBase_ValueError.initEntry (wpAny_check_init_subT PySem.F.excBase_ValueError TL hC h1 rfl ?_))
  wp_walk
  have hx1 : (hp.push { cls := .type "tuple", data := .seq us.toArray }).get? a = some { cls := .ref C, data := .fields #[.ref t0, .none, .none, .none, .bool false, .none] } := Heap.get?_push_of_some _ h1
  have hx2 : ((hp.push { cls := .type "tuple", data := .seq us.toArray }).update a (Obj.mapFields fun x => x.setIfInBounds 0 (Value.ref hp.objs.size))).get? a = some { cls := .ref C, data := .fields #[.ref hp.objs.size, .none, .none, .none, .bool false, .none] } := by
    rw [Heap.get?_update_self _ hx1 rfl]
    rfl
  have J := I.write (t' := tk) (x := a) (e := a) (o := excN a C) (h' := (hp.push { cls := .type "tuple", data := .seq us.toArray }).update a (Obj.mapFields fun x => x.setIfInBounds 0 (Value.ref hp.objs.size))) (by rw [ea]; exact True.intro) (.inl rfl) (fun b u hb e => by
    rw [Heap.get?_update_other _ _ hb.symm]
    exact Heap.get?_push_of_some _ e) ⟨_, hx2⟩ (excN_ok ⟨_, hx2⟩)
  rw [upd_id ea] at J
  exact h _ J
end
structure BaseI (K : PySem.W.Frag) (mg : Str → Option Value) (x : Str) (W : Addr) : Prop where
  at_ : mg x = some (.ref W)
  ga : PySem.W.specialIn K (.ref W) "__getattribute__" = some (some (.builtin "type.__getattribute__"))
  rd : PySem.W.readsIn K W (.type "type") = true
  fc : PySem.W.findCls K (.ref W) (.type "type") "__init__" = some (.val (.builtin "ValueError.__init__"))
def tInit (K : PySem.W.Frag) (mg : Str → Option Value) (t : TA) : TE := fun σ H Q => t σ H fun vs H1 => ∃ (a C f : Addr) (y : Str) (rest : List V), vs = .ref a :: rest ∧ H1 a = some (excN a C) ∧ ExcI K mg y C f ∧ rest.length ≤ sizeLine ∧ Q .non H1
theorem pe_baseInit {X : Cx} {x : Str} {W : Addr} {e : Expr} {es : List Expr} {t : TA} {p apos pos : Pos} {pl : Sem Bool} (c : BaseI X.K X.mg x W) (hg : Gl X x) (ha : PA X (e :: es) t) (hdb : (x == ("__debug__" : Str)) = false := by decide)
    (hst : starEach (e :: es) X.env = (false, eval e X.env) :: starEach es X.env := by rfl) (hpl : (backTo pos (starEach es X.env)).any (·.1) = false := by rfl)
    (ht : eval (.Call (.Attribute (.Name x p) "__init__" apos) (e :: es) [] pos) X.env = (do
      let ov ← eval (.Name x p) X.env
      standAt apos.atName
      let (f, first) ← holding [ov] (getMethod ov "__init__" pl)
      callWith pos f first (backTo pos (starEach (e :: es) X.env)) (backToKw pos (keywordEach [] X.env))) := by rfl) :
    PE X (.Call (.Attribute (.Name x p) "__init__" apos) (e :: es) [] pos) (tInit X.K X.mg t) := by
  intro pins s σ H Q I h
  refine PySem.W.methodCall_KW (pl := pl) (ld_glob I hg c.at_ ?_ hdb) ht
  refine PySem.W.method_cls I.kIn c.ga (PySem.W.cls_value I.kIn c.rd c.fc rfl ?_)
  have I1 := I.tok (s.toks + 1)
  refine PyProof.Rows.callWith_builtin1 (thn (ha pos pins _ σ H _ I1 h) fun us s1 ⟨vs, H1, I2, r, q⟩ => ?_) hst hpl
  obtain ⟨a, C, f, y, rest, rfl, ea, ex, hl, q⟩ := q
  cases r with
  | cons r1 rr =>
    obtain rfl : _ = Value.ref a := r1
    exact base_init I2 ex ea (by rw [← rr.length]; exact hl) fun s' I3 => ⟨.non, H1, I3, rfl, q⟩
end L2

set_option Elab.async false
set_option linter.all false
set_option maxRecDepth 100000
set_option maxHeartbeats 1000000
namespace L2
open PySem PySem.Spec PyProof.Rows Builtin Builtin.ObjectAttr
theorem refuse_tail {self : Value} {what : Str} {h : Heap} {bmB tl : List Value} (T : OwnTail h bmB tl) (hb : refuseLoop self what bmB = pure ()) : refuseLoop self what tl = pure () := by
  induction T with
  | base => exact hb
  | own _ _ _ _ ih => rw [refuseLoop_ref]; exact ih
section
variable {prog : Program} {w : World} {A : Around} {E : Value → Shared → Prop} {h : Heap} {g : Array GenState} {d : Drawn} {t : Nat} {os : OsState}
variable {nm q : Str} {C N x : Addr} {bs bm bmB : List Value} {sn : List Str} {sub : List Value} {ab : Bool} {col : Option Bool} {dd : Option Addr} {k0 k1 k2 k3 k5 : Option Value} {B newId sa owner : String}
  {mN mA : Str → Option Value} {name : Str} {v : Value} {K : PySem.W.Frag}
theorem check_saT {M : Model} {o : Obj} {nameV : Value} {Q : Unit → Shared → Prop} (SF : StoreFacts B bmB sa owner) (T : OwnTail h bmB bm)
    (hC : h.get? C = some (excClassObj nm q C N bs bm true sn sub ab col dd k0 k1 k2 k3 k5 newId)) (hx : h.get? x = some o) (hc : o.cls = .ref C) (hq : Q () ⟨h, g, d, t, os⟩) :
    wpAny M A (checkBuiltinCall sa ⟨[.ref x, nameV, v], []⟩) Q E ⟨h, g, d, t, os⟩ := by
  have hcB : (Value.ref C :: bm).contains (.type owner) = true := by rw [List.contains_cons, T.hasType SF.hasOwner, Bool.or_true]
  have ha := SF.args (.ref x) nameV v
  simp only [checkBuiltinCall, SF.kind, SF.split]
  refine wpAny_bind ?_
  · unfold isInstance
    repeat (first | (with_reducible refine wpAny_loadPart_at hx ?_; rw [hc]) | (with_reducible refine wpAny_isSubtype_exc hC ?_; rw [hcB]) | wp_step)
    cases hsig : Manifest.signature? sa with
    | none => exact wpAny_pure hq
    | some sig =>
      simp only [argsOk, hsig] at ha
      have h2 : Bind.checkArgs sa sig ⟨[.ref x, nameV, v], []⟩ = pure () := ha
      show wpAny M A (Bind.checkArgs sa sig ⟨[.ref x, nameV, v], []⟩) Q E _
      rw [h2]; exact wpAny_pure hq
theorem store_new {tk : Tok} {o : Obj} {Q : PySem.Fin → Shared → Prop} (SF : StoreFacts B bmB sa owner) (T : OwnTail h bmB bm) (KX : K.In h)
    (hC : h.get? C = some (excClassObj nm q C N bs bm true sn sub ab col dd k0 k1 k2 k3 k5 newId)) (hna : PySem.W.findIn K (.ref C) name = some none)
    (hx : h.get? x = some o) (hc : o.cls = .ref C) (hnc : ∀ c, o.data ≠ .cls c) (hdn : o.dict = none)
    (hq : ∀ h' tk' dx, h.get? dx = none → h'.get? x = some { cls := o.cls, dict := some dx, data := o.data, slots := o.slots } → dx ≠ x → h'.Ns1 dx (fun y => if y = name then some v else none) →
      (∀ b ob, b ≠ x → h.get? b = some ob → h'.get? b = some ob) → Q (.done (.ret .none)) ⟨h', g, d, tk', os⟩) :
    wpAny (model prog w) A (Builtin.«object.__setattr__» ⟨[.ref x, .str name tk, v], []⟩) Q E ⟨h, g, d, t, os⟩ := by
  have hpass := refuse_tail T (SF.passes (.ref x))
  unfold Builtin.«object.__setattr__»
  repeat (first | rw [refuse_eq] | (rw [refuseLoop_ref, hpass]) | (with_reducible refine wpAny_loadPart_at hx ?_; rw [hc]) | with_reducible refine wpAny_mroOf_exc hC ?_ | (with_reducible refine (PySem.W.looks_findIn KX hna).here ?_) | wp_step)
  rw [hdn, if_neg (by simp [typeHasDict])]
  split
  · rename_i hcd
    cases hcd
  split
  · rename_i c hcd
    exact absurd hcd (hnc c)
  · have hx1 : (h.push { cls := .type "dict", data := .dict #[] }).get? x = some o := Heap.get?_push_of_some _ hx
    have hxs : x ≠ h.objs.size := Nat.ne_of_lt (Heap.lt_size hx)
    refine wpAny_bind (wpAny_alloc' ?_)
    refine wpAny_bind (wpAny_update' hx1 ?_)
    refine wpAny_pure ?_
    have hgd : ((h.push { cls := .type "dict", data := .dict #[] }).update x fun o => { cls := o.cls, dict := some h.objs.size, data := o.data, slots := o.slots }).get? h.objs.size
        = some { cls := .type "dict", data := .dict #[] } :=
      (Heap.get?_update_ne _ _ _ _ hxs.symm).trans (Heap.get?_push_at rfl rfl)
    have hnd : ((h.push { cls := .type "dict", data := .dict #[] }).update x fun o => { cls := o.cls, dict := some h.objs.size, data := o.data, slots := o.slots }).Ns h.objs.size (fun _ => none) :=
      ⟨_, #[], _, hgd, rfl, fun e he => absurd he (by simp), fun _ => rfl⟩
    show wpAny _ _ (storeInDict h.objs.size (.str name tk) name v) _ _ _
    unfold storeInDict newKeyGuard
    refine wpAny_bind (wpAny_pure (wpAny_bind (wpAny_nsSet1 (Heap.Ns1.of_empty hnd) fun h' hn' hs => ?_)))
    obtain ⟨oD, esD, epD, hoD, hdD, hcD⟩ := hn'.count (Within.cons name v Within.nil)
    refine wpAny_bind (wpAny_lookBehind hoD (by rw [hdD]; exact pastItsLine_dict (Nat.le_trans hcD (by rw [List.length_cons, List.length_nil, sizeLine_eq]; omega))) ?_)
    wp_walk
    have hx' : h'.get? x = some { cls := o.cls, dict := some h.objs.size, data := o.data, slots := o.slots } := by
      refine (hs.2 x hxs).trans (Heap.get?_update_self _ hx1 ?_)
      have hfr := (Heap.get?_some_iff.mp hx).2
      obtain ⟨oc, od, odt, osl⟩ := o
      cases odt <;> first | rfl | exact hfr
    refine hq h' _ h.objs.size (Heap.get?_none_of_le (Nat.le_refl _)) hx' hxs.symm ?_ (fun b ob hbx hb => ?_)
    · obtain ⟨o', es, ep, e1, e2, e3, eu, e4⟩ := hn'
      exact ⟨o', es, ep, e1, e2, e3, eu, fun y => by rw [e4 y]⟩
    · exact (hs.2 b (Nat.ne_of_lt (Heap.lt_size hb))).trans ((Heap.get?_update_ne _ _ _ _ hbx).trans (Heap.get?_push_of_some _ hb))
theorem store_attrN {o : Obj} {Q : Unit → Shared → Prop} (SF : StoreFacts B bmB sa owner) (T : OwnTail h bmB bm) (KX : K.In h)
    (hC : h.get? C = some (excClassObj nm q C N bs bm true sn sub ab col dd k0 k1 k2 k3 k5 newId)) (hsa : PySem.W.findIn K (.ref C) "__setattr__" = some (some (.builtin sa))) (hna : PySem.W.findIn K (.ref C) name = some none)
    (hx : h.get? x = some o) (hc : o.cls = .ref C) (hnc : ∀ c, o.data ≠ .cls c) (hdn : o.dict = none)
    (hq : ∀ h' tk' dx, h.get? dx = none → h'.get? x = some { cls := o.cls, dict := some dx, data := o.data, slots := o.slots } → dx ≠ x → h'.Ns1 dx (fun y => if y = name then some v else none) →
      (∀ b ob, b ≠ x → h.get? b = some ob → h'.get? b = some ob) → Q () ⟨h', g, d, tk', os⟩) :
    wpAny (model prog w) A (setAttr (.ref x) name v) Q E ⟨h, g, d, t, os⟩ := by
  have f3 := SF.slot.bind (.ref x)
  unfold setAttr callSpecial? specialOf
  repeat (any_goals (first | assumption | (with_reducible refine wpAny_loadPart_at hx ?_; rw [hc]) | (with_reducible refine (PySem.W.looks_findIn KX hsa).here ?_) | wp_step))
  refine codeAny_call_builtin SF.slot.plain SF.entry (check_saT SF T hC hx hc (store_new SF T KX hC hna hx hc hnc hdn fun h' tk' dx a1 a2 a3 a4 a5 => ?_))
  repeat (any_goals (first | assumption | wp_step))
  exact hq h' tk' dx a1 a2 a3 a4 a5
end
end L2

set_option Elab.async false
set_option linter.all false
set_option maxRecDepth 100000
set_option maxHeartbeats 1000000
namespace L2
open PySem PySem.Spec PyProof.Rows
abbrev IsExcD (a C dx : Addr) (h : Heap) : Prop := ∃ t0 : Addr, h.get? a = some { cls := .ref C, dict := some dx, data := .fields #[.ref t0, .none, .none, .none, .bool false, .none] }
abbrev excD (a C dx : Addr) : HO := .ext (IsExcD a C dx)
theorem excD_ok {P : Program} {w : World} {H : Hp} {h : Heap} {a C dx : Addr} (x : IsExcD a C dx h) : ObjOk P w H h a (excD a C dx) := by
  obtain ⟨t0, h1⟩ := x
  exact ⟨⟨t0, h1⟩, ⟨_, h1⟩, fun g1 g2 ⟨t1, e1⟩ k => ⟨t1, k _ e1⟩⟩
theorem excD_at {P : Program} {w : World} {H : Hp} {h : Heap} {a C dx : Addr} (k : HOk P w H h) (e : H a = some (excD a C dx)) : IsExcD a C dx h := (show ObjOk P w H h a (.ext (IsExcD a C dx)) from k a _ e).1
structure ExcS (K : PySem.W.Frag) (C : Addr) (f : Str) : Prop where
  sa : PySem.W.findIn K (.ref C) "__setattr__" = some (some (.builtin "object.__setattr__"))
  no : PySem.W.findIn K (.ref C) f = some none
section
variable {X : Cx} {pins : List (Addr × Obj)} {σ : St} {H : Hp} {s : Shared} {E : Value → Shared → Prop} {a C fI : Addr} {yn f : Str}
theorem setexc_ok {y : V} {u : Value} {Q : Unit → Shared → Prop} (I : Inv X pins σ H s) (c : ExcI X.K X.mg yn C fI) (S : ExcS X.K C f) (ea : H a = some (excN a C)) (ry : RelV y u)
    (h : ∀ dx s', H dx = none → dx ≠ a → Inv X pins σ (upd (upd H dx (.xd (putF f y []))) a (excD a C dx)) s' → Q () s') : wpAny (model X.prog X.w) X.A (setAttr (.ref a) f u) Q E s := by
  obtain ⟨bm, Na, nm, q, bs, sn, sub, ab, col, dd, k0, k1, k2, k3, k5, mN, hC, hN, hni, hns, TL⟩ := c.obj I.kIn
  obtain ⟨t0, h1⟩ := excN_at I.hok ea
  have KX := I.kIn
  obtain ⟨hp, g, d, tk, os⟩ := s
  refine store_attrN PySem.F.store_ValueError TL KX hC S.sa S.no h1 rfl (fun c z => by cases z) rfl fun h' tk' dx n1 n2 n3 n4 n5 => ?_
  have hm1 : (h'.update a fun _ => { cls := .ref C, data := .fields #[.ref t0, .none, .none, .none, .bool false, .none] }).get? a = some { cls := .ref C, data := .fields #[.ref t0, .none, .none, .none, .bool false, .none] } := Heap.get?_update_self _ n2 rfl
  have hm2 : ∀ b, b ≠ a → (h'.update a fun _ => { cls := .ref C, data := .fields #[.ref t0, .none, .none, .none, .bool false, .none] }).get? b = h'.get? b := fun b hb => Heap.get?_update_ne _ _ _ _ hb
  obtain ⟨hn, I1⟩ := I.anew (t := tk') (a := dx) (ob := .xd (putF f y [])) (h' := h'.update a fun _ => { cls := .ref C, data := .fields #[.ref t0, .none, .none, .none, .bool false, .none] })
    (fun b o e => by
      by_cases z : b = a
      · subst z
        have e' := (show hp.get? b = some o from e)
        rw [show hp.get? b = some { cls := .ref C, data := .fields #[.ref t0, .none, .none, .none, .bool false, .none] } from h1] at e'
        cases e'
        exact hm1
      · rw [hm2 b z]
        exact n5 b o z e) n1 ⟨(fun y => if y = f then some u else none), (by
          obtain ⟨od, es, ep, e1, rest⟩ := n4
          exact ⟨od, es, ep, by rw [hm2 dx n3]; exact e1, rest⟩), fun y' => by
        show RelO ((putF f y []).lookup y') (if y' = f then some u else none)
        rw [lookup_putF]
        by_cases z : y' = f
        · rw [if_pos z, if_pos z]; exact ry
        · rw [if_neg z, if_neg z]; exact True.intro⟩
  have e1 : upd H dx (.xd (putF f y [])) a = some (excN a C) := by rw [upd_ne n3.symm]; exact ea
  have J := I1.write (t' := tk') (x := a) (e := a) (o := excD a C dx) (h' := h') (by rw [e1]; exact True.intro) (.inl rfl) (fun b u hb e => by
    have e' := (show (h'.update a fun _ => { cls := .ref C, data := .fields #[.ref t0, .none, .none, .none, .bool false, .none] }).get? b = some u from e)
    rw [hm2 b hb] at e'
    exact e') ⟨_, n2⟩ (excD_ok ⟨_, n2⟩)
  exact h dx _ hn n3 J
def sExc (K : PySem.W.Frag) (mg : Str → Option Value) (ta tv : TE) (f : Str) : TS := fun D σ H => tv σ H fun y H1 => ta σ H1 fun x H2 => ∃ (a C fI : Addr) (yn : Str), x = .ref a ∧ H2 a = some (excN a C) ∧ ExcI K mg yn C fI ∧ ExcS K C f ∧
  ∀ dx, H2 dx = none → dx ≠ a → D.nx σ (upd (upd H2 dx (.xd (putF f y []))) a (excD a C dx))
theorem ps_excSet {o value : Expr} {ta tv : TE} {pos pos' : Pos} (ha : PE X o ta) (hv : PE X value tv) (hs : swapsWith value (some (.Attribute o f pos')) pos.line X.env = pure false) : PS X (.Assign [.Attribute o f pos'] value pos) (sExc X.K X.mg ta tv f) := by
  intro pins s σ H D I h
  refine plainObj_wpAny_Assign_Attribute (thn (hv pins s σ H _ I h) fun u s1 ⟨y, H1, I1, ry, q⟩ => thn (ha pins s1 σ H1 _ I1 q) fun ov s2 ⟨x, H2, I2, rx, a, C, fI, yn, ex, ea, c, S, q2⟩ => ?_) hs
  subst ex
  obtain rfl : ov = Value.ref a := rx
  exact setexc_ok I2 c S ea ry fun dx s3 n1 n2 I3 => ⟨σ, _, I3, q2 dx n1 n2⟩
end
section
variable {K : PySem.W.Frag} {prog : Program} {w : World} {A : Around} {E : Value → Shared → Prop} {h : Heap} {g : Array GenState} {d : Drawn} {t : Nat} {os : OsState} {a C dx : Addr} {o : Obj} {f : Str} {v : Value} {mA : Str → Option Value}
end
section
variable {X : Cx} {e : Expr} {ta : TE} {f : Str} {pos : Pos}
def tExcF (K : PySem.W.Frag) (mg : Str → Option Value) (ta : TE) (f : Str) : TE := fun σ H Q => ta σ H fun x H1 => ∃ (a C dx fI : Addr) (yn : Str) (fs : List (Str × V)) (v : V), x = .ref a ∧ H1 a = some (excD a C dx) ∧ H1 dx = some (.xd fs) ∧ ExcG K C ∧ ExcI K mg yn C fI ∧ ExcS K C f ∧ fs.lookup f = some v ∧ Q v H1
end
end L2
namespace My
open PySem L2
structure CalE (P : Program) (w : World) (K : PySem.W.Frag) (mg : Str → Option Value) (base : Heap) (x : Str) (C : Addr) (ps : List Str) (k : Nat) (sp : Sp) : Prop where
  ex : ∃ (f : Addr) (fd : FuncData), FnOk P w K mg base CX0 k f fd ps sp ∧ Binds K fd ps [] ∧ ExcI K mg x C f ∧ PySem.W.isFn K (.ref f) = true ∧ PySem.W.keepIn K (.ref C) = true
theorem pe_excC {X : Cx} {x : Str} {C : Addr} {ps : List Str} {k : Nat} {sp : Sp} {e : Expr} {es : List Expr} {t : TA} {p pos : Pos} (c : CalE X.prog X.w X.K X.mg X.base x C ps k sp) (hr : Room (k + 1) X.A) (hg : Gl X x) (ha : PA X (e :: es) t)
    (hdb : (x == ("__debug__" : Str)) = false := by decide) (he : starEach (e :: es) X.env = (false, eval e X.env) :: starEach es X.env := by rfl) (hpl : (backTo pos (starEach es X.env)).any (·.1) = false := by rfl) :
    PE X (.Call (.Name x p) (e :: es) [] pos) (tExcI C sp E0 t) := by
  obtain ⟨f, fd, F, b, m, hf, hk⟩ := c.ex
  exact pe_excI m hf hk F hr hg b pass0 ha hdb he hpl
/-- what of the text's exceptions is looked at: an exception of the class D is of the class C at place j just where j = k -/
def excOne (K : PySem.W.Frag) (D : Addr) (k : Nat) (Cs : List Addr) (W : Addr) : Bool :=
  PySem.W.findIn K (.ref D) "__getattribute__" == some (some (.builtin "BaseException.__getattribute__")) && PySem.W.findIn K (.ref D) "__class__" == some (some (.builtin "object.__class__")) && PySem.W.findIn K (.ref D) "__getattr__" == some none &&
  PySem.W.mroIn K D (.type "BaseException") == some true && PySem.W.mroIn K D (.type "object") == some true && PySem.W.kitOne K (.ref D) (.ref W) == some true && PySem.W.kitOne K (.ref D) (.type "ValueError") == some true &&
  (Cs.map fun C => PySem.W.kitOne K (.ref D) (.ref C)) == (List.range Cs.length).map fun j => some (decide (j = k))
structure ExcK (K : PySem.W.Frag) (D : Addr) (k : Nat) (Cs : List Addr) (W : Addr) : Prop where
  g : ExcG K D
  w : PySem.W.kitOne K (.ref D) (.ref W) = some true
  v : PySem.W.kitOne K (.ref D) (.type "ValueError") = some true
  c : ∀ j C, Cs[j]? = some C → PySem.W.kitOne K (.ref D) (.ref C) = some (decide (j = k))
theorem ExcK.of {K : PySem.W.Frag} {D : Addr} {k : Nat} {Cs : List Addr} {W : Addr} (h : excOne K D k Cs W = true) : ExcK K D k Cs W := by
  unfold excOne at h
  simp only [Bool.and_eq_true, beq_iff_eq] at h
  obtain ⟨⟨⟨⟨⟨⟨⟨h1, h2⟩, h3⟩, h4⟩, h5⟩, h6⟩, h7⟩, h8⟩ := h
  refine ⟨⟨h1, h2, h3, h4, h5⟩, h6, h7, fun j C e => ?_⟩
  have z : (Cs.map fun C => PySem.W.kitOne K (.ref D) (.ref C))[j]? = ((List.range Cs.length).map fun j => some (decide (j = k)))[j]? := by rw [h8]
  have hj : j < Cs.length := (List.getElem?_eq_some_iff.mp e).1
  rw [List.getElem?_map, e, List.getElem?_map, List.getElem?_range hj] at z
  exact Option.some.inj z
end My

set_option Elab.async false
set_option linter.all false
set_option maxRecDepth 100000
set_option maxHeartbeats 400000
namespace L2
open PySem PySem.Spec PyProof.Rows
/-- each object is still there, and has the dict that it had -/
def DK (h h' : Heap) : Prop := ∀ b o, h.get? b = some o → ∃ o', h'.get? b = some o' ∧ o'.dict = o.dict
theorem DK.refl (h : Heap) : DK h h := fun _ o e => ⟨o, e, rfl⟩
theorem DK.trans {h h1 h2 : Heap} (x : DK h h1) (y : DK h1 h2) : DK h h2 := fun b o e => by
  obtain ⟨o1, e1, d1⟩ := x b o e
  obtain ⟨o2, e2, d2⟩ := y b o1 e1
  exact ⟨o2, e2, d2.trans d1⟩
theorem DK.push (h : Heap) (o : Obj) : DK h (h.push o) := fun _ o' e => ⟨o', Heap.get?_push_of_some o e, rfl⟩
def fdk (f : Obj → Obj) : Prop := ∀ o, (f o).dict = o.dict ∧ (o.isFreed = false → (f o).isFreed = false)
theorem DK.update {h : Heap} {a : Addr} {f : Obj → Obj} (hf : fdk f) : DK h (h.update a f) := fun b o e => by
  by_cases z : a = b
  · subst z
    exact ⟨f o, Heap.get?_update_self f e ((hf o).2 (Heap.get?_some_iff.mp e).2), (hf o).1⟩
  · exact ⟨o, (Heap.get?_update_other h f z).trans e, rfl⟩
/-- a piece of the machine that calls nothing and changes no dict -/
def dk {α : Type} : Sem α → Prop
  | .pure _ => True
  | .raise _ => True
  | .unsupported _ => True
  | .finish _ => True
  | .rule _ k => dk (k ())
  | .at _ k => dk (k ())
  | .load _ _ k => ∀ o, dk (k o)
  | .update _ _ f k => fdk f ∧ dk (k ())
  | .alloc _ k => ∀ a, dk (k a)
  | .loadIfAlive _ k => ∀ o, dk (k o)
  | .point _ k => dk (k ())
  | .register _ _ => True
  | .fresh k => ∀ t, dk (k t)
  | .ask k => ∀ x, dk (k x)
  | .choose _ _ k => ∀ n, dk (k n)
  | .os _ _ k => ∀ r, dk (k r)
  | .call .. => False
  | .handled _ k => ∀ v, dk (k v)
  | .newGen _ k => ∀ n, dk (k n)
  | .genState _ k => ∀ n, dk (k n)
  | .resume .. => False
  | .yield .. => True
  | .stack k => ∀ l, dk (k l)
  | .fork .. => True
  | .thread k => ∀ n, dk (k n)
  | .await .. => True
theorem dk_bind {α β : Type} {t : Sem α} {k : α → Sem β} (h : dk t) (hk : ∀ a, dk (k a)) : dk (t >>= k) := by
  show dk (t.bind k)
  induction t with
  | pure a => exact hk a
  | raise | unsupported | finish | yield | fork | await | register => trivial
  | call | resume => exact False.elim h
  | rule _ g ih | «at» _ g ih | point _ g ih => exact ih () h
  | load _ _ g ih | alloc _ g ih | loadIfAlive _ g ih | fresh g ih | ask g ih | choose _ _ g ih | os _ _ g ih | handled _ g ih | newGen _ g ih | genState _ g ih | stack g ih | thread g ih => exact fun o => ih o (h o)
  | update _ _ f g ih => exact ⟨h.1, ih () h.2⟩
theorem wp_dk {α : Type} {M : Model} {Γ : PySem.Ctx} {t : Sem α} {Q : α → Pos → Shared → Prop} {E : Value → Pos → Shared → Prop} {p : Pos} {s : Shared} (d : dk t) (h : Sem.wp M Γ t Q E p s) :
    Sem.wp M Γ t (fun a p' s' => Q a p' s' ∧ DK s.heap s'.heap) (fun e p' s' => E e p' s' ∧ DK s.heap s'.heap) p s := by
  induction t generalizing p s with
  | pure a => exact ⟨h, DK.refl _⟩
  | raise e => exact ⟨h, DK.refl _⟩
  | unsupported | finish | yield | fork | await | register => exact h
  | call | resume => exact False.elim d
  | rule _ g ih | «at» _ g ih | point _ g ih => exact ih () d h
  | fresh g ih | ask g ih | os _ _ g ih | handled _ g ih | newGen _ g ih | stack g ih | thread g ih | loadIfAlive _ g ih => exact ih _ (d _) h
  | load _ _ g ih => obtain ⟨o, e, h⟩ := h; exact ⟨o, e, ih _ (d _) h⟩
  | genState _ g ih => obtain ⟨o, e, h⟩ := h; exact ⟨o, e, ih _ (d _) h⟩
  | choose _ _ g ih => obtain ⟨e, h⟩ := h; exact ⟨e, ih _ (d _) h⟩
  | alloc o g ih => exact Sem.wp_mono M Γ _ (fun _ _ _ z => ⟨z.1, (DK.push _ o).trans z.2⟩) (fun _ _ _ z => ⟨z.1, (DK.push _ o).trans z.2⟩) _ _ (ih _ (d _) h)
  | update a _ f g ih =>
    obtain ⟨e, h⟩ := h
    exact ⟨e, Sem.wp_mono M Γ _ (fun _ _ _ z => ⟨z.1, (DK.update d.1).trans z.2⟩) (fun _ _ _ z => ⟨z.1, (DK.update d.1).trans z.2⟩) _ _ (ih _ d.2 h)⟩
theorem wpAny_dk {α : Type} {M : Model} {A : Around} {t : Sem α} {Q : α → Shared → Prop} {E : Value → Shared → Prop} {s : Shared} (d : dk t) (h : wpAny M A t Q E s) :
    wpAny M A t (fun a s' => Q a s' ∧ DK s.heap s'.heap) (fun e s' => E e s' ∧ DK s.heap s'.heap) s := fun Γ p i => wp_dk d (h Γ p i)
theorem fdk_mapFields (g : Array Value → Array Value) : fdk (Obj.mapFields g) := fun o => by
  obtain ⟨c, d, dt, sl⟩ := o
  cases dt <;> exact ⟨rfl, fun z => z⟩
theorem dk_fieldsOf (v : Value) : dk (fieldsOf v) := by
  unfold fieldsOf
  split
  · exact dk_bind (fun o => trivial) fun o => by split <;> trivial
  · trivial
theorem dk_field (v : Value) (i : Nat) : dk (field v i) := by
  unfold field
  exact dk_bind (dk_fieldsOf v) fun vs => by split <;> trivial
theorem dk_setField (v : Value) (i : Nat) (x : Value) : dk (setField v i x) := by
  unfold setField
  split
  · unfold updateField
    refine dk_bind (fun o => trivial) fun o => ?_
    split
    · split
      · exact ⟨fdk_mapFields _, trivial⟩
      · trivial
    · trivial
  · trivial
theorem dk_setFlight (e : Value) (f : Option Addr) : dk (setFlight e f) := by
  unfold setFlight
  refine dk_bind (dk_field _ _) fun tb => ?_
  split
  · exact dk_setField _ _ _
  · trivial
theorem dk_frameEnvs : dk frameEnvs := by
  unfold frameEnvs
  exact dk_bind (fun _ => trivial) fun _ => trivial
theorem dk_entryPlaceOf (f : Addr) (b : Bool) : dk (entryPlaceOf f b) := by
  unfold entryPlaceOf
  exact dk_bind (fun _ => trivial) fun acts => by split <;> trivial
theorem dk_behindIsImport (env : Env) (outer : List Env) : dk (behindIsImport env outer) := by
  unfold behindIsImport
  split
  · trivial
  · split
    · trivial
    · exact dk_bind (dk_field _ _) fun _ => trivial
theorem dk_keptBack (env : Env) (b : Bool) (l : List Env) : dk (keptBack env b l) := by
  unfold keptBack
  split
  · split
    · trivial
    · refine dk_bind ?_ fun _ => trivial
      unfold underTheClaimsCaller
      exact dk_bind (fun _ => trivial) fun _ => trivial
  · trivial
theorem dk_readyFrames : ∀ l : List Env, dk (readyFrames l)
  | [] => trivial
  | env :: outer => by
    unfold readyFrames
    split
    · refine dk_bind (fun _ => trivial) fun o => ?_
      split
      · trivial
      · refine dk_bind (dk_behindIsImport _ _) fun b => dk_bind (dk_keptBack _ _ _) fun v => dk_bind ⟨fun o => ?_, trivial⟩ fun _ => dk_readyFrames outer
        obtain ⟨c, d, dt, sl⟩ := o
        cases dt <;> exact ⟨rfl, fun z => z⟩
    · trivial
theorem dk_frameObject (l : List Env) : dk (frameObject l) := by
  cases l with
  | nil => trivial
  | cons e l => exact dk_bind (dk_readyFrames _) fun _ => trivial
theorem dk_frameOf (env : Env) : dk (PySem.frameOf env) := by
  unfold PySem.frameOf
  exact dk_bind dk_frameEnvs fun l => dk_bind (dk_frameObject _) fun o => by split <;> trivial
theorem dk_newFields (ty : String) (vs : List Value) : dk (newFields ty vs) := by
  have asIs : dk (newObjAsIs (.type ty) (.fields vs.toArray)) := by
    unfold newObjAsIs
    exact dk_bind (fun _ => trivial) fun _ => trivial
  unfold newFields newObj
  dsimp only
  split
  · exact dk_bind (t := unsupported _) trivial fun _ => asIs
  · exact asIs
theorem dk_noteFrame (e : Value) (env : Env) : dk (noteFrame e env) := by
  unfold noteFrame
  split
  · refine dk_bind (dk_field _ _) fun head => ?_
    have last : ∀ f : Addr, dk (do setField e 1 (← EntryCells.newEntry head (← PySem.frameOf env) .none (rawInt f) .none (← entryPlaceOf f (head != .none)))) := fun f =>
      dk_bind (dk_frameOf env) fun a => dk_bind (dk_entryPlaceOf _ _) fun pl => dk_bind (dk_newFields _ _) fun b => dk_setField _ _ _
    split
    · refine dk_bind (dk_field _ _) fun x => ?_
      split
      · trivial
      · exact dk_bind (dk_setField _ _ _) fun _ => last _
    · exact last _
  · trivial
theorem dk_leaving (env : Env) (e : Value) : dk (leaving env e) := by
  unfold leaving
  exact dk_bind (dk_noteFrame _ _) fun _ => dk_setFlight _ _
def DictAt (h : Heap) (e : Addr) (od : Option Addr) : Prop := ∃ o, h.get? e = some o ∧ o.dict = od
theorem DictAt.dk {h h' : Heap} {e : Addr} {od : Option Addr} (x : DictAt h e od) (k : DK h h') : DictAt h' e od := by
  obtain ⟨o, q, d⟩ := x
  obtain ⟨o', q', d'⟩ := k e o q
  exact ⟨o', q', d'.trans d⟩
section
variable {M : Model} {A : Around} {E : Value → Shared → Prop} {s : Shared} {B : Heap} {env : Env} {outer : List Env} {L e : Addr} {cls a0 : Value} {od : Option Addr} {Q : Unit → Shared → Prop}
theorem leaves_onD (hfr : A.frames = some (env :: outer)) (hf : env.frame = some L) (hfl : Heap.FlyingW B (env :: outer) e cls a0 s.heap) (hd : DictAt s.heap e od)
    (hQ : ∀ h', Heap.FlyingW B outer e cls a0 h' → s.heap.UpToSlots h' → DictAt h' e od → Q () { s with heap := h' }) : wpAny M A (leaving env (.ref e)) Q E s :=
  wpAny_mono (wpAny_dk (dk_leaving env (.ref e)) (wpAny_leaves_onW (E := E) (Q := fun _ s' => ∃ h', s' = { s with heap := h' } ∧ Heap.FlyingW B outer e cls a0 h' ∧ s.heap.UpToSlots h') hfr hf hfl fun h' a b => ⟨h', rfl, a, b⟩))
    (fun _ s' ⟨⟨h', e1, a, b⟩, d⟩ => by subst e1; exact hQ h' a b (hd.dk d)) fun _ _ z => z.1
theorem looks_onD (hfr : A.frames = some (env :: outer)) (hf : env.frame = some L) (hfl : Heap.FlyingW B (env :: outer) e cls a0 s.heap) (hd : DictAt s.heap e od)
    (hQ : ∀ h', Heap.HeldW B (env :: outer) e cls a0 L h' → s.heap.UpToSlots h' → DictAt h' e od → Q () { s with heap := h' }) : wpAny M A (noteFrame (.ref e) env) Q E s :=
  wpAny_mono (wpAny_dk (dk_noteFrame (.ref e) env) (wpAny_looks_onW (E := E) (Q := fun _ s' => ∃ h', s' = { s with heap := h' } ∧ Heap.HeldW B (env :: outer) e cls a0 L h' ∧ s.heap.UpToSlots h') hfr hf hfl fun h' a b => ⟨h', rfl, a, b⟩))
    (fun _ s' ⟨⟨h', e1, a, b⟩, d⟩ => by subst e1; exact hQ h' a b (hd.dk d)) fun _ _ z => z.1
theorem landsD {l : List Env} (hh : Heap.HeldW B l e cls a0 L s.heap) (hd : DictAt s.heap e od)
    (hQ : ∀ h', Heap.FlyingW B l e cls a0 h' → s.heap.UpToSlots h' → DictAt h' e od → Q () { s with heap := h' }) : wpAny M A (setFlight (.ref e) none) Q E s :=
  wpAny_mono (wpAny_dk (dk_setFlight (.ref e) none) (wpAny_landsW (E := E) (Q := fun _ s' => ∃ h', s' = { s with heap := h' } ∧ Heap.FlyingW B l e cls a0 h' ∧ s.heap.UpToSlots h') hh fun h' a b => ⟨h', rfl, a, b⟩))
    (fun _ s' ⟨⟨h', e1, a, b⟩, d⟩ => by subst e1; exact hQ h' a b (hd.dk d)) fun _ _ z => z.1
theorem lands_againD {l : List Env} (hh : Heap.FlyingW B l e cls a0 s.heap) (hd : DictAt s.heap e od)
    (hQ : ∀ h', Heap.FlyingW B l e cls a0 h' → s.heap.UpToSlots h' → DictAt h' e od → Q () { s with heap := h' }) : wpAny M A (setFlight (.ref e) none) Q E s :=
  wpAny_mono (wpAny_dk (dk_setFlight (.ref e) none) (lands_againW (E := E) (Q := fun _ s' => ∃ h', s' = { s with heap := h' } ∧ Heap.FlyingW B l e cls a0 h' ∧ s.heap.UpToSlots h') hh fun h' a b => ⟨h', rfl, a, b⟩))
    (fun _ s' ⟨⟨h', e1, a, b⟩, d⟩ => by subst e1; exact hQ h' a b (hd.dk d)) fun _ _ z => z.1
end
end L2

set_option Elab.async false
set_option linter.all false
set_option maxRecDepth 100000
set_option maxHeartbeats 400000
namespace L2
open PySem PySem.Spec PyProof.Rows
def CX2 (P : Program) (w : World) : CXT := fun outer H s E e s' => ∃ (a : Addr) (cls : Value) (H' : Hp) (B : Heap) (a0 : Value) (od : Option Addr), e = .ref a ∧ Flies P w outer H s H' B a cls a0 s' ∧ DictAt s'.heap a od ∧ E cls od H'
section
variable {P : Program} {w : World} {K : PySem.W.Frag} {mg : Str → Option Value} {base : Heap} {N : List Str} {qual : Str} {scope : Scope} {f : Addr} {cd : Value} {A : Around} {outer : List Env} {s₀ : Shared} {H₀ : Hp} {E : XK}
theorem pass2 : Passes (CX2 P w) (cxOf (CX2 P w) P w K mg base N qual scope f cd A outer s₀ H₀ E) E := by
  intro pins σ H s e s' I h
  obtain ⟨a, cls, H', B, a0, od, rfl, F, d, q⟩ := h
  exact leaves_onD I.ok.frames rfl F.fly d fun h'' fl us d' => ⟨a, cls, H', B, a0, od, rfl, F.up body_of I fl us, d', q⟩
theorem raisy2 : Raisy (cxOf (CX2 P w) P w K mg base N qual scope f cd A outer s₀ H₀ E) E := by
  intro pins σ H s h' a cls args I mk q
  have st : (PySem.W.hideAll s.heap (L2.frs (cxOf (CX2 P w) P w K mg base N qual scope f cd A outer s₀ H₀ E).stack)).StaysIn s.heap := fun b o e => PySem.W.of_hideAll _ e
  have ff := PySem.W.funFrames_hide (as := L2.frs (cxOf (CX2 P w) P w K mg base N qual scope f cd A outer s₀ H₀ E).stack) I.stack fun env he b hb => List.mem_filterMap.mpr ⟨env, he, hb⟩
  obtain ⟨t, ht, _, _⟩ := mk.there
  have d0 : DictAt h' a none := ⟨_, ht, rfl⟩
  refine wpAny_mono (wpAny_dk (dk_leaving _ (.ref a)) (wpAny_leaves_madeW (h := s.heap) (E := fun _ _ => False) (Q := fun _ s' => ∃ h'' t, s' = { s with heap := h'' } ∧ Heap.FlyingW _ _ a cls (.ref t) h'' ∧ h'.UpToSlots h'') I.ok.frames rfl st ff mk fun h'' t fl _ _ us => ⟨h'', t, rfl, fl, us⟩)) (fun _ s' z => ?_) fun _ _ z => z.1.elim
  obtain ⟨⟨h'', t, rfl, fl, us⟩, d⟩ := z
  exact ⟨a, cls, H, _, _, none, rfl, Flies.made (t := s.toks) body_of I mk.keeps fl us, d0.dk d, q⟩
theorem Fun.okD {x qual : Str} {st : Stmt} {f : Addr} {fd : FuncData} {N ps : List Str} {k : Nat} {sp : Sp} (F : Fun K x qual st f fd) (S : FnScope N ps (defScope st)) (len : ∀ vs H Q E, sp vs H Q E → vs.length = ps.length)
    (hbody : ∀ (cdv : Value) (A : Around) (outer : List Env) (s : Shared) (H : Hp) (vs : List V) (Q : VK) (E : XK), Room k (A.deeper (envOfC qual (defScope st) s.heap.objs.size f cdv)) → sp vs H Q E →
      ∃ t, PSs (cxOf (CX2 P w) P w K mg base N qual (defScope st) f cdv A outer s H E) (defBody st) t ∧ t { nx := fun _ H' => Q .non H', rt := Q } (start N vs) H) : FnOk P w K mg base (CX2 P w) (k + 1) f fd ps sp := by
  obtain ⟨oc, od, kV, doc, pm, an, cdv, ct, osl, rfl, lk, hcd⟩ := F.ex
  exact fn_of lk hcd S len fun A outer s H vs Q E hr hsp => hbody cdv A outer s H vs Q E hr hsp
end
def hid (H : Hp) (a : Addr) : Hp := fun b => if b = a then none else H b
theorem hid_ne {H : Hp} {a b : Addr} (n : b ≠ a) : hid H a b = H b := if_neg n
theorem hid_same {H : Hp} {a : Addr} : hid H a a = none := if_pos rfl
theorem hid_none {H : Hp} {a b : Addr} (n : H b = none) : hid H a b = none := by
  unfold hid
  split
  · rfl
  · exact n
theorem Inv.untrack {X : Cx} {pins : List (Addr × Obj)} {σ : St} {H : Hp} {s : Shared} {a : Addr} {φ : Heap → Prop} (I : Inv X pins σ H s) (ea : H a = some (.ext φ)) : Inv X pins σ (hid H a) s := by
  have up : ∀ b u, H b = some u → (∀ φ, u ≠ .ext φ) → hid H a b = some u := fun b u e n => by
    rw [hid_ne fun z => ?_]
    · exact e
    · rw [z, ea] at e
      cases e
      exact n _ rfl
  refine ⟨I.ok, I.os, I.bare, ⟨I.base.keep, I.base.slot, fun b o e m hx => hid_none (I.base.free b o e m hx), I.base.there, fun b xs e => up _ _ (I.base.tups b xs e) (fun _ z => by cases z), fun b o u e => up _ _ (I.base.frzs b o u e) (fun _ z => by cases z), fun b ps e => ?_⟩, I.loc, I.cell, hid_none I.free, fun x c e => hid_none (I.freeC x c e), fun p hp => ?_, fun b u e => ?_, I.len⟩
  · obtain ⟨m, z⟩ := I.base.tbls b ps e
    exact ⟨m, up _ _ z (fun _ z => by cases z)⟩
  · obtain ⟨e, m, q⟩ := I.pin p hp
    exact ⟨e, hid_none m, q⟩
  · have nb : b ≠ a := fun z => by rw [z, hid_same] at e; cases e
    rw [hid_ne nb] at e
    exact (I.hok b u e).stay (fun c v _ q => q) (fun c q => up _ _ q (fun _ z => by cases z)) fun _ _ q => up _ _ q (fun _ z => by cases z)
section
variable {X : Cx} {pins : List (Addr × Obj)} {σ : St} {H : Hp} {s : Shared} {a C dx : Addr} {cls a0 : Value}
theorem Flies.madeD (hb : Body X) (I : Inv X pins σ H s) (ea : H a = some (excD a C dx)) (h0 : X.H₀ a = none) {h'' : Heap} {t : Nat} (fly : Heap.FlyingW (PySem.W.hideAll s.heap (a :: L2.frs X.stack)) X.outer a cls a0 h'') (us : s.heap.UpToSlots h'') :
    Flies X.prog X.w X.outer X.H₀ X.s₀ (hid H a) (PySem.W.hideAll s.heap (a :: L2.frs X.stack)) a cls a0 { s with heap := h'', toks := t } := by
  have J := I.untrack ea
  have na : ∀ b o, X.s₀.heap.get? b = some o → b ≠ a := fun b o e z => by
    subst z
    have y := I.base.free b o e h0 (by rw [hb.ex]; simp)
    rw [ea] at y
    cases y
  have inB : ∀ b o, s.heap.get? b = some o → b ≠ a → b ∉ L2.frs X.stack → (PySem.W.hideAll s.heap (a :: L2.frs X.stack)).get? b = some o := fun b o e n1 n2 => PySem.W.hideAll_get _ e fun z => (List.mem_cons.mp z).elim n1 n2
  have nea : ∀ b u, hid H a b = some u → b ≠ a := fun b u e z => by rw [z, hid_same] at e; cases e
  have own : ∀ b u, hid H a b = some u → b ∉ L2.frs X.stack := fun b u e z => by rw [J.stkFree b z] at e; cases e
  have nf : ∀ b o, X.s₀.heap.get? b = some o → b ∉ X.fs → b ∉ L2.frs X.stack := fun b o e hn z => by
    rw [hb.frs] at z
    rcases List.mem_cons.mp z with z | z
    · exact body_ne I e z
    · exact hn z
  have fr : ∀ b ∈ X.fs, ∀ o, s.heap.get? b = some o → ∃ sl, h''.get? b = some { o with slots := sl } := fun b hb' o e => by
    obtain ⟨_, o', e', nfd⟩ := I.funs.mem hb'
    rw [e] at e'
    cases e'
    exact us b o e nfd
  have ib := J.base
  rw [hb.ex] at ib
  refine ⟨I.os, I.bare, ⟨fun b o e n hn hx => fly.1 b o (inB b o (ib.keep b o e n hn hx) (na b o e) (nf b o e hn)), fun b o e n hn hx => ?_, ib.free, fun b o e hx => ?_, ib.tups, ib.frzs, ib.tbls⟩, fun b u e => ?_, fly, fun b o e hn => ?_, fun b u e => ?_, fun b u e z => own b u e ?_⟩
  · obtain ⟨sl, e1⟩ := ib.slot b o e n hn hx
    obtain ⟨sl', e2⟩ := fr b hn _ e1
    exact ⟨sl', e2⟩
  · obtain ⟨o', e1⟩ := ib.there b o e hx
    by_cases hn : b ∈ X.fs
    · obtain ⟨sl, e2⟩ := fr b hn _ e1
      exact ⟨_, e2⟩
    · exact ⟨o', fly.1 b o' (inB b o' e1 (na b o e) (nf b o e hn))⟩
  · refine (J.hok b u e).stay (fun c v hc q => ?_) (fun _ q => q) fun _ _ q => q
    rcases hc with z | z
    · rw [z] at q ⊢
      exact fly.1 b v (inB b v q (nea b u e) (own b u e))
    · exact fly.1 c v (inB c v q (nea c _ z) (own c _ z))
  · obtain ⟨o', e1⟩ := ib.there b o e (by simp)
    exact ⟨o', inB b o' e1 (na b o e) (nf b o e hn)⟩
  · obtain ⟨o', e1⟩ := (J.hok b u e).there
    exact ⟨o', inB b o' e1 (nea b u e) (own b u e)⟩
  · rw [hb.frs]
    exact List.mem_cons_of_mem _ z
end
/-- an exception that was made with an __init__ of its own, and is raised here, is as the wish E wants it -/
def RaisyD (X : Cx) (E : XK) : Prop := ∀ (pins : List (Addr × Obj)) (σ : St) (H : Hp) (s : Shared) (a C dx : Addr), Inv X pins σ H s → H a = some (excD a C dx) → X.H₀ a = none → E (.ref C) (some dx) (hid H a) → X.xe (.ref a) s
theorem raisyD {P : Program} {w : World} {K : PySem.W.Frag} {mg : Str → Option Value} {base : Heap} {N : List Str} {qual : Str} {scope : Scope} {f : Addr} {cd : Value} {A : Around} {outer : List Env} {s₀ : Shared} {H₀ : Hp} {E : XK} :
    RaisyD (cxOf (CX2 P w) P w K mg base N qual scope f cd A outer s₀ H₀ E) E := by
  intro pins σ H s a C dx I ea h0 q
  obtain ⟨t0, hx⟩ := excD_at I.hok ea
  have st : (PySem.W.hideAll s.heap (a :: L2.frs (cxOf (CX2 P w) P w K mg base N qual scope f cd A outer s₀ H₀ E).stack)).StaysIn s.heap := fun b o e => PySem.W.of_hideAll _ e
  have ff := PySem.W.funFrames_hide (as := a :: L2.frs (cxOf (CX2 P w) P w K mg base N qual scope f cd A outer s₀ H₀ E).stack) I.stack fun env he b hb => List.mem_cons_of_mem _ (List.mem_filterMap.mpr ⟨env, he, hb⟩)
  have hen : (PySem.W.hideAll s.heap (a :: L2.frs (cxOf (CX2 P w) P w K mg base N qual scope f cd A outer s₀ H₀ E).stack)).get? a = none := PySem.W.hideAll_none _ (List.mem_cons_self ..)
  have d0 : DictAt s.heap a (some dx) := ⟨_, hx, rfl⟩
  refine wpAny_mono (wpAny_dk (dk_leaving _ (.ref a)) (wpAny_leaving_firstW (E := fun _ _ => False) (Q := fun _ s' => ∃ h'', s' = { s with heap := h'' } ∧ Heap.FlyingW (PySem.W.hideAll s.heap (a :: L2.frs (cxOf (CX2 P w) P w K mg base N qual scope f cd A outer s₀ H₀ E).stack)) outer a (.ref C) (.ref t0) h'' ∧ s.heap.UpToSlots h'') I.ok.frames ff rfl hx st hen rfl rfl rfl fun h'' hL => ?_)) (fun _ s' z => ?_) fun _ _ z => z.1.elim
  · obtain ⟨k1, ⟨_, _, k2⟩, k3, k4⟩ := hL
    exact ⟨h'', rfl, ⟨k1, hen, k2, k3⟩, k4⟩
  · obtain ⟨⟨h'', rfl, fl, us⟩, d⟩ := z
    exact ⟨a, _, hid H a, _, _, some dx, rfl, Flies.madeD (t := s.toks) body_of I ea h0 fl us, d0.dk d, q⟩
end L2

set_option Elab.async false
set_option linter.all false
set_option maxRecDepth 100000
set_option maxHeartbeats 400000
namespace L2
open PySem PySem.Spec PyProof.Rows
theorem raiseStmt_D {M : Model} {A : Around} {E : Value → Shared → Prop} {s : Shared} {env : Env} {x : Sem Value} {Q : Flow → Shared → Prop} (hh : A.handled = none)
    (h : wpAny M A x (fun v s₁ => ∃ (e t dx C N : Addr) (nm q : Str) (bs bm : List Value) (sn : List Str) (sub : List Value) (ab : Bool) (col : Option Bool) (dd : Option Addr) (k0 k1 k2 k3 k5 : Option Value), v = .ref e ∧ bm.contains (.type "BaseException") = true ∧
      s₁.heap.get? C = some (excClassObj nm q C N bs bm true sn sub ab col dd k0 k1 k2 k3 k5 "ValueError.__new__") ∧
      s₁.heap.get? e = some { cls := .ref C, dict := some dx, data := .fields #[.ref t, .none, .none, .none, .bool false, .none] } ∧ E (.ref e) s₁) E s) : wpAny M A (raiseStmt env (some x) none) Q E s := by
  unfold raiseStmt
  refine wpAny_bind (wpAny_mono h (fun v s₁ h₁ => ?_) fun _ _ x => x)
  obtain ⟨e, t, dx, C, N, nm, q, bs, bm, sn, sub, ab, col, dd, k0, k1, k2, k3, k5, rfl, hb, hC, he, hE⟩ := h₁
  have hcB : (Value.ref C :: bm).contains (.type "BaseException") = true := by rw [List.contains_cons, hb, Bool.or_true]
  obtain ⟨hp, g, d, tk, os⟩ := s₁
  repeat (first | with_reducible refine wpAny_loadPart_at he ?_ | with_reducible refine wpAny_loadPart_at hC ?_ | (with_reducible refine wpAny_isSubtype_exc hC ?_; rw [hcB]) | wp_step)
  exact wpAny_raiseNew_none hh hE
def tRaiseD (H₀ : Hp) (K : PySem.W.Frag) (mg : Str → Option Value) (E : XK) (ta : TE) : TS := fun _ σ H => ta σ H fun x H1 => ∃ (a C dx fI : Addr) (yn : Str), x = .ref a ∧ H1 a = some (excD a C dx) ∧ H₀ a = none ∧ ExcI K mg yn C fI ∧ E (.ref C) (some dx) (hid H1 a)
theorem ps_raiseD {X : Cx} {E : XK} {e : Expr} {ta : TE} {pos : Pos} (hR : RaisyD X E) (hc : X.calm = true) (he : PE X e ta) : PS X (.Raise (some e) none pos) (tRaiseD X.H₀ X.K X.mg E ta) := by
  intro pins s σ H D I h
  rw [arm_exec_Raise]
  refine wpAny_bind (wpAny_standAt ?_)
  show wpAny _ _ (raiseStmt X.env (some (do let v ← eval e X.env; standAt pos; pure v)) none) _ _ _
  refine raiseStmt_D (I.ok.hd hc) (wpAny_bind (wpAny_mono (he pins s σ H _ I h) (fun v s1 z => wpAny_bind (wpAny_standAt (wpAny_pure ?_))) fun _ _ z => z))
  obtain ⟨y, H1, I1, r, a, C, dx, fI, yn, rfl, ea, h0, c, q⟩ := z
  obtain ⟨bm, N, nm, q1, bs, sn, sub, ab, col, dd, k0, k1, k2, k3, k5, mN, hC, hN, hni, hsa, TL⟩ := c.obj I1.kIn
  obtain ⟨t0, hx⟩ := excD_at I1.hok ea
  have rv : v = .ref a := r
  exact ⟨a, t0, dx, C, N, nm, q1, bs, bm, sn, sub, ab, col, dd, k0, k1, k2, k3, k5, rv, TL.hasType PySem.F.excBase_ValueError.hasBase, hC, hx, hR pins σ H1 s1 a C dx I1 ea h0 q⟩
end L2

set_option Elab.async false
set_option linter.all false
set_option maxRecDepth 100000
set_option maxHeartbeats 400000
namespace L2
open PySem PySem.Spec PyProof.Rows
theorem own2 {P : Program} {w : World} {K : PySem.W.Frag} {mg : Str → Option Value} {base : Heap} {N : List Str} {qual : Str} {scope : Scope} {f : Addr} {cd : Value} {A : Around} {outer : List Env} {s₀ : Shared} {H₀ : Hp} {E : XK} {CX : CXT} :
    PassesOwn (model P w) (cxOf CX P w K mg base N qual scope f cd A outer s₀ H₀ E).A (cxOf CX P w K mg base N qual scope f cd A outer s₀ H₀ E).env (cxOf CX P w K mg base N qual scope f cd A outer s₀ H₀ E).xe := PassesOwn.leaving
abbrev IsExcH (a C : Addr) (od : Option Addr) (h : Heap) : Prop := ∃ o, h.get? a = some o ∧ o.cls = .ref C ∧ o.dict = od ∧ ∃ vs, o.data = .fields vs
abbrev excH (a C : Addr) (od : Option Addr) : HO := .ext (IsExcH a C od)
theorem isExcH_of {h : Heap} {a C : Addr} {a0 : Value} {od : Option Addr} (x : ∃ oe vs, h.get? a = some oe ∧ oe.cls = .ref C ∧ oe.data = .fields vs ∧ vs[0]? = some a0) (d : DictAt h a od) : IsExcH a C od h := by
  obtain ⟨o, vs, e, c, hv, _⟩ := x
  obtain ⟨o', e', q⟩ := d
  rw [e] at e'
  cases e'
  exact ⟨o, e, c, q, vs, hv⟩
theorem excH_ok {P : Program} {w : World} {H : Hp} {h : Heap} {a C : Addr} {od : Option Addr} (x : IsExcH a C od h) : ObjOk P w H h a (excH a C od) := by
  refine ⟨x, ?_, fun h1 h2 y k => ?_⟩
  · obtain ⟨o, e, _⟩ := x
    exact ⟨o, e⟩
  · obtain ⟨o, e, c⟩ := y
    exact ⟨o, k o e, c⟩
theorem Flies.trackH {X : Cx} {pins : List (Addr × Obj)} {σ : St} {H H' : Hp} {s s' : Shared} {B : Heap} {a C : Addr} {a0 : Value} {od : Option Addr} (hb : Body X) (I : Inv X pins σ H s) (F : Flies X.prog X.w X.stack H s H' B a (.ref C) a0 s') {s'' : Shared} (J : Inv X pins σ H' s'') (x : IsExcH a C od s''.heap) : Inv X pins σ (upd H' a (excH a C od)) s'' := by
  obtain ⟨nf, nh, nt⟩ := F.anew
  refine J.track nt (fun o e => ?_) (fun z => ?_) (fun y c e z => ?_) (fun p hp z => ?_) (excH_ok x)
  · obtain ⟨o', q⟩ := I.base.there a o e (by rw [hb.ex]; simp)
    rw [nh] at q; cases q
  · exact nf (by rw [hb.frs, ← z]; exact List.mem_cons_self)
  · obtain ⟨v, o, q, _⟩ := I.cell y c e
    rw [z, nh] at q; cases q
  · obtain ⟨q, _⟩ := I.pin p hp
    rw [z, nh] at q; cases q
def PEX2 (X : Cx) (e : Expr) (t : St → Hp → VK → XK → Prop) : Prop := 
  ∀ (pins : List (Addr × Obj)) (s : Shared) (σ : St) (H : Hp) (Q : VK) (E : XK), Inv X pins σ H s → t σ H Q E →
    wpAny (model X.prog X.w) X.A (eval e X.env) (EP X pins σ Q) (fun e' s' => ∃ H1 s1, Inv X pins σ H1 s1 ∧ CX2 X.prog X.w X.stack H1 s1 E e' s') s
def PSX2 (X : Cx) (st : Stmt) (t : Ends → St → Hp → XK → Prop) : Prop := 
  ∀ (pins : List (Addr × Obj)) (s : Shared) (σ : St) (H : Hp) (D : Ends) (E : XK), Inv X pins σ H s → t D σ H E →
    wpAny (model X.prog X.w) X.A (exec st X.env) (SP X pins D) (fun e' s' => ∃ H1 s1, Inv X pins σ H1 s1 ∧ CX2 X.prog X.w X.stack H1 s1 E e' s') s
structure CalX2 (P : Program) (w : World) (K : PySem.W.Frag) (mg : Str → Option Value) (base : Heap) (x : Str) (ps : List Str) (k : Nat) (sp : Sp) : Prop where
  ex : ∃ (f : Addr) (fd : FuncData), FnOk P w K mg base (CX2 P w) k f fd ps sp ∧ Binds K fd ps [] ∧ PySem.W.keepIn K (.ref f) = true ∧ mg x = some (.ref f)
def tTryD (i : Nat) (K : PySem.W.Frag) (mg : Str → Option Value) (x : Str) (W : Addr) (tb : Ends → St → Hp → XK → Prop) (ts to : TS) : TS := fun D σ H =>
  tb { D with nx := to D } σ H fun cls od H' => ∃ C, cls = .ref C ∧ ExcM K mg x W C ∧ ∀ a, H' a = none → ts (D.gone i) (σ.set i (some (.ref a))) (upd H' a (excH a C od))
theorem ps_tryD {X : Cx} {st b0 : Stmt} {suite orelse : List Stmt} {tb : Ends → St → Hp → XK → Prop} {ts to : TS} {x n : Str} {i : Nat} {W : Addr} {np hpos pos : Pos} (hb : Body X) (hN : X.N.Nodup) (hi : X.N[i]? = some n) (hst : PSX2 X st tb) (hg : Gl X x) (hsuite : ∀ a, PSs (X.mrk a) (b0 :: suite) ts) (helse : PSs X orelse to)
    (hl : X.env.kindOf n = some .local) (hdb : (x == ("__debug__" : Str)) = false := by decide) (hf : X.fn n = true ∨ X.env.scope.names.lookup n = some .local := by first | exact .inl rfl | exact .inr rfl | assumption) :
    PS X (.Try [st] [.ExceptHandler (some (.Name x np)) (some n) (b0 :: suite) hpos] orelse [] pos) (tTryD i X.K X.mg x W tb ts to) := by
  intro pins s σ H D I h
  refine wpAny_Try_except (wpAny_execs_cons (wpAny_mono (hst pins s σ H { D with nx := to D } _ I h) (fun f s1 q => ?_) fun e s1 q => ?_))
  · cases f with
    | next =>
      obtain ⟨σ', H', I', q⟩ := q
      exact wpAny_execs_nil (helse pins s1 σ' H' D I' q)
    | ret v => exact q
    | brk => exact q
    | cont => exact q
  · obtain ⟨H1, s2, I1, a, cls, H', B, a0, od, rfl, F, dc, C, rfl, Z, q⟩ := q
    have fl := F.fly
    rw [hb.st] at fl
    refine looks_onD (by rw [← hb.st]; exact I1.ok.frames) hb.fr fl dc fun h4 held us4 dc4 => landsD held dc4 fun h5 fl5 us5 dc5 => ?_
    have I5 : Inv X pins σ H' { s1 with heap := h5 } := F.inv (t := s1.toks) I1 fl5.1 (us4.trans us5)
    obtain ⟨ob, hob, hobc⟩ := fl5.there
    refine wpAny_handleBy_cons (codeAny_handlers_test (ld_glob (I5.mrk a) hg Z.at_ ?_ hdb)) (by intro q; cases q)
    refine excMatches_own Z I5.kIn hob hobc (codeAny_handlers_suite_as ?_)
    refine lands_againD fl5 dc5 fun h6 fl6 us6 dc6 => ?_
    have I6 : Inv X pins σ H' { s1 with heap := h6 } := F.inv (t := s1.toks) I1 fl6.1 ((us4.trans us5).trans us6)
    have I7 := F.trackH hb I1 I6 (isExcH_of fl6.first dc6)
    refine store_ok (u := .ref a) (v := .ref a) I7 hN hi (.inl hl) rfl (fun s8 I8 => ?_) hf
    refine wpAny_mono (hsuite a pins _ _ _ (D.gone i) (I8.mrk a) (q a F.anew.2.2)) (fun f s3 z => ?_) fun _ _ z => z.elim
    have z' := SP.unmrk I6 z
    cases f with
    | next => obtain ⟨σ', H2, J, q⟩ := z'; exact J.goes hN hi hl fun s9 J9 => ⟨_, H2, J9, q⟩
    | ret v => obtain ⟨y, σ', H2, J, r, q⟩ := z'; exact J.goes hN hi hl fun s9 J9 => ⟨y, _, H2, J9, r, q⟩
    | brk => obtain ⟨σ', H2, J, q⟩ := z'; exact J.goes hN hi hl fun s9 J9 => ⟨_, H2, J9, q⟩
    | cont => obtain ⟨σ', H2, J, q⟩ := z'; exact J.goes hN hi hl fun s9 J9 => ⟨_, H2, J9, q⟩
end L2

set_option Elab.async false
set_option linter.all false
set_option maxRecDepth 100000
set_option maxHeartbeats 1000000
namespace L2
open PySem PySem.Spec PyProof.Rows
theorem excH_at {P : Program} {w : World} {H : Hp} {h : Heap} {a C : Addr} {od : Option Addr} (k : HOk P w H h) (e : H a = some (excH a C od)) : IsExcH a C od h := (show ObjOk P w H h a (.ext (IsExcH a C od)) from k a _ e).1
section
variable {K : PySem.W.Frag} {prog : Program} {w : World} {A : Around} {E : Value → Shared → Prop} {h : Heap} {g : Array GenState} {d : Drawn} {t : Nat} {os : OsState} {a C dx : Addr} {o : Obj} {f : Str} {v : Value} {mA : Str → Option Value}
theorem exc_entryH {vs : Array Value} {sl : Array (Option Value)} {tk : Tok} {Q : PySem.Fin → Shared → Prop} (Z : ExcG K C) (X : K.In h) (no : PySem.W.findIn K (.ref C) f = some none) (hx : h.get? a = some { cls := .ref C, dict := some dx, data := .fields vs, slots := sl }) (hC : ∃ o cd, h.get? C = some o ∧ o.data = .cls cd ∧ cd.hasDict = true) (hn : h.Ns dx mA) (hv : mA f = some v) (hq : Q (.done (.ret v)) ⟨h, g, d, t, os⟩) :
    wpAny (model prog w) A (Builtin.«object.__getattribute__» ⟨[.ref a, .str f tk], []⟩) Q E ⟨h, g, d, t, os⟩ := by
  have L := PySem.W.looks_findIn (M := model prog w) X no
  obtain ⟨oC, cd, hC1, hC2, hC3⟩ := hC
  repeat (any_goals (first | assumption | (with_reducible refine wpAny_loadPart_at hx ?_) | (with_reducible refine wpAny_loadPart_at hC1 ?_; rw [hC2]) | (with_reducible refine PySem.W.Looks.at L ?_) | (with_reducible refine wpAny_nsGet hn ?_; rw [hv]) | wp_step))
  rw [hC2]
  refine wpAny_pure ?_
  rw [hC3]
  repeat (any_goals (first | assumption | (with_reducible refine wpAny_loadPart_at hx ?_) | (with_reducible refine wpAny_nsGet hn ?_; rw [hv]) | wp_step))
theorem exc_byH {vs : Array Value} {sl : Array (Option Value)} {tk : Tok} {fl b : Bool} {Q : Value → Shared → Prop} (Z : ExcG K C) (X : K.In h) (no : PySem.W.findIn K (.ref C) f = some none) (hx : h.get? a = some { cls := .ref C, dict := some dx, data := .fields vs, slots := sl }) (hC : ∃ o cd, h.get? C = some o ∧ o.data = .cls cd ∧ cd.hasDict = true) (hn : h.Ns dx mA) (hv : mA f = some v) (hq : wpAny (model prog w) A (handedOut v) Q E ⟨h, g, d, t, os⟩) :
    wpAny (model prog w) A (getAttrBy (.ref a) (.str f tk) fl b) Q E ⟨h, g, d, t, os⟩ := by
  have f3 := PySem.F.excAttr_ValueError.ga.bind (.ref a)
  have L1 := PySem.W.looks_findIn (M := model prog w) X Z.ga
  have L2 := PySem.W.looks_findIn (M := model prog w) X Z.no
  have hx2 : (Value.builtin "BaseException.__getattribute__" == Value.builtin "object.__getattribute__") = false := by decide +kernel
  have hx1 : (onTheHeap (Value.ref C) && Value.builtin "BaseException.__getattribute__" == Value.builtin "object.__getattribute__") = false := by rw [hx2]; rfl
  have hx0 : (b && onTheHeap (Value.builtin "BaseException.__getattribute__")) = false := by cases b <;> rfl
  repeat (any_goals (first | assumption | (with_reducible refine wpAny_loadPart_at hx ?_) | (with_reducible refine PySem.W.Looks.at L1 ?_) | (with_reducible refine PySem.W.Looks.at L2 ?_) | wp_step))
  refine codeAny_call_builtin PySem.F.excAttr_ValueError.ga.plain F.entry_bexc_ga (check_ga_exc Z X hx rfl (exc_entryH Z X no hx hC hn hv ?_))
  repeat (any_goals (first | assumption | wp_step))
theorem exc_attrH {vs : Array Value} {sl : Array (Option Value)} {b : Bool} {Q : Value → Shared → Prop} (Z : ExcG K C) (X : K.In h) (no : PySem.W.findIn K (.ref C) f = some none) (hx : h.get? a = some { cls := .ref C, dict := some dx, data := .fields vs, slots := sl }) (hC : ∃ o cd, h.get? C = some o ∧ o.data = .cls cd ∧ cd.hasDict = true) (hn : h.Ns dx mA) (hv : mA f = some v) (hh : PySem.W.handedIn v = true) (hq : Q v ⟨h, g, d, t + 1, os⟩) :
    wpAny (model prog w) A (getAttr (.ref a) f b) Q E ⟨h, g, d, t, os⟩ := by
  have hq' : wpAny (model prog w) A (handedOut v) Q E ⟨h, g, d, t + 1, os⟩ := by rw [PySem.W.handedOut_of hh]; exact wpAny_pure hq
  unfold getAttr
  repeat (any_goals (first | assumption | with_reducible apply exc_byH Z X no hx hC hn hv | wp_step))
end
section
variable {X : Cx} {e : Expr} {ta : TE} {f : Str} {pos : Pos}
def tExcH (K : PySem.W.Frag) (mg : Str → Option Value) (ta : TE) (f : Str) : TE := fun σ H Q => ta σ H fun x H1 => ∃ (a C dx fI : Addr) (yn : Str) (fs : List (Str × V)) (v : V), x = .ref a ∧ H1 a = some (excH a C (some dx)) ∧ H1 dx = some (.xd fs) ∧ ExcG K C ∧ ExcI K mg yn C fI ∧ ExcS K C f ∧ fs.lookup f = some v ∧ Q v H1
theorem pe_excFldH {K : PySem.W.Frag} {mg : Str → Option Value} (hK : X.K = K) (hmg : X.mg = mg) (he : PE X e ta) (hb : attributeBase e f X.env (eval e X.env) = eval e X.env) : PE X (.Attribute e f pos) (tExcH K mg ta f) := by
  subst hK hmg
  intro pins s σ H Q I h
  refine attr_of hb (thn (he pins s σ H _ I h) fun u s1 ⟨x, H1, I1, rx, a, C, dx, fI, yn, fs, v, ex, ea, ed, Z, c, S, l, q⟩ => ?_)
  subst ex
  obtain rfl : u = Value.ref a := rx
  obtain ⟨bm, Na, nm, q', bs, sn, sub, ab, col, dd, k0, k1, k2, k3, k5, mN, hC, hN, hni, hns, TL⟩ := c.obj I1.kIn
  obtain ⟨⟨oc, od, dt, sl⟩, h1, hc1, hd1, vs, hv1⟩ := excH_at I1.hok ea
  dsimp only at hc1 hd1 hv1
  subst hc1 hd1 hv1
  obtain ⟨mA, hns1, rel⟩ := (show ObjOk X.prog X.w H1 s1.heap dx (.xd fs) from I1.hok dx _ ed)
  obtain ⟨u, hu, ru⟩ := RelO.some_of (v := v) (o := mA f) (by rw [← l]; exact rel f)
  have KX := I1.kIn
  have I2 := I1.tok (s1.toks + 1)
  obtain ⟨hp, g, d, tk, os⟩ := s1
  exact exc_attrH Z KX S.no h1 ⟨_, _, hC, rfl, rfl⟩ hns1.ns hu (handed_of ru) ⟨v, H1, I2, ru, q⟩
def rIsz (K : PySem.W.Frag) : List V → Hp → VK → Prop := fun xs H Q => ∃ a D c b, xs = [.ref a, c] ∧ (H a = some (excO a D) ∨ ∃ od, H a = some (excH a D od)) ∧ ExcG K D ∧ PySem.W.kitOne K (.ref D) (vO c) = some b ∧ Q (.bl b) H
theorem call_isz {X : Cx} {K : PySem.W.Frag} (hK : X.K = K) : CallR X (.builtin "isinstance") (rIsz K) := by
  subst hK
  intro pins s σ H xs us Q I r h
  obtain ⟨a, D, c, b, rfl, e, Z, hk, q⟩ := h
  obtain ⟨u, u', rfl, rx, rT⟩ := vals2 r
  obtain rfl : u = Value.ref a := rx
  have hc : u' = vO c := by
    cases c with
    | ref c => exact rT
    | ty n => exact rT
    | _ => exact absurd hk (by unfold PySem.W.kitOne PySem.W.kitCls vO; simp)
  subst hc
  have hx : IsExc a D s.heap := by
    rcases e with e | ⟨od, e⟩
    · exact excO_at I.hok e
    · obtain ⟨o, h1, h2, _⟩ := excH_at I.hok e
      exact ⟨o, h1, h2⟩
  exact PySem.W.kia_one (kitx_exc Z) I.kIn hx hk (fun z => nomatch z) fun tk => ⟨.bl _, H, I.tok _, rfl, q⟩
end
end L2

set_option Elab.async false
set_option linter.all false
set_option maxRecDepth 100000
set_option maxHeartbeats 1000000
namespace L2
open PySem PySem.Spec PyProof.Rows
structure CalI2 (P : Program) (w : World) (K : PySem.W.Frag) (mg : Str → Option Value) (base : Heap) (x : Str) (C : Addr) (ps : List Str) (k : Nat) (sp : Sp) : Prop where
  ex : ∃ (f : Addr) (fd : FuncData), FnOk P w K mg base (CX2 P w) k f fd ps sp ∧ Binds K fd ps [] ∧ Mk K C f ∧ mg x = some (.ref C)
def tMakeX2 (C : Addr) (sp : Sp) (t : TA) : St → Hp → VK → XK → Prop := fun σ H Q E => t σ H fun vs H1 => ∀ x dx, H1 x = none → H1 dx = none → dx ≠ x →
  sp (.ref x :: (vs ++ [])) (upd (upd H1 dx (.own x)) x (.ins C dx [])) (fun v H2 => v = .non ∧ Q (.ref x) H2) E
section
variable {X : Cx} {k : Nat} {C : Addr} {ps : List Str} {sp : Sp} {E : XK} {x : Str} {p pos : Pos} {e : Expr} {es : List Expr} {t : TA}
theorem pex2_make (c : CalI2 X.prog X.w X.K X.mg X.base x C ps k sp) (hr : Room (k + 1) X.A) (hg : Gl X x) (ha : PA X.nox (e :: es) t)
    (hdb : (x == ("__debug__" : Str)) = false := by decide) (he : starEach (e :: es) X.env = (false, eval e X.env) :: starEach es X.env := by rfl) (hpl : (backTo pos (starEach es X.env)).any (·.1) = false := by rfl) :
    PEX2 X (.Call (.Name x p) (e :: es) [] pos) (tMakeX2 C sp t) := by
  intro pins s σ H Q E I h
  obtain ⟨f, fd, F, b, M, hm⟩ := c.ex
  refine wpAny_Call_Name_kw (ld_glob I hg hm ?_ hdb)
  refine PySem.W.callWith_K (h₀ := X.base) I.ok.mod.kin M.kp (wpAny_mono (ha pos pins s σ H _ (I.wish _) h) (fun us s1 z => ?_) fun _ _ z => z.elim) he hpl
  obtain ⟨vs, H1, I0, r, q⟩ := z
  have I1 := I0.unwish
  refine ⟨I1.kIn, ?_⟩
  have hq := q (s1.heap.objs.size + 1) s1.heap.objs.size (I1.hok.fresh (Nat.le_succ _)) (I1.hok.fresh (Nat.le_refl _)) (Nat.ne_of_lt (Nat.lt_succ_self _))
  have I2 := Inv.made (C := C) I1
  have r2 : Vals (V.ref (s1.heap.objs.size + 1) :: (vs ++ [])) (Value.ref (s1.heap.objs.size + 1) :: (us ++ [])) := .cons rfl (r.append .nil)
  have hl : (Value.ref (s1.heap.objs.size + 1) :: us ++ []).length = ps.length := by
    have e := r2.length
    rw [F.len _ _ _ _ hq] at e
    exact e.symm
  have bd := b _ (Value.ref (s1.heap.objs.size + 1) :: us) I2.kIn hl
  rw [List.cons_append] at bd
  refine wpAny_call (make_map (f := f) I1.kIn M.makes M.init (beq_iff_eq.mp M.fn) (codeAny_mono (F.run _ X.stack _ _ ⟨Value.ref (s1.heap.objs.size + 1) :: us, []⟩ (Value.ref (s1.heap.objs.size + 1) :: (us ++ [])) _ _ E (hr.make C us [])
    (I2.env0.make C us []) bd r2 hq) fun rr s' hq' => ?_))
  cases rr with
  | error e => exact ⟨_, _, I2, hq'⟩
  | ok fl =>
    cases fl with
    | ret u =>
      obtain ⟨v, H', I3, rv, ev, q3⟩ := I2.after hq'
      subst ev
      exact ⟨rv, ⟨V.ref (s1.heap.objs.size + 1), H', I3, rfl, q3⟩⟩
    | next => exact False.elim hq'
    | brk => exact False.elim hq'
    | cont => exact False.elim hq'
theorem psx2_expr {te : St → Hp → VK → XK → Prop} (he : PEX2 X e te) (hs : swapsWith e none pos.line X.env = pure false := by rfl) : PSX2 X (.Expr e pos) (tDropX te) := by
  intro pins s σ H D E I h
  exact wpAny_Expr_any (thn (he pins s σ H _ E I h) fun v s1 ⟨x, H1, I1, r1, q1⟩ => ⟨σ, H1, I1, q1⟩) I.quiet hs
theorem pe_cal2 (c : CalX2 X.prog X.w X.K X.mg X.base x ps k sp) (hp : Passes (CX2 X.prog X.w) X E) (hr : Room k X.A) (hg : Gl X x) (ha : PA X (e :: es) t)
    (hdb : (x == ("__debug__" : Str)) = false := by decide) (he : starEach (e :: es) X.env = (false, eval e X.env) :: starEach es X.env := by rfl) (hpl : (backTo pos (starEach es X.env)).any (·.1) = false := by rfl) :
    PE X (.Call (.Name x p) (e :: es) [] pos) (tCall sp [] E t) := by
  obtain ⟨f, fd, F, b, hk, hm⟩ := c.ex
  exact pe_call F hr hg hm hk b .nil hp ha hdb he hpl
end
structure RoomH (k : Nat) (A : Around) : Prop where
  dp : A.depth + 3 * k + 5 < recursionLimit
  un : A.units + 16 * k + 200 < cLine
theorem Room.hm {j k : Nat} {A : Around} {v : Option Value} (r : Room k A) (h : j ≤ k) : RoomH j (A.mark v) := ⟨by have := r.dp; show A.depth + 3 * j + 5 < _; omega, by have := r.un; show A.units + 16 * j + 200 < _; omega⟩
theorem RoomH.mono {j k : Nat} {A : Around} (r : RoomH k A) (h : j ≤ k) : RoomH j A := ⟨by have := r.dp; omega, by have := r.un; omega⟩
theorem RoomH.deeper {k : Nat} {A : Around} (r : RoomH (k + 1) A) (env : Env) : RoomH k (A.deeper env) :=
  ⟨by have := r.dp; show A.depth + 1 + 3 * k + 5 < _; omega, by have := r.un; show A.units + 3 + 16 * k + 200 < _; omega⟩
theorem RoomH.depth {k : Nat} {A : Around} (r : RoomH k A) : A.depth < recursionLimit := by have := r.dp; omega
structure FnOkH (P : Program) (w : World) (K : PySem.W.Frag) (mg : Str → Option Value) (base : Heap) (k : Nat) (f : Addr) (fd : FuncData) (ps : List Str) (sp : Sp) : Prop where
  len : ∀ vs H Q E, sp vs H Q E → vs.length = ps.length
  run : ∀ (A : Around) (outer : List Env) (s : Shared) (H : Hp) (args : Args) (us : List Value) (vs : List V) (Q : VK), RoomH k A → Env0 P w K mg base A outer s H → BindsTo s fd args (ps.zip us) → Vals vs us → sp vs H Q E0 →
    codeAny (model P w) A (.call (.ref f) args) (CR CX0 outer P w H s Q E0) s
def Cx.uncalm (X : Cx) : Cx := { X with calm := false }
def calmA (A : Around) : Around := { A with handled := none }
theorem inv_startH {P : Program} {w : World} {K : PySem.W.Frag} {mg : Str → Option Value} {base : Heap} {N ps : List Str} {qual : Str} {scope : Scope} {f : Addr} {cd : Value} {A : Around} {outer : List Env} {s s1 : Shared} {H : Hp} {E : XK} {us : List Value} {vs : List V}
    (S : FnScope N ps scope) (e0 : Env0 P w K mg base A outer s H) (hl : vs.length = ps.length) (r : Vals vs us)
    (x : InCallC s s.heap.objs.size (bindL (envOfC qual scope s.heap.objs.size f cd).kindOf (ps.zip us) fun _ => none) (cellsFrom (s.heap.objs.size + 1) scope.names []) (bindC (envOfC qual scope s.heap.objs.size f cd).kindOf (ps.zip us) fun _ => none) s1) :
    Inv (cxOf CX0 P w K mg base N qual scope f cd A outer s H E).uncalm [] (start N vs) H s1 := by
  have e1 : Env0 P w K mg base (calmA A) outer s H := ⟨e0.frames, e0.mod, e0.bs, e0.bsz, e0.funs, e0.frf, e0.hok, e0.bare⟩
  have I : Inv (cxOf CX0 P w K mg base N qual scope f cd (calmA A) outer s H E) [] (start N vs) H s1 := inv_start S rfl e1 hl r x
  exact ⟨⟨I.ok.mod, I.ok.kind, I.ok.glob, I.ok.blt, I.ok.above, I.ok.inj, I.ok.has, I.ok.cab, (fun z => by cases z), Around.frames_deeper e0.frames, I.ok.stk, I.ok.exf, I.ok.bs, I.ok.bsz, I.ok.noex, I.ok.exfs, I.ok.funs, I.ok.frf⟩, I.os, I.bare, I.base, I.loc, I.cell, I.free, I.freeC, I.pin, I.hok, I.len⟩
theorem fnH_of {P : Program} {w : World} {K : PySem.W.Frag} {mg : Str → Option Value} {base : Heap} {k : Nat} {f : Addr} {name qual : Str} {params : Arguments} {body : List Stmt} {scope : Scope} {dV kV doc pm cdv ct oc : Value} {an od : Option Addr}
    {osl : Array (Option Value)} {N ps : List Str} {sp : Sp} (lk : K.lookup f = some ⟨oc, od, .func (PySem.W.fnOf name qual params body scope dV kV doc pm an cdv ct), osl⟩) (hcd : PySem.W.codeIn K cdv qual = true) (S : FnScope N ps scope)
    (len : ∀ vs H Q E, sp vs H Q E → vs.length = ps.length)
    (hbody : ∀ (A : Around) (outer : List Env) (s : Shared) (H : Hp) (vs : List V) (Q : VK), RoomH k (A.deeper (envOfC qual scope s.heap.objs.size f cdv)) → sp vs H Q E0 →
      ∃ t, PSs (cxOf CX0 P w K mg base N qual scope f cdv A outer s H E0).uncalm body t ∧ t { nx := fun _ H' => Q .non H', rt := Q } (start N vs) H) :
    FnOkH P w K mg base (k + 1) f (PySem.W.fnOf name qual params body scope dV kV doc pm an cdv ct) ps sp := by
  refine ⟨len, fun A outer s H args us vs Q hr e0 hb r hsp => ?_⟩
  have hl := len _ _ _ _ hsp
  have KX : K.In s.heap := e0.mod.kin.keeps fun b o e => (e0.bs b o e).1
  have lim : s.heap.NoLimit := e0.mod.nolimit.keeps fun b o e => (e0.bs b o e).1
  have hkind : ∀ y ∈ ps.zip us, scope.names.lookup y.1 = some .local ∨ (scope.names.lookup y.1 = some .cell ∧ ((cellsFrom (s.heap.objs.size + 1) scope.names []).lookup y.1).isSome = true) := fun ⟨n, v⟩ hy => by
    rcases S.par n (List.of_mem_zip hy).1 with q | q
    · exact .inl q
    · exact .inr ⟨q, PySem.W.cellsFrom_some _ _ _ (.inl q)⟩
  refine codeAny_call_function hr.depth (KX _ _ lk) rfl S.co S.gen rfl (PySem.W.codeRec_of KX hcd) (hb _ _ _ _ ?_)
  refine wpAny_newFunctionEnv_cells S.kind hkind fun env he s1 x => ?_
  subst he
  refine ⟨lim.keeps x.toInCall.keep, codeAny_func ?_⟩
  obtain ⟨t, ht, hq⟩ := hbody A outer s H vs Q (hr.deeper _) hsp
  have I : Inv (cxOf CX0 P w K mg base N qual scope f cdv A outer s H E0).uncalm [] (start N vs) H s1 := inv_startH S e0 hl r x
  refine wpAny_mono (ht [] s1 (start N vs) H _ I hq) (fun fl s' hs => ?_) fun e s' hs => hs
  have fin : ∀ {σ' : St} {H' : Hp} {v : V} {u : Value}, Inv (cxOf CX0 P w K mg base N qual scope f cdv A outer s H E0).uncalm [] σ' H' s' → RelV v u → Q v H' → CE outer P w H s Q u s' :=
    fun {σ' H' v u} J rv q => ⟨v, H', J.os, J.bare, J.base, J.hok, rv, q⟩
  cases fl with
  | ret u =>
    obtain ⟨v, σ', H', J, rv, q⟩ := hs
    exact fin J rv q
  | next =>
    obtain ⟨σ', H', J, q⟩ := hs
    exact fin (v := V.non) (u := Value.none) J rfl q
  | brk =>
    obtain ⟨_, _, _, q⟩ := hs
    exact False.elim q
  | cont =>
    obtain ⟨_, _, _, q⟩ := hs
    exact False.elim q
theorem Fun.okH {P : Program} {w : World} {K : PySem.W.Frag} {mg : Str → Option Value} {base : Heap} {x qual : Str} {st : Stmt} {f : Addr} {fd : FuncData} {N ps : List Str} {k : Nat} {sp : Sp} (F : Fun K x qual st f fd) (S : FnScope N ps (defScope st)) (len : ∀ vs H Q E, sp vs H Q E → vs.length = ps.length)
    (hbody : ∀ (cdv : Value) (A : Around) (outer : List Env) (s : Shared) (H : Hp) (vs : List V) (Q : VK) (E : XK), RoomH k (A.deeper (envOfC qual (defScope st) s.heap.objs.size f cdv)) → sp vs H Q E →
      ∃ t, PSs (cxOf CX0 P w K mg base N qual (defScope st) f cdv A outer s H E).uncalm.nox (defBody st) t ∧ t { nx := fun _ H' => Q .non H', rt := Q } (start N vs) H) : FnOkH P w K mg base (k + 1) f fd ps sp := by
  obtain ⟨oc, od, kV, doc, pm, an, cdv, ct, osl, rfl, lk, hcd⟩ := F.ex
  refine fnH_of lk hcd S len fun A outer s H vs Q hr hsp => ?_
  obtain ⟨t, h, q⟩ := hbody cdv A outer s H vs Q E0 hr hsp
  exact ⟨t, h.nox, q⟩
structure CalH (P : Program) (w : World) (K : PySem.W.Frag) (mg : Str → Option Value) (base : Heap) (x : Str) (ps : List Str) (k : Nat) (sp : Sp) : Prop where
  ex : ∃ (f : Addr) (fd : FuncData), FnOkH P w K mg base k f fd ps sp ∧ Binds K fd ps [] ∧ PySem.W.keepIn K (.ref f) = true ∧ mg x = some (.ref f)
theorem pe_calH {X : Cx} {x : Str} {ps : List Str} {k : Nat} {sp : Sp} {e : Expr} {es : List Expr} {t : TA} {p pos : Pos} (c : CalH X.prog X.w X.K X.mg X.base x ps k sp) (hr : RoomH k X.A) (hg : Gl X x) (ha : PA X (e :: es) t)
    (hdb : (x == ("__debug__" : Str)) = false := by decide) (he : starEach (e :: es) X.env = (false, eval e X.env) :: starEach es X.env := by rfl) (hpl : (backTo pos (starEach es X.env)).any (·.1) = false := by rfl) :
    PE X (.Call (.Name x p) (e :: es) [] pos) (tCall sp [] E0 t) := by
  intro pins s σ H Q I h
  obtain ⟨f, fd, F, b, hk, hm⟩ := c.ex
  refine wpAny_Call_Name_kw (ld_glob I hg hm ?_ hdb)
  refine PySem.W.callWith_K (h₀ := X.base) I.ok.mod.kin hk (thn (ha pos pins s σ H _ I h) fun us s1 ⟨vs, H1, I1, r, q⟩ => ⟨I1.kIn, ?_⟩) he hpl
  have r2 : Vals (vs ++ []) (us ++ []) := r.append .nil
  have hl : (us ++ []).length = ps.length := by rw [← r2.length]; exact F.len _ _ _ _ q
  refine wpAny_call (codeAny_mono (F.run X.A X.stack s1 H1 ⟨us, []⟩ (us ++ []) (vs ++ []) Q hr I1.env0 (b s1 us I1.kIn hl) r2 q) fun r s' hq => ?_)
  cases r with
  | error e => exact hq.elim
  | ok fl =>
    cases fl with
    | ret u => exact I1.after hq
    | next => exact False.elim hq
    | brk => exact False.elim hq
    | cont => exact False.elim hq
theorem count_eqUH {x : V} : ∀ {xs : List V} {us : List Value}, Vals xs us → xs.all flatV = true → us.countP (eqU x) = xs.countP fun y => eqV y x
  | _, _, .nil, _ => rfl
  | y :: xs, u :: us, .cons r t, f => by
    rw [List.all_cons, Bool.and_eq_true] at f
    rw [List.countP_cons, List.countP_cons, eqU_of r f.1, count_eqUH t f.2]
def rCountH : V → List V → Hp → VK → Prop := fun x vs H Q => ∃ l xs y, x = .ref l ∧ vs = [y] ∧ H l = some (.lst xs) ∧ flatV y = true ∧ xs.all flatV = true ∧ Q (.int ((xs.countP fun z => eqV z y : Nat) : Int)) H
theorem mt_countH {X : Cx} : MtM X "list.count" rCountH := by
  intro pins s σ H x vs v us Q I rx rv h
  obtain ⟨l, xs, y, rfl, rfl, hH, fy, fs, q⟩ := h
  cases rx
  obtain ⟨u, rfl, ru⟩ := vals1 rv
  obtain ⟨z, its, n, r, hl, e⟩ := I.lstM hH
  refine call_meets F.slot_list_count ⟨_, e, rfl⟩ F.entry_list_count (F.args_list_count_2 _ _) (SeqAt.list_countAt l its.toArray n none #[] u (eqU y)) ⟨e, fun w hw => mem_eqAt ru fy r fs w (by simpa using hw), ?_⟩
  refine ⟨.int _, H, I.tok _, ⟨_, rfl⟩, ?_⟩
  rw [show its.toArray.toList = its by simp, count_eqUH r fs]
  exact q
theorem eqU_at {x : V} : ∀ {xs : List V} {us : List Value} (j : Nat) (y : V), Vals xs us → xs.all flatV = true → xs[j]? = some y → ∃ u, us[j]? = some u ∧ eqU x u = eqV y x
  | y :: xs, u :: us, 0, _, .cons r t, f, e => by
    rw [List.all_cons, Bool.and_eq_true] at f
    cases e
    exact ⟨u, rfl, eqU_of r f.1⟩
  | y :: xs, u :: us, j + 1, z, .cons r t, f, e => by
    rw [List.all_cons, Bool.and_eq_true] at f
    exact eqU_at j z t f.2 e
def rIndexH : V → List V → Hp → VK → Prop := fun x vs H Q => ∃ l xs y z, ∃ j : Nat, x = .ref l ∧ vs = [y] ∧ H l = some (.lst xs) ∧ flatV y = true ∧ xs.all flatV = true ∧ j < 1000 ∧ xs[j]? = some z ∧ eqV z y = true ∧ (∀ m z, m < j → xs[m]? = some z → eqV z y = false) ∧ Q (.int (j : Int)) H
theorem mt_indexH {X : Cx} : MtM X "list.index" rIndexH := by
  intro pins s σ H x vs v us Q I rx rv h
  obtain ⟨l, xs, y, z0, j, rfl, rfl, hH, fy, fs, hj, ej, ez, no, q⟩ := h
  cases rx
  obtain ⟨u, rfl, ru⟩ := vals1 rv
  obtain ⟨z, its, n, r, hl, e⟩ := I.lstM hH
  have hlen := r.length
  have hjx : j < xs.length := (List.getElem?_eq_some_iff.mp ej).1
  have at_ : ∀ m (hm : m < its.toArray.size), ∃ z, xs[m]? = some z ∧ eqU y its.toArray[m] = eqV z y := fun m hm => by
    have hm' : m < its.length := by simpa using hm
    have hm2 : m < xs.length := by omega
    obtain ⟨u', e1, e2⟩ := eqU_at (x := y) m xs[m] r fs (List.getElem?_eq_getElem hm2)
    refine ⟨xs[m], List.getElem?_eq_getElem hm2, ?_⟩
    rw [List.getElem?_eq_getElem hm'] at e1
    cases e1
    rw [← e2]
    simp
  refine call_meets F.slot_list_index ⟨_, e, rfl⟩ F.entry_list_index (F.args_list_index_2 _ _) (SeqAt.list_indexAt l its.toArray n none #[] u (eqU y) j (by simp; omega) (by omega) ?_ ?_) ⟨e, fun w hw => mem_eqAt ru fy r fs w (by simpa using hw), ?_⟩
  · obtain ⟨z', e1, e2⟩ := at_ j (by simp; omega)
    rw [e2]
    rw [ej] at e1
    cases e1
    exact ez
  · intro m hm hmj
    obtain ⟨z', e1, e2⟩ := at_ m hm
    rw [e2]
    exact no m z' hmj e1
  · exact ⟨.int _, H, I.tok _, ⟨_, rfl⟩, q⟩
end L2

set_option Elab.async false
set_option linter.all false
set_option maxRecDepth 100000
set_option maxHeartbeats 1000000
namespace My
open PySem L2
def top (i : Nat) : Stmt := PySem.Challenge.pw_rotaward_k14_no_ward.main.body.getD i (.Pass ⟨0, 0, 0, 0⟩)
abbrev s__wall : Stmt := top 0
abbrev s_NoHand___init__ : Stmt := inClass (top 4) 0
abbrev s_NoPost___init__ : Stmt := inClass (top 5) 0
abbrev s_Ward___init__ : Stmt := inClass (top 10) 0
abbrev s_Ward_choices : Stmt := inClass (top 10) 1
abbrev s_Ward_hours : Stmt := inClass (top 10) 2
abbrev s_Ward_is_night : Stmt := inClass (top 10) 3
abbrev s_Ward_tables : Stmt := inClass (top 10) 4
abbrev s_need_month : Stmt := top 11
abbrev s_need_hands : Stmt := top 12
abbrev s_need_posts : Stmt := top 13
abbrev s_is_skills : Stmt := top 14
abbrev s_is_post : Stmt := top 15
abbrev s__law_draw : Stmt := top 17
abbrev s__law_whole : Stmt := top 18
abbrev s__law_ways : Stmt := top 19
abbrev s__law_set : Stmt := top 20
abbrev s__law_ward : Stmt := top 21
abbrev s__law_out : Stmt := top 22
abbrev s__law_faults : Stmt := top 23
abbrev s__law_due : Stmt := top 24
abbrev s__law_named : Stmt := top 25
abbrev s__law_told : Stmt := top 26
abbrev s_law : Stmt := top 27
structure Txt (K : PySem.W.Frag) (mg : Str → Option Value) (C_Ward : Addr) (C_NoMonth : Addr) (C_NoHand : Addr) (C_NoPost : Addr) (C_WardError : Addr) : Prop where
  ValueError : mg "ValueError" = none
  bool : mg "bool" = none
  enumerate : mg "enumerate" = none
  int : mg "int" = none
  isinstance : mg "isinstance" = none
  len : mg "len" = none
  list : mg "list" = none
  range : mg "range" = none
  tuple : mg "tuple" = none
  g_MOST_DAYS : ∃ tk, mg "MOST_DAYS" = some (.int 31 tk)
  g_MOST_HANDS : ∃ tk, mg "MOST_HANDS" = some (.int 8 tk)
  g_MOST_POSTS : ∃ tk, mg "MOST_POSTS" = some (.int 6 tk)
  cl_Ward : Cls K C_Ward
  n_Ward_days : NoAttr K C_Ward "days"
  n_Ward_hands : NoAttr K C_Ward "hands"
  n_Ward_posts : NoAttr K C_Ward "posts"
  x_NoMonth : ExcC K mg "NoMonth" C_NoMonth
  kk_NoMonth : PySem.W.keepIn K (.ref C_NoMonth) = true
  c_NoHand : mg "NoHand" = some (.ref C_NoHand)
  ei_NoHand : ∃ f, ExcI K mg "NoHand" C_NoHand f
  c_NoPost : mg "NoPost" = some (.ref C_NoPost)
  ei_NoPost : ∃ f, ExcI K mg "NoPost" C_NoPost f
  c_WardError : mg "WardError" = some (.ref C_WardError)
  wb_ga : PySem.W.specialIn K (.ref C_WardError) "__getattribute__" = some (some (.builtin "type.__getattribute__"))
  wb_rd : PySem.W.readsIn K C_WardError (.type "type") = true
  wb_fc : PySem.W.findCls K (.ref C_WardError) (.type "type") "__init__" = some (.val (.builtin "ValueError.__init__"))
  sa_h : PySem.W.findIn K (.ref C_NoHand) "__setattr__" = some (some (.builtin "object.__setattr__"))
  sn_h : PySem.W.findIn K (.ref C_NoHand) "number" = some none
  sa_p : PySem.W.findIn K (.ref C_NoPost) "__setattr__" = some (some (.builtin "object.__setattr__"))
  sn_p : PySem.W.findIn K (.ref C_NoPost) "number" = some none
  xa_NoMonth : excOne K C_NoMonth 0 [C_NoMonth, C_NoHand, C_NoPost] C_WardError = true
  xa_NoHand : excOne K C_NoHand 1 [C_NoMonth, C_NoHand, C_NoPost] C_WardError = true
  xa_NoPost : excOne K C_NoPost 2 [C_NoMonth, C_NoHand, C_NoPost] C_WardError = true
  m_ty : PySem.W.typeIn K (.ref C_WardError) = some (.type "type")
  m_be : PySem.W.mroIn K C_WardError (.type "BaseException") = some true
  m_s0 : PySem.W.mroIn K C_NoMonth (.ref C_WardError) = some true
  m_s1 : PySem.W.mroIn K C_NoHand (.ref C_WardError) = some true
  m_s2 : PySem.W.mroIn K C_NoPost (.ref C_WardError) = some true
theorem Txt.b_WardError {K : PySem.W.Frag} {mg : Str → Option Value} {C_Ward C_NoMonth C_NoHand C_NoPost C_WardError : Addr} (T : Txt K mg C_Ward C_NoMonth C_NoHand C_NoPost C_WardError) : BaseI K mg "WardError" C_WardError := ⟨T.c_WardError, T.wb_ga, T.wb_rd, T.wb_fc⟩
theorem Txt.e0 {K : PySem.W.Frag} {mg : Str → Option Value} {C_Ward C_NoMonth C_NoHand C_NoPost C_WardError : Addr} (T : Txt K mg C_Ward C_NoMonth C_NoHand C_NoPost C_WardError) : ExcK K C_NoMonth 0 [C_NoMonth, C_NoHand, C_NoPost] C_WardError := .of T.xa_NoMonth
theorem Txt.e1 {K : PySem.W.Frag} {mg : Str → Option Value} {C_Ward C_NoMonth C_NoHand C_NoPost C_WardError : Addr} (T : Txt K mg C_Ward C_NoMonth C_NoHand C_NoPost C_WardError) : ExcK K C_NoHand 1 [C_NoMonth, C_NoHand, C_NoPost] C_WardError := .of T.xa_NoHand
theorem Txt.e2 {K : PySem.W.Frag} {mg : Str → Option Value} {C_Ward C_NoMonth C_NoHand C_NoPost C_WardError : Addr} (T : Txt K mg C_Ward C_NoMonth C_NoHand C_NoPost C_WardError) : ExcK K C_NoPost 2 [C_NoMonth, C_NoHand, C_NoPost] C_WardError := .of T.xa_NoPost
theorem Txt.m0 {K : PySem.W.Frag} {mg : Str → Option Value} {C_Ward C_NoMonth C_NoHand C_NoPost C_WardError : Addr} (T : Txt K mg C_Ward C_NoMonth C_NoHand C_NoPost C_WardError) : ExcM K mg "WardError" C_WardError C_NoMonth := ⟨T.c_WardError, T.m_ty, T.m_be, T.m_s0⟩
theorem Txt.m1 {K : PySem.W.Frag} {mg : Str → Option Value} {C_Ward C_NoMonth C_NoHand C_NoPost C_WardError : Addr} (T : Txt K mg C_Ward C_NoMonth C_NoHand C_NoPost C_WardError) : ExcM K mg "WardError" C_WardError C_NoHand := ⟨T.c_WardError, T.m_ty, T.m_be, T.m_s1⟩
theorem Txt.m2 {K : PySem.W.Frag} {mg : Str → Option Value} {C_Ward C_NoMonth C_NoHand C_NoPost C_WardError : Addr} (T : Txt K mg C_Ward C_NoMonth C_NoHand C_NoPost C_WardError) : ExcM K mg "WardError" C_WardError C_NoPost := ⟨T.c_WardError, T.m_ty, T.m_be, T.m_s2⟩
abbrev Num (H : Hp) (dx : Addr) (n : Int) : Prop := H dx = some (.xd (putF "number" (.int n) []))
theorem hid_made {H : Hp} {x dx : Addr} {o1 o2 o3 : HO} (hx : H x = none) (hd : upd H x o1 dx = none) (ne : dx ≠ x) : Same H (hid (upd (upd (upd H x o1) dx o2) x o3) x) ∧ hid (upd (upd (upd H x o1) dx o2) x o3) x dx = some o2 := by
  refine ⟨fun b o e => ?_, ?_⟩
  · have nx : b ≠ x := ne_of_none e hx
    have nd : b ≠ dx := ne_of_none (same_new hx o1 _ _ e) hd
    rw [hid_ne nx, upd_ne nx, upd_ne nd, upd_ne nx]
    exact e
  · rw [hid_ne ne, upd_ne ne, upd_same]
abbrev badH (k : Nat) (x : Int) : Prop := k = 8 ∨ ¬ okH x
abbrev badP (k : Nat) (q : Pst) : Prop := k = 6 ∨ ¬ okP q
theorem first_grow {α : Type} {xs : List α} {B : Nat → α → Prop} {i : Nat} {x : α} (h : ∀ j y, j < i → xs[j]? = some y → ¬ B j y) (e : xs[i]? = some x) (n : ¬ B i x) : ∀ j y, j < i + 1 → xs[j]? = some y → ¬ B j y := fun j y hj hy => by
  by_cases hji : j < i
  · exact h j y hji hy
  · have : j = i := by omega
    subst this
    rw [e] at hy
    cases hy
    exact n
inductive Due (d : Int) (hs : List Int) (ps : List Pst) : Str → Int → Prop
  | month : ¬ (1 ≤ d ∧ d ≤ 31) → Due d hs ps "month" (-1)
  | hand (k : Nat) (x : Int) : 1 ≤ d ∧ d ≤ 31 → (∀ j y, j < k → hs[j]? = some y → ¬ badH j y) → hs[k]? = some x → badH k x → Due d hs ps "hand" k
  | post (k : Nat) (x : Pst) : 1 ≤ d ∧ d ≤ 31 → (∀ j y, hs[j]? = some y → ¬ badH j y) → (∀ j y, j < k → ps[j]? = some y → ¬ badP j y) → ps[k]? = some x → badP k x → Due d hs ps "post" (k + 1)
  | made : 1 ≤ d ∧ d ≤ 31 → (∀ j y, hs[j]? = some y → ¬ badH j y) → (∀ j y, ps[j]? = some y → ¬ badP j y) → Due d hs ps "made" (-1)
abbrev Off2 (H : Hp) (ha pa : Addr) (H' : Hp) : Prop := ∀ c o, H c = some o → c ≠ ha → c ≠ pa → H' c = some o
structure Fi (H : Hp) (ha pa : Addr) (H' : Hp) (hs : List Int) (ts : List V) (ps : List Pst) : Prop where
  fr : Off2 H ha pa H'
  eh : H' ha = some (.lst (hs.map V.int))
  ep : H' pa = some (.lst ts)
  po : Posts H' ts ps
  ne : ha ≠ pa
  oh : H ha ≠ none
  op : H pa ≠ none
theorem Fi.mono {H H' H'' : Hp} {ha pa : Addr} {hs : List Int} {ts : List V} {ps : List Pst} (F : Fi H ha pa H' hs ts ps) (g : Same H' H'') : Fi H ha pa H'' hs ts ps :=
  ⟨fun c o h n1 n2 => g _ _ (F.fr c o h n1 n2), g _ _ F.eh, g _ _ F.ep, F.po.mono g, F.ne, F.oh, F.op⟩
theorem Fi.hand {H H' : Hp} {ha pa : Addr} {hs : List Int} {ts : List V} {ps : List Pst} (F : Fi H ha pa H' hs ts ps) (hs' : List Int) : Fi H ha pa (upd H' ha (.lst (hs'.map V.int))) hs' ts ps :=
  ⟨(fun c o h n1 n2 => by rw [upd_ne n1]; exact F.fr c o h n1 n2), upd_same, by rw [upd_ne F.ne.symm]; exact F.ep, F.po.off (fun ys z => by rw [F.eh] at z; cases z), F.ne, F.oh, F.op⟩
theorem Fi.post {H H' : Hp} {ha pa : Addr} {hs : List Int} {ts : List V} {ps : List Pst} (F : Fi H ha pa H' hs ts ps) {ts' : List V} {ps' : List Pst} (h : Posts H' ts' ps') : Fi H ha pa (upd H' pa (.lst ts')) hs ts' ps' :=
  ⟨(fun c o h n1 n2 => by rw [upd_ne n2]; exact F.fr c o h n1 n2), by rw [upd_ne F.ne]; exact F.eh, upd_same, h.off (fun ys z => by rw [F.ep] at z; cases z), F.ne, F.oh, F.op⟩
theorem paired_set {α β : Type} {F : α → β → Prop} {x : α} {y : β} (f : F x y) : ∀ {xs : List α} {ys : List β} (i : Nat), Paired F xs ys → Paired F (xs.set i x) (ys.set i y)
  | _, _, _, .nil => .nil
  | _, _, 0, .cons _ r => .cons f r
  | _, _, i + 1, .cons h r => .cons h (paired_set f i r)
theorem Due.one {d : Int} {hs : List Int} {ps : List Pst} {s s' : Str} {n n' : Int} (h : Due d hs ps s n) (h' : Due d hs ps s' n') : s = s' ∧ n = n' := by
  have two : ∀ {α : Type} {xs : List α} {B : Nat → α → Prop} {k k' : Nat} {x x' : α}, (∀ j y, j < k → xs[j]? = some y → ¬ B j y) → xs[k]? = some x → B k x → (∀ j y, j < k' → xs[j]? = some y → ¬ B j y) → xs[k']? = some x' → B k' x' → k = k' := by
    intro α xs B k k' x x' a1 a2 a3 b1 b2 b3
    rcases Nat.lt_trichotomy k k' with z | z | z
    · exact absurd a3 (b1 _ _ z a2)
    · exact z
    · exact absurd b3 (a1 _ _ z b2)
  cases h with
  | month a =>
    cases h' with
    | month _ => exact ⟨rfl, rfl⟩
    | hand _ _ b => exact absurd b a
    | post _ _ b => exact absurd b a
    | made b => exact absurd b a
  | hand k x a a1 a2 a3 =>
    cases h' with
    | month b => exact absurd a b
    | hand k' x' b b1 b2 b3 => exact ⟨rfl, by rw [two (B := badH) a1 a2 a3 b1 b2 b3]⟩
    | post _ _ _ b => exact absurd a3 (b _ _ a2)
    | made _ b => exact absurd a3 (b _ _ a2)
  | post k x a a0 a1 a2 a3 =>
    cases h' with
    | month b => exact absurd a b
    | hand k' x' b b1 b2 b3 => exact absurd b3 (a0 _ _ b2)
    | post k' x' b b0 b1 b2 b3 => exact ⟨rfl, by rw [two (B := badP) a1 a2 a3 b1 b2 b3]⟩
    | made _ _ b => exact absurd a3 (b _ _ a2)
  | made a a0 a1 =>
    cases h' with
    | month b => exact absurd a b
    | hand k' x' b b1 b2 b3 => exact absurd b3 (a0 _ _ b2)
    | post k' x' b b0 b1 b2 b3 => exact absurd b3 (a1 _ _ b2)
    | made _ _ _ => exact ⟨rfl, rfl⟩
theorem Due.ok {d : Int} {hs : List Int} {ps : List Pst} (h : Ok d hs ps) : Due d hs ps "made" (-1) := by
  refine .made ⟨h.d1, h.d2⟩ (fun j y e => ?_) fun j y e => ?_
  · rintro (z | z)
    · have := (List.getElem?_eq_some_iff.mp e).1
      have := h.hl
      omega
    · exact z (h.h y (List.mem_of_getElem? e))
  · rintro (z | z)
    · have := (List.getElem?_eq_some_iff.mp e).1
      have := h.pl
      omega
    · exact z (h.p y (List.mem_of_getElem? e))
structure WEnd (C0 C1 C2 : Addr) (d : Int) (hs : List Int) (ps : List Pst) (H : Hp) (E : XK) : Prop where
  m : Due d hs ps "month" (-1) → ∀ H', Same H H' → E (.ref C0) none H'
  h : ∀ n, Due d hs ps "hand" n → ∀ H' dx, Same H H' → Num H' dx n → E (.ref C1) (some dx) H'
  p : ∀ n, Due d hs ps "post" n → ∀ H' dx, Same H H' → Num H' dx n → E (.ref C2) (some dx) H'
theorem seq_off2 {K : PySem.W.Frag} {H0 H2 H' : Hp} {a ha pa : Addr} {xs : List V} (hS : SqL K H0 a xs) (g : Same H0 H2) (h1 : H0 ha = none) (h2 : H0 pa = none) (o : Off2 H2 ha pa H') : SqL K H' a xs := by
  rcases hS with (h | ⟨ob, h⟩) | h
  · exact .inl (.inl (o _ _ (g _ _ h) (ne_of_none h h1) (ne_of_none h h2)))
  · exact .inl (.inr ⟨ob, o _ _ (g _ _ h) (ne_of_none h h1) (ne_of_none h h2)⟩)
  · exact .inr h
theorem den_sn {K : PySem.W.Frag} {H : Hp} {r : Addr} {s : Str} {n : Int} (e : H r = some (.tup [.str s, .int n])) : Den K H 1 (.ref r) (.tup [.str s, .int n]) := ⟨_, SqT.of e, .cons rfl (.cons rfl .nil)⟩
section
variable {P : Program} {w : World} {K : PySem.W.Frag} {mg : Str → Option Value} {base : Heap}
local macro_rules | `(tactic| walk_at "rd") => `(tactic| try simp only [tSeq, tRet, tRetN, tIfS, tNext, tDrop, tOp, tUn, tVar, tC, rI0, rI, rU, rEq, rNe, L2.start, tAsg, gName, tTest, tB, tCB, tCons, tNil, rIxL, rIxT, tNot, tAnd, tOr, tNotV, tAndV, tOrV, tCall, rIsi, iRng1, iRng2, tFor, tWhile, tChain, tIf, tTup, tLst, tComp, tBlk, compSt, tTrue, Cx.comp, List.replicate_one, List.replicate_zero, Option.getD_some, tBM, tBM0, rLen, rListOf, rTupL, tRaise, tCallX, tDropX, tSetX, tTry0, tTryA, Ends.gone, rIsx, rExc, vO, tFld, tMeth, tMake, sFld, iEnL, iEnT, gTup, gCons, gNil, gSub, rSetL, rCat, rInsert, tSl, tNoPart, tPart, rSlL, rAppend, rClear, iList, iTup, cxOf, Cx.nox, Cx.wish, List.map_cons, List.map_nil, List.length_cons, List.length_nil, Nat.reduceAdd, Nat.reduceSub, List.reduceReplicate, List.cons_append, List.nil_append, List.append_nil, List.getElem?_cons_zero, List.getElem?_cons_succ, List.set_cons_zero, List.set_cons_succ, Option.some.injEq, V.int.injEq, V.bl.injEq, V.ref.injEq, V.str.injEq, V.ty.injEq, List.cons.injEq, and_true, true_and, and_assoc, exists_eq_left, exists_eq_left', exists_eq_right, exists_eq, exists_eq', exists_and_left, exists_const, decide_eq_true_eq, scal_ii, scal_bb, scal_ss, tEqI', Bool.not_eq_true', Bool.not_eq_true, decide_eq_false_iff_not, if_true, if_false, Bool.false_eq_true, reduceIte, tyN_int, tyN_bl, tyN_str, tyN_ref, okT_int, okT_bool, okT_str, okT_list, okT_tuple, subN_ii, subN_ib, subN_bb, subN_bi, subN_ss, subN_ll, subN_tt, Bool.not_true, Bool.not_false, not_true_eq_false, Bool.true_eq_false, tExcI, tInit, sExc, tExcF, rIsz, tRaiseD, tTryD, tMakeX2, tExcH, rCountH, rIndexH, Cx.uncalm, Cx.mrk])
def sp_need_month (_ : PySem.W.Frag) (C_Ward C_NoMonth C_NoHand C_NoPost C_WardError : Addr) : Sp := fun vs H Q E => ∃ d : Int, vs = [.int d] ∧ (1 ≤ d ∧ d ≤ 31 → Q .non H) ∧ (¬ (1 ≤ d ∧ d ≤ 31) → E (.ref C_NoMonth) none H)
theorem sc_need_month : FnScope ["days"] ["days"] (defScope s_need_month) := ⟨rfl, rfl, rfl, by decide +kernel, rfl, by decide +kernel, by decide +kernel⟩
theorem ok_need_month {C_Ward : Addr} {C_NoMonth : Addr} {C_NoHand : Addr} {C_NoPost : Addr} {C_WardError : Addr} {f : Addr} {fd : FuncData} (F : Fun K "need_month" "need_month" s_need_month f fd) (T : Txt K mg C_Ward C_NoMonth C_NoHand C_NoPost C_WardError)  : FnOk P w K mg base (CX2 P w) 1 f fd ["days"] (sp_need_month K C_Ward C_NoMonth C_NoHand C_NoPost C_WardError) := by
  refine F.okD sc_need_month (fun vs H Q E h => ?_) (fun cdv A outer s H vs Q E hr h => ?_)
  · obtain ⟨n, rfl, _⟩ := h
    rfl
  · obtain ⟨n, rfl, q, r⟩ := h
    refine ⟨_, (pss_one (ps_if (PW.pt (pw_or (pt_cmpR op_lt (pv 0) pe_int (nomark _)) (pw_or1 (pt_cmpR op_gt (pv 0) (pe_globI rfl T.g_MOST_DAYS) (nomark _))))) (pss_one (ps_raise raisy2 rfl rfl T.x_NoMonth (pa_cons pe_str pa_nil))) pss_nil)), ?_⟩
    walk_at "rd"
    split
    · exact ⟨by decide, r (by omega)⟩
    split
    · exact ⟨by decide, r (by omega)⟩
    · exact q (by omega)
def sp_NoHand___init__ (K : PySem.W.Frag) (C_Ward C_NoMonth C_NoHand C_NoPost C_WardError : Addr) : Sp := fun vs H Q _ => ∃ (x : Addr) (n : Int), vs = [.ref x, .int n] ∧ H x = some (excN x C_NoHand) ∧ ∀ dx, H dx = none → dx ≠ x → Q .non (upd (upd H dx (.xd (putF "number" (.int n) []))) x (excD x C_NoHand dx))
theorem sc_NoHand___init__ : FnScope ["self", "number"] ["self", "number"] (defScope s_NoHand___init__) := ⟨rfl, rfl, rfl, by decide +kernel, rfl, by decide +kernel, by decide +kernel⟩
theorem ok_NoHand___init__ {C_Ward : Addr} {C_NoMonth : Addr} {C_NoHand : Addr} {C_NoPost : Addr} {C_WardError : Addr} {f : Addr} {fd : FuncData} (F : Fun K "__init__" "NoHand.__init__" s_NoHand___init__ f fd) (T : Txt K mg C_Ward C_NoMonth C_NoHand C_NoPost C_WardError)  : FnOk P w K mg base CX0 1 f fd ["self", "number"] (sp_NoHand___init__ K C_Ward C_NoMonth C_NoHand C_NoPost C_WardError) := by
  refine F.ok sc_NoHand___init__ (fun vs H Q E h => ?_) (fun cdv A outer s H vs Q E hr h => ?_)
  · obtain ⟨x, n, rfl, _⟩ := h
    rfl
  · obtain ⟨x, n, rfl, hx, q⟩ := h
    refine ⟨_, (pss_cons (ps_expr (pe_baseInit T.b_WardError rfl (pa_cons (pv 0) (pa_cons pe_str pa_nil))))
    (pss_one (ps_excSet (pv 0) (pv 1) rfl))), ?_⟩
    obtain ⟨fI, EI⟩ := T.ei_NoHand
    walk_at "rd"
    exact ⟨C_NoHand, hx, fI, _, EI, by decide, C_NoHand, hx, fI, _, EI, ⟨T.sa_h, T.sn_h⟩, q⟩
def sp_is_skills (_ : PySem.W.Frag) (C_Ward C_NoMonth C_NoHand C_NoPost C_WardError : Addr) : Sp := fun vs H Q _ => ∃ n : Int, vs = [.int n] ∧ ∀ b : Bool, (b = true ↔ okH n) → Q (.bl b) H
theorem sc_is_skills : FnScope ["number"] ["number"] (defScope s_is_skills) := ⟨rfl, rfl, rfl, by decide +kernel, rfl, by decide +kernel, by decide +kernel⟩
theorem ok_is_skills {C_Ward : Addr} {C_NoMonth : Addr} {C_NoHand : Addr} {C_NoPost : Addr} {C_WardError : Addr} {f : Addr} {fd : FuncData} (F : Fun K "is_skills" "is_skills" s_is_skills f fd) (T : Txt K mg C_Ward C_NoMonth C_NoHand C_NoPost C_WardError)  : FnOk P w K mg base CX0 1 f fd ["number"] (sp_is_skills K C_Ward C_NoMonth C_NoHand C_NoPost C_WardError) := by
  refine F.ok sc_is_skills (fun vs H Q E h => ?_) (fun cdv A outer s H vs Q E hr h => ?_)
  · obtain ⟨n, rfl, _⟩ := h
    rfl
  · obtain ⟨n, rfl, q⟩ := h
    refine ⟨_, (pss_one (ps_ret (pe_chain op_le op_lt pe_int (pv 0) (pe_op op_pow pe_int pe_int)))), ?_⟩
    walk_at "rd"
    split
    · rename_i z0
      refine ⟨⟨by decide, by decide, by decide⟩, ?_⟩
      rw [show (2 : Int) ^ Int.toNat 30 = 1073741824 by decide]
      exact q _ (by rw [decide_eq_true_eq]; exact ⟨fun z => ⟨z0, z⟩, fun z => z.2⟩)
    · rename_i z0
      exact q false ⟨fun z => (by cases z), fun z => absurd z.1 z0⟩
end
end My

set_option Elab.async false
set_option linter.all false
set_option maxRecDepth 100000
set_option maxHeartbeats 4000000
namespace My
open PySem L2
section
variable {P : Program} {w : World} {K : PySem.W.Frag} {mg : Str → Option Value} {base : Heap}
local macro_rules | `(tactic| walk_at "rd") => `(tactic| try simp only [tSeq, tRet, tRetN, tIfS, tNext, tDrop, tOp, tUn, tVar, tC, rI0, rI, rU, rEq, rNe, L2.start, tAsg, gName, tTest, tB, tCB, tCons, tNil, rIxL, rIxT, tNot, tAnd, tOr, tNotV, tAndV, tOrV, tCall, rIsi, iRng1, iRng2, tFor, tWhile, tChain, tIf, tTup, tLst, tComp, tBlk, compSt, tTrue, Cx.comp, List.replicate_one, List.replicate_zero, Option.getD_some, tBM, tBM0, rLen, rListOf, rTupL, tRaise, tCallX, tDropX, tSetX, tTry0, tTryA, Ends.gone, rIsx, rExc, vO, tFld, tMeth, tMake, sFld, iEnL, iEnT, gTup, gCons, gNil, gSub, rSetL, rCat, rInsert, tSl, tNoPart, tPart, rSlL, rAppend, rClear, iList, iTup, cxOf, Cx.nox, Cx.wish, List.map_cons, List.map_nil, List.length_cons, List.length_nil, Nat.reduceAdd, Nat.reduceSub, List.reduceReplicate, List.cons_append, List.nil_append, List.append_nil, List.getElem?_cons_zero, List.getElem?_cons_succ, List.set_cons_zero, List.set_cons_succ, Option.some.injEq, V.int.injEq, V.bl.injEq, V.ref.injEq, V.str.injEq, V.ty.injEq, List.cons.injEq, and_true, true_and, and_assoc, exists_eq_left, exists_eq_left', exists_eq_right, exists_eq, exists_eq', exists_and_left, exists_const, decide_eq_true_eq, scal_ii, scal_bb, scal_ss, tEqI', Bool.not_eq_true', Bool.not_eq_true, decide_eq_false_iff_not, if_true, if_false, Bool.false_eq_true, reduceIte, tyN_int, tyN_bl, tyN_str, tyN_ref, okT_int, okT_bool, okT_str, okT_list, okT_tuple, subN_ii, subN_ib, subN_bb, subN_bi, subN_ss, subN_ll, subN_tt, Bool.not_true, Bool.not_false, not_true_eq_false, Bool.true_eq_false, tExcI, tInit, sExc, tExcF, rIsz, tRaiseD, tTryD, tMakeX2, tExcH, rCountH, rIndexH, Cx.uncalm, Cx.mrk])
def sp_need_hands (K : PySem.W.Frag) (C_Ward C_NoMonth C_NoHand C_NoPost C_WardError : Addr) : Sp := fun vs H Q E => ∃ (a : Addr) (hs : List Int), vs = [.ref a] ∧ SqL K H a (hs.map V.int) ∧ ((∀ j y, hs[j]? = some y → ¬ badH j y) → ∀ H', Same H H' → Q .non H') ∧ ∀ (k : Nat) x, (∀ j y, j < k → hs[j]? = some y → ¬ badH j y) → hs[k]? = some x → badH k x → ∀ H' dx, Same H H' → Num H' dx k → E (.ref C_NoHand) (some dx) H'
theorem sc_need_hands : FnScope ["hands", "number", "skills"] ["hands"] (defScope s_need_hands) := ⟨rfl, rfl, rfl, by decide +kernel, rfl, by decide +kernel, by decide +kernel⟩
theorem ok_need_hands {C_Ward : Addr} {C_NoMonth : Addr} {C_NoHand : Addr} {C_NoPost : Addr} {C_WardError : Addr} {f : Addr} {fd : FuncData} (F : Fun K "need_hands" "need_hands" s_need_hands f fd) (T : Txt K mg C_Ward C_NoMonth C_NoHand C_NoPost C_WardError) (E_NoHand : CalE P w K mg base "NoHand" C_NoHand ["self", "number"] 1 (sp_NoHand___init__ K C_Ward C_NoMonth C_NoHand C_NoPost C_WardError)) (C_is_skills : Cal P w K mg base "is_skills" ["number"] 1 (sp_is_skills K C_Ward C_NoMonth C_NoHand C_NoPost C_WardError)) : FnOk P w K mg base (CX2 P w) 3 f fd ["hands"] (sp_need_hands K C_Ward C_NoMonth C_NoHand C_NoPost C_WardError) := by
  refine F.okD sc_need_hands (fun vs H Q E h => ?_) (fun cdv A outer s H vs Q E hr h => ?_)
  · obtain ⟨a, hs, rfl, _⟩ := h
    rfl
  · obtain ⟨a, hs, rfl, hS, q, r⟩ := h
    refine ⟨_, (pss_one (ps_for own2 rfl (pi_enum_list rfl T.enumerate (pv 0)) (pg_tup (n := 2) rfl (pgs_cons (pg_name (i := 1) sc_need_hands.nd rfl (Or.inl rfl)) (pgs_cons (pg_name (i := 2) sc_need_hands.nd rfl (Or.inl rfl)) pgs_nil)))
      (pss_one (ps_if (PW.pt (pw_or (pt_cmpR op_ge (pv 1) (pe_globI rfl T.g_MOST_HANDS) (nomark _)) (pw_or1 (pt_not (pt_val (pe_cal C_is_skills (hr.mono (by decide)) rfl (pa_cons (pv 2) pa_nil))))))) (pss_one (ps_raiseD raisyD rfl (pe_excC E_NoHand (hr.mono (by decide)) rfl (pa_cons (pv 1) pa_nil)))) pss_nil)))), ?_⟩
    obtain ⟨fI, EI⟩ := T.ei_NoHand
    walk_at "rd"
    refine ⟨⟨_, hS⟩, for_enumW (xs := hs.map V.int) (fun i σ H' => Same H H' ∧ (∀ j y, j < i → hs[j]? = some y → ¬ badH j y) ∧ ∃ v1 v2, σ = [some (.ref a), v1, v2]) ⟨Same.refl H, (fun j _ z => absurd z (Nat.not_lt_zero j)), none, none, rfl⟩ (fun i σ H' _ hh => hh.1.seq hS) ?_ ?_⟩
    · rintro i x σ H' t hx ⟨g, hb, v1, v2, rfl⟩ ht
      rw [List.getElem?_map] at hx
      obtain ⟨p, hpi, rfl⟩ := Option.map_eq_some_iff.mp hx
      have hi : i < hs.length := (List.getElem?_eq_some_iff.mp hpi).1
      have g1 := g.trans (same_new ht (.tup [.int (((0 + i : Nat)) : Int), .int p]))
      have fin : badH i p → ∀ x dx, upd H' t (.tup [.int ((0 + i : Nat) : Int), .int p]) x = none → upd (upd H' t (.tup [.int ((0 + i : Nat) : Int), .int p])) x (excN x C_NoHand) dx = none → dx ≠ x → E (.ref C_NoHand) (some dx) (hid (upd (upd (upd (upd H' t (.tup [.int ((0 + i : Nat) : Int), .int p])) x (excN x C_NoHand)) dx (.xd (putF "number" (.int ((0 + i : Nat) : Int)) []))) x (excD x C_NoHand dx)) x) := fun z x dx hx hd ne => by
        obtain ⟨s1, s2⟩ := hid_made (o2 := .xd (putF "number" (.int ((0 + i : Nat) : Int)) [])) (o3 := excD x C_NoHand dx) hx hd ne
        exact r i p hb hpi z _ dx (g1.trans s1) (by rw [show ((i : Nat) : Int) = ((0 + i : Nat) : Int) by omega]; exact s2)
      walk_at "rd"
      refine ⟨_, SqT.of upd_same, rfl, _, _, rfl, _, _, rfl, rfl, ?_⟩
      walk_at "rd"
      split
      · rename_i h8
        have i8 : i = 8 := Classical.byContradiction fun z => hb 8 _ (by omega) (List.getElem?_eq_getElem (by omega)) (.inl rfl)
        exact ⟨by decide, fun x hx => ⟨x, _, rfl, upd_same, fun dx hd ne => ⟨rfl, C_NoHand, dx, upd_same, g1.free hx, fI, _, EI, fin (.inl i8) x dx hx hd ne⟩⟩⟩
      · rename_i h8
        refine ⟨p, rfl, fun b hb2 => ⟨b, rfl, ?_⟩⟩
        cases b with
        | false =>
          rw [if_pos rfl]
          exact ⟨by decide, fun x hx => ⟨x, _, rfl, upd_same, fun dx hd ne => ⟨rfl, C_NoHand, dx, upd_same, g1.free hx, fI, _, EI, fin (.inr fun z => by have := hb2.mpr z; cases this) x dx hx hd ne⟩⟩⟩
        | true =>
          rw [if_neg (by decide)]
          exact ⟨g1, first_grow (B := badH) hb hpi fun z => z.elim (fun z => h8 (by omega)) fun z => z (hb2.mp rfl)⟩
    · rintro σ H' ⟨g, hb, _⟩
      exact q (fun j y e => hb j y (by have := (List.getElem?_eq_some_iff.mp e).1; simpa using this) e) H' g
def sp_NoPost___init__ (K : PySem.W.Frag) (C_Ward C_NoMonth C_NoHand C_NoPost C_WardError : Addr) : Sp := fun vs H Q _ => ∃ (x : Addr) (n : Int), vs = [.ref x, .int n] ∧ H x = some (excN x C_NoPost) ∧ ∀ dx, H dx = none → dx ≠ x → Q .non (upd (upd H dx (.xd (putF "number" (.int n) []))) x (excD x C_NoPost dx))
theorem sc_NoPost___init__ : FnScope ["self", "number"] ["self", "number"] (defScope s_NoPost___init__) := ⟨rfl, rfl, rfl, by decide +kernel, rfl, by decide +kernel, by decide +kernel⟩
theorem ok_NoPost___init__ {C_Ward : Addr} {C_NoMonth : Addr} {C_NoHand : Addr} {C_NoPost : Addr} {C_WardError : Addr} {f : Addr} {fd : FuncData} (F : Fun K "__init__" "NoPost.__init__" s_NoPost___init__ f fd) (T : Txt K mg C_Ward C_NoMonth C_NoHand C_NoPost C_WardError)  : FnOk P w K mg base CX0 1 f fd ["self", "number"] (sp_NoPost___init__ K C_Ward C_NoMonth C_NoHand C_NoPost C_WardError) := by
  refine F.ok sc_NoPost___init__ (fun vs H Q E h => ?_) (fun cdv A outer s H vs Q E hr h => ?_)
  · obtain ⟨x, n, rfl, _⟩ := h
    rfl
  · obtain ⟨x, n, rfl, hx, q⟩ := h
    refine ⟨_, (pss_cons (ps_expr (pe_baseInit T.b_WardError rfl (pa_cons (pv 0) (pa_cons pe_str pa_nil))))
    (pss_one (ps_excSet (pv 0) (pv 1) rfl))), ?_⟩
    obtain ⟨fI, EI⟩ := T.ei_NoPost
    walk_at "rd"
    exact ⟨C_NoPost, hx, fI, _, EI, by decide, C_NoPost, hx, fI, _, EI, ⟨T.sa_p, T.sn_p⟩, q⟩
def sp_is_post (_ : PySem.W.Frag) (C_Ward C_NoMonth C_NoHand C_NoPost C_WardError : Addr) : Sp := fun vs H Q _ => ∃ (t : Addr) (q : Pst), vs = [.ref t] ∧ H t = some (.tup [.int q.1, .int q.2.1, .int q.2.2]) ∧ ∀ b : Bool, (b = true ↔ okP q) → Q (.bl b) H
theorem sc_is_post : FnScope ["post"] ["post"] (defScope s_is_post) := ⟨rfl, rfl, rfl, by decide +kernel, rfl, by decide +kernel, by decide +kernel⟩
theorem ok_is_post {C_Ward : Addr} {C_NoMonth : Addr} {C_NoHand : Addr} {C_NoPost : Addr} {C_WardError : Addr} {f : Addr} {fd : FuncData} (F : Fun K "is_post" "is_post" s_is_post f fd) (T : Txt K mg C_Ward C_NoMonth C_NoHand C_NoPost C_WardError) (C_is_skills : Cal P w K mg base "is_skills" ["number"] 1 (sp_is_skills K C_Ward C_NoMonth C_NoHand C_NoPost C_WardError)) : FnOk P w K mg base CX0 2 f fd ["post"] (sp_is_post K C_Ward C_NoMonth C_NoHand C_NoPost C_WardError) := by
  refine F.ok sc_is_post (fun vs H Q E h => ?_) (fun cdv A outer s H vs Q E hr h => ?_)
  · obtain ⟨t, p, rfl, _⟩ := h
    rfl
  · obtain ⟨t, p, rfl, ht, q⟩ := h
    refine ⟨_, (pss_one (ps_ret (pe_and (pe_cal C_is_skills (hr.mono (by decide)) rfl (pa_cons (pe_ix ix_tup (pv 0) pe_int (fun _ _ => rfl)) pa_nil)) (pe_and (pe_chain op_le op_le pe_int (pe_ix ix_tup (pv 0) pe_int (fun _ _ => rfl)) (pe_op op_pow pe_int pe_int)) (pe_one (pe_chain op_le op_le pe_int (pe_ix ix_tup (pv 0) pe_int (fun _ _ => rfl)) pe_int)))))), ?_⟩
    walk_at "rd"
    refine ⟨_, SqT.of ht, _, rfl, _, rfl, fun b hb => ?_⟩
    have no : ¬ okP p → Q (.bl false) H := fun z => q false ⟨fun y => (by cases y), fun y => absurd y z⟩
    cases b with
    | false =>
      walk_at "rd"
      exact no fun z => by have := hb.mpr z.1; cases this
    | true =>
      walk_at "rd"
      refine ⟨_, SqT.of ht, _, rfl, ?_⟩
      walk_at "rd"
      split
      rotate_left
      · rename_i z
        exact no fun y => z y.2.1.1
      rename_i a1
      refine ⟨⟨by decide, by decide, by decide⟩, ?_⟩
      rw [show (10 : Int) ^ Int.toNat 9 = 1000000000 by decide]
      split
      rotate_left
      · rename_i z
        exact no fun y => z y.2.1.2
      rename_i a2
      refine ⟨_, SqT.of ht, _, rfl, ?_⟩
      walk_at "rd"
      split
      · rename_i a3
        exact q _ (by rw [decide_eq_true_eq]; exact ⟨fun z => ⟨hb.mp rfl, ⟨a1, a2⟩, a3, z⟩, fun z => z.2.2.2⟩)
      · rename_i z
        exact no fun y => z y.2.2.1
end
end My

set_option Elab.async false
set_option linter.all false
set_option maxRecDepth 100000
set_option maxHeartbeats 4000000
namespace My
open PySem L2
section
variable {P : Program} {w : World} {K : PySem.W.Frag} {mg : Str → Option Value} {base : Heap}
local macro_rules | `(tactic| walk_at "rd") => `(tactic| try simp only [tSeq, tRet, tRetN, tIfS, tNext, tDrop, tOp, tUn, tVar, tC, rI0, rI, rU, rEq, rNe, L2.start, tAsg, gName, tTest, tB, tCB, tCons, tNil, rIxL, rIxT, tNot, tAnd, tOr, tNotV, tAndV, tOrV, tCall, rIsi, iRng1, iRng2, tFor, tWhile, tChain, tIf, tTup, tLst, tComp, tBlk, compSt, tTrue, Cx.comp, List.replicate_one, List.replicate_zero, Option.getD_some, tBM, tBM0, rLen, rListOf, rTupL, tRaise, tCallX, tDropX, tSetX, tTry0, tTryA, Ends.gone, rIsx, rExc, vO, tFld, tMeth, tMake, sFld, iEnL, iEnT, gTup, gCons, gNil, gSub, rSetL, rCat, rInsert, tSl, tNoPart, tPart, rSlL, rAppend, rClear, iList, iTup, cxOf, Cx.nox, Cx.wish, List.map_cons, List.map_nil, List.length_cons, List.length_nil, Nat.reduceAdd, Nat.reduceSub, List.reduceReplicate, List.cons_append, List.nil_append, List.append_nil, List.getElem?_cons_zero, List.getElem?_cons_succ, List.set_cons_zero, List.set_cons_succ, Option.some.injEq, V.int.injEq, V.bl.injEq, V.ref.injEq, V.str.injEq, V.ty.injEq, List.cons.injEq, and_true, true_and, and_assoc, exists_eq_left, exists_eq_left', exists_eq_right, exists_eq, exists_eq', exists_and_left, exists_const, decide_eq_true_eq, scal_ii, scal_bb, scal_ss, tEqI', Bool.not_eq_true', Bool.not_eq_true, decide_eq_false_iff_not, if_true, if_false, Bool.false_eq_true, reduceIte, tyN_int, tyN_bl, tyN_str, tyN_ref, okT_int, okT_bool, okT_str, okT_list, okT_tuple, subN_ii, subN_ib, subN_bb, subN_bi, subN_ss, subN_ll, subN_tt, Bool.not_true, Bool.not_false, not_true_eq_false, Bool.true_eq_false, tExcI, tInit, sExc, tExcF, rIsz, tRaiseD, tTryD, tMakeX2, tExcH, rCountH, rIndexH, Cx.uncalm, Cx.mrk])
def sp_need_posts (K : PySem.W.Frag) (C_Ward C_NoMonth C_NoHand C_NoPost C_WardError : Addr) : Sp := fun vs H Q E => ∃ (a : Addr) (ts : List V) (ps : List Pst), vs = [.ref a] ∧ SqL K H a ts ∧ Posts H ts ps ∧ ((∀ j y, ps[j]? = some y → ¬ badP j y) → ∀ H', Same H H' → Q .non H') ∧ ∀ (k : Nat) x, (∀ j y, j < k → ps[j]? = some y → ¬ badP j y) → ps[k]? = some x → badP k x → ∀ H' dx, Same H H' → Num H' dx (k + 1) → E (.ref C_NoPost) (some dx) H'
theorem sc_need_posts : FnScope ["posts", "number", "post"] ["posts"] (defScope s_need_posts) := ⟨rfl, rfl, rfl, by decide +kernel, rfl, by decide +kernel, by decide +kernel⟩
theorem ok_need_posts {C_Ward : Addr} {C_NoMonth : Addr} {C_NoHand : Addr} {C_NoPost : Addr} {C_WardError : Addr} {f : Addr} {fd : FuncData} (F : Fun K "need_posts" "need_posts" s_need_posts f fd) (T : Txt K mg C_Ward C_NoMonth C_NoHand C_NoPost C_WardError) (E_NoPost : CalE P w K mg base "NoPost" C_NoPost ["self", "number"] 1 (sp_NoPost___init__ K C_Ward C_NoMonth C_NoHand C_NoPost C_WardError)) (C_is_post : Cal P w K mg base "is_post" ["post"] 2 (sp_is_post K C_Ward C_NoMonth C_NoHand C_NoPost C_WardError)) : FnOk P w K mg base (CX2 P w) 3 f fd ["posts"] (sp_need_posts K C_Ward C_NoMonth C_NoHand C_NoPost C_WardError) := by
  refine F.okD sc_need_posts (fun vs H Q E h => ?_) (fun cdv A outer s H vs Q E hr h => ?_)
  · obtain ⟨a, ts, ps, rfl, _⟩ := h
    rfl
  · obtain ⟨a, ts, ps, rfl, hS, hT, q, r⟩ := h
    refine ⟨_, (pss_one (ps_for own2 rfl (pi_enum1_list rfl T.enumerate (pv 0)) (pg_tup (n := 2) rfl (pgs_cons (pg_name (i := 1) sc_need_posts.nd rfl (Or.inl rfl)) (pgs_cons (pg_name (i := 2) sc_need_posts.nd rfl (Or.inl rfl)) pgs_nil)))
      (pss_one (ps_if (PW.pt (pw_or (pt_cmpR op_gt (pv 1) (pe_globI rfl T.g_MOST_POSTS) (nomark _)) (pw_or1 (pt_not (pt_val (pe_cal C_is_post (hr.mono (by decide)) rfl (pa_cons (pv 2) pa_nil))))))) (pss_one (ps_raiseD raisyD rfl (pe_excC E_NoPost (hr.mono (by decide)) rfl (pa_cons (pv 1) pa_nil)))) pss_nil)))), ?_⟩
    obtain ⟨fI, EI⟩ := T.ei_NoPost
    have htl := hT.len
    walk_at "rd"
    refine ⟨⟨_, hS⟩, for_enumW (xs := ts) (fun i σ H' => Same H H' ∧ (∀ j y, j < i → ps[j]? = some y → ¬ badP j y) ∧ ∃ v1 v2, σ = [some (.ref a), v1, v2]) ⟨Same.refl H, (fun j _ z => absurd z (Nat.not_lt_zero j)), none, none, rfl⟩ (fun i σ H' _ hh => hh.1.seq hS) ?_ ?_⟩
    · rintro i x σ H' t hx ⟨g, hb, v1, v2, rfl⟩ ht
      obtain ⟨p, hpi, t', rfl, ht'⟩ := hT.at' hx
      have hi : i < ps.length := (List.getElem?_eq_some_iff.mp hpi).1
      have g1 := g.trans (same_new ht (.tup [.int (((1 + i : Nat)) : Int), .ref t']))
      have fin : badP i p → ∀ x dx, upd H' t (.tup [.int ((1 + i : Nat) : Int), .ref t']) x = none → upd (upd H' t (.tup [.int ((1 + i : Nat) : Int), .ref t'])) x (excN x C_NoPost) dx = none → dx ≠ x → E (.ref C_NoPost) (some dx) (hid (upd (upd (upd (upd H' t (.tup [.int ((1 + i : Nat) : Int), .ref t'])) x (excN x C_NoPost)) dx (.xd (putF "number" (.int ((1 + i : Nat) : Int)) []))) x (excD x C_NoPost dx)) x) := fun z x dx hx hd ne => by
        obtain ⟨s1, s2⟩ := hid_made (o2 := .xd (putF "number" (.int ((1 + i : Nat) : Int)) [])) (o3 := excD x C_NoPost dx) hx hd ne
        exact r i p hb hpi z _ dx (g1.trans s1) (by rw [show ((i : Nat) : Int) + 1 = ((1 + i : Nat) : Int) by omega]; exact s2)
      walk_at "rd"
      refine ⟨_, SqT.of upd_same, rfl, _, _, rfl, _, _, rfl, rfl, ?_⟩
      walk_at "rd"
      split
      · rename_i h6
        have i6 : i = 6 := Classical.byContradiction fun z => hb 6 _ (by omega) (List.getElem?_eq_getElem (by omega)) (.inl rfl)
        exact ⟨by decide, fun x hx => ⟨x, _, rfl, upd_same, fun dx hd ne => ⟨rfl, C_NoPost, dx, upd_same, g1.free hx, fI, _, EI, fin (.inl i6) x dx hx hd ne⟩⟩⟩
      · rename_i h6
        refine ⟨t', p, rfl, g1 _ _ ht', fun b hb2 => ⟨b, rfl, ?_⟩⟩
        cases b with
        | false =>
          rw [if_pos rfl]
          exact ⟨by decide, fun x hx => ⟨x, _, rfl, upd_same, fun dx hd ne => ⟨rfl, C_NoPost, dx, upd_same, g1.free hx, fI, _, EI, fin (.inr fun z => by have := hb2.mpr z; cases this) x dx hx hd ne⟩⟩⟩
        | true =>
          rw [if_neg (by decide)]
          exact ⟨g1, first_grow (B := badP) hb hpi fun z => z.elim (fun z => h6 (by omega)) fun z => z (hb2.mp rfl)⟩
    · rintro σ H' ⟨g, hb, _⟩
      exact q (fun j y e => hb j y (by have := (List.getElem?_eq_some_iff.mp e).1; omega) e) H' g
end
end My

set_option Elab.async false
set_option linter.all false
set_option maxRecDepth 100000
set_option maxHeartbeats 4000000
namespace My
open PySem L2
section
variable {P : Program} {w : World} {K : PySem.W.Frag} {mg : Str → Option Value} {base : Heap}
local macro_rules | `(tactic| walk_at "rd") => `(tactic| try simp only [tSeq, tRet, tRetN, tIfS, tNext, tDrop, tOp, tUn, tVar, tC, rI0, rI, rU, rEq, rNe, L2.start, tAsg, gName, tTest, tB, tCB, tCons, tNil, rIxL, rIxT, tNot, tAnd, tOr, tNotV, tAndV, tOrV, tCall, rIsi, iRng1, iRng2, tFor, tWhile, tChain, tIf, tTup, tLst, tComp, tBlk, compSt, tTrue, Cx.comp, List.replicate_one, List.replicate_zero, Option.getD_some, tBM, tBM0, rLen, rListOf, rTupL, tRaise, tCallX, tDropX, tSetX, tTry0, tTryA, Ends.gone, rIsx, rExc, vO, tFld, tMeth, tMake, sFld, iEnL, iEnT, gTup, gCons, gNil, gSub, rSetL, rCat, rInsert, tSl, tNoPart, tPart, rSlL, rAppend, rClear, iList, iTup, cxOf, Cx.nox, Cx.wish, List.map_cons, List.map_nil, List.length_cons, List.length_nil, Nat.reduceAdd, Nat.reduceSub, List.reduceReplicate, List.cons_append, List.nil_append, List.append_nil, List.getElem?_cons_zero, List.getElem?_cons_succ, List.set_cons_zero, List.set_cons_succ, Option.some.injEq, V.int.injEq, V.bl.injEq, V.ref.injEq, V.str.injEq, V.ty.injEq, List.cons.injEq, and_true, true_and, and_assoc, exists_eq_left, exists_eq_left', exists_eq_right, exists_eq, exists_eq', exists_and_left, exists_const, decide_eq_true_eq, scal_ii, scal_bb, scal_ss, tEqI', Bool.not_eq_true', Bool.not_eq_true, decide_eq_false_iff_not, if_true, if_false, Bool.false_eq_true, reduceIte, tyN_int, tyN_bl, tyN_str, tyN_ref, okT_int, okT_bool, okT_str, okT_list, okT_tuple, subN_ii, subN_ib, subN_bb, subN_bi, subN_ss, subN_ll, subN_tt, Bool.not_true, Bool.not_false, not_true_eq_false, Bool.true_eq_false, tExcI, tInit, sExc, tExcF, rIsz, tRaiseD, tTryD, tMakeX2, tExcH, rCountH, rIndexH, Cx.uncalm, Cx.mrk])
def sp_Ward___init__ (K : PySem.W.Frag) (C_Ward C_NoMonth C_NoHand C_NoPost C_WardError : Addr) : Sp := fun vs H Q E => ∃ (x dx a b : Addr) (d : Int) (hs : List Int) (ts : List V) (ps : List Pst), vs = [.ref x, .int d, .ref a, .ref b] ∧ H x = some (.ins C_Ward dx []) ∧ SqL K H a (hs.map V.int) ∧ SqL K H b ts ∧ Posts H ts ps ∧ WEnd C_NoMonth C_NoHand C_NoPost d hs ps H E ∧
  (Due d hs ps "made" (-1) → ∀ H', (∀ c o, H c = some o → c ≠ x → H' c = some o) → Q .non H')
theorem sc_Ward___init__ : FnScope ["self", "days", "hands", "posts"] ["self", "days", "hands", "posts"] (defScope s_Ward___init__) := ⟨rfl, rfl, rfl, by decide +kernel, rfl, by decide +kernel, by decide +kernel⟩
theorem ok_Ward___init__ {C_Ward : Addr} {C_NoMonth : Addr} {C_NoHand : Addr} {C_NoPost : Addr} {C_WardError : Addr} {f : Addr} {fd : FuncData} (F : Fun K "__init__" "Ward.__init__" s_Ward___init__ f fd) (T : Txt K mg C_Ward C_NoMonth C_NoHand C_NoPost C_WardError) (X_need_month : CalX2 P w K mg base "need_month" ["days"] 1 (sp_need_month K C_Ward C_NoMonth C_NoHand C_NoPost C_WardError)) (X_need_hands : CalX2 P w K mg base "need_hands" ["hands"] 3 (sp_need_hands K C_Ward C_NoMonth C_NoHand C_NoPost C_WardError)) (X_need_posts : CalX2 P w K mg base "need_posts" ["posts"] 3 (sp_need_posts K C_Ward C_NoMonth C_NoHand C_NoPost C_WardError)) : FnOk P w K mg base (CX2 P w) 4 f fd ["self", "days", "hands", "posts"] (sp_Ward___init__ K C_Ward C_NoMonth C_NoHand C_NoPost C_WardError) := by
  refine F.okD sc_Ward___init__ (fun vs H Q E h => ?_) (fun cdv A outer s H vs Q E hr h => ?_)
  · obtain ⟨x, dx, a, b, d, hs, ts, ps, rfl, _⟩ := h
    rfl
  · obtain ⟨x, dx, a, b, d, hs, ts, ps, rfl, hx, hA, hB, hT, W, q⟩ := h
    refine ⟨_, (pss_cons (ps_expr (pe_cal2 X_need_month pass2 (hr.mono (by decide)) rfl (pa_cons (pv 1) pa_nil)))
    (pss_cons (ps_expr (pe_cal2 X_need_hands pass2 (hr.mono (by decide)) rfl (pa_cons (pv 2) pa_nil)))
    (pss_cons (ps_expr (pe_cal2 X_need_posts pass2 (hr.mono (by decide)) rfl (pa_cons (pv 3) pa_nil)))
    (pss_cons (ps_fld (pv 0) (pv 1) rfl)
    (pss_cons (ps_fld (pv 0) (pe_callTy (call_tuple_L (K := K) rfl) (by rfl) T.tuple PyProof.Rows.boot_tuple (pa_cons (pv 2) pa_nil)) rfl)
    (pss_one (ps_fld (pv 0) (pe_callTy (call_tuple_L (K := K) rfl) (by rfl) T.tuple PyProof.Rows.boot_tuple (pa_cons (pv 3) pa_nil)) rfl))))))), ?_⟩
    walk_at "rd"
    refine ⟨d, rfl, fun hd => ⟨a, hs, rfl, hA, fun hh H1 g1 => ⟨b, ts, ps, rfl, g1.seq hB, hT.mono g1, fun hp H2 g2 => ?_, fun k y h1 h2 h3 H2 dx2 g2 nm => W.p _ (.post k y hd hh h1 h2 h3) H2 dx2 (g1.trans g2) nm⟩, fun k y h1 h2 h3 H1 dx1 g1 nm => W.h _ (.hand k y hd h1 h2 h3) H1 dx1 g1 nm⟩, fun hn => W.m (.month hn) H (Same.refl H)⟩
    have q' := q (.made hd hh hp)
    clear q W
    have g := g1.trans g2
    have hx2 := g _ _ hx
    walk_at "rd"
    refine ⟨C_Ward, dx, [], hx2, T.cl_Ward, T.n_Ward_days, by decide, _, (g.seq hA).off (by intro ys z; rw [hx2] at z; cases z) (by intro v u z; rw [hx2] at z; cases z), fun l1 hl1 => ?_⟩
    have n1 : x ≠ l1 := fun z => by rw [← z, upd_same] at hl1; cases hl1
    have e1 : H2 l1 = none := by rw [upd_ne n1.symm] at hl1; exact hl1
    refine ⟨C_Ward, dx, putF "days" (.int d) [], by rw [upd_ne n1, upd_same], T.cl_Ward, T.n_Ward_hands, Nat.lt_of_le_of_lt (length_putF _ _ _) (by show 1 < 1000; decide), ts, ?_, fun l2 hl2 => ?_⟩
    · refine SqL.off ((same_new (by rw [upd_ne n1.symm]; exact e1) _).seq ((g.seq hB).off ?_ ?_)) ?_ ?_
      · intro ys z; rw [hx2] at z; cases z
      · intro v u z; rw [hx2] at z; cases z
      · intro ys z; rw [upd_ne n1, upd_same] at z; cases z
      · intro v u z; rw [upd_ne n1, upd_same] at z; cases z
    have n2 : x ≠ l2 := fun z => by rw [← z, upd_same] at hl2; cases hl2
    have n3 : l1 ≠ l2 := fun z => by rw [← z, upd_ne n1.symm, upd_same] at hl2; cases hl2
    have e2 : H2 l2 = none := by rw [upd_ne n2.symm, upd_ne n3.symm, upd_ne n2.symm] at hl2; exact hl2
    refine ⟨C_Ward, dx, putF "hands" (.ref l1) (putF "days" (.int d) []), by rw [upd_ne n2, upd_same], T.cl_Ward, T.n_Ward_posts, Nat.lt_of_le_of_lt (Nat.le_trans (length_putF _ _ _) (Nat.succ_le_succ (length_putF _ _ _))) (by show 2 < 1000; decide), ?_⟩
    refine q' _ fun c o hc ne => ?_
    have hc2 := g _ _ hc
    rw [upd_ne ne, upd_ne (ne_of_none hc2 e2), upd_ne ne, upd_ne (ne_of_none hc2 e1), upd_ne ne]
    exact hc2
def sp__law_draw (K : PySem.W.Frag) (C_Ward C_NoMonth C_NoHand C_NoPost C_WardError : Addr) : Sp := fun vs H Q _ => ∃ (a : Addr) (ns : List Int) (k m : Int), vs = [.ref a, .int k, .int m] ∧ SqL K H a (ns.map V.int) ∧ ns.length ≤ 63 ∧ 0 ≤ k ∧ 0 < m ∧ ∀ v : Int, 0 ≤ v → v < m → Q (.int v) H
theorem sc__law_draw : FnScope ["_law_script", "_law_k", "_law_many", "_law_number"] ["_law_script", "_law_k", "_law_many"] (defScope s__law_draw) := ⟨rfl, rfl, rfl, by decide +kernel, rfl, by decide +kernel, by decide +kernel⟩
theorem ok__law_draw {C_Ward : Addr} {C_NoMonth : Addr} {C_NoHand : Addr} {C_NoPost : Addr} {C_WardError : Addr} {f : Addr} {fd : FuncData} (F : Fun K "_law_draw" "_law_draw" s__law_draw f fd) (T : Txt K mg C_Ward C_NoMonth C_NoHand C_NoPost C_WardError)  : FnOk P w K mg base CX0 1 f fd ["_law_script", "_law_k", "_law_many"] (sp__law_draw K C_Ward C_NoMonth C_NoHand C_NoPost C_WardError) := by
  refine F.ok sc__law_draw (fun vs H Q E h => ?_) (fun cdv A outer s H vs Q E hr h => ?_)
  · obtain ⟨a, ns, k, m, rfl, _⟩ := h
    rfl
  · obtain ⟨a, ns, k, m, rfl, hS, hl, k0, m0, q⟩ := h
    have hlen : ((List.map V.int ns).length : Int) = ns.length := by simp
    refine ⟨_, (pss_cons (ps_if (pt_cmpR op_lt (pv 1) (pe_callB (call_lenK (K := K) rfl) (by rfl) T.len PySem.boot_len (pa_cons (pv 0) pa_nil)) (nomark _)) (pss_one (ps_ret (pe_op op_mod (pe_ix ix_list (pv 0) (pv 1) (fun _ _ => rfl)) (pv 2)))) pss_nil)
    (pss_cons (ps_set (i := 3) sc__law_draw.nd rfl (Or.inl rfl) (pe_op op_add (pe_op op_mul (pv 1) pe_int) pe_int))
    (pss_cons (ps_if (pt_cmpR op_gt (pe_callB (call_lenK (K := K) rfl) (by rfl) T.len PySem.boot_len (pa_cons (pv 0) pa_nil)) pe_int (nomark _)) (pss_one (ps_set (i := 3) sc__law_draw.nd rfl (Or.inl rfl) (pe_op op_add (pe_op op_mul (pe_op op_mod (pe_ix ix_list (pv 0) (pe_op op_mod (pe_op op_mul (pv 1) pe_int) (pe_callB (call_lenK (K := K) rfl) (by rfl) T.len PySem.boot_len (pa_cons (pv 0) pa_nil))) (fun _ _ => rfl)) pe_int) pe_int) (pe_op op_mul (pv 1) pe_int)))) pss_nil)
    (pss_cons (ps_set (i := 3) sc__law_draw.nd rfl (Or.inl rfl) (pe_op op_mod (pv 3) pe_int))
    (pss_one (ps_ret (pe_op op_mod (pe_op op_mod (pe_op op_mul (pv 3) (pv 3)) pe_int) (pv 2)))))))), ?_⟩
    walk_at "rd"
    refine ⟨_, .inl hS, ?_⟩
    rw [hlen]
    split
    · rename_i hk
      obtain ⟨v, hv⟩ := item_of k0 hk
      exact ⟨_, hS, _, hv, v, rfl, m0, q _ (Int.emod_nonneg _ (by omega)) (Int.emod_lt_of_pos _ m0)⟩
    · refine ⟨.inr ⟨by decide, by decide⟩, _, .inl hS, ?_⟩
      rw [hlen]
      split
      · rename_i hp
        obtain ⟨v, hv⟩ := item_of (ns := ns) (k := k * 7 % ns.length) (Int.emod_nonneg _ (by omega)) (Int.emod_lt_of_pos _ hp)
        refine ⟨.inr ⟨by decide, by decide⟩, _, .inl hS, by omega, _, hS, _, by rw [hlen]; exact hv, v, rfl, by decide, .inr ⟨by decide, by decide⟩, .inr ⟨by decide, by decide⟩, by decide, .inl ⟨by omega, by omega⟩, by decide, m0, ?_⟩
        exact q _ (Int.emod_nonneg _ (by omega)) (Int.emod_lt_of_pos _ m0)
      · refine ⟨by decide, .inl ⟨by omega, by omega⟩, by decide, m0, ?_⟩
        exact q _ (Int.emod_nonneg _ (by omega)) (Int.emod_lt_of_pos _ m0)
theorem use_draw {K : PySem.W.Frag} {C_Ward C_NoMonth C_NoHand C_NoPost C_WardError : Addr} {H : Hp} {Q : VK} {E : XK} {a : Addr} {ns : List Int} {k m : Int} (hS : SqL K H a (ns.map V.int)) (hl : ns.length ≤ 63) (k0 : 0 ≤ k) (m0 : 0 < m)
    (q : ∀ v : Int, 0 ≤ v → v < m → Q (.int v) H) : sp__law_draw K C_Ward C_NoMonth C_NoHand C_NoPost C_WardError [.ref a, .int k, .int m] H Q E := ⟨a, ns, k, m, rfl, hS, hl, k0, m0, q⟩
def sp__law_ways (K : PySem.W.Frag) (C_Ward C_NoMonth C_NoHand C_NoPost C_WardError : Addr) : Sp := fun vs H Q _ => ∃ (a : Addr) (ns : List Int), vs = [.ref a] ∧ SqL K H a (ns.map V.int) ∧ ns.length ≤ 63 ∧ ∀ r H' (ws : List Int), (∀ x ∈ ws, okH x) → New H H' r (ws.map V.int) → Q (.ref r) H'
theorem sc__law_ways : FnScope ["_law_script", "_law_powers", "_law_number", "_law_k", "_law_power", "_law_step"] ["_law_script"] (defScope s__law_ways) := ⟨rfl, rfl, rfl, by decide +kernel, rfl, by decide +kernel, by decide +kernel⟩
theorem ok__law_ways {C_Ward : Addr} {C_NoMonth : Addr} {C_NoHand : Addr} {C_NoPost : Addr} {C_WardError : Addr} {f : Addr} {fd : FuncData} (F : Fun K "_law_ways" "_law_ways" s__law_ways f fd) (T : Txt K mg C_Ward C_NoMonth C_NoHand C_NoPost C_WardError) (C__law_draw : Cal P w K mg base "_law_draw" ["_law_script", "_law_k", "_law_many"] 1 (sp__law_draw K C_Ward C_NoMonth C_NoHand C_NoPost C_WardError)) : FnOk P w K mg base CX0 2 f fd ["_law_script"] (sp__law_ways K C_Ward C_NoMonth C_NoHand C_NoPost C_WardError) := by
  refine F.ok sc__law_ways (fun vs H Q E h => ?_) (fun cdv A outer s H vs Q E hr h => ?_)
  · obtain ⟨a, ns, rfl, _⟩ := h
    rfl
  · obtain ⟨a, ns, rfl, hS, hl, q⟩ := h
    refine ⟨_, (pss_cons (ps_set (i := 1) sc__law_ways.nd rfl (Or.inl rfl) (pe_lst pa_nil))
    (pss_cons (ps_set (i := 2) sc__law_ways.nd rfl (Or.inl rfl) (pe_cal C__law_draw (hr.mono (by decide)) rfl (pa_cons (pv 0) (pa_cons pe_int (pa_cons pe_int pa_nil)))))
    (pss_cons (ps_for PassesOwn.never rfl (pi_range1 rfl T.range (pa_cons pe_int pa_nil)) (pg_name (i := 3) sc__law_ways.nd rfl (Or.inl rfl))
      (pss_cons (ps_set (i := 4) sc__law_ways.nd rfl (Or.inl rfl) pe_int)
        (pss_cons (ps_for PassesOwn.never rfl (pi_range1 rfl T.range (pa_cons (pe_op op_mod (pv 2) pe_int) pa_nil)) (pg_name (i := 5) sc__law_ways.nd rfl (Or.inl rfl))
          (pss_one (ps_set (i := 4) sc__law_ways.nd rfl (Or.inl rfl) (pe_op op_mul (pv 4) pe_int))))
        (pss_cons (ps_expr (pe_bm PySem.F.plainAttrs_list PySem.F.slot_list_append PySem.F.type_list_append mt_append (pv 1) (pa_cons (pv 4) pa_nil)))
        (pss_one (ps_set (i := 2) sc__law_ways.nd rfl (Or.inl rfl) (pe_op op_fdiv (pv 2) pe_int)))))))
    (pss_one (ps_ret (pv 1)))))), ?_⟩
    walk_at "rd"
    refine ⟨Nat.zero_le _, fun p hp => ?_⟩
    have g1 := same_new hp (.lst [])
    refine use_draw (g1.seq hS) hl (by decide) (by decide) fun n n0 n1 => ?_
    refine ⟨by decide, by decide, for_rangeW (fun i σ H' => ∃ (ws : List Int) (m : Int) (v1 v2 v3 : Option V), ws.length = i ∧ (∀ x ∈ ws, okH x) ∧ 0 ≤ m ∧ σ = [some (.ref a), some (.ref p), some (.int m), v1, v2, v3] ∧ H' = upd H p (.lst (ws.map V.int))) ⟨[], n, none, none, none, rfl, by simp, n0, rfl, rfl⟩ ?_ ?_⟩
    · rintro i σ H' hi ⟨ws, m, v1, v2, v3, hw, hok, m0, rfl, rfl⟩
      have h30 : 0 ≤ m % 30 ∧ m % 30 < 30 := ⟨Int.emod_nonneg _ (by decide), Int.emod_lt_of_pos _ (by decide)⟩
      walk_at "rd"
      refine ⟨by decide, by omega, by omega, for_rangeW (fun j σ H' => ∃ v3, σ = [some (.ref a), some (.ref p), some (.int m), some (.int (0 + (i : Int))), some (.int (2 ^ j)), v3] ∧ H' = upd H p (.lst (ws.map V.int))) ⟨v3, rfl, rfl⟩ ?_ ?_⟩
      · rintro j σ H' hj ⟨v3, rfl, rfl⟩
        walk_at "rd"
        refine ⟨.inr ⟨by decide, by decide⟩, ?_⟩
        rw [Int.pow_succ]
      · rintro σ H' ⟨v3, rfl, rfl⟩
        have hp30 : okH (2 ^ (m % 30).toNat) := by
          have e : ((2 ^ (m % 30).toNat : Nat) : Int) = (2 : Int) ^ (m % 30).toNat := by simp
          rw [← e]
          exact okH_of (Nat.pow_lt_pow_right (by decide) (by omega))
        walk_at "rd"
        refine ⟨.inl ⟨rfl, _, SqL.of upd_same⟩, _, upd_same, small1000 (by simp only [List.length_map]; omega), ⟨by decide, by decide⟩, ws ++ [2 ^ (m % 30).toNat], ?_⟩
        refine ⟨by rw [List.length_append, hw]; rfl, fun x hx => ?_, m / 30, by omega, rfl, ?_⟩
        · rcases List.mem_append.mp hx with z | z
          · exact hok x z
          · rw [List.mem_singleton.mp z]
            exact hp30
        · rw [upd_upd, List.map_append]
          rfl
    · rintro σ H' ⟨ws, m, v1, v2, v3, hw, hok, m0, rfl, rfl⟩
      walk_at "rd"
      exact q p _ ws hok ⟨same_new hp _, hp, upd_same⟩
def sp__law_set (K : PySem.W.Frag) (C_Ward C_NoMonth C_NoHand C_NoPost C_WardError : Addr) : Sp := fun vs H Q _ => ∃ (a : Addr) (ns : List Int) (k : Int), vs = [.ref a, .int k] ∧ SqL K H a (ns.map V.int) ∧ ns.length ≤ 63 ∧ 0 ≤ k ∧ ∀ v H', okH v → Same H H' → Q (.int v) H'
theorem sc__law_set : FnScope ["_law_script", "_law_k", "_law_number", "_law_amount", "_law_way"] ["_law_script", "_law_k"] (defScope s__law_set) := ⟨rfl, rfl, rfl, by decide +kernel, rfl, by decide +kernel, by decide +kernel⟩
theorem ok__law_set {C_Ward : Addr} {C_NoMonth : Addr} {C_NoHand : Addr} {C_NoPost : Addr} {C_WardError : Addr} {f : Addr} {fd : FuncData} (F : Fun K "_law_set" "_law_set" s__law_set f fd) (T : Txt K mg C_Ward C_NoMonth C_NoHand C_NoPost C_WardError) (C__law_draw : Cal P w K mg base "_law_draw" ["_law_script", "_law_k", "_law_many"] 1 (sp__law_draw K C_Ward C_NoMonth C_NoHand C_NoPost C_WardError)) (C__law_ways : Cal P w K mg base "_law_ways" ["_law_script"] 2 (sp__law_ways K C_Ward C_NoMonth C_NoHand C_NoPost C_WardError)) : FnOk P w K mg base CX0 3 f fd ["_law_script", "_law_k"] (sp__law_set K C_Ward C_NoMonth C_NoHand C_NoPost C_WardError) := by
  refine F.ok sc__law_set (fun vs H Q E h => ?_) (fun cdv A outer s H vs Q E hr h => ?_)
  · obtain ⟨a, ns, k, rfl, _⟩ := h
    rfl
  · obtain ⟨a, ns, k, rfl, hS, hl, k0, q⟩ := h
    refine ⟨_, (pss_cons (ps_if (pt_cmpR op_eq (pe_cal C__law_draw (hr.mono (by decide)) rfl (pa_cons (pv 0) (pa_cons (pv 1) (pa_cons pe_int pa_nil)))) pe_int (nomark _)) (pss_one (ps_ret (pe_op op_sub (pe_op op_pow pe_int pe_int) pe_int))) pss_nil)
    (pss_cons (ps_if (pt_cmpR op_eq (pe_cal C__law_draw (hr.mono (by decide)) rfl (pa_cons (pv 0) (pa_cons pe_int (pa_cons pe_int pa_nil)))) pe_int (nomark _)) (pss_one (ps_ret (pe_cal C__law_draw (hr.mono (by decide)) rfl (pa_cons (pv 0) (pa_cons (pv 1) (pa_cons (pe_op op_pow pe_int pe_int) pa_nil)))))) pss_nil)
    (pss_cons (ps_set (i := 2) sc__law_set.nd rfl (Or.inl rfl) (pe_cal C__law_draw (hr.mono (by decide)) rfl (pa_cons (pv 0) (pa_cons (pv 1) (pa_cons pe_int pa_nil)))))
    (pss_cons (ps_set (i := 3) sc__law_set.nd rfl (Or.inl rfl) pe_int)
    (pss_cons (ps_for PassesOwn.never rfl (pi_list (pe_cal C__law_ways (hr.mono (by decide)) rfl (pa_cons (pv 0) pa_nil))) (pg_name (i := 4) sc__law_set.nd rfl (Or.inl rfl))
      (pss_cons (ps_if (pt_cmpR op_gt (pe_op op_mod (pv 2) pe_int) pe_int (nomark _)) (pss_one (ps_set (i := 3) sc__law_set.nd rfl (Or.inl rfl) (pe_op op_or (pv 3) (pv 4)))) pss_nil)
        (pss_one (ps_set (i := 2) sc__law_set.nd rfl (Or.inl rfl) (pe_op op_fdiv (pv 2) pe_int)))))
    (pss_one (ps_ret (pv 3)))))))), ?_⟩
    walk_at "rd"
    refine use_draw hS hl k0 (by decide) fun x x0 x1 => ?_
    walk_at "rd"
    split
    · refine ⟨⟨by decide, by decide, by decide⟩, q _ _ ⟨by decide, by decide⟩ (Same.refl H)⟩
    refine use_draw hS hl (by decide) (by decide) fun y y0 y1 => ?_
    walk_at "rd"
    split
    · refine ⟨⟨by decide, by decide, by decide⟩, use_draw hS hl k0 (by decide) fun z z0 z1 => q _ _ ⟨z0, ?_⟩ (Same.refl H)⟩
      rw [show (2 : Int) ^ Int.toNat 30 = 1073741824 by decide] at z1
      exact z1
    refine use_draw hS hl k0 (by decide) fun z z0 z1 => ⟨a, ns, rfl, hS, hl, fun r H1 ws hw ⟨g1, f1, e1⟩ => ?_⟩
    walk_at "rd"
    refine ⟨⟨_, SqL.of e1⟩, for_listW (xs := ws.map V.int) (fun i σ H' => H' = H1 ∧ ∃ (m v : Int) (v4 : Option V), okH v ∧ σ = [some (.ref a), some (.int k), some (.int m), some (.int v), v4]) ⟨rfl, z, 0, none, ⟨by decide, by decide⟩, rfl⟩ (fun i σ H' _ hh => hh.1 ▸ SqL.of e1) ?_ ?_⟩
    · rintro i x σ H' hx ⟨rfl, m, v, v4, hv, rfl⟩
      rw [List.getElem?_map] at hx
      obtain ⟨p, hpi, rfl⟩ := Option.map_eq_some_iff.mp hx
      have hp := hw p (List.mem_of_getElem? hpi)
      walk_at "rd"
      refine ⟨by decide, ?_⟩
      split
      · exact ⟨⟨by decide, by decide⟩, _, _, okH_or hv hp, rfl, rfl⟩
      · exact ⟨⟨by decide, by decide⟩, _, _, hv, rfl, rfl⟩
    · rintro σ H' ⟨rfl, m, v, v4, hv, rfl⟩
      walk_at "rd"
      exact q v H' hv g1
def sp__law_ward (K : PySem.W.Frag) (C_Ward C_NoMonth C_NoHand C_NoPost C_WardError : Addr) : Sp := fun vs H Q _ => ∃ (a : Addr) (ns : List Int), vs = [.ref a] ∧ SqL K H a (ns.map V.int) ∧ ns.length ≤ 63 ∧ ∀ (t ha pa : Addr) (d : Int) (hs : List Int) (ts : List V) (ps : List Pst) (H' : Hp), Same H H' → H' t = some (.tup [.int d, .ref ha, .ref pa]) → H' ha = some (.lst (hs.map V.int)) → H' pa = some (.lst ts) → Posts H' ts ps → Ok d hs ps → H ha = none → H pa = none → ha ≠ pa → Q (.ref t) H'
theorem sc__law_ward : FnScope ["_law_script", "_law_hands", "_law_posts", "_law_k", "_law_need", "_law_hours"] ["_law_script"] (defScope s__law_ward) := ⟨rfl, rfl, rfl, by decide +kernel, rfl, by decide +kernel, by decide +kernel⟩
theorem ok__law_ward {C_Ward : Addr} {C_NoMonth : Addr} {C_NoHand : Addr} {C_NoPost : Addr} {C_WardError : Addr} {f : Addr} {fd : FuncData} (F : Fun K "_law_ward" "_law_ward" s__law_ward f fd) (T : Txt K mg C_Ward C_NoMonth C_NoHand C_NoPost C_WardError) (C__law_set : Cal P w K mg base "_law_set" ["_law_script", "_law_k"] 3 (sp__law_set K C_Ward C_NoMonth C_NoHand C_NoPost C_WardError)) (C__law_draw : Cal P w K mg base "_law_draw" ["_law_script", "_law_k", "_law_many"] 1 (sp__law_draw K C_Ward C_NoMonth C_NoHand C_NoPost C_WardError)) : FnOk P w K mg base CX0 4 f fd ["_law_script"] (sp__law_ward K C_Ward C_NoMonth C_NoHand C_NoPost C_WardError) := by
  refine F.ok sc__law_ward (fun vs H Q E h => ?_) (fun cdv A outer s H vs Q E hr h => ?_)
  · obtain ⟨a, ns, rfl, _⟩ := h
    rfl
  · obtain ⟨a, ns, rfl, hS, hl, q⟩ := h
    refine ⟨_, (pss_cons (ps_comp (i := 1) sc__law_ward.nd rfl rfl (own := ["_law_k"]) (fnames := ["_law_script"]) (fr := [0]) (N' := ["_law_k", "_law_script"]) ⟨rfl, rfl, rfl, rfl, rfl, rfl, rfl⟩ rfl (pi_range1 rfl T.range (pa_cons (pe_cal C__law_draw (hr.mono (by decide)) rfl (pa_cons (pv 0) (pa_cons pe_int (pa_cons pe_int pa_nil)))) pa_nil)) (fun s0 H0 fp0 C0 => ⟨(pg_name (i := 0) (by show (["_law_k", "_law_script"] : List Str).Nodup; decide +kernel) rfl (Or.inl rfl)), pts_nil, (pe_cal C__law_set (hr.mono (by decide)) rfl (pa_cons (pv 1) (pa_cons (pe_op op_add pe_int (pv 0)) pa_nil)))⟩))
    (pss_cons (ps_set (i := 2) sc__law_ward.nd rfl (Or.inl rfl) (pe_lst pa_nil))
    (pss_cons (ps_for PassesOwn.never rfl (pi_range1 rfl T.range (pa_cons (pe_cal C__law_draw (hr.mono (by decide)) rfl (pa_cons (pv 0) (pa_cons pe_int (pa_cons pe_int pa_nil)))) pa_nil)) (pg_name (i := 3) sc__law_ward.nd rfl (Or.inl rfl))
      (pss_cons (ps_set (i := 4) sc__law_ward.nd rfl (Or.inl rfl) (pe_op op_and (pe_cal C__law_set (hr.mono (by decide)) rfl (pa_cons (pv 0) (pa_cons (pe_op op_add pe_int (pe_op op_mul pe_int (pv 3))) pa_nil))) (pe_cal C__law_set (hr.mono (by decide)) rfl (pa_cons (pv 0) (pa_cons (pe_op op_add pe_int (pe_op op_mul pe_int (pv 3))) pa_nil)))))
        (pss_cut (ps_if (pt_cmpR op_eq (pe_cal C__law_draw (hr.mono (by decide)) rfl (pa_cons (pv 0) (pa_cons pe_int (pa_cons pe_int pa_nil)))) (pe_op op_mod (pv 3) pe_int) (nomark _)) (pss_one (ps_set (i := 4) sc__law_ward.nd rfl (Or.inl rfl) (pe_cal C__law_set (hr.mono (by decide)) rfl (pa_cons (pv 0) (pa_cons (pe_op op_add pe_int (pe_op op_mul pe_int (pv 3))) pa_nil))))) pss_nil)
        (pss_cons (ps_set (i := 5) sc__law_ward.nd rfl (Or.inl rfl) (pe_cal C__law_draw (hr.mono (by decide)) rfl (pa_cons (pv 0) (pa_cons (pe_op op_add pe_int (pe_op op_mul pe_int (pv 3))) (pa_cons (pe_op op_add (pe_op op_pow pe_int pe_int) pe_int) pa_nil)))))
        (pss_cut (ps_if (pt_cmpR op_eq (pe_op op_mod (pv 5) pe_int) pe_int (nomark _)) (pss_one (ps_set (i := 5) sc__law_ward.nd rfl (Or.inl rfl) (pe_op op_pow pe_int pe_int))) pss_nil)
        (pss_one (ps_expr (pe_bm PySem.F.plainAttrs_list PySem.F.slot_list_append PySem.F.type_list_append mt_append (pv 2) (pa_cons (pe_tup (pa_cons (pv 4) (pa_cons (pv 5) (pa_cons (pe_cal C__law_draw (hr.mono (by decide)) rfl (pa_cons (pv 0) (pa_cons (pe_op op_add pe_int (pe_op op_mul pe_int (pv 3))) (pa_cons pe_int pa_nil)))) pa_nil)))) pa_nil)))))))))
    (pss_one (ps_ret (pe_tup (pa_cons (pe_op op_add pe_int (pe_cal C__law_draw (hr.mono (by decide)) rfl (pa_cons (pv 0) (pa_cons pe_int (pa_cons pe_int pa_nil))))) (pa_cons (pv 1) (pa_cons (pv 2) pa_nil))))))))), ?_⟩
    walk_at "rd"
    refine use_draw hS hl (by decide) (by decide) fun n n0 n1 => ?_
    walk_at "rd"
    refine ⟨by omega, by omega, fun D hD => for_rangeW (fun i σ H' => ∃ (hs : List Int) (v : Option V), hs.length = i ∧ (∀ x ∈ hs, okH x) ∧ Same H H' ∧ H' D = some (.lst (hs.map V.int)) ∧ σ = [v, some (.ref a)]) ⟨[], none, rfl, by simp, same_new hD _, upd_same, rfl⟩ ?_ ?_⟩
    · rintro i σ H' hi ⟨hs, v, hw, hok, g, e, rfl⟩
      walk_at "rd"
      refine ⟨a, ns, _, rfl, g.seq hS, hl, by omega, fun x H1 hx g1 => ?_⟩
      refine ⟨_, g1 _ _ e, small1000 (by simp only [List.length_map]; omega), hs ++ [x], by rw [List.length_append, hw]; rfl, fun y hy => ?_, fun b o hb => ?_, ?_⟩
      · rcases List.mem_append.mp hy with z | z
        · exact hok y z
        · rw [List.mem_singleton.mp z]
          exact hx
      · have ne : b ≠ D := fun z => by subst z; rw [hD] at hb; cases hb
        rw [upd_ne ne]
        exact g1 _ _ (g _ _ hb)
      · rw [upd_same, List.map_append]
        rfl
    rintro σ H1 ⟨hs, v, hw, hok, g, e, rfl⟩
    have hw8 : hs.length ≤ 8 := by omega
    walk_at "rd"
    refine ⟨Nat.zero_le _, fun p hp => use_draw ((g.trans (same_new hp _)).seq hS) hl (by decide) (by decide) fun m m0 m1 => ?_⟩
    have nDp : D ≠ p := ne_of_none e hp
    have hp0 : H p = none := g.free hp
    walk_at "rd"
    refine ⟨by omega, by omega, for_rangeW (fun i σ H' => ∃ (ts : List V) (ps : List Pst) (v1 v2 v3 : Option V), ps.length = i ∧ (∀ x ∈ ps, okP x) ∧ Same H H' ∧ H' D = some (.lst (hs.map V.int)) ∧ H' p = some (.lst ts) ∧ Posts H' ts ps ∧ σ = [some (.ref a), some (.ref D), some (.ref p), v1, v2, v3]) ⟨[], [], none, none, none, rfl, by simp, g.trans (same_new hp _), by rw [upd_ne nDp]; exact e, upd_same, .nil, rfl⟩ ?_ ?_⟩
    · rintro i σ H' hi ⟨ts, ps, v1, v2, v3, hw2, hok2, g2, e2, e3, hT, rfl⟩
      walk_at "rd"
      have c3 : CMul 3 (0 + (i : Int)) := .inl ⟨by decide, by decide⟩
      refine ⟨c3, a, ns, _, rfl, g2.seq hS, hl, by omega, fun x H2 hx g3 => ⟨c3, a, ns, _, rfl, (g2.trans g3).seq hS, hl, by omega, fun y H3 hy g4 => ?_⟩⟩
      walk_at "rd"
      have g5 := g3.trans g4
      refine cut_of (fun σ' H4 => ∃ z : Int, okH z ∧ σ' = [some (.ref a), some (.ref D), some (.ref p), some (.int (0 + (i : Int))), some (.int z), v3] ∧ Same H' H4) ?_ ?_
      · walk_at "rd"
        refine use_draw ((g2.trans g5).seq hS) hl (by decide) (by decide) fun w w0 w1 => ?_
        walk_at "rd"
        refine ⟨by decide, ?_⟩
        split
        · exact ⟨c3, a, ns, _, rfl, (g2.trans g5).seq hS, hl, by omega, fun u H4 hu g6 => ⟨u, hu, rfl, g5.trans g6⟩⟩
        · exact ⟨_, okH_and hx hy, rfl, g5⟩
      rintro σ' H4 ⟨z, hz, rfl, g6⟩
      walk_at "rd"
      refine ⟨c3, ⟨by decide, by decide, by decide⟩, use_draw ((g2.trans g6).seq hS) hl (by omega) (by decide) fun w w0 w1 => ?_⟩
      rw [show (10 : Int) ^ Int.toNat 9 + 1 = 1000000001 by decide] at w1
      walk_at "rd"
      refine cut_of (fun σ' H5 => ∃ z' : Int, 0 ≤ z' ∧ z' ≤ 1000000000 ∧ σ' = [some (.ref a), some (.ref D), some (.ref p), some (.int (0 + (i : Int))), some (.int z), some (.int z')] ∧ H5 = H4) ?_ ?_
      · walk_at "rd"
        refine ⟨by decide, ?_⟩
        split
        · exact ⟨⟨by decide, by decide, by decide⟩, _, by decide, by decide, rfl⟩
        · exact ⟨_, w0, by omega, rfl⟩
      rintro σ' H5 ⟨z', z0, z1, rfl, rfl⟩
      walk_at "rd"
      refine ⟨.inl ⟨rfl, _, SqL.of (g6 _ _ e3)⟩, c3, use_draw ((g2.trans g6).seq hS) hl (by omega) (by decide) fun w w0 w1 => ?_⟩
      walk_at "rd"
      refine ⟨by decide, fun t ht => ?_⟩
      have g7 := same_new ht (.tup [.int z, .int z', .int w])
      have npt : p ≠ t := ne_of_none (g6 _ _ e3) ht
      refine ⟨_, g7 _ _ (g6 _ _ e3), small1000 (by have := hT.len; omega), ts ++ [.ref t], ps ++ [(z, z', w)], by rw [List.length_append, hw2]; rfl, fun y hy => ?_, fun b o hb => ?_, ?_, upd_same, ?_⟩
      · rcases List.mem_append.mp hy with z2 | z2
        · exact hok2 y z2
        · rw [List.mem_singleton.mp z2]
          exact ⟨hz, ⟨z0, z1⟩, w0, by show w ≤ 1; omega⟩
      · have ne : b ≠ p := fun z => by subst z; rw [hp0] at hb; cases hb
        rw [upd_ne ne]
        exact g7 _ _ (g6 _ _ (g2 _ _ hb))
      · rw [upd_ne nDp]
        exact g7 _ _ (g6 _ _ e2)
      · refine Posts.snoc ?_ ⟨t, rfl, ?_⟩
        · exact (hT.mono (g6.trans g7)).off fun ys z => by rw [g7 _ _ (g6 _ _ e3)] at z; cases z
        · rw [upd_ne npt.symm]
          exact upd_same
    rintro σ H' ⟨ts, ps, v1, v2, v3, hw2, hok2, g2, e2, e3, hT, rfl⟩
    walk_at "rd"
    refine use_draw (g2.seq hS) hl (by decide) (by decide) fun d d0 d1 => ?_
    walk_at "rd"
    refine ⟨by decide, fun t ht => ?_⟩
    have g3 := same_new ht (.tup [.int (1 + d), .ref D, .ref p])
    exact q t D p (1 + d) hs ts ps _ (g2.trans g3) upd_same (g3 _ _ e2) (g3 _ _ e3) (hT.mono g3) ⟨by omega, by omega, hok, hw8, hok2, by omega⟩ hD hp0 nDp
def sp__law_out (K : PySem.W.Frag) (C_Ward C_NoMonth C_NoHand C_NoPost C_WardError : Addr) : Sp := fun vs H Q _ => ∃ (a : Addr) (ns : List Int) (k b : Int), vs = [.ref a, .int k, .int b] ∧ SqL K H a (ns.map V.int) ∧ ns.length ≤ 63 ∧ 0 ≤ k ∧ ∀ v : Int, Q (.int v) H
theorem sc__law_out : FnScope ["_law_script", "_law_k", "_law_bound", "_law_far"] ["_law_script", "_law_k", "_law_bound"] (defScope s__law_out) := ⟨rfl, rfl, rfl, by decide +kernel, rfl, by decide +kernel, by decide +kernel⟩
theorem ok__law_out {C_Ward : Addr} {C_NoMonth : Addr} {C_NoHand : Addr} {C_NoPost : Addr} {C_WardError : Addr} {f : Addr} {fd : FuncData} (F : Fun K "_law_out" "_law_out" s__law_out f fd) (T : Txt K mg C_Ward C_NoMonth C_NoHand C_NoPost C_WardError) (C__law_draw : Cal P w K mg base "_law_draw" ["_law_script", "_law_k", "_law_many"] 1 (sp__law_draw K C_Ward C_NoMonth C_NoHand C_NoPost C_WardError)) : FnOk P w K mg base CX0 2 f fd ["_law_script", "_law_k", "_law_bound"] (sp__law_out K C_Ward C_NoMonth C_NoHand C_NoPost C_WardError) := by
  refine F.ok sc__law_out (fun vs H Q E h => ?_) (fun cdv A outer s H vs Q E hr h => ?_)
  · obtain ⟨a, ns, k, b, rfl, _⟩ := h
    rfl
  · obtain ⟨a, ns, k, b, rfl, hS, hl, k0, q⟩ := h
    refine ⟨_, (pss_cons (ps_set (i := 3) sc__law_out.nd rfl (Or.inl rfl) (pe_cal C__law_draw (hr.mono (by decide)) rfl (pa_cons (pv 0) (pa_cons (pv 1) (pa_cons (pe_op op_pow pe_int pe_int) pa_nil)))))
    (pss_cons (ps_if (pt_cmpR op_eq (pe_op op_mod (pv 3) pe_int) pe_int (nomark _)) (pss_one (ps_ret (pe_op op_sub (pe_un un_neg pe_int) (pe_op op_fdiv (pv 3) pe_int)))) pss_nil)
    (pss_cons (ps_if (pt_cmpR op_eq (pe_op op_mod (pv 3) pe_int) pe_int (nomark _)) (pss_one (ps_ret (pv 2))) pss_nil)
    (pss_one (ps_ret (pe_op op_add (pv 2) (pe_op op_fdiv (pv 3) pe_int))))))), ?_⟩
    walk_at "rd"
    refine ⟨⟨by decide, by decide, by decide⟩, use_draw hS hl k0 (by decide) fun x x0 x1 => ?_⟩
    walk_at "rd"
    have c3 : CDiv x 3 := ⟨by decide, by decide⟩
    refine ⟨by decide, ?_⟩
    split
    · exact ⟨c3, q _⟩
    refine ⟨by decide, ?_⟩
    split
    · exact q _
    · exact ⟨c3, q _⟩
end
end My

set_option Elab.async false
set_option linter.all false
set_option maxRecDepth 100000
set_option maxHeartbeats 4000000
namespace My
open PySem L2
section
variable {P : Program} {w : World} {K : PySem.W.Frag} {mg : Str → Option Value} {base : Heap}
local macro_rules | `(tactic| walk_at "rd") => `(tactic| try simp only [tSeq, tRet, tRetN, tIfS, tNext, tDrop, tOp, tUn, tVar, tC, rI0, rI, rU, rEq, rNe, L2.start, tAsg, gName, tTest, tB, tCB, tCons, tNil, rIxL, rIxT, tNot, tAnd, tOr, tNotV, tAndV, tOrV, tCall, rIsi, iRng1, iRng2, tFor, tWhile, tChain, tIf, tTup, tLst, tComp, tBlk, compSt, tTrue, Cx.comp, List.replicate_one, List.replicate_zero, Option.getD_some, tBM, tBM0, rLen, rListOf, rTupL, tRaise, tCallX, tDropX, tSetX, tTry0, tTryA, Ends.gone, rIsx, rExc, vO, tFld, tMeth, tMake, sFld, iEnL, iEnT, gTup, gCons, gNil, gSub, rSetL, rCat, rInsert, tSl, tNoPart, tPart, rSlL, rAppend, rClear, iList, iTup, cxOf, Cx.nox, Cx.wish, List.map_cons, List.map_nil, List.length_cons, List.length_nil, Nat.reduceAdd, Nat.reduceSub, List.reduceReplicate, List.cons_append, List.nil_append, List.append_nil, List.getElem?_cons_zero, List.getElem?_cons_succ, List.set_cons_zero, List.set_cons_succ, Option.some.injEq, V.int.injEq, V.bl.injEq, V.ref.injEq, V.str.injEq, V.ty.injEq, List.cons.injEq, and_true, true_and, and_assoc, exists_eq_left, exists_eq_left', exists_eq_right, exists_eq, exists_eq', exists_and_left, exists_const, decide_eq_true_eq, scal_ii, scal_bb, scal_ss, tEqI', Bool.not_eq_true', Bool.not_eq_true, decide_eq_false_iff_not, if_true, if_false, Bool.false_eq_true, reduceIte, tyN_int, tyN_bl, tyN_str, tyN_ref, okT_int, okT_bool, okT_str, okT_list, okT_tuple, subN_ii, subN_ib, subN_bb, subN_bi, subN_ss, subN_ll, subN_tt, Bool.not_true, Bool.not_false, not_true_eq_false, Bool.true_eq_false, tExcI, tInit, sExc, tExcF, rIsz, tRaiseD, tTryD, tMakeX2, tExcH, rCountH, rIndexH, Cx.uncalm, Cx.mrk])
def sp__law_faults (K : PySem.W.Frag) (C_Ward C_NoMonth C_NoHand C_NoPost C_WardError : Addr) : Sp := fun vs H Q _ => ∃ (a ha pa : Addr) (ns : List Int) (d : Int) (hs : List Int) (ts : List V) (ps : List Pst), vs = [.ref a, .int d, .ref ha, .ref pa] ∧ ns.length ≤ 63 ∧ (∀ H', Off2 H ha pa H' → SqL K H' a (ns.map V.int)) ∧ Fi H ha pa H hs ts ps ∧ hs.length ≤ 8 ∧ ps.length ≤ 6 ∧ ∀ d' hs' ts' ps' H', Fi H ha pa H' hs' ts' ps' → hs'.length ≤ 12 → ps'.length ≤ 9 → Q (.int d') H'
theorem sc__law_faults : FnScope ["_law_script", "_law_days", "_law_hands", "_law_posts", "_law_bits", "_law_k", "_law_at", "_law_place", "_law_one"] ["_law_script", "_law_days", "_law_hands", "_law_posts"] (defScope s__law_faults) := ⟨rfl, rfl, rfl, by decide +kernel, rfl, by decide +kernel, by decide +kernel⟩
theorem ok__law_faults {C_Ward : Addr} {C_NoMonth : Addr} {C_NoHand : Addr} {C_NoPost : Addr} {C_WardError : Addr} {f : Addr} {fd : FuncData} (F : Fun K "_law_faults" "_law_faults" s__law_faults f fd) (T : Txt K mg C_Ward C_NoMonth C_NoHand C_NoPost C_WardError) (C__law_draw : Cal P w K mg base "_law_draw" ["_law_script", "_law_k", "_law_many"] 1 (sp__law_draw K C_Ward C_NoMonth C_NoHand C_NoPost C_WardError)) (C__law_out : Cal P w K mg base "_law_out" ["_law_script", "_law_k", "_law_bound"] 2 (sp__law_out K C_Ward C_NoMonth C_NoHand C_NoPost C_WardError)) : FnOk P w K mg base CX0 3 f fd ["_law_script", "_law_days", "_law_hands", "_law_posts"] (sp__law_faults K C_Ward C_NoMonth C_NoHand C_NoPost C_WardError) := by
  refine F.ok sc__law_faults (fun vs H Q E h => ?_) (fun cdv A outer s H vs Q E hr h => ?_)
  · obtain ⟨a, ha, pa, ns, d, hs, ts, ps, rfl, _⟩ := h
    rfl
  · obtain ⟨a, ha, pa, ns, d, hs, ts, ps, rfl, hl, hSk, F0, h8, h6, q⟩ := h
    refine ⟨_, (pss_cons (ps_set (i := 4) sc__law_faults.nd rfl (Or.inl rfl) (pe_cal C__law_draw (hr.mono (by decide)) rfl (pa_cons (pv 0) (pa_cons pe_int (pa_cons pe_int pa_nil)))))
    (pss_cut (ps_if (pt_cmpR op_eq (pe_op op_mod (pv 4) pe_int) pe_int (nomark _)) (pss_cons (ps_set (i := 1) sc__law_faults.nd rfl (Or.inl rfl) (pe_cal C__law_out (hr.mono (by decide)) rfl (pa_cons (pv 0) (pa_cons pe_int (pa_cons pe_int pa_nil)))))
      (pss_one (ps_if (pt_cmpR op_eq (pe_cal C__law_draw (hr.mono (by decide)) rfl (pa_cons (pv 0) (pa_cons pe_int (pa_cons pe_int pa_nil)))) pe_int (nomark _)) (pss_one (ps_set (i := 1) sc__law_faults.nd rfl (Or.inl rfl) pe_int)) pss_nil))) pss_nil)
    (pss_cut (ps_if (pt_cmpR op_eq (pe_op op_mod (pe_op op_fdiv (pv 4) pe_int) pe_int) pe_int (nomark _)) (pss_one (ps_for PassesOwn.never rfl (pi_range1 rfl T.range (pa_cons (pe_op op_sub (pe_op op_add pe_int (pe_cal C__law_draw (hr.mono (by decide)) rfl (pa_cons (pv 0) (pa_cons pe_int (pa_cons pe_int pa_nil))))) (pe_callB (call_lenK (K := K) rfl) (by rfl) T.len PySem.boot_len (pa_cons (pv 2) pa_nil))) pa_nil)) (pg_name (i := 5) sc__law_faults.nd rfl (Or.inl rfl))
        (pss_one (ps_expr (pe_bm PySem.F.plainAttrs_list PySem.F.slot_list_append PySem.F.type_list_append mt_append (pv 2) (pa_cons (pv 5) pa_nil)))))) pss_nil)
    (pss_cut (ps_if (PW.pt (pw_and (pt_cmpR op_eq (pe_op op_mod (pe_op op_fdiv (pv 4) pe_int) pe_int) pe_int (nomark _)) (pw_and1 (pt_cmpR op_gt (pe_callB (call_lenK (K := K) rfl) (by rfl) T.len PySem.boot_len (pa_cons (pv 2) pa_nil)) pe_int (nomark _))))) (pss_one (ps_asg (pe_cal C__law_out (hr.mono (by decide)) rfl (pa_cons (pv 0) (pa_cons pe_int (pa_cons (pe_op op_pow pe_int pe_int) pa_nil)))) (pg_sub (pv 2) (pe_cal C__law_draw (hr.mono (by decide)) rfl (pa_cons (pv 0) (pa_cons pe_int (pa_cons (pe_callB (call_lenK (K := K) rfl) (by rfl) T.len PySem.boot_len (pa_cons (pv 2) pa_nil)) pa_nil)))) set_list))) pss_nil)
    (pss_cut (ps_if (pt_cmpR op_eq (pe_op op_mod (pe_op op_fdiv (pv 4) pe_int) pe_int) pe_int (nomark _)) (pss_one (ps_for PassesOwn.never rfl (pi_range1 rfl T.range (pa_cons (pe_op op_sub (pe_op op_add pe_int (pe_cal C__law_draw (hr.mono (by decide)) rfl (pa_cons (pv 0) (pa_cons pe_int (pa_cons pe_int pa_nil))))) (pe_callB (call_lenK (K := K) rfl) (by rfl) T.len PySem.boot_len (pa_cons (pv 3) pa_nil))) pa_nil)) (pg_name (i := 5) sc__law_faults.nd rfl (Or.inl rfl))
        (pss_one (ps_expr (pe_bm PySem.F.plainAttrs_list PySem.F.slot_list_append PySem.F.type_list_append mt_append (pv 3) (pa_cons (pe_tup (pa_cons (pv 5) (pa_cons pe_int (pa_cons (pe_op op_mod (pv 5) pe_int) pa_nil)))) pa_nil)))))) pss_nil)
    (pss_cut (ps_if (PW.pt (pw_and (pt_cmpR op_eq (pe_op op_mod (pe_op op_fdiv (pv 4) pe_int) pe_int) pe_int (nomark _)) (pw_and1 (pt_cmpR op_gt (pe_callB (call_lenK (K := K) rfl) (by rfl) T.len PySem.boot_len (pa_cons (pv 3) pa_nil)) pe_int (nomark _))))) (pss_cons (ps_set (i := 6) sc__law_faults.nd rfl (Or.inl rfl) (pe_cal C__law_draw (hr.mono (by decide)) rfl (pa_cons (pv 0) (pa_cons pe_int (pa_cons (pe_callB (call_lenK (K := K) rfl) (by rfl) T.len PySem.boot_len (pa_cons (pv 3) pa_nil)) pa_nil)))))
      (pss_cons (ps_set (i := 7) sc__law_faults.nd rfl (Or.inl rfl) (pe_cal C__law_draw (hr.mono (by decide)) rfl (pa_cons (pv 0) (pa_cons pe_int (pa_cons pe_int pa_nil)))))
      (pss_cons (ps_set (i := 8) sc__law_faults.nd rfl (Or.inl rfl) (pe_callTy (call_listK (K := K) rfl) (by rfl) T.list PyProof.Rows.boot_list (pa_cons (pe_ix ix_list (pv 3) (pv 6) (fun _ _ => rfl)) pa_nil)))
      (pss_cons (ps_asg (pe_cal C__law_out (hr.mono (by decide)) rfl (pa_cons (pv 0) (pa_cons pe_int (pa_cons (pe_ix ix_list (pe_lst (pa_cons (pe_op op_pow pe_int pe_int) (pa_cons (pe_op op_add (pe_op op_pow pe_int pe_int) pe_int) (pa_cons pe_int pa_nil)))) (pv 7) (fun _ _ => rfl)) pa_nil)))) (pg_sub (pv 8) (pv 7) set_list))
      (pss_one (ps_asg (pe_tup (pa_cons (pe_ix ix_list (pv 8) pe_int (fun _ _ => rfl)) (pa_cons (pe_ix ix_list (pv 8) pe_int (fun _ _ => rfl)) (pa_cons (pe_ix ix_list (pv 8) pe_int (fun _ _ => rfl)) pa_nil)))) (pg_sub (pv 3) (pv 6) set_list))))))) pss_nil)
    (pss_one (ps_ret (pv 1))))))))), ?_⟩
    refine seq_of fun U1 u1 => ?_
    walk_at "rd"
    refine use_draw (hSk _ F0.fr) hl (by decide) (by decide) fun bt b0 b1 => ?_
    rw [u1]; clear u1
    refine cut_of (fun σ H' => H' = H ∧ ∃ d' : Int, σ = [some (.ref a), some (.int d'), some (.ref ha), some (.ref pa), some (.int bt), none, none, none, none]) ?_ ?_
    · walk_at "rd"
      refine ⟨by decide, ?_⟩
      split
      · refine ⟨a, ns, _, _, rfl, hSk _ F0.fr, hl, by decide, fun v => use_draw (hSk _ F0.fr) hl (by decide) (by decide) fun y y0 y1 => ?_⟩
        refine ⟨rfl, ?_⟩
        split
        · rfl
        · exact ⟨rfl, v, rfl⟩
      · trivial
    rintro σ1 H1 ⟨e, d1, rfl⟩
    subst e
    refine cut_of (fun σ H' => ∃ hs', Fi H1 ha pa H' hs' ts ps ∧ hs'.length ≤ 12 ∧ ∃ v5, σ = [some (.ref a), some (.int d1), some (.ref ha), some (.ref pa), some (.int bt), v5, none, none, none]) ?_ ?_
    · walk_at "rd"
      refine ⟨⟨by decide, by decide⟩, by decide, ?_⟩
      split
      · refine use_draw (hSk _ F0.fr) hl (by decide) (by decide) fun y y0 y1 => ⟨y, rfl, _, .inl (SqL.of F0.eh), by simp only [List.length_map]; omega, by simp only [List.length_map]; omega, for_rangeW (fun i σ H' => ∃ hs', Fi H1 ha pa H' hs' ts ps ∧ hs'.length = hs.length + i ∧ ∃ v5, σ = [some (.ref a), some (.int d1), some (.ref ha), some (.ref pa), some (.int bt), v5, none, none, none]) ⟨hs, F0, rfl, none, rfl⟩ ?_ ?_⟩
        · rintro i σ H' hi ⟨hs', F', hl', v5, rfl⟩
          rw [List.length_map] at hi
          rw [show (0 + (i : Int)) = i by omega]
          walk_at "rd"
          refine ⟨.inl ⟨rfl, _, SqL.of F'.eh⟩, _, F'.eh, small1000 (by simp only [List.length_map]; omega), hs' ++ [(i : Int)], ?_, by rw [List.length_append, hl']; rfl⟩
          have z := F'.hand (hs' ++ [(i : Int)])
          rw [List.map_append] at z
          exact z
        · rintro σ H' ⟨hs', F', hl', v5, rfl⟩
          rw [List.length_map] at hl'
          exact ⟨hs', F', by omega, v5, rfl⟩
      · exact ⟨hs, F0, by omega⟩
    rintro σ2 H2 ⟨hs2, F2, hl2, v5, rfl⟩
    refine cut_of (fun σ H' => ∃ hs', Fi H1 ha pa H' hs' ts ps ∧ hs'.length ≤ 12 ∧ σ = [some (.ref a), some (.int d1), some (.ref ha), some (.ref pa), some (.int bt), v5, none, none, none]) ?_ ?_
    · walk_at "rd"
      refine ⟨⟨by decide, by decide⟩, by decide, ?_⟩
      split
      · refine ⟨_, .inl (SqL.of F2.eh), ?_⟩
        rw [List.length_map]
        split
        · rename_i hp
          refine ⟨⟨by decide, by decide, by decide⟩, a, ns, _, _, rfl, hSk _ F2.fr, hl, by decide, fun v => ⟨_, .inl (SqL.of F2.eh), use_draw (hSk _ F2.fr) hl (by decide) (by simp only [List.length_map]; exact hp) fun y y0 y1 => ?_⟩⟩
          rw [List.length_map] at y1
          refine ⟨_, y, rfl, F2.eh, y.toNat, ?_, hs2.set y.toNat v, ?_, by rw [List.length_set]; exact hl2⟩
          · unfold ixN
            rw [List.length_map, if_pos y0, if_pos (by omega)]
          · have z := F2.hand (hs2.set y.toNat v)
            rw [List.map_set] at z
            exact z
        · exact ⟨hs2, F2, hl2⟩
      · exact ⟨hs2, F2, hl2⟩
    rintro σ3 H3 ⟨hs3, F3, hl3, rfl⟩
    refine cut_of (fun σ H' => ∃ ts' ps', Fi H1 ha pa H' hs3 ts' ps' ∧ ps'.length ≤ 9 ∧ ∃ v5, σ = [some (.ref a), some (.int d1), some (.ref ha), some (.ref pa), some (.int bt), v5, none, none, none]) ?_ ?_
    · walk_at "rd"
      have hpl := F3.po.len
      refine ⟨⟨by decide, by decide⟩, by decide, ?_⟩
      split
      · refine use_draw (hSk _ F3.fr) hl (by decide) (by decide) fun y y0 y1 => ⟨y, rfl, _, .inl (SqL.of F3.ep), by omega, by omega, for_rangeW (fun i σ H' => ∃ ts' ps', Fi H1 ha pa H' hs3 ts' ps' ∧ ps'.length = ps.length + i ∧ ∃ v5, σ = [some (.ref a), some (.int d1), some (.ref ha), some (.ref pa), some (.int bt), v5, none, none, none]) ⟨ts, ps, F3, rfl, v5, rfl⟩ ?_ ?_⟩
        · rintro i σ H' hi ⟨ts', ps', F', hl', v5, rfl⟩
          rw [show (0 + (i : Int)) = i by omega]
          walk_at "rd"
          refine ⟨.inl ⟨rfl, _, SqL.of F'.ep⟩, by decide, by decide, fun p hp => ?_⟩
          have F1 := F'.mono (same_new hp (.tup [.int i, .int 8, .int ((i : Int) % 2)]))
          exact ⟨_, F1.ep, small1000 (by have := F'.po.len; omega), ts' ++ [.ref p], ps' ++ [((i : Int), 8, (i : Int) % 2)], F1.post (Posts.snoc F1.po ⟨p, rfl, upd_same⟩), by rw [List.length_append, hl']; rfl⟩
        · rintro σ H' ⟨ts', ps', F', hl', v5, rfl⟩
          exact ⟨ts', ps', F', by omega, v5, rfl⟩
      · exact ⟨ts, ps, F3, by omega⟩
    rintro σ4 H4 ⟨ts4, ps4, F4, hl4, v5, rfl⟩
    refine cut_of (fun σ H' => ∃ ts' ps', Fi H1 ha pa H' hs3 ts' ps' ∧ ps'.length ≤ 9 ∧ ∃ v5 v6 v7 v8, σ = [some (.ref a), some (.int d1), some (.ref ha), some (.ref pa), some (.int bt), v5, v6, v7, v8]) ?_ ?_
    · walk_at "rd"
      have hpl := F4.po.len
      refine ⟨⟨by decide, by decide⟩, by decide, ?_⟩
      split
      · refine ⟨_, .inl (SqL.of F4.ep), ?_⟩
        split
        · rename_i hp
          refine ⟨_, .inl (SqL.of F4.ep), use_draw (hSk _ F4.fr) hl (by decide) hp fun y y0 y1 => use_draw (hSk _ F4.fr) hl (by decide) (by decide) fun z z0 z1 => ?_⟩
          obtain ⟨m, rfl⟩ : ∃ m : Nat, y = m := ⟨y.toNat, by omega⟩
          have hm : m < ps4.length := by omega
          obtain ⟨t, e1, q1⟩ := F4.po.get (List.getElem?_eq_getElem hm)
          refine ⟨_, m, rfl, SqL.of F4.ep, _, atI_nat e1, t, rfl, _, .inr (SqT.of q1), fun l hl0 => ⟨⟨by decide, by decide, by decide⟩, ⟨by decide, by decide, by decide⟩, by decide, fun p hp0 => ?_⟩⟩
          have g1 := same_new hl0 (.lst [.int ps4[m].1, .int ps4[m].2.1, .int ps4[m].2.2])
          have g2 := g1.trans (same_new hp0 (.lst [V.int (2 ^ Int.toNat 30), V.int (10 ^ Int.toNat 9 + 1), V.int 2]))
          have F5 := F4.mono g2
          have nlp : l ≠ p := fun e => by rw [← e, upd_same] at hp0; cases hp0
          have nlq : l ≠ pa := fun e => by rw [e, F4.ep] at hl0; cases hl0
          obtain hz | hz | hz : z = 0 ∨ z = 1 ∨ z = 2 := by omega
          · subst hz
            refine ⟨_, _, rfl, SqL.of upd_same, _, rfl, a, ns, _, _, rfl, hSk _ F5.fr, hl, by decide, fun v => ?_⟩
            refine ⟨_, _, rfl, by rw [upd_ne nlp]; exact upd_same, _, rfl, ?_⟩
            refine ⟨_, SqL.of upd_same, _, rfl, _, SqL.of upd_same, _, rfl, _, SqL.of upd_same, _, rfl, by decide, fun p1 hp1 => ?_⟩
            refine ⟨ts4, m, rfl, (F4.mono ((same_upd hl0 g2 _).trans (same_new hp1 _))).ep, m, ?_, ts4.set m (.ref p1), ps4.set m (v, ps4[m].2.1, ps4[m].2.2), Fi.post (F4.mono ((same_upd hl0 g2 _).trans (same_new hp1 _))) (paired_set ⟨p1, rfl, upd_same⟩ m (F4.mono ((same_upd hl0 g2 _).trans (same_new hp1 _))).po), by rw [List.length_set]; exact hl4⟩
            unfold ixN
            rw [if_pos (by omega), if_pos (by omega), Int.toNat_natCast]
          · subst hz
            refine ⟨_, _, rfl, SqL.of upd_same, _, rfl, a, ns, _, _, rfl, hSk _ F5.fr, hl, by decide, fun v => ?_⟩
            refine ⟨_, _, rfl, by rw [upd_ne nlp]; exact upd_same, _, rfl, ?_⟩
            refine ⟨_, SqL.of upd_same, _, rfl, _, SqL.of upd_same, _, rfl, _, SqL.of upd_same, _, rfl, by decide, fun p1 hp1 => ?_⟩
            refine ⟨ts4, m, rfl, (F4.mono ((same_upd hl0 g2 _).trans (same_new hp1 _))).ep, m, ?_, ts4.set m (.ref p1), ps4.set m (ps4[m].1, v, ps4[m].2.2), Fi.post (F4.mono ((same_upd hl0 g2 _).trans (same_new hp1 _))) (paired_set ⟨p1, rfl, upd_same⟩ m (F4.mono ((same_upd hl0 g2 _).trans (same_new hp1 _))).po), by rw [List.length_set]; exact hl4⟩
            unfold ixN
            rw [if_pos (by omega), if_pos (by omega), Int.toNat_natCast]
          · subst hz
            refine ⟨_, _, rfl, SqL.of upd_same, _, rfl, a, ns, _, _, rfl, hSk _ F5.fr, hl, by decide, fun v => ?_⟩
            refine ⟨_, _, rfl, by rw [upd_ne nlp]; exact upd_same, _, rfl, ?_⟩
            refine ⟨_, SqL.of upd_same, _, rfl, _, SqL.of upd_same, _, rfl, _, SqL.of upd_same, _, rfl, by decide, fun p1 hp1 => ?_⟩
            refine ⟨ts4, m, rfl, (F4.mono ((same_upd hl0 g2 _).trans (same_new hp1 _))).ep, m, ?_, ts4.set m (.ref p1), ps4.set m (ps4[m].1, ps4[m].2.1, v), Fi.post (F4.mono ((same_upd hl0 g2 _).trans (same_new hp1 _))) (paired_set ⟨p1, rfl, upd_same⟩ m (F4.mono ((same_upd hl0 g2 _).trans (same_new hp1 _))).po), by rw [List.length_set]; exact hl4⟩
            unfold ixN
            rw [if_pos (by omega), if_pos (by omega), Int.toNat_natCast]
        · exact ⟨ts4, ps4, F4, hl4⟩
      · exact ⟨ts4, ps4, F4, hl4⟩
    rintro σ5 H5 ⟨ts5, ps5, F5, hl5, v5, v6, v7, v8, rfl⟩
    walk_at "rd"
    exact q _ _ _ _ _ F5 hl3 hl5
end
end My

set_option Elab.async false
set_option linter.all false
set_option maxRecDepth 100000
set_option maxHeartbeats 4000000
namespace My
open PySem L2
section
variable {P : Program} {w : World} {K : PySem.W.Frag} {mg : Str → Option Value} {base : Heap}
local macro_rules | `(tactic| walk_at "rd") => `(tactic| try simp only [tSeq, tRet, tRetN, tIfS, tNext, tDrop, tOp, tUn, tVar, tC, rI0, rI, rU, rEq, rNe, L2.start, tAsg, gName, tTest, tB, tCB, tCons, tNil, rIxL, rIxT, tNot, tAnd, tOr, tNotV, tAndV, tOrV, tCall, rIsi, iRng1, iRng2, tFor, tWhile, tChain, tIf, tTup, tLst, tComp, tBlk, compSt, tTrue, Cx.comp, List.replicate_one, List.replicate_zero, Option.getD_some, tBM, tBM0, rLen, rListOf, rTupL, tRaise, tCallX, tDropX, tSetX, tTry0, tTryA, Ends.gone, rIsx, rExc, vO, tFld, tMeth, tMake, sFld, iEnL, iEnT, gTup, gCons, gNil, gSub, rSetL, rCat, rInsert, tSl, tNoPart, tPart, rSlL, rAppend, rClear, iList, iTup, cxOf, Cx.nox, Cx.wish, List.map_cons, List.map_nil, List.length_cons, List.length_nil, Nat.reduceAdd, Nat.reduceSub, List.reduceReplicate, List.cons_append, List.nil_append, List.append_nil, List.getElem?_cons_zero, List.getElem?_cons_succ, List.set_cons_zero, List.set_cons_succ, Option.some.injEq, V.int.injEq, V.bl.injEq, V.ref.injEq, V.str.injEq, V.ty.injEq, List.cons.injEq, and_true, true_and, and_assoc, exists_eq_left, exists_eq_left', exists_eq_right, exists_eq, exists_eq', exists_and_left, exists_const, decide_eq_true_eq, scal_ii, scal_bb, scal_ss, tEqI', Bool.not_eq_true', Bool.not_eq_true, decide_eq_false_iff_not, if_true, if_false, Bool.false_eq_true, reduceIte, tyN_int, tyN_bl, tyN_str, tyN_ref, okT_int, okT_bool, okT_str, okT_list, okT_tuple, subN_ii, subN_ib, subN_bb, subN_bi, subN_ss, subN_ll, subN_tt, Bool.not_true, Bool.not_false, not_true_eq_false, Bool.true_eq_false, tExcI, tInit, sExc, tExcF, rIsz, tRaiseD, tTryD, tMakeX2, tExcH, rCountH, rIndexH, Cx.uncalm, Cx.mrk])
def sp__law_whole (_ : PySem.W.Frag) (C_Ward C_NoMonth C_NoHand C_NoPost C_WardError : Addr) : Sp := fun vs H Q _ => ∃ n : Int, vs = [.int n] ∧ Q (.bl true) H
theorem sc__law_whole : FnScope ["_law_found"] ["_law_found"] (defScope s__law_whole) := ⟨rfl, rfl, rfl, by decide +kernel, rfl, by decide +kernel, by decide +kernel⟩
theorem ok__law_whole {C_Ward : Addr} {C_NoMonth : Addr} {C_NoHand : Addr} {C_NoPost : Addr} {C_WardError : Addr} {f : Addr} {fd : FuncData} (F : Fun K "_law_whole" "_law_whole" s__law_whole f fd) (T : Txt K mg C_Ward C_NoMonth C_NoHand C_NoPost C_WardError)  : FnOkH P w K mg base 1 f fd ["_law_found"] (sp__law_whole K C_Ward C_NoMonth C_NoHand C_NoPost C_WardError) := by
  refine F.okH sc__law_whole (fun vs H Q E h => ?_) (fun cdv A outer s H vs Q E hr h => ?_)
  · obtain ⟨n, rfl, _⟩ := h
    rfl
  · obtain ⟨n, rfl, q⟩ := h
    refine ⟨_, (pss_one (ps_ret (pe_and (pe_callB call_isi (by rfl) T.isinstance PyProof.Rows.boot_isinstance (pa_cons (pv 0) (pa_cons (pe_bltn (v := .ty "int") rfl T.int PyProof.Rows.boot_int rfl) pa_nil))) (pe_one (pe_not (pe_callB call_isi (by rfl) T.isinstance PyProof.Rows.boot_isinstance (pa_cons (pv 0) (pa_cons (pe_bltn (v := .ty "bool") rfl T.bool PyProof.Rows.boot_bool rfl) pa_nil)))))))), ?_⟩
    walk_at "rd"
    exact q
end
end My

set_option Elab.async false
set_option linter.all false
set_option maxRecDepth 100000
set_option maxHeartbeats 4000000
namespace My
open PySem L2
section
variable {P : Program} {w : World} {K : PySem.W.Frag} {mg : Str → Option Value} {base : Heap}
local macro_rules | `(tactic| walk_at "rd") => `(tactic| try simp only [tSeq, tRet, tRetN, tIfS, tNext, tDrop, tOp, tUn, tVar, tC, rI0, rI, rU, rEq, rNe, L2.start, tAsg, gName, tTest, tB, tCB, tCons, tNil, rIxL, rIxT, tNot, tAnd, tOr, tNotV, tAndV, tOrV, tCall, rIsi, iRng1, iRng2, tFor, tWhile, tChain, tIf, tTup, tLst, tComp, tBlk, compSt, tTrue, Cx.comp, List.replicate_one, List.replicate_zero, Option.getD_some, tBM, tBM0, rLen, rListOf, rTupL, tRaise, tCallX, tDropX, tSetX, tTry0, tTryA, Ends.gone, rIsx, rExc, vO, tFld, tMeth, tMake, sFld, iEnL, iEnT, gTup, gCons, gNil, gSub, rSetL, rCat, rInsert, tSl, tNoPart, tPart, rSlL, rAppend, rClear, iList, iTup, cxOf, Cx.nox, Cx.wish, List.map_cons, List.map_nil, List.length_cons, List.length_nil, Nat.reduceAdd, Nat.reduceSub, List.reduceReplicate, List.cons_append, List.nil_append, List.append_nil, List.getElem?_cons_zero, List.getElem?_cons_succ, List.set_cons_zero, List.set_cons_succ, Option.some.injEq, V.int.injEq, V.bl.injEq, V.ref.injEq, V.str.injEq, V.ty.injEq, List.cons.injEq, and_true, true_and, and_assoc, exists_eq_left, exists_eq_left', exists_eq_right, exists_eq, exists_eq', exists_and_left, exists_const, decide_eq_true_eq, scal_ii, scal_bb, scal_ss, tEqI', Bool.not_eq_true', Bool.not_eq_true, decide_eq_false_iff_not, if_true, if_false, Bool.false_eq_true, reduceIte, tyN_int, tyN_bl, tyN_str, tyN_ref, okT_int, okT_bool, okT_str, okT_list, okT_tuple, subN_ii, subN_ib, subN_bb, subN_bi, subN_ss, subN_ll, subN_tt, Bool.not_true, Bool.not_false, not_true_eq_false, Bool.true_eq_false, tExcI, tInit, sExc, tExcF, rIsz, tRaiseD, tTryD, tMakeX2, tExcH, rCountH, rIndexH, Cx.uncalm, Cx.mrk])
def sp__law_named (K : PySem.W.Frag) (C_Ward C_NoMonth C_NoHand C_NoPost C_WardError : Addr) : Sp := fun vs H Q _ => ∃ e : Addr, vs = [.ref e] ∧ (((∃ od, H e = some (excH e C_NoMonth od)) ∧ ∀ r H', Same H H' → H' r = some (.tup [.str "month", .int (-1)]) → Q (.ref r) H') ∨ (∃ dx n, H e = some (excH e C_NoHand (some dx)) ∧ Num H dx n ∧ ∀ r H', Same H H' → H' r = some (.tup [.str "hand", .int n]) → Q (.ref r) H') ∨
  (∃ dx n, H e = some (excH e C_NoPost (some dx)) ∧ Num H dx n ∧ ∀ r H', Same H H' → H' r = some (.tup [.str "post", .int n]) → Q (.ref r) H'))
theorem sc__law_named : FnScope ["_law_e", "_law_kinds"] ["_law_e"] (defScope s__law_named) := ⟨rfl, rfl, rfl, by decide +kernel, rfl, by decide +kernel, by decide +kernel⟩
theorem ok__law_named {C_Ward : Addr} {C_NoMonth : Addr} {C_NoHand : Addr} {C_NoPost : Addr} {C_WardError : Addr} {f : Addr} {fd : FuncData} (F : Fun K "_law_named" "_law_named" s__law_named f fd) (T : Txt K mg C_Ward C_NoMonth C_NoHand C_NoPost C_WardError) (H__law_whole : CalH P w K mg base "_law_whole" ["_law_found"] 1 (sp__law_whole K C_Ward C_NoMonth C_NoHand C_NoPost C_WardError)) : FnOkH P w K mg base 2 f fd ["_law_e"] (sp__law_named K C_Ward C_NoMonth C_NoHand C_NoPost C_WardError) := by
  refine F.okH sc__law_named (fun vs H Q E h => ?_) (fun cdv A outer s H vs Q E hr h => ?_)
  · obtain ⟨e, rfl, _⟩ := h
    rfl
  · obtain ⟨e, rfl, h⟩ := h
    refine ⟨_, (pss_cons (ps_set (i := 1) sc__law_named.nd rfl (Or.inl rfl) (pe_lst (pa_cons (pe_callB (call_isz (K := K) rfl) (by rfl) T.isinstance PyProof.Rows.boot_isinstance (pa_cons (pv 0) (pa_cons (pe_glob (v := .ref C_NoMonth) rfl T.x_NoMonth.at_ rfl) pa_nil))) (pa_cons (pe_callB (call_isz (K := K) rfl) (by rfl) T.isinstance PyProof.Rows.boot_isinstance (pa_cons (pv 0) (pa_cons (pe_glob (v := .ref C_NoHand) rfl T.c_NoHand rfl) pa_nil))) (pa_cons (pe_callB (call_isz (K := K) rfl) (by rfl) T.isinstance PyProof.Rows.boot_isinstance (pa_cons (pv 0) (pa_cons (pe_glob (v := .ref C_NoPost) rfl T.c_NoPost rfl) pa_nil))) pa_nil)))))
    (pss_cons (ps_if (PW.pt (pw_or (pt_not (pt_val (pe_callB (call_isz (K := K) rfl) (by rfl) T.isinstance PyProof.Rows.boot_isinstance (pa_cons (pv 0) (pa_cons (pe_bltn (v := .ty "ValueError") rfl T.ValueError boot_ValueError rfl) pa_nil))))) (pw_or1 (pt_cmpR op_ne (pe_bm PySem.F.plainAttrs_list PySem.F.slot_list_count PySem.F.type_list_count mt_countH (pv 1) (pa_cons pe_bl pa_nil)) pe_int (nomark _))))) (pss_one (ps_ret (pe_tup (pa_cons pe_str (pa_cons (pe_un un_neg pe_int) pa_nil))))) pss_nil)
    (pss_cons (ps_if (pt_val (pe_ix ix_list (pv 1) pe_int (fun _ _ => rfl))) (pss_one (ps_ret (pe_tup (pa_cons pe_str (pa_cons (pe_un un_neg pe_int) pa_nil))))) pss_nil)
    (pss_cons (ps_if (pt_not (pt_val (pe_calH H__law_whole (hr.mono (by decide)) rfl (pa_cons (pe_excFldH (K := K) (mg := mg) rfl rfl (pv 0) rfl) pa_nil)))) (pss_one (ps_ret (pe_tup (pa_cons pe_str (pa_cons (pe_un un_neg pe_int) pa_nil))))) pss_nil)
    (pss_one (ps_ret (pe_tup (pa_cons (pe_ix ix_list (pe_lst (pa_cons pe_str (pa_cons pe_str (pa_cons pe_str pa_nil)))) (pe_bm PySem.F.plainAttrs_list PySem.F.slot_list_index PySem.F.type_list_index mt_indexH (pv 1) (pa_cons pe_bl pa_nil)) (fun _ _ => rfl)) (pa_cons (pe_excFldH (K := K) (mg := mg) rfl rfl (pv 0) rfl) pa_nil))))))))), ?_⟩
    obtain ⟨D, k, od, hk, he, Z, hq⟩ : ∃ (D : Addr) (k : Nat) (od : Option Addr), k < 3 ∧ H e = some (excH e D od) ∧ ExcK K D k [C_NoMonth, C_NoHand, C_NoPost] C_WardError ∧ ((k = 0 ∧ ∀ r H', Same H H' → H' r = some (.tup [.str "month", .int (-1)]) → Q (.ref r) H') ∨
        (∃ (dx fI : Addr) (n : Int) (yn s : Str), 0 < k ∧ od = some dx ∧ Num H dx n ∧ ExcI K mg yn D fI ∧ ExcS K D "number" ∧ ([V.str "month", V.str "hand", V.str "post"] : List V)[k]? = some (.str s) ∧ ∀ r H', Same H H' → H' r = some (.tup [.str s, .int n]) → Q (.ref r) H')) := by
      rcases h with ⟨⟨od, he⟩, q⟩ | ⟨dx, n, he, hn, q⟩ | ⟨dx, n, he, hn, q⟩
      · exact ⟨_, 0, od, by decide, he, T.e0, .inl ⟨rfl, q⟩⟩
      · obtain ⟨fI, EI⟩ := T.ei_NoHand
        exact ⟨_, 1, some dx, by decide, he, T.e1, .inr ⟨dx, fI, n, _, _, by decide, rfl, hn, EI, ⟨T.sa_h, T.sn_h⟩, rfl, q⟩⟩
      · obtain ⟨fI, EI⟩ := T.ei_NoPost
        exact ⟨_, 2, some dx, by decide, he, T.e2, .inr ⟨dx, fI, n, _, _, by decide, rfl, hn, EI, ⟨T.sa_p, T.sn_p⟩, rfl, q⟩⟩
    clear h
    refine seq_of fun U1 u1 => ?_
    walk_at "rd"
    refine ⟨_, .inr ⟨_, he⟩, Z.g, _, Z.c 0 _ rfl, _, .inr ⟨_, he⟩, Z.g, _, Z.c 1 _ rfl, _, .inr ⟨_, he⟩, Z.g, _, Z.c 2 _ rfl, by decide, fun p hp => ?_⟩
    have g1 := same_new hp (.lst [.bl (decide (0 = k)), .bl (decide (1 = k)), .bl (decide (2 = k))])
    have e1 := upd_same (H := H) (a := p) (o := .lst [.bl (decide (0 = k)), .bl (decide (1 = k)), .bl (decide (2 = k))])
    generalize upd H p (.lst [.bl (decide (0 = k)), .bl (decide (1 = k)), .bl (decide (2 = k))]) = H1 at g1 e1 ⊢
    rw [u1]; clear u1
    refine seq_of fun U1 u1 => ?_
    walk_at "rd"
    refine ⟨D, .inr ⟨_, g1 _ _ he⟩, Z.g, _, Z.v, ?_⟩
    rw [if_neg (by decide)]
    refine ⟨.inl ⟨rfl, _, SqL.of e1⟩, _, e1, rfl, rfl, ?_⟩
    have hc : ((List.countP (fun z => eqV z (V.bl true)) [V.bl (decide (0 = k)), V.bl (decide (1 = k)), V.bl (decide (2 = k))] : Nat) : Int) = 1 := by
      obtain rfl | rfl | rfl : k = 0 ∨ k = 1 ∨ k = 2 := by omega
      · rfl
      · rfl
      · rfl
    rw [if_neg (fun z => z hc)]
    clear hc
    rw [u1]; clear u1
    refine seq_of fun U1 u1 => ?_
    walk_at "rd"
    refine ⟨_, SqL.of e1, _, rfl, _, rfl, ?_⟩
    rcases hq with ⟨k0, q⟩ | ⟨dx, fI, n, yn, s0, k0, rfl, hn, EI, S, hs, q⟩
    · subst k0
      rw [if_pos (by decide)]
      exact ⟨by decide, fun r hr => q r _ (g1.trans (same_new hr _)) upd_same⟩
    rw [if_neg (by rw [decide_eq_true_eq]; omega)]
    rw [u1]; clear u1
    refine seq_of fun U1 u1 => ?_
    walk_at "rd"
    have he1 := g1 _ _ he
    have hn1 := g1 _ _ hn
    refine ⟨D, dx, he1, fI, yn, _, hn1, Z.g, EI, S, _, rfl, n, rfl, true, rfl, ?_⟩
    rw [if_neg (by decide)]
    rw [u1]; clear u1
    walk_at "rd"
    refine ⟨by decide, fun p1 hp1 => ?_⟩
    have g2 := same_new hp1 (.lst [V.str (Str.ofString "month"), V.str (Str.ofString "hand"), V.str (Str.ofString "post")])
    have e2 := upd_same (H := H1) (a := p1) (o := .lst [V.str (Str.ofString "month"), V.str (Str.ofString "hand"), V.str (Str.ofString "post")])
    generalize upd H1 p1 (.lst [V.str (Str.ofString "month"), V.str (Str.ofString "hand"), V.str (Str.ofString "post")]) = H2 at g2 e2 ⊢
    refine ⟨.inl ⟨rfl, _, SqL.of (g2 _ _ e1)⟩, _, g2 _ _ e1, rfl, rfl, .bl true, k, by omega, ?_, rfl, ?_, _, SqL.of e2, _, atI_nat hs, D, dx, g2 _ _ he1, fI, yn, _, g2 _ _ hn1, Z.g, EI, S, _, rfl, by decide, fun r hr => q r _ ((g1.trans g2).trans (same_new hr _)) upd_same⟩
    · obtain rfl | rfl : k = 1 ∨ k = 2 := by omega
      · rfl
      · rfl
    · intro m z hm hz
      obtain rfl | rfl : k = 1 ∨ k = 2 := by omega
      · obtain rfl : m = 0 := by omega
        cases hz
        rfl
      · obtain rfl | rfl : m = 0 ∨ m = 1 := by omega
        · cases hz
          rfl
        · cases hz
          rfl
end
end My

set_option Elab.async false
set_option linter.all false
set_option maxRecDepth 100000
set_option maxHeartbeats 4000000
namespace My
open PySem L2
section
variable {P : Program} {w : World} {K : PySem.W.Frag} {mg : Str → Option Value} {base : Heap}
local macro_rules | `(tactic| walk_at "rd") => `(tactic| try simp only [tSeq, tRet, tRetN, tIfS, tNext, tDrop, tOp, tUn, tVar, tC, rI0, rI, rU, rEq, rNe, L2.start, tAsg, gName, tTest, tB, tCB, tCons, tNil, rIxL, rIxT, tNot, tAnd, tOr, tNotV, tAndV, tOrV, tCall, rIsi, iRng1, iRng2, tFor, tWhile, tChain, tIf, tTup, tLst, tComp, tBlk, compSt, tTrue, Cx.comp, List.replicate_one, List.replicate_zero, Option.getD_some, tBM, tBM0, rLen, rListOf, rTupL, tRaise, tCallX, tDropX, tSetX, tTry0, tTryA, Ends.gone, rIsx, rExc, vO, tFld, tMeth, tMake, sFld, iEnL, iEnT, gTup, gCons, gNil, gSub, rSetL, rCat, rInsert, tSl, tNoPart, tPart, rSlL, rAppend, rClear, iList, iTup, cxOf, Cx.nox, Cx.wish, List.map_cons, List.map_nil, List.length_cons, List.length_nil, Nat.reduceAdd, Nat.reduceSub, List.reduceReplicate, List.cons_append, List.nil_append, List.append_nil, List.getElem?_cons_zero, List.getElem?_cons_succ, List.set_cons_zero, List.set_cons_succ, Option.some.injEq, V.int.injEq, V.bl.injEq, V.ref.injEq, V.str.injEq, V.ty.injEq, List.cons.injEq, and_true, true_and, and_assoc, exists_eq_left, exists_eq_left', exists_eq_right, exists_eq, exists_eq', exists_and_left, exists_const, decide_eq_true_eq, scal_ii, scal_bb, scal_ss, tEqI', Bool.not_eq_true', Bool.not_eq_true, decide_eq_false_iff_not, if_true, if_false, Bool.false_eq_true, reduceIte, tyN_int, tyN_bl, tyN_str, tyN_ref, okT_int, okT_bool, okT_str, okT_list, okT_tuple, subN_ii, subN_ib, subN_bb, subN_bi, subN_ss, subN_ll, subN_tt, Bool.not_true, Bool.not_false, not_true_eq_false, Bool.true_eq_false, tExcI, tInit, sExc, tExcF, rIsz, tRaiseD, tTryD, tMakeX2, tExcH, rCountH, rIndexH, Cx.uncalm, Cx.mrk])
def sp__law_told (K : PySem.W.Frag) (C_Ward C_NoMonth C_NoHand C_NoPost C_WardError : Addr) : Sp := fun vs H Q _ => ∃ (a b : Addr) (d : Int) (hs : List Int) (ts : List V) (ps : List Pst), vs = [.int d, .ref a, .ref b] ∧ SqL K H a (hs.map V.int) ∧ SqL K H b ts ∧ Posts H ts ps ∧ ∀ r H' s n, Same H H' → H' r = some (.tup [.str s, .int n]) → Due d hs ps s n → Q (.ref r) H'
theorem sc__law_told : FnScope ["_law_days", "_law_hands", "_law_posts", "_law_told_here", "_law_e"] ["_law_days", "_law_hands", "_law_posts"] (defScope s__law_told) := ⟨rfl, rfl, rfl, by decide +kernel, rfl, by decide +kernel, by decide +kernel⟩
theorem ok__law_told {C_Ward : Addr} {C_NoMonth : Addr} {C_NoHand : Addr} {C_NoPost : Addr} {C_WardError : Addr} {f : Addr} {fd : FuncData} (F : Fun K "_law_told" "_law_told" s__law_told f fd) (T : Txt K mg C_Ward C_NoMonth C_NoHand C_NoPost C_WardError) (J_Ward : CalI2 P w K mg base "Ward" C_Ward ["self", "days", "hands", "posts"] 4 (sp_Ward___init__ K C_Ward C_NoMonth C_NoHand C_NoPost C_WardError)) (H__law_named : CalH P w K mg base "_law_named" ["_law_e"] 2 (sp__law_named K C_Ward C_NoMonth C_NoHand C_NoPost C_WardError)) : FnOk P w K mg base CX0 6 f fd ["_law_days", "_law_hands", "_law_posts"] (sp__law_told K C_Ward C_NoMonth C_NoHand C_NoPost C_WardError) := by
  refine F.ok sc__law_told (fun vs H Q E h => ?_) (fun cdv A outer s H vs Q E hr h => ?_)
  · obtain ⟨a, b, d, hs, ts, ps, rfl, _⟩ := h
    rfl
  · obtain ⟨a, b, d, hs, ts, ps, rfl, hA, hB, hT, q⟩ := h
    refine ⟨_, (pss_cons (ps_set (i := 3) sc__law_told.nd rfl (Or.inl rfl) (pe_tup (pa_cons pe_str (pa_cons (pe_un un_neg pe_int) pa_nil))))
    (pss_cons (ps_tryD (i := 4) (W := C_WardError) (body_nox body_of) sc__law_told.nd rfl (psx2_expr (pex2_make J_Ward (hr.mono (by decide)) rfl (pa_cons (pv 0) (pa_cons (pv 1) (pa_cons (pv 2) pa_nil))))) rfl (fun _ => (pss_one (ps_set (i := 3) sc__law_told.nd rfl (Or.inl rfl) (pe_calH H__law_named (hr.hm (by decide)) rfl (pa_cons (pv 4) pa_nil))))) pss_nil rfl)
    (pss_one (ps_ret (pv 3))))), ?_⟩
    refine seq_of fun U1 u1 => ?_
    walk_at "rd"
    refine ⟨by decide, fun p hp => ?_⟩
    have g1 := same_new hp (.tup [V.str (Str.ofString "made"), V.int (-1)])
    have e1 := upd_same (H := H) (a := p) (o := .tup [V.str (Str.ofString "made"), V.int (-1)])
    generalize upd H p (.tup [V.str (Str.ofString "made"), V.int (-1)]) = H1 at g1 e1 ⊢
    rw [u1]; clear u1
    walk_at "rd"
    intro x dx hx hd ne
    have g2 : Same H1 (upd (upd H1 dx (.own x)) x (.ins C_Ward dx [])) := (same_new hd _).trans (same_new (by rw [upd_ne ne.symm]; exact hx) _)
    have e2 := upd_same (H := upd H1 dx (.own x)) (a := x) (o := .ins C_Ward dx [])
    generalize upd (upd H1 dx (.own x)) x (.ins C_Ward dx []) = H2 at g2 e2 ⊢
    have g := g1.trans g2
    refine ⟨x, dx, a, b, d, hs, ts, ps, rfl, e2, g.seq hA, g.seq hB, hT.mono g, ⟨fun z H' g3 => ⟨_, rfl, T.m0, fun a' ha' => ⟨a', rfl, .inl ⟨⟨_, upd_same⟩, fun r H4 g4 e4 => q r H4 _ _ (((g.trans g3).trans (same_new ha' _)).trans g4) e4 z⟩⟩⟩,
      fun n z H' dx' g3 nm => ⟨_, rfl, T.m1, fun a' ha' => ⟨a', rfl, .inr (.inl ⟨dx', n, upd_same, same_new ha' _ _ _ nm, fun r H4 g4 e4 => q r H4 _ _ (((g.trans g3).trans (same_new ha' _)).trans g4) e4 z⟩)⟩⟩,
      fun n z H' dx' g3 nm => ⟨_, rfl, T.m2, fun a' ha' => ⟨a', rfl, .inr (.inr ⟨dx', n, upd_same, same_new ha' _ _ _ nm, fun r H4 g4 e4 => q r H4 _ _ (((g.trans g3).trans (same_new ha' _)).trans g4) e4 z⟩)⟩⟩⟩,
      fun z H' fr => ⟨rfl, q p H' _ _ (fun c o hc => fr c o (g _ _ hc) (ne_of_none (g1 _ _ hc) hx)) (fr p _ (g2 _ _ e1) (ne_of_none e1 hx)) z⟩⟩
end
end My

set_option Elab.async false
set_option linter.all false
set_option maxRecDepth 100000
set_option maxHeartbeats 4000000
namespace My
open PySem L2
section
variable {P : Program} {w : World} {K : PySem.W.Frag} {mg : Str → Option Value} {base : Heap}
local macro_rules | `(tactic| walk_at "rd") => `(tactic| try simp only [tSeq, tRet, tRetN, tIfS, tNext, tDrop, tOp, tUn, tVar, tC, rI0, rI, rU, rEq, rNe, L2.start, tAsg, gName, tTest, tB, tCB, tCons, tNil, rIxL, rIxT, tNot, tAnd, tOr, tNotV, tAndV, tOrV, tCall, rIsi, iRng1, iRng2, tFor, tWhile, tChain, tIf, tTup, tLst, tComp, tBlk, compSt, tTrue, Cx.comp, List.replicate_one, List.replicate_zero, Option.getD_some, tBM, tBM0, rLen, rListOf, rTupL, tRaise, tCallX, tDropX, tSetX, tTry0, tTryA, Ends.gone, rIsx, rExc, vO, tFld, tMeth, tMake, sFld, iEnL, iEnT, gTup, gCons, gNil, gSub, rSetL, rCat, rInsert, tSl, tNoPart, tPart, rSlL, rAppend, rClear, iList, iTup, cxOf, Cx.nox, Cx.wish, List.map_cons, List.map_nil, List.length_cons, List.length_nil, Nat.reduceAdd, Nat.reduceSub, List.reduceReplicate, List.cons_append, List.nil_append, List.append_nil, List.getElem?_cons_zero, List.getElem?_cons_succ, List.set_cons_zero, List.set_cons_succ, Option.some.injEq, V.int.injEq, V.bl.injEq, V.ref.injEq, V.str.injEq, V.ty.injEq, List.cons.injEq, and_true, true_and, and_assoc, exists_eq_left, exists_eq_left', exists_eq_right, exists_eq, exists_eq', exists_and_left, exists_const, decide_eq_true_eq, scal_ii, scal_bb, scal_ss, tEqI', Bool.not_eq_true', Bool.not_eq_true, decide_eq_false_iff_not, if_true, if_false, Bool.false_eq_true, reduceIte, tyN_int, tyN_bl, tyN_str, tyN_ref, okT_int, okT_bool, okT_str, okT_list, okT_tuple, subN_ii, subN_ib, subN_bb, subN_bi, subN_ss, subN_ll, subN_tt, Bool.not_true, Bool.not_false, not_true_eq_false, Bool.true_eq_false, tExcI, tInit, sExc, tExcF, rIsz, tRaiseD, tTryD, tMakeX2, tExcH, rCountH, rIndexH, Cx.uncalm, Cx.mrk])
def sp__law_due (K : PySem.W.Frag) (C_Ward C_NoMonth C_NoHand C_NoPost C_WardError : Addr) : Sp := fun vs H Q _ => ∃ (a b : Addr) (d : Int) (hs : List Int) (ts : List V) (ps : List Pst), vs = [.int d, .ref a, .ref b] ∧ H a = some (.lst (hs.map V.int)) ∧ H b = some (.lst ts) ∧ Posts H ts ps ∧ hs.length ≤ 12 ∧ ps.length ≤ 9 ∧ ∀ r H' s n, Same H H' → H' r = some (.tup [.str s, .int n]) → Due d hs ps s n → Q (.ref r) H'
theorem sc__law_due : FnScope ["_law_days", "_law_hands", "_law_posts", "_law_k", "_law_need", "_law_hours", "_law_night"] ["_law_days", "_law_hands", "_law_posts"] (defScope s__law_due) := ⟨rfl, rfl, rfl, by decide +kernel, rfl, by decide +kernel, by decide +kernel⟩
theorem ok__law_due {C_Ward : Addr} {C_NoMonth : Addr} {C_NoHand : Addr} {C_NoPost : Addr} {C_WardError : Addr} {f : Addr} {fd : FuncData} (F : Fun K "_law_due" "_law_due" s__law_due f fd) (T : Txt K mg C_Ward C_NoMonth C_NoHand C_NoPost C_WardError)  : FnOk P w K mg base CX0 1 f fd ["_law_days", "_law_hands", "_law_posts"] (sp__law_due K C_Ward C_NoMonth C_NoHand C_NoPost C_WardError) := by
  refine F.ok sc__law_due (fun vs H Q E h => ?_) (fun cdv A outer s H vs Q E hr h => ?_)
  · obtain ⟨a, b, d, hs, ts, ps, rfl, _⟩ := h
    rfl
  · obtain ⟨a, b, d, hs, ts, ps, rfl, hA, hB, hT, h12, h9, q⟩ := h
    refine ⟨_, (pss_cons (ps_if (pt_not (pt_chain op_le op_le pe_int (pv 0) pe_int)) (pss_one (ps_ret (pe_tup (pa_cons pe_str (pa_cons (pe_un un_neg pe_int) pa_nil))))) pss_nil)
    (pss_cons (ps_for PassesOwn.never rfl (pi_range1 rfl T.range (pa_cons (pe_callB (call_lenK (K := K) rfl) (by rfl) T.len PySem.boot_len (pa_cons (pv 1) pa_nil)) pa_nil)) (pg_name (i := 3) sc__law_due.nd rfl (Or.inl rfl))
      (pss_one (ps_if (PW.pt (pw_or (pt_cmpR op_eq (pv 3) pe_int (nomark _)) (pw_or1 (pt_not (pt_chain op_le op_lt pe_int (pe_ix ix_list (pv 1) (pv 3) (fun _ _ => rfl)) (pe_op op_pow pe_int pe_int)))))) (pss_one (ps_ret (pe_tup (pa_cons pe_str (pa_cons (pv 3) pa_nil))))) pss_nil)))
    (pss_cons (ps_for PassesOwn.never rfl (pi_range1 rfl T.range (pa_cons (pe_callB (call_lenK (K := K) rfl) (by rfl) T.len PySem.boot_len (pa_cons (pv 2) pa_nil)) pa_nil)) (pg_name (i := 3) sc__law_due.nd rfl (Or.inl rfl))
      (pss_cons (ps_asg (pe_ix ix_list (pv 2) (pv 3) (fun _ _ => rfl)) (pg_tup (n := 3) rfl (pgs_cons (pg_name (i := 4) sc__law_due.nd rfl (Or.inl rfl)) (pgs_cons (pg_name (i := 5) sc__law_due.nd rfl (Or.inl rfl)) (pgs_cons (pg_name (i := 6) sc__law_due.nd rfl (Or.inl rfl)) pgs_nil)))))
        (pss_one (ps_if (PW.pt (pw_or (pt_cmpR op_eq (pv 3) pe_int (nomark _)) (pw_or (pt_not (pt_chain op_le op_lt pe_int (pv 4) (pe_op op_pow pe_int pe_int))) (pw_or (pt_not (pt_chain op_le op_le pe_int (pv 5) (pe_op op_pow pe_int pe_int))) (pw_or1 (pt_not (pt_chain op_le op_le pe_int (pv 6) pe_int))))))) (pss_one (ps_ret (pe_tup (pa_cons pe_str (pa_cons (pe_op op_add (pv 3) pe_int) pa_nil))))) pss_nil))))
    (pss_one (ps_ret (pe_tup (pa_cons pe_str (pa_cons (pe_un un_neg pe_int) pa_nil)))))))), ?_⟩
    have hts := hT.len
    have tell : ∀ s n p, Due d hs ps s n → H p = none → Q (.ref p) (upd H p (.tup [.str s, .int n])) := fun s n p z hp => q p _ s n (same_new hp _) upd_same z
    clear q
    refine seq_of fun U1 u1 => ?_
    walk_at "rd"
    split
    rotate_left
    · exact ⟨by decide, fun p hp => tell _ _ p (.month (by omega)) hp⟩
    split
    · exact ⟨by decide, fun p hp => tell _ _ p (.month (by omega)) hp⟩
    have hd : 1 ≤ d ∧ d ≤ 31 := by omega
    rw [u1]; clear u1
    refine seq_of fun U1 u1 => for_of fun B1 b1 => ?_
    walk_at "rd"
    refine ⟨_, .inl (SqL.of hA), by simp only [List.length_map]; omega, by simp only [List.length_map]; omega, for_rangeW (fun i σ H' => H' = H ∧ (∀ j y, j < i → hs[j]? = some y → ¬ badH j y) ∧ ∃ v3 v4 v5 v6, σ = [some (.int d), some (.ref a), some (.ref b), v3, v4, v5, v6]) ⟨rfl, (fun j _ z => absurd z (Nat.not_lt_zero j)), none, none, none, none, rfl⟩ ?_ ?_⟩
    · rintro i σ H' hi ⟨e, hb, v3, v4, v5, v6, rfl⟩
      have hi' : i < hs.length := by simpa using hi
      have e1 := List.getElem?_eq_getElem hi'
      rw [show (0 + (i : Int)) = i by omega]
      subst e
      rw [b1]
      walk_at "rd"
      split
      · rename_i h8
        exact ⟨by decide, fun p hp => tell _ _ p (.hand i _ hd hb e1 (.inl (by omega))) hp⟩
      rename_i h8
      refine ⟨_, SqL.of hA, _, atI_nat (by rw [List.getElem?_map, e1]; rfl), _, rfl, ?_⟩
      split
      · rename_i g0
        refine ⟨⟨by decide, by decide, by decide⟩, _, rfl, ?_⟩
        rw [show (2 : Int) ^ Int.toNat 30 = 1073741824 by decide]
        split
        · rename_i g1
          exact ⟨by decide, fun p hp => tell _ _ p (.hand i _ hd hb e1 (.inr fun z => g1 z.2)) hp⟩
        · rename_i g1
          exact first_grow (B := badH) hb e1 (fun z => z.elim (fun z => h8 (by omega)) fun z => z ⟨g0, Classical.not_not.mp g1⟩)
      · rename_i g0
        exact ⟨by decide, fun p hp => tell _ _ p (.hand i _ hd hb e1 (.inr fun z => g0 z.1)) hp⟩
    rintro σ H' ⟨e, hb, v3, v4, v5, v6, rfl⟩
    subst e
    rw [u1]; clear u1 b1
    refine seq_of fun U1 u1 => for_of fun B1 b1 => ?_
    walk_at "rd"
    refine ⟨_, .inl (SqL.of hB), by omega, by omega, for_rangeW (fun i σ H1 => H1 = H' ∧ (∀ j y, j < i → ps[j]? = some y → ¬ badP j y) ∧ ∃ v3 v4 v5 v6, σ = [some (.int d), some (.ref a), some (.ref b), v3, v4, v5, v6]) ⟨rfl, (fun j _ z => absurd z (Nat.not_lt_zero j)), v3, v4, v5, v6, rfl⟩ ?_ ?_⟩
    · rintro i σ H1 hi ⟨e, hb2, v3, v4, v5, v6, rfl⟩
      have hi' : i < ps.length := by omega
      obtain ⟨t, e1, q1⟩ := hT.get (List.getElem?_eq_getElem hi')
      rw [show (0 + (i : Int)) = i by omega]
      subst e
      rw [b1]
      refine seq_of fun U2 u2 => ?_
      walk_at "rd"
      refine ⟨_, SqL.of hB, _, atI_nat e1, t, rfl, _, SqT.of q1, rfl, _, _, rfl, _, _, rfl, _, _, rfl, rfl, ?_⟩
      rw [u2]; clear u2
      walk_at "rd"
      have e2 := List.getElem?_eq_getElem hi'
      have hH : ∀ j y, hs[j]? = some y → ¬ badH j y := fun j y z => hb j y (by have := (List.getElem?_eq_some_iff.mp z).1; simp only [List.length_map]; omega) z
      have bad : ¬ okP ps[i] → 2 ≤ sizeLine ∧ ∀ p : Addr, H1 p = none → Q (V.ref p) (upd H1 p (HO.tup [V.str (Str.ofString "post"), V.int (i + 1)])) := fun z => ⟨by decide, fun p hp => tell _ _ p (.post i _ hd hH hb2 e2 (.inr z)) hp⟩
      split
      · rename_i h6
        exact ⟨by decide, fun p hp => tell _ _ p (.post i _ hd hH hb2 e2 (.inl (by omega))) hp⟩
      rename_i h6
      split
      rotate_left
      · rename_i z; exact bad fun y => z y.1.1
      rename_i a1
      refine ⟨⟨by decide, by decide, by decide⟩, ?_⟩
      rw [show (2 : Int) ^ Int.toNat 30 = 1073741824 by decide]
      split
      · rename_i z; exact bad fun y => z y.1.2
      rename_i a2
      split
      rotate_left
      · rename_i z; exact bad fun y => z y.2.1.1
      rename_i a3
      refine ⟨⟨by decide, by decide, by decide⟩, ?_⟩
      rw [show (10 : Int) ^ Int.toNat 9 = 1000000000 by decide]
      split
      · rename_i z; exact bad fun y => z y.2.1.2
      rename_i a4
      split
      rotate_left
      · rename_i z; exact bad fun y => z y.2.2.1
      rename_i a5
      split
      · rename_i z; exact bad fun y => z y.2.2.2
      rename_i a6
      exact first_grow (B := badP) hb2 e2 (fun z => z.elim (fun z => h6 (by omega)) fun z => z ⟨⟨a1, Classical.not_not.mp a2⟩, ⟨a3, Classical.not_not.mp a4⟩, a5, Classical.not_not.mp a6⟩)
    rintro σ H1 ⟨e, hb2, v3, v4, v5, v6, rfl⟩
    subst e
    rw [u1]; clear u1 b1
    walk_at "rd"
    exact ⟨by decide, fun p hp => tell _ _ p (.made hd (fun j y z => hb j y (by have := (List.getElem?_eq_some_iff.mp z).1; simp only [List.length_map]; omega) z) (fun j y z => hb2 j y (by have := (List.getElem?_eq_some_iff.mp z).1; omega) z)) hp⟩
end
end My

set_option Elab.async false
set_option linter.all false
set_option maxRecDepth 100000
set_option maxHeartbeats 4000000
namespace My
open PySem L2
section
variable {P : Program} {w : World} {K : PySem.W.Frag} {mg : Str → Option Value} {base : Heap}
local macro_rules | `(tactic| walk_at "rd") => `(tactic| try simp only [tSeq, tRet, tRetN, tIfS, tNext, tDrop, tOp, tUn, tVar, tC, rI0, rI, rU, rEq, rNe, L2.start, tAsg, gName, tTest, tB, tCB, tCons, tNil, rIxL, rIxT, tNot, tAnd, tOr, tNotV, tAndV, tOrV, tCall, rIsi, iRng1, iRng2, tFor, tWhile, tChain, tIf, tTup, tLst, tComp, tBlk, compSt, tTrue, Cx.comp, List.replicate_one, List.replicate_zero, Option.getD_some, tBM, tBM0, rLen, rListOf, rTupL, tRaise, tCallX, tDropX, tSetX, tTry0, tTryA, Ends.gone, rIsx, rExc, vO, tFld, tMeth, tMake, sFld, iEnL, iEnT, gTup, gCons, gNil, gSub, rSetL, rCat, rInsert, tSl, tNoPart, tPart, rSlL, rAppend, rClear, iList, iTup, cxOf, Cx.nox, Cx.wish, List.map_cons, List.map_nil, List.length_cons, List.length_nil, Nat.reduceAdd, Nat.reduceSub, List.reduceReplicate, List.cons_append, List.nil_append, List.append_nil, List.getElem?_cons_zero, List.getElem?_cons_succ, List.set_cons_zero, List.set_cons_succ, Option.some.injEq, V.int.injEq, V.bl.injEq, V.ref.injEq, V.str.injEq, V.ty.injEq, List.cons.injEq, and_true, true_and, and_assoc, exists_eq_left, exists_eq_left', exists_eq_right, exists_eq, exists_eq', exists_and_left, exists_const, decide_eq_true_eq, scal_ii, scal_bb, scal_ss, tEqI', Bool.not_eq_true', Bool.not_eq_true, decide_eq_false_iff_not, if_true, if_false, Bool.false_eq_true, reduceIte, tyN_int, tyN_bl, tyN_str, tyN_ref, okT_int, okT_bool, okT_str, okT_list, okT_tuple, subN_ii, subN_ib, subN_bb, subN_bi, subN_ss, subN_ll, subN_tt, Bool.not_true, Bool.not_false, not_true_eq_false, Bool.true_eq_false, tExcI, tInit, sExc, tExcF, rIsz, tRaiseD, tTryD, tMakeX2, tExcH, rCountH, rIndexH, Cx.uncalm, Cx.mrk])
def sp_law (K : PySem.W.Frag) : Sp := fun vs H Q _ => ∃ (a : Addr) (ns : List Int), vs = [.ref a] ∧ SqL K H a (ns.map V.int) ∧ ns.length ≤ 63 ∧ ∀ H', Q (.bl true) H'
theorem sc_law : FnScope ["_law_script", "_law_days", "_law_hands", "_law_posts", "_law_good", "_law_handed"] ["_law_script"] (defScope s_law) := ⟨rfl, rfl, rfl, by decide +kernel, rfl, by decide +kernel, by decide +kernel⟩
theorem ok_law {C_Ward : Addr} {C_NoMonth : Addr} {C_NoHand : Addr} {C_NoPost : Addr} {C_WardError : Addr} {f : Addr} {fd : FuncData} (F : Fun K "law" "law" s_law f fd) (T : Txt K mg C_Ward C_NoMonth C_NoHand C_NoPost C_WardError) (C__law_ward : Cal P w K mg base "_law_ward" ["_law_script"] 4 (sp__law_ward K C_Ward C_NoMonth C_NoHand C_NoPost C_WardError)) (C__law_faults : Cal P w K mg base "_law_faults" ["_law_script", "_law_days", "_law_hands", "_law_posts"] 3 (sp__law_faults K C_Ward C_NoMonth C_NoHand C_NoPost C_WardError)) (C__law_told : Cal P w K mg base "_law_told" ["_law_days", "_law_hands", "_law_posts"] 6 (sp__law_told K C_Ward C_NoMonth C_NoHand C_NoPost C_WardError)) (C__law_due : Cal P w K mg base "_law_due" ["_law_days", "_law_hands", "_law_posts"] 1 (sp__law_due K C_Ward C_NoMonth C_NoHand C_NoPost C_WardError)) : FnOk P w K mg base CX0 7 f fd ["_law_script"] (sp_law K) := by
  refine F.ok sc_law (fun vs H Q E h => ?_) (fun cdv A outer s H vs Q E hr h => ?_)
  · obtain ⟨a, ns, rfl, _⟩ := h
    rfl
  · obtain ⟨a, ns, rfl, hS, hl, q⟩ := h
    refine ⟨_, (pss_cons (ps_asg (pe_cal C__law_ward (hr.mono (by decide)) rfl (pa_cons (pv 0) pa_nil)) (pg_tup (n := 3) rfl (pgs_cons (pg_name (i := 1) sc_law.nd rfl (Or.inl rfl)) (pgs_cons (pg_name (i := 2) sc_law.nd rfl (Or.inl rfl)) (pgs_cons (pg_name (i := 3) sc_law.nd rfl (Or.inl rfl)) pgs_nil)))))
    (pss_cons (ps_set (i := 4) sc_law.nd rfl (Or.inl rfl) (pe_lst (pa_cons (pv 1) (pa_cons (pe_callTy (call_listK (K := K) rfl) (by rfl) T.list PyProof.Rows.boot_list (pa_cons (pv 2) pa_nil)) (pa_cons (pe_callTy (call_listK (K := K) rfl) (by rfl) T.list PyProof.Rows.boot_list (pa_cons (pv 3) pa_nil)) pa_nil)))))
    (pss_cons (ps_if (pt_cmpR (op_neD 0 hr) (pe_cal C__law_told (hr.mono (by decide)) rfl (pa_cons (pe_ix ix_list (pv 4) pe_int (fun _ _ => rfl)) (pa_cons (pe_ix ix_list (pv 4) pe_int (fun _ _ => rfl)) (pa_cons (pe_ix ix_list (pv 4) pe_int (fun _ _ => rfl)) pa_nil)))) (pe_tup (pa_cons pe_str (pa_cons (pe_un un_neg pe_int) pa_nil))) (nomark _)) (pss_one (ps_ret pe_bl)) pss_nil)
    (pss_cons (ps_set (i := 1) sc_law.nd rfl (Or.inl rfl) (pe_cal C__law_faults (hr.mono (by decide)) rfl (pa_cons (pv 0) (pa_cons (pv 1) (pa_cons (pv 2) (pa_cons (pv 3) pa_nil))))))
    (pss_cons (ps_set (i := 5) sc_law.nd rfl (Or.inl rfl) (pe_lst (pa_cons (pe_callTy (call_listK (K := K) rfl) (by rfl) T.list PyProof.Rows.boot_list (pa_cons (pv 2) pa_nil)) (pa_cons (pe_callTy (call_listK (K := K) rfl) (by rfl) T.list PyProof.Rows.boot_list (pa_cons (pv 3) pa_nil)) pa_nil))))
    (pss_cons (ps_if (pt_cmpR (op_neD 0 hr) (pe_cal C__law_told (hr.mono (by decide)) rfl (pa_cons (pv 1) (pa_cons (pe_ix ix_list (pv 5) pe_int (fun _ _ => rfl)) (pa_cons (pe_ix ix_list (pv 5) pe_int (fun _ _ => rfl)) pa_nil)))) (pe_cal C__law_due (hr.mono (by decide)) rfl (pa_cons (pv 1) (pa_cons (pv 2) (pa_cons (pv 3) pa_nil)))) (nomark _)) (pss_one (ps_ret pe_bl)) pss_nil)
    (pss_cons (ps_if (pt_cmpR (op_neD 2 hr) (pv 5) (pe_lst (pa_cons (pv 2) (pa_cons (pv 3) pa_nil))) (nomark _)) (pss_one (ps_ret pe_bl)) pss_nil)
    (pss_one (ps_ret (pe_cmpR (op_eqD 0 hr) (pe_cal C__law_told (hr.mono (by decide)) rfl (pa_cons (pe_ix ix_list (pv 4) pe_int (fun _ _ => rfl)) (pa_cons (pe_ix ix_list (pv 4) pe_int (fun _ _ => rfl)) (pa_cons (pe_ix ix_list (pv 4) pe_int (fun _ _ => rfl)) pa_nil)))) (pe_tup (pa_cons pe_str (pa_cons (pe_un un_neg pe_int) pa_nil))) (nomark _))))))))))), ?_⟩
    refine seq_of fun U1 u1 => ?_
    walk_at "rd"
    refine ⟨a, ns, rfl, hS, hl, fun t ha pa d hs ts ps H1 g1 et eh ep hP ok nh np ne => ?_⟩
    walk_at "rd"
    refine ⟨_, SqT.of et, rfl, _, _, rfl, _, _, rfl, _, _, rfl, rfl, ?_⟩
    rw [u1]; clear u1
    refine seq_of fun U1 u1 => ?_
    walk_at "rd"
    refine ⟨_, .inl (SqL.of eh), fun l1 h1 => ⟨_, .inl (SqL.of ((same_new h1 _) _ _ ep)), fun l2 h2 => ⟨by decide, fun gd hgd => ?_⟩⟩⟩
    have n1 : l1 ≠ l2 := fun z => by rw [← z, upd_same] at h2; cases h2
    have n2 : l1 ≠ gd := fun z => by rw [← z, upd_ne n1, upd_same] at hgd; cases hgd
    have n3 : l2 ≠ gd := fun z => by rw [← z, upd_same] at hgd; cases hgd
    have f2 : H1 l2 = none := by rw [upd_ne n1.symm] at h2; exact h2
    have g2 : Same H1 (upd (upd (upd H1 l1 (.lst (hs.map V.int))) l2 (.lst ts)) gd (.lst [.int d, .ref l1, .ref l2])) := ((same_new h1 _).trans (same_new h2 _)).trans (same_new hgd _)
    have el1 : upd (upd (upd H1 l1 (.lst (hs.map V.int))) l2 (.lst ts)) gd (.lst [.int d, .ref l1, .ref l2]) l1 = some (.lst (hs.map V.int)) := by rw [upd_ne n2, upd_ne n1, upd_same]
    have el2 : upd (upd (upd H1 l1 (.lst (hs.map V.int))) l2 (.lst ts)) gd (.lst [.int d, .ref l1, .ref l2]) l2 = some (.lst ts) := by rw [upd_ne n3, upd_same]
    have egd : upd (upd (upd H1 l1 (.lst (hs.map V.int))) l2 (.lst ts)) gd (.lst [.int d, .ref l1, .ref l2]) gd = some (.lst [.int d, .ref l1, .ref l2]) := upd_same
    have fgd : H1 gd = none := by rw [upd_ne n3.symm, upd_ne n2.symm] at hgd; exact hgd
    generalize upd (upd (upd H1 l1 (.lst (hs.map V.int))) l2 (.lst ts)) gd (.lst [.int d, .ref l1, .ref l2]) = H2 at g2 el1 el2 egd ⊢
    clear hgd h2
    rw [u1]; clear u1
    refine seq_of fun U1 u1 => ?_
    try simp only [tSeq, tRet, tRetN, tIfS, tNext, tDrop, tOp, tUn, tVar, tC, rI0, rI, rU, rEq, rNe, L2.start, tAsg, gName, tTest, tB, tCB, tCons, tNil, rIxL, rIxT, tNot, tAnd, tOr, tNotV, tAndV, tOrV, tCall, rIsi, iRng1, iRng2, tFor, tWhile, tChain, tIf, tTup, tLst, tComp, tBlk, compSt, tTrue, Cx.comp, List.replicate_one, List.replicate_zero, Option.getD_some, tBM, tBM0, rLen, rListOf, rTupL, tRaise, tCallX, tDropX, tSetX, tTry0, tTryA, Ends.gone, rIsx, rExc, vO, tFld, tMeth, tMake, sFld, iEnL, iEnT, gTup, gCons, gNil, gSub, rSetL, rCat, rInsert, tSl, tNoPart, tPart, rSlL, rAppend, rClear, iList, iTup, cxOf, Cx.nox, Cx.wish, List.map_cons, List.map_nil, List.length_cons, List.length_nil, Nat.reduceAdd, Nat.reduceSub, List.reduceReplicate, List.cons_append, List.nil_append, List.append_nil, List.getElem?_cons_zero, List.getElem?_cons_succ, List.set_cons_zero, List.set_cons_succ, Option.some.injEq, V.int.injEq, V.bl.injEq, V.ref.injEq, V.str.injEq, V.ty.injEq, List.cons.injEq, and_true, true_and, and_assoc, exists_eq_left, exists_eq_left', exists_eq_right, exists_eq, exists_eq', exists_and_left, exists_const, decide_eq_true_eq, scal_ii, scal_bb, scal_ss, tEqI', Bool.not_eq_true', Bool.not_eq_true, decide_eq_false_iff_not, if_true, if_false, Bool.false_eq_true, reduceIte, tyN_int, tyN_bl, tyN_str, tyN_ref, okT_int, okT_bool, okT_str, okT_list, okT_tuple, subN_ii, subN_ib, subN_bb, subN_bi, subN_ss, subN_ll, subN_tt, Bool.not_true, Bool.not_false, not_true_eq_false, Bool.true_eq_false, tExcI, tInit, sExc, tExcF, rIsz, tRaiseD, tTryD, tMakeX2, tExcH, rCountH, rIndexH, Cx.uncalm, Cx.mrk, rNeD]
    refine ⟨_, SqL.of egd, _, rfl, _, SqL.of egd, _, rfl, _, SqL.of egd, _, rfl, l1, l2, d, hs, ts, ps, rfl, SqL.of el1, SqL.of el2, hP.mono g2, fun r H3 s1 n1' g3 er z3 => ?_⟩
    obtain ⟨rfl, rfl⟩ := z3.one (.ok ok)
    try simp only [tSeq, tRet, tRetN, tIfS, tNext, tDrop, tOp, tUn, tVar, tC, rI0, rI, rU, rEq, rNe, L2.start, tAsg, gName, tTest, tB, tCB, tCons, tNil, rIxL, rIxT, tNot, tAnd, tOr, tNotV, tAndV, tOrV, tCall, rIsi, iRng1, iRng2, tFor, tWhile, tChain, tIf, tTup, tLst, tComp, tBlk, compSt, tTrue, Cx.comp, List.replicate_one, List.replicate_zero, Option.getD_some, tBM, tBM0, rLen, rListOf, rTupL, tRaise, tCallX, tDropX, tSetX, tTry0, tTryA, Ends.gone, rIsx, rExc, vO, tFld, tMeth, tMake, sFld, iEnL, iEnT, gTup, gCons, gNil, gSub, rSetL, rCat, rInsert, tSl, tNoPart, tPart, rSlL, rAppend, rClear, iList, iTup, cxOf, Cx.nox, Cx.wish, List.map_cons, List.map_nil, List.length_cons, List.length_nil, Nat.reduceAdd, Nat.reduceSub, List.reduceReplicate, List.cons_append, List.nil_append, List.append_nil, List.getElem?_cons_zero, List.getElem?_cons_succ, List.set_cons_zero, List.set_cons_succ, Option.some.injEq, V.int.injEq, V.bl.injEq, V.ref.injEq, V.str.injEq, V.ty.injEq, List.cons.injEq, and_true, true_and, and_assoc, exists_eq_left, exists_eq_left', exists_eq_right, exists_eq, exists_eq', exists_and_left, exists_const, decide_eq_true_eq, scal_ii, scal_bb, scal_ss, tEqI', Bool.not_eq_true', Bool.not_eq_true, decide_eq_false_iff_not, if_true, if_false, Bool.false_eq_true, reduceIte, tyN_int, tyN_bl, tyN_str, tyN_ref, okT_int, okT_bool, okT_str, okT_list, okT_tuple, subN_ii, subN_ib, subN_bb, subN_bi, subN_ss, subN_ll, subN_tt, Bool.not_true, Bool.not_false, not_true_eq_false, Bool.true_eq_false, tExcI, tInit, sExc, tExcF, rIsz, tRaiseD, tTryD, tMakeX2, tExcH, rCountH, rIndexH, Cx.uncalm, Cx.mrk, rNeD]
    refine ⟨by decide, fun p hp => ?_⟩
    have g4 := g3.trans (same_new hp (.tup [V.str (Str.ofString "made"), V.int (-1)]))
    have dA := den_sn (K := K) ((same_new hp (.tup [V.str (Str.ofString "made"), V.int (-1)])) _ _ er)
    have dB := den_sn (K := K) (upd_same (H := H3) (a := p) (o := .tup [V.str (Str.ofString "made"), V.int (-1)]))
    generalize upd H3 p (.tup [V.str (Str.ofString "made"), V.int (-1)]) = H4 at g4 dA dB ⊢
    refine ⟨_, dA, _, dB, like_den _ _ _ dB, ?_⟩
    rw [eqD_same, if_neg (by decide)]
    clear dA dB er hp g3
    have gA := g1.trans (g2.trans g4)
    have gB := g2.trans g4
    rw [u1]; clear u1
    refine seq_of fun U1 u1 => ?_
    walk_at "rd"
    refine ⟨a, ha, pa, ns, d, hs, ts, ps, rfl, hl, fun H' o => seq_off2 hS gA nh np o, ⟨fun c o h _ _ => h, gB _ _ eh, gB _ _ ep, hP.mono gB, ne, by rw [gB _ _ eh]; simp, by rw [gB _ _ ep]; simp⟩, ok.hl, ok.pl, fun d5 hs5 ts5 ps5 H5 F5 h12 h9 => ?_⟩
    have kept : ∀ c o, H2 c = some o → H1 c = none → H5 c = some o := fun c o h1' h2' => F5.fr c o (g4 _ _ h1') (fun z => by rw [z, eh] at h2'; cases h2') (fun z => by rw [z, ep] at h2'; cases h2')
    have el1 := kept _ _ el1 h1
    have el2 := kept _ _ el2 f2
    have egd := kept _ _ egd fgd
    show U1 { nx := fun x H' => Q V.non H', rt := Q } [some (V.ref a), some (V.int d5), some (V.ref ha), some (V.ref pa), some (V.ref gd), none] H5
    have okd : Due d hs ps "made" (-1) := .ok ok
    have hP5 : Posts H5 ts ps := Paired.mapP hP fun v y ⟨t', e, ht'⟩ => ⟨t', e, F5.fr _ _ (gB _ _ ht') (fun z => by rw [z, eh] at ht'; cases ht') (fun z => by rw [z, ep] at ht'; cases ht')⟩
    clear kept g4 gA gB g2 hP eh ep et hS g1 f2 fgd h1 n2 n3 n1
    obtain ⟨_, eh5, ep5, po5, ne5, _, _⟩ := F5
    rw [u1]; clear u1
    refine seq_of fun U1 u1 => ?_
    walk_at "rd"
    refine ⟨_, .inl (SqL.of eh5), fun m1 k1 => ⟨_, .inl (SqL.of ((same_new k1 _) _ _ ep5)), fun m2 k2 => ⟨by decide, fun hn khn => ?_⟩⟩⟩
    have n1 : m1 ≠ m2 := fun z => by rw [← z, upd_same] at k2; cases k2
    have n2 : m1 ≠ hn := fun z => by rw [← z, upd_ne n1, upd_same] at khn; cases khn
    have n3 : m2 ≠ hn := fun z => by rw [← z, upd_same] at khn; cases khn
    have g6 : Same H5 (upd (upd (upd H5 m1 (.lst (hs5.map V.int))) m2 (.lst ts5)) hn (.lst [.ref m1, .ref m2])) := ((same_new k1 _).trans (same_new k2 _)).trans (same_new khn _)
    have em1 : upd (upd (upd H5 m1 (.lst (hs5.map V.int))) m2 (.lst ts5)) hn (.lst [.ref m1, .ref m2]) m1 = some (.lst (hs5.map V.int)) := by rw [upd_ne n2, upd_ne n1, upd_same]
    have em2 : upd (upd (upd H5 m1 (.lst (hs5.map V.int))) m2 (.lst ts5)) hn (.lst [.ref m1, .ref m2]) m2 = some (.lst ts5) := by rw [upd_ne n3, upd_same]
    have ehn := upd_same (H := upd (upd H5 m1 (.lst (hs5.map V.int))) m2 (.lst ts5)) (a := hn) (o := .lst [.ref m1, .ref m2])
    generalize upd (upd (upd H5 m1 (.lst (hs5.map V.int))) m2 (.lst ts5)) hn (.lst [.ref m1, .ref m2]) = H6 at g6 em1 em2 ehn ⊢
    clear khn k2 k1 n1 n2 n3
    rw [u1]; clear u1
    refine seq_of fun U1 u1 => ?_
    try simp only [tSeq, tRet, tRetN, tIfS, tNext, tDrop, tOp, tUn, tVar, tC, rI0, rI, rU, rEq, rNe, L2.start, tAsg, gName, tTest, tB, tCB, tCons, tNil, rIxL, rIxT, tNot, tAnd, tOr, tNotV, tAndV, tOrV, tCall, rIsi, iRng1, iRng2, tFor, tWhile, tChain, tIf, tTup, tLst, tComp, tBlk, compSt, tTrue, Cx.comp, List.replicate_one, List.replicate_zero, Option.getD_some, tBM, tBM0, rLen, rListOf, rTupL, tRaise, tCallX, tDropX, tSetX, tTry0, tTryA, Ends.gone, rIsx, rExc, vO, tFld, tMeth, tMake, sFld, iEnL, iEnT, gTup, gCons, gNil, gSub, rSetL, rCat, rInsert, tSl, tNoPart, tPart, rSlL, rAppend, rClear, iList, iTup, cxOf, Cx.nox, Cx.wish, List.map_cons, List.map_nil, List.length_cons, List.length_nil, Nat.reduceAdd, Nat.reduceSub, List.reduceReplicate, List.cons_append, List.nil_append, List.append_nil, List.getElem?_cons_zero, List.getElem?_cons_succ, List.set_cons_zero, List.set_cons_succ, Option.some.injEq, V.int.injEq, V.bl.injEq, V.ref.injEq, V.str.injEq, V.ty.injEq, List.cons.injEq, and_true, true_and, and_assoc, exists_eq_left, exists_eq_left', exists_eq_right, exists_eq, exists_eq', exists_and_left, exists_const, decide_eq_true_eq, scal_ii, scal_bb, scal_ss, tEqI', Bool.not_eq_true', Bool.not_eq_true, decide_eq_false_iff_not, if_true, if_false, Bool.false_eq_true, reduceIte, tyN_int, tyN_bl, tyN_str, tyN_ref, okT_int, okT_bool, okT_str, okT_list, okT_tuple, subN_ii, subN_ib, subN_bb, subN_bi, subN_ss, subN_ll, subN_tt, Bool.not_true, Bool.not_false, not_true_eq_false, Bool.true_eq_false, tExcI, tInit, sExc, tExcF, rIsz, tRaiseD, tTryD, tMakeX2, tExcH, rCountH, rIndexH, Cx.uncalm, Cx.mrk, rNeD]
    refine ⟨_, SqL.of ehn, _, rfl, _, SqL.of ehn, _, rfl, m1, m2, d5, hs5, ts5, ps5, rfl, SqL.of em1, SqL.of em2, po5.mono g6, fun r H7 s7 n7 g7 er7 z7 => ?_⟩
    try simp only [tSeq, tRet, tRetN, tIfS, tNext, tDrop, tOp, tUn, tVar, tC, rI0, rI, rU, rEq, rNe, L2.start, tAsg, gName, tTest, tB, tCB, tCons, tNil, rIxL, rIxT, tNot, tAnd, tOr, tNotV, tAndV, tOrV, tCall, rIsi, iRng1, iRng2, tFor, tWhile, tChain, tIf, tTup, tLst, tComp, tBlk, compSt, tTrue, Cx.comp, List.replicate_one, List.replicate_zero, Option.getD_some, tBM, tBM0, rLen, rListOf, rTupL, tRaise, tCallX, tDropX, tSetX, tTry0, tTryA, Ends.gone, rIsx, rExc, vO, tFld, tMeth, tMake, sFld, iEnL, iEnT, gTup, gCons, gNil, gSub, rSetL, rCat, rInsert, tSl, tNoPart, tPart, rSlL, rAppend, rClear, iList, iTup, cxOf, Cx.nox, Cx.wish, List.map_cons, List.map_nil, List.length_cons, List.length_nil, Nat.reduceAdd, Nat.reduceSub, List.reduceReplicate, List.cons_append, List.nil_append, List.append_nil, List.getElem?_cons_zero, List.getElem?_cons_succ, List.set_cons_zero, List.set_cons_succ, Option.some.injEq, V.int.injEq, V.bl.injEq, V.ref.injEq, V.str.injEq, V.ty.injEq, List.cons.injEq, and_true, true_and, and_assoc, exists_eq_left, exists_eq_left', exists_eq_right, exists_eq, exists_eq', exists_and_left, exists_const, decide_eq_true_eq, scal_ii, scal_bb, scal_ss, tEqI', Bool.not_eq_true', Bool.not_eq_true, decide_eq_false_iff_not, if_true, if_false, Bool.false_eq_true, reduceIte, tyN_int, tyN_bl, tyN_str, tyN_ref, okT_int, okT_bool, okT_str, okT_list, okT_tuple, subN_ii, subN_ib, subN_bb, subN_bi, subN_ss, subN_ll, subN_tt, Bool.not_true, Bool.not_false, not_true_eq_false, Bool.true_eq_false, tExcI, tInit, sExc, tExcF, rIsz, tRaiseD, tTryD, tMakeX2, tExcH, rCountH, rIndexH, Cx.uncalm, Cx.mrk, rNeD]
    have g57 := g6.trans g7
    refine ⟨ha, pa, d5, hs5, ts5, ps5, rfl, g57 _ _ eh5, g57 _ _ ep5, po5.mono g57, h12, h9, fun r8 H8 s8 n8 g8 er8 z8 => ?_⟩
    obtain ⟨rfl, rfl⟩ := z7.one z8
    have dA := den_sn (K := K) (g8 _ _ er7)
    have dB := den_sn (K := K) er8
    try simp only [tSeq, tRet, tRetN, tIfS, tNext, tDrop, tOp, tUn, tVar, tC, rI0, rI, rU, rEq, rNe, L2.start, tAsg, gName, tTest, tB, tCB, tCons, tNil, rIxL, rIxT, tNot, tAnd, tOr, tNotV, tAndV, tOrV, tCall, rIsi, iRng1, iRng2, tFor, tWhile, tChain, tIf, tTup, tLst, tComp, tBlk, compSt, tTrue, Cx.comp, List.replicate_one, List.replicate_zero, Option.getD_some, tBM, tBM0, rLen, rListOf, rTupL, tRaise, tCallX, tDropX, tSetX, tTry0, tTryA, Ends.gone, rIsx, rExc, vO, tFld, tMeth, tMake, sFld, iEnL, iEnT, gTup, gCons, gNil, gSub, rSetL, rCat, rInsert, tSl, tNoPart, tPart, rSlL, rAppend, rClear, iList, iTup, cxOf, Cx.nox, Cx.wish, List.map_cons, List.map_nil, List.length_cons, List.length_nil, Nat.reduceAdd, Nat.reduceSub, List.reduceReplicate, List.cons_append, List.nil_append, List.append_nil, List.getElem?_cons_zero, List.getElem?_cons_succ, List.set_cons_zero, List.set_cons_succ, Option.some.injEq, V.int.injEq, V.bl.injEq, V.ref.injEq, V.str.injEq, V.ty.injEq, List.cons.injEq, and_true, true_and, and_assoc, exists_eq_left, exists_eq_left', exists_eq_right, exists_eq, exists_eq', exists_and_left, exists_const, decide_eq_true_eq, scal_ii, scal_bb, scal_ss, tEqI', Bool.not_eq_true', Bool.not_eq_true, decide_eq_false_iff_not, if_true, if_false, Bool.false_eq_true, reduceIte, tyN_int, tyN_bl, tyN_str, tyN_ref, okT_int, okT_bool, okT_str, okT_list, okT_tuple, subN_ii, subN_ib, subN_bb, subN_bi, subN_ss, subN_ll, subN_tt, Bool.not_true, Bool.not_false, not_true_eq_false, Bool.true_eq_false, tExcI, tInit, sExc, tExcF, rIsz, tRaiseD, tTryD, tMakeX2, tExcH, rCountH, rIndexH, Cx.uncalm, Cx.mrk, rNeD]
    refine ⟨_, dA, _, dB, like_den _ _ _ dB, ?_⟩
    rw [eqD_same, if_neg (by decide)]
    have g68 := g7.trans g8
    have g58 := g6.trans g68
    clear dA dB er7 er8 z7 z8 g7 g8 g57
    rw [u1]; clear u1
    refine seq_of fun U1 u1 => ?_
    try simp only [tSeq, tRet, tRetN, tIfS, tNext, tDrop, tOp, tUn, tVar, tC, rI0, rI, rU, rEq, rNe, L2.start, tAsg, gName, tTest, tB, tCB, tCons, tNil, rIxL, rIxT, tNot, tAnd, tOr, tNotV, tAndV, tOrV, tCall, rIsi, iRng1, iRng2, tFor, tWhile, tChain, tIf, tTup, tLst, tComp, tBlk, compSt, tTrue, Cx.comp, List.replicate_one, List.replicate_zero, Option.getD_some, tBM, tBM0, rLen, rListOf, rTupL, tRaise, tCallX, tDropX, tSetX, tTry0, tTryA, Ends.gone, rIsx, rExc, vO, tFld, tMeth, tMake, sFld, iEnL, iEnT, gTup, gCons, gNil, gSub, rSetL, rCat, rInsert, tSl, tNoPart, tPart, rSlL, rAppend, rClear, iList, iTup, cxOf, Cx.nox, Cx.wish, List.map_cons, List.map_nil, List.length_cons, List.length_nil, Nat.reduceAdd, Nat.reduceSub, List.reduceReplicate, List.cons_append, List.nil_append, List.append_nil, List.getElem?_cons_zero, List.getElem?_cons_succ, List.set_cons_zero, List.set_cons_succ, Option.some.injEq, V.int.injEq, V.bl.injEq, V.ref.injEq, V.str.injEq, V.ty.injEq, List.cons.injEq, and_true, true_and, and_assoc, exists_eq_left, exists_eq_left', exists_eq_right, exists_eq, exists_eq', exists_and_left, exists_const, decide_eq_true_eq, scal_ii, scal_bb, scal_ss, tEqI', Bool.not_eq_true', Bool.not_eq_true, decide_eq_false_iff_not, if_true, if_false, Bool.false_eq_true, reduceIte, tyN_int, tyN_bl, tyN_str, tyN_ref, okT_int, okT_bool, okT_str, okT_list, okT_tuple, subN_ii, subN_ib, subN_bb, subN_bi, subN_ss, subN_ll, subN_tt, Bool.not_true, Bool.not_false, not_true_eq_false, Bool.true_eq_false, tExcI, tInit, sExc, tExcF, rIsz, tRaiseD, tTryD, tMakeX2, tExcH, rCountH, rIndexH, Cx.uncalm, Cx.mrk, rNeD]
    refine ⟨by decide, fun p hp => ?_⟩
    have g9 := same_new hp (.lst [V.ref ha, V.ref pa])
    have e9 := upd_same (H := H8) (a := p) (o := .lst [V.ref ha, V.ref pa])
    generalize upd H8 p (.lst [V.ref ha, V.ref pa]) = H9 at g9 e9 ⊢
    have g69 := g68.trans g9
    have g59 := g58.trans g9
    have dA := den_two (K := K) (g69 _ _ ehn) (g69 _ _ em1) (g69 _ _ em2) (po5.mono g59)
    have dB := den_two (K := K) e9 (g59 _ _ eh5) (g59 _ _ ep5) (po5.mono g59)
    refine ⟨_, dA, _, dB, like_den _ _ _ dB, ?_⟩
    rw [eqD_same, if_neg (by decide)]
    clear dA dB
    rw [u1]; clear u1
    try simp only [tSeq, tRet, tRetN, tIfS, tNext, tDrop, tOp, tUn, tVar, tC, rI0, rI, rU, rEq, rNe, L2.start, tAsg, gName, tTest, tB, tCB, tCons, tNil, rIxL, rIxT, tNot, tAnd, tOr, tNotV, tAndV, tOrV, tCall, rIsi, iRng1, iRng2, tFor, tWhile, tChain, tIf, tTup, tLst, tComp, tBlk, compSt, tTrue, Cx.comp, List.replicate_one, List.replicate_zero, Option.getD_some, tBM, tBM0, rLen, rListOf, rTupL, tRaise, tCallX, tDropX, tSetX, tTry0, tTryA, Ends.gone, rIsx, rExc, vO, tFld, tMeth, tMake, sFld, iEnL, iEnT, gTup, gCons, gNil, gSub, rSetL, rCat, rInsert, tSl, tNoPart, tPart, rSlL, rAppend, rClear, iList, iTup, cxOf, Cx.nox, Cx.wish, List.map_cons, List.map_nil, List.length_cons, List.length_nil, Nat.reduceAdd, Nat.reduceSub, List.reduceReplicate, List.cons_append, List.nil_append, List.append_nil, List.getElem?_cons_zero, List.getElem?_cons_succ, List.set_cons_zero, List.set_cons_succ, Option.some.injEq, V.int.injEq, V.bl.injEq, V.ref.injEq, V.str.injEq, V.ty.injEq, List.cons.injEq, and_true, true_and, and_assoc, exists_eq_left, exists_eq_left', exists_eq_right, exists_eq, exists_eq', exists_and_left, exists_const, decide_eq_true_eq, scal_ii, scal_bb, scal_ss, tEqI', Bool.not_eq_true', Bool.not_eq_true, decide_eq_false_iff_not, if_true, if_false, Bool.false_eq_true, reduceIte, tyN_int, tyN_bl, tyN_str, tyN_ref, okT_int, okT_bool, okT_str, okT_list, okT_tuple, subN_ii, subN_ib, subN_bb, subN_bi, subN_ss, subN_ll, subN_tt, Bool.not_true, Bool.not_false, not_true_eq_false, Bool.true_eq_false, tExcI, tInit, sExc, tExcF, rIsz, tRaiseD, tTryD, tMakeX2, tExcH, rCountH, rIndexH, Cx.uncalm, Cx.mrk, rEqD]
    refine ⟨_, SqL.of (g59 _ _ egd), _, rfl, _, SqL.of (g59 _ _ egd), _, rfl, _, SqL.of (g59 _ _ egd), _, rfl, l1, l2, d, hs, ts, ps, rfl, SqL.of (g59 _ _ el1), SqL.of (g59 _ _ el2), hP5.mono g59, fun r HA sA nA gA er z => ?_⟩
    obtain ⟨rfl, rfl⟩ := z.one okd
    try simp only [tSeq, tRet, tRetN, tIfS, tNext, tDrop, tOp, tUn, tVar, tC, rI0, rI, rU, rEq, rNe, L2.start, tAsg, gName, tTest, tB, tCB, tCons, tNil, rIxL, rIxT, tNot, tAnd, tOr, tNotV, tAndV, tOrV, tCall, rIsi, iRng1, iRng2, tFor, tWhile, tChain, tIf, tTup, tLst, tComp, tBlk, compSt, tTrue, Cx.comp, List.replicate_one, List.replicate_zero, Option.getD_some, tBM, tBM0, rLen, rListOf, rTupL, tRaise, tCallX, tDropX, tSetX, tTry0, tTryA, Ends.gone, rIsx, rExc, vO, tFld, tMeth, tMake, sFld, iEnL, iEnT, gTup, gCons, gNil, gSub, rSetL, rCat, rInsert, tSl, tNoPart, tPart, rSlL, rAppend, rClear, iList, iTup, cxOf, Cx.nox, Cx.wish, List.map_cons, List.map_nil, List.length_cons, List.length_nil, Nat.reduceAdd, Nat.reduceSub, List.reduceReplicate, List.cons_append, List.nil_append, List.append_nil, List.getElem?_cons_zero, List.getElem?_cons_succ, List.set_cons_zero, List.set_cons_succ, Option.some.injEq, V.int.injEq, V.bl.injEq, V.ref.injEq, V.str.injEq, V.ty.injEq, List.cons.injEq, and_true, true_and, and_assoc, exists_eq_left, exists_eq_left', exists_eq_right, exists_eq, exists_eq', exists_and_left, exists_const, decide_eq_true_eq, scal_ii, scal_bb, scal_ss, tEqI', Bool.not_eq_true', Bool.not_eq_true, decide_eq_false_iff_not, if_true, if_false, Bool.false_eq_true, reduceIte, tyN_int, tyN_bl, tyN_str, tyN_ref, okT_int, okT_bool, okT_str, okT_list, okT_tuple, subN_ii, subN_ib, subN_bb, subN_bi, subN_ss, subN_ll, subN_tt, Bool.not_true, Bool.not_false, not_true_eq_false, Bool.true_eq_false, tExcI, tInit, sExc, tExcF, rIsz, tRaiseD, tTryD, tMakeX2, tExcH, rCountH, rIndexH, Cx.uncalm, Cx.mrk, rEqD]
    refine ⟨by decide, fun p' hp' => ?_⟩
    have dA := den_sn (K := K) ((same_new hp' (.tup [V.str (Str.ofString "made"), V.int (-1)])) _ _ er)
    have dB := den_sn (K := K) (upd_same (H := HA) (a := p') (o := .tup [V.str (Str.ofString "made"), V.int (-1)]))
    refine ⟨_, dA, _, dB, like_den _ _ _ dB, ?_⟩
    rw [eqD_same]
    exact q _
end
theorem all_mk {l : PySem.W.OpenLaw} {w : World} {K : PySem.W.Frag} {h : Heap} {mg : Str → Option Value} {fa : Addr} (X : K.In h) (G : h.Ns mainGlobals mg) (hfa : mg "law" = some (.ref fa))
    {C_Ward : Addr}
    {C_NoMonth : Addr}
    {C_NoHand : Addr}
    {C_NoPost : Addr}
    {C_WardError : Addr}
    {f1 : Addr} {od1 an1 : Option Addr} {sl1 : Array (Option Value)} {oc1 kV1 dc1 pm1 cd1 ct1 : Value}
    {f2 : Addr} {od2 an2 : Option Addr} {sl2 : Array (Option Value)} {oc2 kV2 dc2 pm2 cd2 ct2 : Value}
    {f3 : Addr} {od3 an3 : Option Addr} {sl3 : Array (Option Value)} {oc3 kV3 dc3 pm3 cd3 ct3 : Value}
    {f4 : Addr} {od4 an4 : Option Addr} {sl4 : Array (Option Value)} {oc4 kV4 dc4 pm4 cd4 ct4 : Value}
    {f5 : Addr} {od5 an5 : Option Addr} {sl5 : Array (Option Value)} {oc5 kV5 dc5 pm5 cd5 ct5 : Value}
    {f6 : Addr} {od6 an6 : Option Addr} {sl6 : Array (Option Value)} {oc6 kV6 dc6 pm6 cd6 ct6 : Value}
    {f7 : Addr} {od7 an7 : Option Addr} {sl7 : Array (Option Value)} {oc7 kV7 dc7 pm7 cd7 ct7 : Value}
    {f8 : Addr} {od8 an8 : Option Addr} {sl8 : Array (Option Value)} {oc8 kV8 dc8 pm8 cd8 ct8 : Value}
    {f9 : Addr} {od9 an9 : Option Addr} {sl9 : Array (Option Value)} {oc9 kV9 dc9 pm9 cd9 ct9 : Value}
    {f10 : Addr} {od10 an10 : Option Addr} {sl10 : Array (Option Value)} {oc10 kV10 dc10 pm10 cd10 ct10 : Value}
    {f11 : Addr} {od11 an11 : Option Addr} {sl11 : Array (Option Value)} {oc11 kV11 dc11 pm11 cd11 ct11 : Value}
    {f12 : Addr} {od12 an12 : Option Addr} {sl12 : Array (Option Value)} {oc12 kV12 dc12 pm12 cd12 ct12 : Value}
    {f13 : Addr} {od13 an13 : Option Addr} {sl13 : Array (Option Value)} {oc13 kV13 dc13 pm13 cd13 ct13 : Value}
    {f14 : Addr} {od14 an14 : Option Addr} {sl14 : Array (Option Value)} {oc14 kV14 dc14 pm14 cd14 ct14 : Value}
    {f15 : Addr} {od15 an15 : Option Addr} {sl15 : Array (Option Value)} {oc15 kV15 dc15 pm15 cd15 ct15 : Value}
    {f16 : Addr} {od16 an16 : Option Addr} {sl16 : Array (Option Value)} {oc16 kV16 dc16 pm16 cd16 ct16 : Value}
    {f17 : Addr} {od17 an17 : Option Addr} {sl17 : Array (Option Value)} {oc17 kV17 dc17 pm17 cd17 ct17 : Value}
    {f18 : Addr} {od18 an18 : Option Addr} {sl18 : Array (Option Value)} {oc18 kV18 dc18 pm18 cd18 ct18 : Value}
    {f19 : Addr} {od19 an19 : Option Addr} {sl19 : Array (Option Value)} {oc19 kV19 dc19 pm19 cd19 ct19 : Value}
    {gt1 : Tok}
    {gt2 : Tok}
    {gt3 : Tok}
    (aC_Ward : PySem.W.nsIn K mainGlobals "Ward" = some (some (.ref C_Ward)))
    (pg_Ward : PySem.W.plainGet K C_Ward Str.empty = true)
    (hd_Ward : PySem.W.hasDictIn K C_Ward = true)
    (po_Ward : PySem.W.plainOver K C_Ward = true)
    (sa_Ward : PySem.W.findIn K (.ref C_Ward) "__setattr__" = some (some (.builtin "object.__setattr__")))
    (mk_Ward : PySem.W.makesIn K C_Ward = true)
    (kc_Ward : PySem.W.keepIn K (.ref C_Ward) = true)
    (f_days_Ward : PySem.W.findIn K (.ref C_Ward) "days" = some none)
    (f_hands_Ward : PySem.W.findIn K (.ref C_Ward) "hands" = some none)
    (f_posts_Ward : PySem.W.findIn K (.ref C_Ward) "posts" = some none)
    (aC_NoMonth : PySem.W.nsIn K mainGlobals "NoMonth" = some (some (.ref C_NoMonth))) (xx_NoMonth : PySem.W.excIn K C_NoMonth bmV "ValueError.__new__" = true)
    (kk_NoMonth : PySem.W.keepIn K (.ref C_NoMonth) = true)
    (aC_NoHand : PySem.W.nsIn K mainGlobals "NoHand" = some (some (.ref C_NoHand)))
    (kc_NoHand : PySem.W.keepIn K (.ref C_NoHand) = true)
    (aC_NoPost : PySem.W.nsIn K mainGlobals "NoPost" = some (some (.ref C_NoPost)))
    (kc_NoPost : PySem.W.keepIn K (.ref C_NoPost) = true)
    (aC_WardError : PySem.W.nsIn K mainGlobals "WardError" = some (some (.ref C_WardError)))
    (wb_ga : PySem.W.specialIn K (.ref C_WardError) "__getattribute__" = some (some (.builtin "type.__getattribute__")))
    (wb_rd : PySem.W.readsIn K C_WardError (.type "type") = true)
    (wb_fc : PySem.W.findCls K (.ref C_WardError) (.type "type") "__init__" = some (.val (.builtin "ValueError.__init__")))
    (sa_h : PySem.W.findIn K (.ref C_NoHand) "__setattr__" = some (some (.builtin "object.__setattr__")))
    (sn_h : PySem.W.findIn K (.ref C_NoHand) "number" = some none)
    (sa_p : PySem.W.findIn K (.ref C_NoPost) "__setattr__" = some (some (.builtin "object.__setattr__")))
    (sn_p : PySem.W.findIn K (.ref C_NoPost) "number" = some none)
    (xa_NoMonth : excOne K C_NoMonth 0 [C_NoMonth, C_NoHand, C_NoPost] C_WardError = true)
    (xa_NoHand : excOne K C_NoHand 1 [C_NoMonth, C_NoHand, C_NoPost] C_WardError = true)
    (xa_NoPost : excOne K C_NoPost 2 [C_NoMonth, C_NoHand, C_NoPost] C_WardError = true)
    (m_ty : PySem.W.typeIn K (.ref C_WardError) = some (.type "type"))
    (m_be : PySem.W.mroIn K C_WardError (.type "BaseException") = some true)
    (m_s0 : PySem.W.mroIn K C_NoMonth (.ref C_WardError) = some true)
    (m_s1 : PySem.W.mroIn K C_NoHand (.ref C_WardError) = some true)
    (m_s2 : PySem.W.mroIn K C_NoPost (.ref C_WardError) = some true)
    (a1 : PySem.W.nsIn K mainGlobals "need_month" = some (some (.ref f1)))
    (l1 : K.lookup f1 = some ⟨oc1, od1, .func (PySem.W.fnOf "need_month" "need_month" (defArgs s_need_month) (defBody s_need_month) (defScope s_need_month) .none kV1 dc1 pm1 an1 cd1 ct1), sl1⟩) (c1 : PySem.W.codeIn K cd1 "need_month" = true) (k1 : PySem.W.keepIn K (.ref f1) = true)
    (a2 : PySem.W.findIn K (.ref C_NoHand) "__init__" = some (some (.ref f2))) (i2 : PySem.W.isFn K (.ref f2) = true)
    (l2 : K.lookup f2 = some ⟨oc2, od2, .func (PySem.W.fnOf "__init__" "NoHand.__init__" (defArgs s_NoHand___init__) (defBody s_NoHand___init__) (defScope s_NoHand___init__) .none kV2 dc2 pm2 an2 cd2 ct2), sl2⟩) (c2 : PySem.W.codeIn K cd2 "NoHand.__init__" = true) (k2 : PySem.W.keepIn K (.ref f2) = true)
    (a3 : PySem.W.nsIn K mainGlobals "is_skills" = some (some (.ref f3)))
    (l3 : K.lookup f3 = some ⟨oc3, od3, .func (PySem.W.fnOf "is_skills" "is_skills" (defArgs s_is_skills) (defBody s_is_skills) (defScope s_is_skills) .none kV3 dc3 pm3 an3 cd3 ct3), sl3⟩) (c3 : PySem.W.codeIn K cd3 "is_skills" = true) (k3 : PySem.W.keepIn K (.ref f3) = true)
    (a4 : PySem.W.nsIn K mainGlobals "need_hands" = some (some (.ref f4)))
    (l4 : K.lookup f4 = some ⟨oc4, od4, .func (PySem.W.fnOf "need_hands" "need_hands" (defArgs s_need_hands) (defBody s_need_hands) (defScope s_need_hands) .none kV4 dc4 pm4 an4 cd4 ct4), sl4⟩) (c4 : PySem.W.codeIn K cd4 "need_hands" = true) (k4 : PySem.W.keepIn K (.ref f4) = true)
    (a5 : PySem.W.findIn K (.ref C_NoPost) "__init__" = some (some (.ref f5))) (i5 : PySem.W.isFn K (.ref f5) = true)
    (l5 : K.lookup f5 = some ⟨oc5, od5, .func (PySem.W.fnOf "__init__" "NoPost.__init__" (defArgs s_NoPost___init__) (defBody s_NoPost___init__) (defScope s_NoPost___init__) .none kV5 dc5 pm5 an5 cd5 ct5), sl5⟩) (c5 : PySem.W.codeIn K cd5 "NoPost.__init__" = true) (k5 : PySem.W.keepIn K (.ref f5) = true)
    (a6 : PySem.W.nsIn K mainGlobals "is_post" = some (some (.ref f6)))
    (l6 : K.lookup f6 = some ⟨oc6, od6, .func (PySem.W.fnOf "is_post" "is_post" (defArgs s_is_post) (defBody s_is_post) (defScope s_is_post) .none kV6 dc6 pm6 an6 cd6 ct6), sl6⟩) (c6 : PySem.W.codeIn K cd6 "is_post" = true) (k6 : PySem.W.keepIn K (.ref f6) = true)
    (a7 : PySem.W.nsIn K mainGlobals "need_posts" = some (some (.ref f7)))
    (l7 : K.lookup f7 = some ⟨oc7, od7, .func (PySem.W.fnOf "need_posts" "need_posts" (defArgs s_need_posts) (defBody s_need_posts) (defScope s_need_posts) .none kV7 dc7 pm7 an7 cd7 ct7), sl7⟩) (c7 : PySem.W.codeIn K cd7 "need_posts" = true) (k7 : PySem.W.keepIn K (.ref f7) = true)
    (a8 : PySem.W.findIn K (.ref C_Ward) "__init__" = some (some (.ref f8))) (i8 : PySem.W.isFn K (.ref f8) = true)
    (l8 : K.lookup f8 = some ⟨oc8, od8, .func (PySem.W.fnOf "__init__" "Ward.__init__" (defArgs s_Ward___init__) (defBody s_Ward___init__) (defScope s_Ward___init__) .none kV8 dc8 pm8 an8 cd8 ct8), sl8⟩) (c8 : PySem.W.codeIn K cd8 "Ward.__init__" = true) (k8 : PySem.W.keepIn K (.ref f8) = true)
    (a9 : PySem.W.nsIn K mainGlobals "_law_draw" = some (some (.ref f9)))
    (l9 : K.lookup f9 = some ⟨oc9, od9, .func (PySem.W.fnOf "_law_draw" "_law_draw" (defArgs s__law_draw) (defBody s__law_draw) (defScope s__law_draw) .none kV9 dc9 pm9 an9 cd9 ct9), sl9⟩) (c9 : PySem.W.codeIn K cd9 "_law_draw" = true) (k9 : PySem.W.keepIn K (.ref f9) = true)
    (a10 : PySem.W.nsIn K mainGlobals "_law_ways" = some (some (.ref f10)))
    (l10 : K.lookup f10 = some ⟨oc10, od10, .func (PySem.W.fnOf "_law_ways" "_law_ways" (defArgs s__law_ways) (defBody s__law_ways) (defScope s__law_ways) .none kV10 dc10 pm10 an10 cd10 ct10), sl10⟩) (c10 : PySem.W.codeIn K cd10 "_law_ways" = true) (k10 : PySem.W.keepIn K (.ref f10) = true)
    (a11 : PySem.W.nsIn K mainGlobals "_law_set" = some (some (.ref f11)))
    (l11 : K.lookup f11 = some ⟨oc11, od11, .func (PySem.W.fnOf "_law_set" "_law_set" (defArgs s__law_set) (defBody s__law_set) (defScope s__law_set) .none kV11 dc11 pm11 an11 cd11 ct11), sl11⟩) (c11 : PySem.W.codeIn K cd11 "_law_set" = true) (k11 : PySem.W.keepIn K (.ref f11) = true)
    (a12 : PySem.W.nsIn K mainGlobals "_law_ward" = some (some (.ref f12)))
    (l12 : K.lookup f12 = some ⟨oc12, od12, .func (PySem.W.fnOf "_law_ward" "_law_ward" (defArgs s__law_ward) (defBody s__law_ward) (defScope s__law_ward) .none kV12 dc12 pm12 an12 cd12 ct12), sl12⟩) (c12 : PySem.W.codeIn K cd12 "_law_ward" = true) (k12 : PySem.W.keepIn K (.ref f12) = true)
    (a13 : PySem.W.nsIn K mainGlobals "_law_out" = some (some (.ref f13)))
    (l13 : K.lookup f13 = some ⟨oc13, od13, .func (PySem.W.fnOf "_law_out" "_law_out" (defArgs s__law_out) (defBody s__law_out) (defScope s__law_out) .none kV13 dc13 pm13 an13 cd13 ct13), sl13⟩) (c13 : PySem.W.codeIn K cd13 "_law_out" = true) (k13 : PySem.W.keepIn K (.ref f13) = true)
    (a14 : PySem.W.nsIn K mainGlobals "_law_faults" = some (some (.ref f14)))
    (l14 : K.lookup f14 = some ⟨oc14, od14, .func (PySem.W.fnOf "_law_faults" "_law_faults" (defArgs s__law_faults) (defBody s__law_faults) (defScope s__law_faults) .none kV14 dc14 pm14 an14 cd14 ct14), sl14⟩) (c14 : PySem.W.codeIn K cd14 "_law_faults" = true) (k14 : PySem.W.keepIn K (.ref f14) = true)
    (a15 : PySem.W.nsIn K mainGlobals "_law_whole" = some (some (.ref f15)))
    (l15 : K.lookup f15 = some ⟨oc15, od15, .func (PySem.W.fnOf "_law_whole" "_law_whole" (defArgs s__law_whole) (defBody s__law_whole) (defScope s__law_whole) .none kV15 dc15 pm15 an15 cd15 ct15), sl15⟩) (c15 : PySem.W.codeIn K cd15 "_law_whole" = true) (k15 : PySem.W.keepIn K (.ref f15) = true)
    (a16 : PySem.W.nsIn K mainGlobals "_law_named" = some (some (.ref f16)))
    (l16 : K.lookup f16 = some ⟨oc16, od16, .func (PySem.W.fnOf "_law_named" "_law_named" (defArgs s__law_named) (defBody s__law_named) (defScope s__law_named) .none kV16 dc16 pm16 an16 cd16 ct16), sl16⟩) (c16 : PySem.W.codeIn K cd16 "_law_named" = true) (k16 : PySem.W.keepIn K (.ref f16) = true)
    (a17 : PySem.W.nsIn K mainGlobals "_law_told" = some (some (.ref f17)))
    (l17 : K.lookup f17 = some ⟨oc17, od17, .func (PySem.W.fnOf "_law_told" "_law_told" (defArgs s__law_told) (defBody s__law_told) (defScope s__law_told) .none kV17 dc17 pm17 an17 cd17 ct17), sl17⟩) (c17 : PySem.W.codeIn K cd17 "_law_told" = true) (k17 : PySem.W.keepIn K (.ref f17) = true)
    (a18 : PySem.W.nsIn K mainGlobals "_law_due" = some (some (.ref f18)))
    (l18 : K.lookup f18 = some ⟨oc18, od18, .func (PySem.W.fnOf "_law_due" "_law_due" (defArgs s__law_due) (defBody s__law_due) (defScope s__law_due) .none kV18 dc18 pm18 an18 cd18 ct18), sl18⟩) (c18 : PySem.W.codeIn K cd18 "_law_due" = true) (k18 : PySem.W.keepIn K (.ref f18) = true)
    (a19 : PySem.W.nsIn K mainGlobals "law" = some (some (.ref f19)))
    (l19 : K.lookup f19 = some ⟨oc19, od19, .func (PySem.W.fnOf "law" "law" (defArgs s_law) (defBody s_law) (defScope s_law) .none kV19 dc19 pm19 an19 cd19 ct19), sl19⟩) (c19 : PySem.W.codeIn K cd19 "law" = true) (k19 : PySem.W.keepIn K (.ref f19) = true)
    (xi_NoHand : excInI K C_NoHand f2 bmV "ValueError.__new__" = true)
    (xi_NoPost : excInI K C_NoPost f5 bmV "ValueError.__new__" = true)
    (z1 : PySem.W.nsIn K mainGlobals "ValueError" = some none)
    (z2 : PySem.W.nsIn K mainGlobals "bool" = some none)
    (z3 : PySem.W.nsIn K mainGlobals "enumerate" = some none)
    (z4 : PySem.W.nsIn K mainGlobals "int" = some none)
    (z5 : PySem.W.nsIn K mainGlobals "isinstance" = some none)
    (z6 : PySem.W.nsIn K mainGlobals "len" = some none)
    (z7 : PySem.W.nsIn K mainGlobals "list" = some none)
    (z8 : PySem.W.nsIn K mainGlobals "range" = some none)
    (z9 : PySem.W.nsIn K mainGlobals "tuple" = some none)
    (g1 : PySem.W.nsIn K mainGlobals "MOST_DAYS" = some (some (.int 31 gt1)))
    (g2 : PySem.W.nsIn K mainGlobals "MOST_HANDS" = some (some (.int 8 gt2)))
    (g3 : PySem.W.nsIn K mainGlobals "MOST_POSTS" = some (some (.int 6 gt3)))
    : ∃ fd : FuncData, (∀ (s : Shared) (v : Value), BindsTo s fd ⟨[v], []⟩ [("_law_script", v)]) ∧ ∀ base : Heap, K.In base → base.Ns mainGlobals mg → FnOk l.prog w K mg base CX0 7 fa fd ["_law_script"] (sp_law K) := by
  have e := hfa.symm.trans (PySem.W.mg_of X G a19)
  cases e
  have T : Txt K mg C_Ward C_NoMonth C_NoHand C_NoPost C_WardError := ⟨PySem.W.mg_none_of X G z1, PySem.W.mg_none_of X G z2, PySem.W.mg_none_of X G z3, PySem.W.mg_none_of X G z4, PySem.W.mg_none_of X G z5, PySem.W.mg_none_of X G z6, PySem.W.mg_none_of X G z7, PySem.W.mg_none_of X G z8, PySem.W.mg_none_of X G z9, ⟨_, PySem.W.mg_of X G g1⟩, ⟨_, PySem.W.mg_of X G g2⟩, ⟨_, PySem.W.mg_of X G g3⟩, ⟨pg_Ward, hd_Ward, po_Ward, sa_Ward⟩, f_days_Ward, f_hands_Ward, f_posts_Ward, ⟨PySem.W.mg_of X G aC_NoMonth, xx_NoMonth⟩, kk_NoMonth, PySem.W.mg_of X G aC_NoHand, ⟨_, PySem.W.mg_of X G aC_NoHand, xi_NoHand⟩, PySem.W.mg_of X G aC_NoPost, ⟨_, PySem.W.mg_of X G aC_NoPost, xi_NoPost⟩, PySem.W.mg_of X G aC_WardError, wb_ga, wb_rd, wb_fc, sa_h, sn_h, sa_p, sn_p, xa_NoMonth, xa_NoHand, xa_NoPost, m_ty, m_be, m_s0, m_s1, m_s2⟩
  have F1 := fun_mk (st := s_need_month) l1 c1 k1
  have b1 := F1.binds (ps := ["days"]) fun _ _ _ _ _ _ us hl => match us, hl with | [_], _ => rfl
  have F2 := fun_mk (st := s_NoHand___init__) l2 c2 k2
  have b2 := F2.binds (ps := ["self", "number"]) fun _ _ _ _ _ _ us hl => match us, hl with | [_, _], _ => rfl
  have F3 := fun_mk (st := s_is_skills) l3 c3 k3
  have b3 := F3.binds (ps := ["number"]) fun _ _ _ _ _ _ us hl => match us, hl with | [_], _ => rfl
  have F4 := fun_mk (st := s_need_hands) l4 c4 k4
  have b4 := F4.binds (ps := ["hands"]) fun _ _ _ _ _ _ us hl => match us, hl with | [_], _ => rfl
  have F5 := fun_mk (st := s_NoPost___init__) l5 c5 k5
  have b5 := F5.binds (ps := ["self", "number"]) fun _ _ _ _ _ _ us hl => match us, hl with | [_, _], _ => rfl
  have F6 := fun_mk (st := s_is_post) l6 c6 k6
  have b6 := F6.binds (ps := ["post"]) fun _ _ _ _ _ _ us hl => match us, hl with | [_], _ => rfl
  have F7 := fun_mk (st := s_need_posts) l7 c7 k7
  have b7 := F7.binds (ps := ["posts"]) fun _ _ _ _ _ _ us hl => match us, hl with | [_], _ => rfl
  have F8 := fun_mk (st := s_Ward___init__) l8 c8 k8
  have b8 := F8.binds (ps := ["self", "days", "hands", "posts"]) fun _ _ _ _ _ _ us hl => match us, hl with | [_, _, _, _], _ => rfl
  have F9 := fun_mk (st := s__law_draw) l9 c9 k9
  have b9 := F9.binds (ps := ["_law_script", "_law_k", "_law_many"]) fun _ _ _ _ _ _ us hl => match us, hl with | [_, _, _], _ => rfl
  have F10 := fun_mk (st := s__law_ways) l10 c10 k10
  have b10 := F10.binds (ps := ["_law_script"]) fun _ _ _ _ _ _ us hl => match us, hl with | [_], _ => rfl
  have F11 := fun_mk (st := s__law_set) l11 c11 k11
  have b11 := F11.binds (ps := ["_law_script", "_law_k"]) fun _ _ _ _ _ _ us hl => match us, hl with | [_, _], _ => rfl
  have F12 := fun_mk (st := s__law_ward) l12 c12 k12
  have b12 := F12.binds (ps := ["_law_script"]) fun _ _ _ _ _ _ us hl => match us, hl with | [_], _ => rfl
  have F13 := fun_mk (st := s__law_out) l13 c13 k13
  have b13 := F13.binds (ps := ["_law_script", "_law_k", "_law_bound"]) fun _ _ _ _ _ _ us hl => match us, hl with | [_, _, _], _ => rfl
  have F14 := fun_mk (st := s__law_faults) l14 c14 k14
  have b14 := F14.binds (ps := ["_law_script", "_law_days", "_law_hands", "_law_posts"]) fun _ _ _ _ _ _ us hl => match us, hl with | [_, _, _, _], _ => rfl
  have F15 := fun_mk (st := s__law_whole) l15 c15 k15
  have b15 := F15.binds (ps := ["_law_found"]) fun _ _ _ _ _ _ us hl => match us, hl with | [_], _ => rfl
  have F16 := fun_mk (st := s__law_named) l16 c16 k16
  have b16 := F16.binds (ps := ["_law_e"]) fun _ _ _ _ _ _ us hl => match us, hl with | [_], _ => rfl
  have F17 := fun_mk (st := s__law_told) l17 c17 k17
  have b17 := F17.binds (ps := ["_law_days", "_law_hands", "_law_posts"]) fun _ _ _ _ _ _ us hl => match us, hl with | [_, _, _], _ => rfl
  have F18 := fun_mk (st := s__law_due) l18 c18 k18
  have b18 := F18.binds (ps := ["_law_days", "_law_hands", "_law_posts"]) fun _ _ _ _ _ _ us hl => match us, hl with | [_, _, _], _ => rfl
  have F19 := fun_mk (st := s_law) l19 c19 k19
  refine ⟨PySem.W.fnOf "law" "law" (defArgs s_law) (defBody s_law) (defScope s_law) .none kV19 dc19 pm19 an19 cd19 ct19, fun s v => .of_eq rfl, fun base _ _ => ?_⟩
  have X_need_month : CalX2 l.prog w K mg base "need_month" ["days"] 1 (sp_need_month K C_Ward C_NoMonth C_NoHand C_NoPost C_WardError) := ⟨_, _, ok_need_month F1 T , b1, k1, PySem.W.mg_of X G a1⟩
  have E_NoHand : CalE l.prog w K mg base "NoHand" C_NoHand ["self", "number"] 1 (sp_NoHand___init__ K C_Ward C_NoMonth C_NoHand C_NoPost C_WardError) := ⟨_, _, ok_NoHand___init__ F2 T , b2, ⟨PySem.W.mg_of X G aC_NoHand, xi_NoHand⟩, i2, kc_NoHand⟩
  have C_is_skills : Cal l.prog w K mg base "is_skills" ["number"] 1 (sp_is_skills K C_Ward C_NoMonth C_NoHand C_NoPost C_WardError) := ⟨_, _, ok_is_skills F3 T , b3, k3, PySem.W.mg_of X G a3⟩
  have X_need_hands : CalX2 l.prog w K mg base "need_hands" ["hands"] 3 (sp_need_hands K C_Ward C_NoMonth C_NoHand C_NoPost C_WardError) := ⟨_, _, ok_need_hands F4 T E_NoHand C_is_skills, b4, k4, PySem.W.mg_of X G a4⟩
  have E_NoPost : CalE l.prog w K mg base "NoPost" C_NoPost ["self", "number"] 1 (sp_NoPost___init__ K C_Ward C_NoMonth C_NoHand C_NoPost C_WardError) := ⟨_, _, ok_NoPost___init__ F5 T , b5, ⟨PySem.W.mg_of X G aC_NoPost, xi_NoPost⟩, i5, kc_NoPost⟩
  have C_is_post : Cal l.prog w K mg base "is_post" ["post"] 2 (sp_is_post K C_Ward C_NoMonth C_NoHand C_NoPost C_WardError) := ⟨_, _, ok_is_post F6 T C_is_skills, b6, k6, PySem.W.mg_of X G a6⟩
  have X_need_posts : CalX2 l.prog w K mg base "need_posts" ["posts"] 3 (sp_need_posts K C_Ward C_NoMonth C_NoHand C_NoPost C_WardError) := ⟨_, _, ok_need_posts F7 T E_NoPost C_is_post, b7, k7, PySem.W.mg_of X G a7⟩
  have J_Ward : CalI2 l.prog w K mg base "Ward" C_Ward ["self", "days", "hands", "posts"] 4 (sp_Ward___init__ K C_Ward C_NoMonth C_NoHand C_NoPost C_WardError) := ⟨_, _, ok_Ward___init__ F8 T X_need_month X_need_hands X_need_posts, b8, ⟨mk_Ward, a8, i8, kc_Ward⟩, PySem.W.mg_of X G aC_Ward⟩
  have C__law_draw : Cal l.prog w K mg base "_law_draw" ["_law_script", "_law_k", "_law_many"] 1 (sp__law_draw K C_Ward C_NoMonth C_NoHand C_NoPost C_WardError) := ⟨_, _, ok__law_draw F9 T , b9, k9, PySem.W.mg_of X G a9⟩
  have C__law_ways : Cal l.prog w K mg base "_law_ways" ["_law_script"] 2 (sp__law_ways K C_Ward C_NoMonth C_NoHand C_NoPost C_WardError) := ⟨_, _, ok__law_ways F10 T C__law_draw, b10, k10, PySem.W.mg_of X G a10⟩
  have C__law_set : Cal l.prog w K mg base "_law_set" ["_law_script", "_law_k"] 3 (sp__law_set K C_Ward C_NoMonth C_NoHand C_NoPost C_WardError) := ⟨_, _, ok__law_set F11 T C__law_draw C__law_ways, b11, k11, PySem.W.mg_of X G a11⟩
  have C__law_ward : Cal l.prog w K mg base "_law_ward" ["_law_script"] 4 (sp__law_ward K C_Ward C_NoMonth C_NoHand C_NoPost C_WardError) := ⟨_, _, ok__law_ward F12 T C__law_set C__law_draw, b12, k12, PySem.W.mg_of X G a12⟩
  have C__law_out : Cal l.prog w K mg base "_law_out" ["_law_script", "_law_k", "_law_bound"] 2 (sp__law_out K C_Ward C_NoMonth C_NoHand C_NoPost C_WardError) := ⟨_, _, ok__law_out F13 T C__law_draw, b13, k13, PySem.W.mg_of X G a13⟩
  have C__law_faults : Cal l.prog w K mg base "_law_faults" ["_law_script", "_law_days", "_law_hands", "_law_posts"] 3 (sp__law_faults K C_Ward C_NoMonth C_NoHand C_NoPost C_WardError) := ⟨_, _, ok__law_faults F14 T C__law_draw C__law_out, b14, k14, PySem.W.mg_of X G a14⟩
  have H__law_whole : CalH l.prog w K mg base "_law_whole" ["_law_found"] 1 (sp__law_whole K C_Ward C_NoMonth C_NoHand C_NoPost C_WardError) := ⟨_, _, ok__law_whole F15 T , b15, k15, PySem.W.mg_of X G a15⟩
  have H__law_named : CalH l.prog w K mg base "_law_named" ["_law_e"] 2 (sp__law_named K C_Ward C_NoMonth C_NoHand C_NoPost C_WardError) := ⟨_, _, ok__law_named F16 T H__law_whole, b16, k16, PySem.W.mg_of X G a16⟩
  have C__law_told : Cal l.prog w K mg base "_law_told" ["_law_days", "_law_hands", "_law_posts"] 6 (sp__law_told K C_Ward C_NoMonth C_NoHand C_NoPost C_WardError) := ⟨_, _, ok__law_told F17 T J_Ward H__law_named, b17, k17, PySem.W.mg_of X G a17⟩
  have C__law_due : Cal l.prog w K mg base "_law_due" ["_law_days", "_law_hands", "_law_posts"] 1 (sp__law_due K C_Ward C_NoMonth C_NoHand C_NoPost C_WardError) := ⟨_, _, ok__law_due F18 T , b18, k18, PySem.W.mg_of X G a18⟩
  exact ok_law F19 T C__law_ward C__law_faults C__law_told C__law_due
theorem walk {l : PySem.W.OpenLaw} {q : Program} {loose : List Str} {XP : (Str → Option Value) → Heap → Prop} {YP : World → Heap → Prop} {d : DefRec} {K : Params → PySem.W.Frag} (hn : l.most = some 63) (hdf : d.params.defaults = [])
    (hY : ∀ (w : World) (h : Heap), YP w h → (K w.params).In h)
    (F : ∀ (w : World) (mg : Str → Option Value) (fa : Addr) (h : Heap), (K w.params).In h → h.Ns mainGlobals mg → mg d.name = some (.ref fa) →
      ∃ fd : FuncData, (∀ (s : Shared) (u : Value), BindsTo s fd ⟨[u], []⟩ [("_law_script", u)]) ∧ ∀ base : Heap, (K w.params).In base → base.Ns mainGlobals mg → FnOk l.prog w (K w.params) mg base CX0 7 fa fd ["_law_script"] (sp_law (K w.params))) :
    PySem.W.WalkO q loose XP YP l.row.toRowW d [] (fun f vs => PySem.call f vs) :=
  L2.walk_of (n := 63) (k := 7) (x := "_law_script") (CX := fun _ => CX0) (sp := fun w => sp_law (K w.params)) hn (by decide) hdf ⟨rfl, by decide, by decide⟩ hY F (fun _ _ a ns hl _ hS => ⟨a, ns, rfl, hS, hl, fun _ => rfl⟩) fun _ _ _ _ _ z => z
end My
open PySem PySem.W PyProof.Rows
set_option maxRecDepth 100000 in
set_option maxHeartbeats 0 in
theorem PySem.Challenge.cw_rotaward_k14_no_ward_holds : PySem.Challenge.rw_rotaward_k14_no_ward.Holds := by
  w_on; o_law; k_head; (case hw => w_witness2)
  k_fill
  refine My.walk (l := PySem.Challenge.rw_rotaward_k14_no_ward) rfl rfl (fun w h Y => PySem.W.kIn_of Y) ?F
  case F =>
    intro w mg fa h KX G hmg
    refine' My.all_mk KX G hmg ?aC_Ward ?pg_Ward ?hd_Ward ?po_Ward ?sa_Ward ?mk_Ward ?kc_Ward ?f_days_Ward ?f_hands_Ward ?f_posts_Ward ?aC_NoMonth ?xx_NoMonth ?kk_NoMonth ?aC_NoHand ?kc_NoHand ?aC_NoPost ?kc_NoPost ?aC_WardError ?wb_ga ?wb_rd ?wb_fc ?sa_h ?sn_h ?sa_p ?sn_p ?xa_NoMonth ?xa_NoHand ?xa_NoPost ?m_ty ?m_be ?m_s0 ?m_s1 ?m_s2 ?a1 ?l1 ?c1 ?k1 ?a2 ?i2 ?l2 ?c2 ?k2 ?a3 ?l3 ?c3 ?k3 ?a4 ?l4 ?c4 ?k4 ?a5 ?i5 ?l5 ?c5 ?k5 ?a6 ?l6 ?c6 ?k6 ?a7 ?l7 ?c7 ?k7 ?a8 ?i8 ?l8 ?c8 ?k8 ?a9 ?l9 ?c9 ?k9 ?a10 ?l10 ?c10 ?k10 ?a11 ?l11 ?c11 ?k11 ?a12 ?l12 ?c12 ?k12 ?a13 ?l13 ?c13 ?k13 ?a14 ?l14 ?c14 ?k14 ?a15 ?l15 ?c15 ?k15 ?a16 ?l16 ?c16 ?k16 ?a17 ?l17 ?c17 ?k17 ?a18 ?l18 ?c18 ?k18 ?a19 ?l19 ?c19 ?k19 ?xi_NoHand ?xi_NoPost ?z1 ?z2 ?z3 ?z4 ?z5 ?z6 ?z7 ?z8 ?z9 ?g1 ?g2 ?g3
    (case aC_Ward => k_is)
    (case pg_Ward => k_is)
    (case hd_Ward => k_is)
    (case po_Ward => k_is)
    (case sa_Ward => k_is)
    (case mk_Ward => k_is)
    (case kc_Ward => k_is)
    (case f_days_Ward => k_is)
    (case f_hands_Ward => k_is)
    (case f_posts_Ward => k_is)
    (case aC_NoMonth => k_is)
    (case xx_NoMonth => k_exc)
    (case kk_NoMonth => k_is)
    (case aC_NoHand => k_is)
    (case kc_NoHand => k_is)
    (case aC_NoPost => k_is)
    (case kc_NoPost => k_is)
    (case aC_WardError => k_is)
    (case wb_ga => k_is)
    (case wb_rd => k_is)
    (case wb_fc => k_is)
    (case sa_h => k_is)
    (case sn_h => k_is)
    (case sa_p => k_is)
    (case sn_p => k_is)
    (case xa_NoMonth => kernel_rfl)
    (case xa_NoHand => kernel_rfl)
    (case xa_NoPost => kernel_rfl)
    (case m_ty => k_is)
    (case m_be => k_is)
    (case m_s0 => k_is)
    (case m_s1 => k_is)
    (case m_s2 => k_is)
    (case a1 => k_is)
    (case l1 => k_is)
    (case c1 => k_is)
    (case k1 => k_is)
    (case a2 => k_is)
    (case i2 => k_is)
    (case l2 => k_is)
    (case c2 => k_is)
    (case k2 => k_is)
    (case a3 => k_is)
    (case l3 => k_is)
    (case c3 => k_is)
    (case k3 => k_is)
    (case a4 => k_is)
    (case l4 => k_is)
    (case c4 => k_is)
    (case k4 => k_is)
    (case a5 => k_is)
    (case i5 => k_is)
    (case l5 => k_is)
    (case c5 => k_is)
    (case k5 => k_is)
    (case a6 => k_is)
    (case l6 => k_is)
    (case c6 => k_is)
    (case k6 => k_is)
    (case a7 => k_is)
    (case l7 => k_is)
    (case c7 => k_is)
    (case k7 => k_is)
    (case a8 => k_is)
    (case i8 => k_is)
    (case l8 => k_is)
    (case c8 => k_is)
    (case k8 => k_is)
    (case a9 => k_is)
    (case l9 => k_is)
    (case c9 => k_is)
    (case k9 => k_is)
    (case a10 => k_is)
    (case l10 => k_is)
    (case c10 => k_is)
    (case k10 => k_is)
    (case a11 => k_is)
    (case l11 => k_is)
    (case c11 => k_is)
    (case k11 => k_is)
    (case a12 => k_is)
    (case l12 => k_is)
    (case c12 => k_is)
    (case k12 => k_is)
    (case a13 => k_is)
    (case l13 => k_is)
    (case c13 => k_is)
    (case k13 => k_is)
    (case a14 => k_is)
    (case l14 => k_is)
    (case c14 => k_is)
    (case k14 => k_is)
    (case a15 => k_is)
    (case l15 => k_is)
    (case c15 => k_is)
    (case k15 => k_is)
    (case a16 => k_is)
    (case l16 => k_is)
    (case c16 => k_is)
    (case k16 => k_is)
    (case a17 => k_is)
    (case l17 => k_is)
    (case c17 => k_is)
    (case k17 => k_is)
    (case a18 => k_is)
    (case l18 => k_is)
    (case c18 => k_is)
    (case k18 => k_is)
    (case a19 => k_is)
    (case l19 => k_is)
    (case c19 => k_is)
    (case k19 => k_is)
    (case xi_NoHand => kernel_rfl)
    (case xi_NoPost => kernel_rfl)
    (case z1 => k_is)
    (case z2 => k_is)
    (case z3 => k_is)
    (case z4 => k_is)
    (case z5 => k_is)
    (case z6 => k_is)
    (case z7 => k_is)
    (case z8 => k_is)
    (case z9 => k_is)
    (case g1 => k_is)
    (case g2 => k_is)
    (case g3 => k_is)
