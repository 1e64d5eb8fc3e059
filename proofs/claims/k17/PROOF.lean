import PyProof.Rows.All
import Wide.All
import OpenK.AllK
import Wide.FinOn
import Lean
import PyProof.EqAt
import PyProof.EqKinds
import PyProof.TupleCall
import PySem.Challenge.RW_rotaward_k17_changed_and_exchanged
set_option Elab.async false
set_option linter.all false
set_option maxRecDepth 100000
namespace L2
open PySem PySem.Spec PyProof.Rows

/-- a key: an int or a str -/
abbrev Key := Sum Int Str
def keyIs : Key → Value → Bool
  | .inl k, v => Value.isInt k v
  | .inr x, v => Value.isStrOf x v
def keyH (w : World) : Key → Int
  | .inl k => hashInt k
  | .inr x => hashStr w x
theorem keyIs_shape : ∀ {k : Key} {v : Value}, keyIs k v = true → (∃ i t, k = Sum.inl i ∧ v = Value.int i t) ∨ (∃ x t, k = Sum.inr x ∧ v = Value.str x t)
  | .inl i, v, h => by
    obtain ⟨t, e⟩ := Value.isInt_shape (k := i) (v := v) h
    exact .inl ⟨i, t, rfl, e⟩
  | .inr x, v, h => by
    obtain ⟨t, e⟩ := Value.isStrOf_shape (x := x) (v := v) h
    exact .inr ⟨x, t, rfl, e⟩
theorem key_ll (a b : Int) : decide ((Sum.inl a : Key) = Sum.inl b) = (a == b) := by
  by_cases e : a = b
  · subst e; simp
  · have h : ¬ (Sum.inl a : Key) = Sum.inl b := fun q => e (Sum.inl.inj q)
    rw [decide_eq_false h]
    exact (beq_eq_false_iff_ne.mpr e).symm
theorem key_rr (a b : Str) : decide ((Sum.inr a : Key) = Sum.inr b) = decide (a = b) := by
  by_cases e : a = b
  · subst e; simp
  · have h : ¬ (Sum.inr a : Key) = Sum.inr b := fun q => e (Sum.inr.inj q)
    rw [decide_eq_false h, decide_eq_false e]
theorem key_lr (a : Int) (b : Str) : decide ((Sum.inl a : Key) = Sum.inr b) = false := decide_eq_false (fun q => nomatch q)
theorem key_rl (a : Str) (b : Int) : decide ((Sum.inr a : Key) = Sum.inl b) = false := decide_eq_false (fun q => nomatch q)

def mixKind (prog : Program) (w : World) : PySem.KeyKind prog w Key where
  is := keyIs
  hash := keyH w
  inj := fun v a b ha hb => by
    rcases keyIs_shape ha with ⟨i, t, rfl, rfl⟩ | ⟨x, t, rfl, rfl⟩
    · rcases keyIs_shape hb with ⟨j, u, rfl, e⟩ | ⟨y, u, rfl, e⟩
      · injection e with e1 _; rw [e1]
      · exact nomatch e
    · rcases keyIs_shape hb with ⟨j, u, rfl, e⟩ | ⟨y, u, rfl, e⟩
      · exact nomatch e
      · injection e with e1 _; rw [e1]
  byValue := fun k v h => by
    rcases keyIs_shape h with ⟨i, t, rfl, rfl⟩ | ⟨x, t, rfl, rfl⟩ <;> rfl
  pyHash := fun hv h => by
    rcases keyIs_shape hv with ⟨i, t, rfl, rfl⟩ | ⟨x, t, rfl, rfl⟩
    · exact wpAny_pyHash_int h
    · exact wpAny_pyHash_str h
  eqBool := fun hu hv h => by
    rcases keyIs_shape hu with ⟨i, t, rfl, rfl⟩ | ⟨x, t, rfl, rfl⟩
    · rcases keyIs_shape hv with ⟨j, u, rfl, rfl⟩ | ⟨y, u, rfl, rfl⟩
      · rw [key_ll] at h; exact wpAny_eqBool_int h
      · rw [key_lr] at h; exact SeqAt.EqAt.int_str i t y u _ _ _ _ h
    · rcases keyIs_shape hv with ⟨j, u, rfl, rfl⟩ | ⟨y, u, rfl, rfl⟩
      · rw [key_rl] at h; exact SeqAt.EqAt.str_int x t j u _ _ _ _ h
      · rw [key_rr] at h; exact wpAny_eqBool_str h
  «strs» := fun k x t v h => by
    rcases keyIs_shape h with ⟨i, u, rfl, e⟩ | ⟨y, u, rfl, e⟩
    · exact nomatch e
    · injection e with e1 _
      subst e1
      cases v <;> rfl

end L2

namespace L2
open PySem PySem.Spec PyProof.Rows

/-- a value, without the heap -/
inductive V where
  | non | bl (b : Bool) | int (i : Int) | str (x : Str) | byt (b : Array UInt8) | flt (b : UInt64) | ref (a : Addr) | ty (n : String)
  deriving DecidableEq

def RelV : V → Value → Prop
  | .non, u => u = Value.none
  | .bl b, u => u = Value.bool b
  | .int i, u => ∃ t, u = Value.int i t
  | .str x, u => ∃ t, u = Value.str x t
  | .byt b, u => ∃ t, u = Value.bytes b t
  | .flt b, u => ∃ t, u = Value.float b t
  | .ref a, u => u = Value.ref a
  | .ty n, u => u = Value.type n

abbrev Vals : List V → List Value → Prop := Paired RelV
theorem Vals.length {xs : List V} {us : List Value} (r : Vals xs us) : xs.length = us.length := Paired.length r
theorem Vals.get : ∀ {xs : List V} {us : List Value} {i : Nat} {x : V}, Vals xs us → xs[i]? = some x → ∃ u, us[i]? = some u ∧ RelV x u
  | _, _, _, _, .nil, e => by simp at e
  | _, _, 0, _, .cons r _, e => by simp at e; subst e; exact ⟨_, rfl, r⟩
  | _, _, i + 1, x, .cons _ t, e => by
    obtain ⟨u, h1, h2⟩ := Vals.get (i := i) (x := x) t (by simpa using e)
    exact ⟨u, by simpa using h1, h2⟩
theorem Vals.set {x : V} {u : Value} (r : RelV x u) : ∀ {xs : List V} {us : List Value} (i : Nat), Vals xs us → Vals (xs.set i x) (us.set i u)
  | _, _, _, .nil => .nil
  | _, _, 0, .cons _ t => .cons r t
  | _, _, i + 1, .cons q t => .cons q (Vals.set r i t)
theorem Vals.append : ∀ {xs ys : List V} {us ws : List Value}, Vals xs us → Vals ys ws → Vals (xs ++ ys) (us ++ ws)
  | _, _, _, _, .nil, s => s
  | _, _, _, _, .cons r t, s => .cons r (Vals.append t s)
theorem Vals.take : ∀ {xs : List V} {us : List Value} (n : Nat), Vals xs us → Vals (xs.take n) (us.take n)
  | _, _, 0, _ => .nil
  | _, _, _ + 1, .nil => .nil
  | _, _, n + 1, .cons r t => .cons r (Vals.take n t)
theorem Vals.drop : ∀ {xs : List V} {us : List Value} (n : Nat), Vals xs us → Vals (xs.drop n) (us.drop n)
  | _, _, 0, r => r
  | _, _, _ + 1, .nil => .nil
  | _, _, n + 1, .cons _ t => Vals.drop n t
def RelO : Option V → Option Value → Prop
  | some v, some u => RelV v u
  | none, none => True
  | _, _ => False
def KV {κ : Type} : List (κ × V) → List (κ × Value) → Prop := Paired fun (p : κ × V) (q : κ × Value) => p.1 = q.1 ∧ RelV p.2 q.2

/-- a key of a dict (00_mix): an int or a text -/
def kV : Key → V
  | .inl i => .int i
  | .inr x => .str x

/-- what stands at a tracked address -/
inductive HO where
  /-- a list -/
  | lst (xs : List V)
  /-- a tuple (never changes) -/
  | tup (xs : List V)
  /-- a dict whose keys are ints and texts; one whose keys are tuples of ints and texts (the empty one is both) -/
  | dK (kvs : List (Key × V)) | dT (kvs : List (List Key × V))
  /-- a set of ints: its members, its size -/
  | set (S : Int → Bool) (n : Nat)
  /-- an instance of the class at C, its dict at dx, its attributes -/
  | ins (C dx : Addr) (fs : List (Str × V))
  /-- the dict of the instance at x -/
  | own (x : Addr)
  /-- the dict of an exception -/
  | xd (fs : List (Str × V))
  /-- a bound method, f of x -/
  | met (f x : Addr)
  /-- a range object lo, lo + 1, .. below hi -/
  | rng (lo hi : Int)
  /-- a thing that is known to the object (the script; a dict while a loop walks it): read, never written while it is so -/
  | frz (o : Obj) (u : HO)
  /-- a code object's table -/
  | tbl (ps : Array Value)
  /-- any other thing, by what is true of its one object (a def of one's own: SetO a S n := HO.ext fun h => ..) -/
  | ext (φ : Heap → Prop)

abbrev Hp := Addr → Option HO
def upd (H : Hp) (a : Addr) (o : HO) : Hp := fun b => if b = a then some o else H b
theorem upd_same {H : Hp} {a : Addr} {o : HO} : upd H a o a = some o := by unfold upd; rw [if_pos rfl]
theorem upd_ne {H : Hp} {a b : Addr} {o : HO} (h : b ≠ a) : upd H a o b = H b := by unfold upd; rw [if_neg h]
theorem upd_upd {H : Hp} {a : Addr} {o u : HO} : upd (upd H a o) a u = upd H a u := by
  funext b; unfold upd; split <;> rfl
/-- two objects of different content stand apart -/
theorem ne_of {H : Hp} {a b : Addr} {o u : HO} (h : H a = some o) (h' : H b = some u) (d : o ≠ u) : a ≠ b := by
  intro e; subst e; rw [h] at h'; exact d (Option.some.inj h')
theorem ne_of_none {H : Hp} {a b : Addr} {o : HO} (h : H a = some o) (h' : H b = none) : a ≠ b := by
  intro e; subst e; rw [h] at h'; cases h'

section
variable (P : Program) (w : World)
def ObjOk (H : Hp) (h : Heap) (a : Addr) : HO → Prop
  | .lst xs => xs.length ≤ sizeLine ∧ ∃ (its : List Value) (n : Nat), Vals xs its ∧ h.get? a = some { cls := .type "list", data := .seq its.toArray n }
  | .tup xs => xs.length ≤ sizeLine ∧ ∃ its : List Value, Vals xs its ∧ IsTup h a its.toArray
  | .dK kvs => kvs.length ≤ sizeLine ∧ (a == sysModules) = false ∧ ∃ vs, KV kvs vs ∧ h.DictOf (mixKind P w) a vs
  | .dT kvs => kvs.length ≤ sizeLine ∧ (a == sysModules) = false ∧ ∃ xs : List (List Key × Addr × Value),
      Paired (fun (p : List Key × V) (q : List Key × Addr × Value) => p.1 = q.1 ∧ H q.2.1 = some (.tup (p.1.map kV)) ∧ RelV p.2 q.2.2) kvs xs ∧
      ∃ o es ep, h.get? a = some o ∧ o.ExactDict ∧ o.data = .dict es ep ∧ es.toList = xs.map (entryOfKey (tupleKind (mixKind P w))) ∧ (xs.map (·.1)).Nodup
  | .set S n => h.SetOf (intKind P w) a S n
  | .ins C dx fs => H dx = some (.own a) ∧ fs.length ≤ 1000 ∧ dx ≠ a ∧ h.get? a = some (PySem.W.instObj C dx) ∧
      ∃ mA, h.Ns1 dx mA ∧ (∀ f, RelO (fs.lookup f) (mA f)) ∧ PySem.Within mA (fs.map (·.1))
  | .own _ => ∃ o, h.get? a = some o
  | .xd fs => ∃ mA, h.Ns1 a mA ∧ ∀ f, RelO (fs.lookup f) (mA f)
  | .rng lo hi => ∃ t u v, h.get? a = some { cls := .type "range", data := .fields #[.int lo t, .int hi u, .int 1 v] }
  | .frz o u => h.get? a = some o ∧ ObjOk H h a u
  | .tbl ps => h.get? a = some { cls := .none, data := .fields ps }
  | .met f x => h.get? a = some (PySem.W.methodObj (.ref f) (.ref x))
  | .ext φ => φ h ∧ (∃ o, h.get? a = some o) ∧ ∀ h1 h2 : Heap, φ h1 → (∀ o, h1.get? a = some o → h2.get? a = some o) → φ h2
/-- the abstract heap is held -/
def HOk (H : Hp) (h : Heap) : Prop := ∀ a o, H a = some o → ObjOk P w H h a o
end

section
variable {P : Program} {w : World} {H H' : Hp} {h h' : Heap} {a : Addr} {o : HO}
theorem ObjOk.lt (x : ObjOk P w H h a o) : a < h.objs.size := by
  cases o with
  | lst xs => obtain ⟨_, _, _, _, e⟩ := x; exact Heap.lt_size e
  | tup xs => obtain ⟨_, _, _, p⟩ := x; exact p.lt
  | dK kvs => obtain ⟨_, _, _, _, o, _, _, e, _⟩ := x; exact Heap.lt_size e
  | dT kvs => obtain ⟨_, _, _, _, o, _, _, e, _⟩ := x; exact Heap.lt_size e
  | set S n => obtain ⟨o, _, _, _, e, _⟩ := x; exact Heap.lt_size e
  | ins C dx fs => obtain ⟨_, _, _, e, _⟩ := x; exact Heap.lt_size e
  | own y => obtain ⟨_, e⟩ := x; exact Heap.lt_size e
  | xd fs => obtain ⟨_, ⟨_, _, _, e, _⟩, _⟩ := x; exact Heap.lt_size e
  | rng lo hi => obtain ⟨_, _, _, e⟩ := x; exact Heap.lt_size e
  | frz ob u => obtain ⟨e, _⟩ := x; exact Heap.lt_size e
  | tbl ps => exact Heap.lt_size (show h.get? a = some _ from x)
  | met f y => exact Heap.lt_size (show h.get? a = some _ from x)
  | ext φ => obtain ⟨_, ⟨_, e⟩, _⟩ := x; exact Heap.lt_size e
theorem Paired.mapP {α β : Type} {F G : α → β → Prop} : ∀ {l₁ : List α} {l₂ : List β}, Paired F l₁ l₂ → (∀ a b, F a b → G a b) → Paired G l₁ l₂
  | _, _, .nil, _ => .nil
  | _, _, .cons r t, f => .cons (f _ _ r) (Paired.mapP t f)
/-- what an object's description leans on: its own object, its own dict, the tuples -/
theorem ObjOk.stay (x : ObjOk P w H h a o) (k : ∀ b u, (b = a ∨ H b = some (.own a)) → h.get? b = some u → h'.get? b = some u)
    (ho : ∀ b, H b = some (.own a) → H' b = some (.own a)) (ht : ∀ b xs, H b = some (.tup xs) → H' b = some (.tup xs)) : ObjOk P w H' h' a o := by
  induction o with
  | lst xs => obtain ⟨z, its, n, r, e⟩ := x; exact ⟨z, its, n, r, k _ _ (.inl rfl) e⟩
  | tup xs => obtain ⟨z, its, r, ob, e, c⟩ := x; exact ⟨z, its, r, ob, k _ _ (.inl rfl) e, c⟩
  | dK kvs => obtain ⟨z, y, vs, r, ob, es, ep, e, c⟩ := x; exact ⟨z, y, vs, r, ob, es, ep, k _ _ (.inl rfl) e, c⟩
  | dT kvs =>
    obtain ⟨z, y, xs, r, ob, es, ep, e, c⟩ := x
    exact ⟨z, y, xs, Paired.mapP r fun p q z => ⟨z.1, ht _ _ z.2.1, z.2.2⟩, ob, es, ep, k _ _ (.inl rfl) e, c⟩
  | set S n => obtain ⟨ob, es, ep, t, e, c⟩ := x; exact ⟨ob, es, ep, t, k _ _ (.inl rfl) e, c⟩
  | ins C dx fs =>
    obtain ⟨d, z, ne, e, mA, ⟨od, es, ep, e2, c⟩, r⟩ := x
    exact ⟨ho _ d, z, ne, k _ _ (.inl rfl) e, mA, ⟨od, es, ep, k _ _ (.inr d) e2, c⟩, r⟩
  | own y => obtain ⟨ob, e⟩ := x; exact ⟨ob, k _ _ (.inl rfl) e⟩
  | xd fs => obtain ⟨mA, ⟨od, es, ep, e, c⟩, r⟩ := x; exact ⟨mA, ⟨od, es, ep, k _ _ (.inl rfl) e, c⟩, r⟩
  | rng lo hi => obtain ⟨t, u, v, e⟩ := x; exact ⟨t, u, v, k _ _ (.inl rfl) e⟩
  | frz ob u ih => obtain ⟨e, q⟩ := x; exact ⟨k _ _ (.inl rfl) e, ih q⟩
  | tbl ps =>
    have e : h.get? a = some { cls := .none, data := .fields ps } := x
    show h'.get? a = some { cls := .none, data := .fields ps }
    exact k a _ (.inl rfl) e
  | met f y =>
    have e : h.get? a = some (PySem.W.methodObj (.ref f) (.ref y)) := x
    show h'.get? a = some (PySem.W.methodObj (.ref f) (.ref y))
    exact k a _ (.inl rfl) e
  | ext φ => obtain ⟨p, ⟨o, e⟩, st⟩ := x; exact ⟨st _ _ p fun o q => k _ _ (.inl rfl) q, ⟨o, k _ _ (.inl rfl) e⟩, st⟩
theorem HOk.lt (x : HOk P w H h) (e : H a = some o) : a < h.objs.size := (x a o e).lt
theorem HOk.fresh (x : HOk P w H h) (e : h.objs.size ≤ a) : H a = none := by
  cases q : H a with
  | none => rfl
  | some u => exact absurd (Nat.lt_of_lt_of_le (x.lt q) e) (Nat.lt_irrefl _)
/-- every object of the heap is kept -/
theorem HOk.kept (x : HOk P w H h) (k : ∀ b u, h.get? b = some u → h'.get? b = some u) : HOk P w H h' := fun a o e =>
  (x a o e).stay (fun b u _ q => k b u q) (fun _ q => q) fun _ _ q => q
/-- a new object is laid and tracked -/
theorem HOk.laid (x : HOk P w H h) (k : ∀ b u, h.get? b = some u → h'.get? b = some u) (hp : h.objs.size ≤ a) (new : ObjOk P w (upd H a o) h' a o) : HOk P w (upd H a o) h' := fun b u e => by
  have hn := x.fresh hp
  by_cases hb : b = a
  · subst hb; rw [upd_same] at e; cases e; exact new
  · rw [upd_ne hb] at e
    exact (x b u e).stay (fun c v _ q => k c v q) (fun c q => by rw [upd_ne (ne_of_none q hn)]; exact q) fun c xs q => by rw [upd_ne (ne_of_none q hn)]; exact q
end

/-- what may be read as u: it is u, or a known u -/
def Rd (H : Hp) (a : Addr) (u : HO) : Prop := H a = some u ∨ ∃ o, H a = some (.frz o u)
theorem Rd.of {H : Hp} {a : Addr} {u : HO} (h : H a = some u) : Rd H a u := .inl h
theorem Rd.ok {P : Program} {w : World} {H : Hp} {h : Heap} {a : Addr} {u : HO} (r : Rd H a u) (x : HOk P w H h) : ObjOk P w H h a u := by
  rcases r with r | ⟨o, r⟩
  · exact x a u r
  · obtain ⟨_, q⟩ := x a _ r
    exact q
/-- what may be written -/
def Mut : Option HO → Prop
  | some (.lst _) => True
  | some (.dK _) => True
  | some (.dT _) => True
  | some (.set _ _) => True
  | some (.ins _ _ _) => True
  | some (.ext _) => True
  | _ => False
section
variable {P : Program} {w : World} {H : Hp} {h h' : Heap} {x e : Addr} {o' : HO}
/-- the object at e is changed: x itself, or the dict of the instance x -/
theorem HOk.write (ok : HOk P w H h) (mu : Mut (H x)) (he : e = x ∨ H e = some (.own x)) (k : ∀ b u, b ≠ e → h.get? b = some u → h'.get? b = some u) (heo : ∃ u, h'.get? e = some u)
    (new : ObjOk P w (upd H x o') h' x o') : HOk P w (upd H x o') h' := fun b u q => by
  have nown : ∀ c y, H c = some (.own y) → c ≠ x := fun c y r z => by subst z; rw [r] at mu; exact mu
  have ntup : ∀ c xs, H c = some (.tup xs) → c ≠ x := fun c xs r z => by subst z; rw [r] at mu; exact mu
  by_cases hb : b = x
  · subst hb; rw [upd_same] at q; cases q; exact new
  · rw [upd_ne hb] at q
    by_cases hbe : b = e
    · have q' : H b = some (.own x) := by
        rcases he with z | z
        · exact absurd (hbe.trans z) hb
        · rw [hbe]; exact z
      rw [q] at q'; cases q'
      obtain ⟨v, hv⟩ := heo
      exact ⟨v, by rw [hbe]; exact hv⟩
    · refine (ok b u q).stay (fun c v hc r => k c v ?_ r) (fun c r => by rw [upd_ne (nown c b r)]; exact r) fun c xs r => by rw [upd_ne (ntup c xs r)]; exact r
      rcases hc with rfl | hc
      · exact hbe
      · rintro rfl
        rcases he with z | z
        · exact nown c b hc z
        · rw [hc] at z; cases z; exact hb rfl
end

structure Un (fs ex : List Addr) (H H' : Hp) (h h' : Heap) : Prop where
  keep : ∀ b o, h.get? b = some o → H b = none → b ∉ fs → b ∉ ex → h'.get? b = some o
  slot : ∀ b o, h.get? b = some o → H b = none → b ∈ fs → b ∉ ex → ∃ sl, h'.get? b = some { o with slots := sl }
  free : ∀ b o, h.get? b = some o → H b = none → b ∉ ex → H' b = none
  there : ∀ b o, h.get? b = some o → b ∉ ex → ∃ o', h'.get? b = some o'
  tups : ∀ b xs, H b = some (.tup xs) → H' b = some (.tup xs)
  frzs : ∀ b o u, H b = some (.frz o u) → H' b = some (.frz o u)
  tbls : ∀ b ps, H b = some (.tbl ps) → ∃ more, H' b = some (.tbl (ps ++ more))
section
variable {fs fs' ex ex' : List Addr} {H H1 H2 : Hp} {h h1 h2 h' : Heap} {a x e : Addr} {o : HO}
theorem Un.any (u : Un fs ex H H1 h h1) {b : Addr} {ob : Obj} (q : h.get? b = some ob) (n : H b = none) (hx : b ∉ ex) : ∃ sl, h1.get? b = some { ob with slots := sl } := by
  by_cases hb : b ∈ fs
  · exact u.slot b ob q n hb hx
  · exact ⟨ob.slots, u.keep b ob q n hb hx⟩
theorem Un.trans (a : Un fs ex H H1 h h1) (b : Un fs ex H1 H2 h1 h2) : Un fs ex H H2 h h2 where
  keep := fun c ob q n hc hx => b.keep c ob (a.keep c ob q n hc hx) (a.free c ob q n hx) hc hx
  slot := fun c ob q n hc hx => by
    obtain ⟨sl, e1⟩ := a.slot c ob q n hc hx
    obtain ⟨sl', e2⟩ := b.slot c _ e1 (a.free c ob q n hx) hc hx
    exact ⟨sl', e2⟩
  free := fun c ob q n hx => by
    obtain ⟨o', e1⟩ := a.there c ob q hx
    exact b.free c o' e1 (a.free c ob q n hx) hx
  there := fun c ob q hx => by
    obtain ⟨o', e1⟩ := a.there c ob q hx
    exact b.there c o' e1 hx
  tups := fun c xs q => b.tups c xs (a.tups c xs q)
  frzs := fun c ob xs q => b.frzs c ob xs (a.frzs c ob xs q)
  tbls := fun c ps q => by
    obtain ⟨m1, e1⟩ := a.tbls c ps q
    obtain ⟨m2, e2⟩ := b.tbls c _ e1
    exact ⟨m1 ++ m2, by rw [e2, Array.append_assoc]⟩
theorem Un.kept (k : ∀ b u, h.get? b = some u → h'.get? b = some u) : Un fs ex H H h h' :=
  ⟨fun b ob q _ _ _ => k b ob q, fun b ob q _ _ _ => ⟨ob.slots, k b ob q⟩, fun _ _ _ n _ => n, fun b ob q _ => ⟨ob, k b ob q⟩, fun _ _ q => q, fun _ _ _ q => q, fun _ ps q => ⟨#[], by rw [q]; simp⟩⟩
theorem Un.refl : Un fs ex H H h h := Un.kept fun _ _ q => q
theorem Un.laid (k : ∀ b u, h.get? b = some u → h'.get? b = some u) (hp : h.objs.size ≤ a) (hn : H a = none) : Un fs ex H (upd H a o) h h' where
  keep := fun b u q _ _ _ => k b u q
  slot := fun b u q _ _ _ => ⟨u.slots, k b u q⟩
  free := fun b u q n _ => by rw [upd_ne (Nat.ne_of_lt (Nat.lt_of_lt_of_le (Heap.lt_size q) hp))]; exact n
  there := fun b u q _ => ⟨u, k b u q⟩
  tups := fun b xs q => by rw [upd_ne (ne_of_none q hn)]; exact q
  frzs := fun b u xs q => by rw [upd_ne (ne_of_none q hn)]; exact q
  tbls := fun b ps q => ⟨#[], by rw [upd_ne (ne_of_none q hn), q]; simp⟩
theorem Un.write (mu : Mut (H x)) (he : e = x ∨ H e = some (.own x)) (k : ∀ b u, b ≠ e → h.get? b = some u → h'.get? b = some u) (heo : ∃ u, h'.get? e = some u) : Un fs ex H (upd H x o) h h' := by
  have hx : ∀ b, H b = none → b ≠ x := fun b n z => by subst z; rw [n] at mu; exact mu
  have hb : ∀ b, H b = none → b ≠ e := fun b n z => by
    subst z
    rcases he with r | r
    · exact hx b n r
    · rw [n] at r; cases r
  have hm : ∀ b u, H b = some u → ¬ Mut (some u) → b ≠ x := fun b u q nm z => by subst z; rw [q] at mu; exact nm mu
  refine ⟨fun b u q n _ _ => k b u (hb b n) q, fun b u q n _ _ => ⟨u.slots, k b u (hb b n) q⟩, fun b u q n _ => by rw [upd_ne (hx b n)]; exact n, fun b u q _ => ?_,
    fun b xs q => by rw [upd_ne (hm b _ q fun z => z)]; exact q, fun b u xs q => by rw [upd_ne (hm b _ q fun z => z)]; exact q, fun b ps q => ⟨#[], by rw [upd_ne (hm b _ q fun z => z), q]; simp⟩⟩
  by_cases hbe : b = e
  · subst hbe; exact heo
  · exact ⟨u, k b u hbe q⟩
theorem Un.mono (u : Un fs ex H H1 h h1) (hs : ∀ b ∈ fs, b ∈ fs') (hx : ∀ b ∈ ex, b ∈ ex') : Un fs' ex' H H1 h h1 :=
  ⟨fun b ob q n hb he => u.keep b ob q n (fun z => hb (hs b z)) fun z => he (hx b z), fun _ _ q n _ he => u.any q n fun z => he (hx _ z), fun b ob q n he => u.free b ob q n fun z => he (hx b z), fun b ob q he => u.there b ob q fun z => he (hx b z), u.tups, u.frzs, u.tbls⟩
end

def trk (h : Heap) (H : Hp) : List Addr := (List.range h.objs.size).filter fun a => (H a).isSome
def hidT (h : Heap) (H : Hp) : Heap := PySem.W.hideAll h (trk h H)
theorem hidT_size (h : Heap) (H : Hp) : (hidT h H).objs.size = h.objs.size := PySem.W.hideAll_size _ _
theorem hidT_get {h : Heap} {H : Hp} {b : Addr} {o : Obj} (e : h.get? b = some o) (n : H b = none) : (hidT h H).get? b = some o :=
  PySem.W.hideAll_get _ e fun hm => by
    have q : (H b).isSome = true := (List.mem_filter.mp hm).2
    rw [n] at q; simp at q
theorem of_hidT {h : Heap} {H : Hp} {b : Addr} {o : Obj} (e : (hidT h H).get? b = some o) : h.get? b = some o ∧ H b = none := by
  have e' : h.get? b = some o := PySem.W.of_hideAll (trk h H) e
  refine ⟨e', ?_⟩
  cases q : H b with
  | none => rfl
  | some x =>
    have hm : b ∈ trk h H := List.mem_filter.mpr ⟨List.mem_range.mpr (Heap.lt_size e'), by simp [q]⟩
    have z : (hidT h H).get? b = none := PySem.W.hideAll_none (trk h H) hm
    rw [z] at e; cases e

def allNews (g h : Heap) (L : Addr) : List (Addr × Obj) := (List.range h.objs.size).filterMap fun a => if a = L ∨ (g.get? a).isSome = true then none else (h.get? a).map fun o => (a, o)
def rest (g h : Heap) (L d : Addr) : List (Addr × Obj) := (allNews g h L).filter fun p => decide (p.1 ≠ d)
end L2

namespace L2
open PySem PySem.Spec PyProof.Rows

/-- the module's facts, over the base: the heap at the law's entry without what is tracked there -/
structure Mod (K : PySem.W.Frag) (mg : Str → Option Value) (base : Heap) : Prop where
  kin : K.In base
  glob : base.Ns mainGlobals mg
  blt : ∃ mb, base.Ns builtinsNs mb ∧ ∀ x : Str, x ≠ "__name__" → mb x = bootBuiltins x
  nolimit : base.NoLimit

/-- the context: a def's body (or a comprehension's block) running. base: fixed through the whole law; s₀, H₀: the entry; outer: the frames whose slots others may change (a def's callers); stack: all frames that run;
   ex: iterators that were made ahead of the entry and are walked here (a comprehension's); fn: the names whose cells were made at the entry (a def: all; a comprehension's block: its own); calm: not within an except suite; pn: pins that every state bears; xe: what is wanted of an exception that leaves the code -/
structure Cx where
  prog : Program
  w : World
  K : PySem.W.Frag
  mg : Str → Option Value
  base : Heap
  A : Around
  N : List Str
  s₀ : Shared
  H₀ : Hp
  env : Env
  outer : List Env
  stack : List Env
  ex : List Addr
  fn : Str → Bool
  calm : Bool
  pn : List (Addr × Obj)
  xe : Value → Shared → Prop
/-- the callers' frames -/
def frs (l : List Env) : List Addr := l.filterMap (·.frame)
abbrev Cx.fs (X : Cx) : List Addr := frs X.outer

def Vis (sc : Scope) (x : Str) : Prop := sc.names.lookup x = some .local ∨ sc.names.lookup x = some .cell ∨ sc.names.lookup x = some .free
def Loc (sc : Scope) (x : Str) : Prop := sc.names.lookup x = some .local ∨ sc.names.lookup x = some .cell
def Look (env : Env) (h : Heap) (m : Str → Option Value) (x : Str) (u : Value) : Prop :=
  (env.kindOf x = some .local ∧ m x = some u) ∨ ((env.kindOf x = some .cell ∨ env.kindOf x = some .free) ∧ ∃ c, env.cells.lookup x = some c ∧ h.IsCell c (some u))

structure Cx.Ok (X : Cx) : Prop where
  mod : Mod X.K X.mg X.base
  kind : X.env.scope.kind = .function
  glob : X.env.globals = mainGlobals
  blt : X.env.builtins = builtinsNs
  above : X.s₀.heap.objs.size ≤ X.env.locals
  inj : ∀ x y c, X.env.cells.lookup x = some c → X.env.cells.lookup y = some c → x = y
  has : ∀ x, (X.env.kindOf x = some .cell ∨ X.env.kindOf x = some .free) → ∃ c, X.env.cells.lookup x = some c
  cab : ∀ x c, X.fn x = true → X.env.cells.lookup x = some c → X.s₀.heap.objs.size ≤ c
  hd : X.calm = true → X.A.handled = none
  frames : X.A.frames = some X.stack
  stk : X.stack = X.outer ∨ (X.stack = X.env :: X.outer ∧ X.env.frame = some X.env.locals)
  exf : ∀ b ∈ X.ex, b ≠ X.env.locals ∧ ∀ x c, X.env.cells.lookup x = some c → c ≠ b
  bs : ∀ b o, X.base.get? b = some o → X.s₀.heap.get? b = some o ∧ X.H₀ b = none
  bsz : X.base.objs.size ≤ X.s₀.heap.objs.size
  noex : ∀ b o, X.base.get? b = some o → b ∉ X.ex
  exfs : ∀ b ∈ X.ex, b ∉ X.fs
  funs : X.s₀.heap.FunFrames X.base X.outer
  frf : ∀ b ∈ X.fs, X.H₀ b = none

structure Inv (X : Cx) (pins : List (Addr × Obj)) (σ : List (Option V)) (H : Hp) (s : Shared) : Prop where
  ok : X.Ok
  os : s.os = X.s₀.os
  bare : AllBare s.gens
  base : Un X.fs X.ex X.H₀ H X.s₀.heap s.heap
  loc : ∃ m, s.heap.Ns X.env.locals m ∧ ∀ (i : Nat) (x : Str) (v : V), X.N[i]? = some x → σ[i]? = some (some v) → Vis X.env.scope x → ∃ u, RelV v u ∧ Look X.env s.heap m x u
  cell : ∀ x c, X.env.cells.lookup x = some c → ∃ v, s.heap.IsCell c v
  free : H X.env.locals = none
  freeC : ∀ x c, X.env.cells.lookup x = some c → H c = none
  pin : ∀ p ∈ X.pn ++ pins, s.heap.get? p.1 = some p.2 ∧ H p.1 = none ∧ p.1 ≠ X.env.locals ∧ p.1 ∉ X.fs ∧ ∀ v, p.2.data ≠ .cell v
  hok : HOk X.prog X.w H s.heap
  len : σ.length = X.N.length

section
variable {X : Cx} {pins : List (Addr × Obj)} {σ : List (Option V)} {H H' : Hp} {s : Shared} {h' : Heap}

theorem Cx.Ok.nofr (ok : X.Ok) {b : Addr} {o : Obj} (e : X.base.get? b = some o) : b ∉ X.fs := fun hb => by
  have := (ok.funs.mem hb).1
  rw [e] at this; cases this
theorem Inv.bs (I : Inv X pins σ H s) : ∀ b o, X.base.get? b = some o → s.heap.get? b = some o ∧ H b = none := fun b o e =>
  ⟨I.base.keep b o (I.ok.bs b o e).1 (I.ok.bs b o e).2 (I.ok.nofr e) (I.ok.noex b o e), I.base.free b o (I.ok.bs b o e).1 (I.ok.bs b o e).2 (I.ok.noex b o e)⟩
theorem Inv.bk (I : Inv X pins σ H s) : ∀ b o, X.base.get? b = some o → s.heap.get? b = some o := fun b o e => (I.bs b o e).1
theorem Inv.mod (I : Inv X pins σ H s) : Mod X.K X.mg X.base := I.ok.mod
theorem Inv.kIn (I : Inv X pins σ H s) : X.K.In s.heap := I.ok.mod.kin.keeps I.bk
theorem Inv.nolimit (I : Inv X pins σ H s) : s.heap.NoLimit := I.ok.mod.nolimit.keeps I.bk
/-- the frame over the base: for OpenK's rules (K.In X.base is I.mod.kin) -/
theorem Inv.fr (I : Inv X pins σ H s) : ∃ m, Fr X.base X.env.locals s.heap m :=
  let ⟨m, hn, _⟩ := I.loc
  ⟨m, hn, I.bk, Nat.le_trans I.ok.bsz I.ok.above⟩
theorem Inv.lt (I : Inv X pins σ H s) : X.env.locals < s.heap.objs.size := let ⟨_, hn, _⟩ := I.loc; hn.lt
theorem Inv.sz (I : Inv X pins σ H s) : X.s₀.heap.objs.size ≤ s.heap.objs.size := Nat.le_trans I.ok.above (Nat.le_of_lt I.lt)
theorem Inv.nofs (I : Inv X pins σ H s) {a : Addr} (h : s.heap.objs.size ≤ a) : a ∉ X.fs := fun hb => by
  obtain ⟨_, o, ho, _⟩ := I.ok.funs.mem hb
  exact absurd (Nat.lt_of_lt_of_le (Heap.lt_size ho) (Nat.le_trans I.sz h)) (Nat.lt_irrefl _)
theorem Inv.cne (I : Inv X pins σ H s) : ∀ x c, X.env.cells.lookup x = some c → c ≠ X.env.locals := fun x c e z => by
  obtain ⟨v, o, ho, hd⟩ := I.cell x c e
  obtain ⟨m, ⟨o', es, ep, ho', hd', _⟩, _⟩ := I.loc
  rw [z, ho'] at ho; cases ho; rw [hd'] at hd; cases hd
theorem Inv.funs (I : Inv X pins σ H s) : s.heap.FunFrames X.base X.outer := by
  have all : ∀ (l : List Env), (∀ b ∈ frs l, b ∈ X.fs) → X.s₀.heap.FunFrames X.base l → s.heap.FunFrames X.base l := by
    intro l
    induction l with
    | nil => intro _ _; trivial
    | cons env r ih =>
      intro hs hl
      obtain ⟨hk, ⟨L, o, hf, hn, ho, hd⟩, hr⟩ := hl
      have hL : L ∈ X.fs := hs L (by unfold frs; rw [List.filterMap_cons, hf]; exact List.mem_cons_self)
      obtain ⟨sl, e⟩ := I.base.slot L o ho (I.ok.frf L hL) hL fun z => I.ok.exfs L z hL
      exact ⟨hk, ⟨L, _, hf, hn, e, hd⟩, ih (fun b hb => hs b (by unfold frs; rw [List.filterMap_cons, hf]; exact List.mem_cons_of_mem _ hb)) hr⟩
  exact all X.outer (fun _ hb => hb) I.ok.funs

/-- the frames that run, for a call -/
theorem Inv.stack (I : Inv X pins σ H s) : s.heap.FunFrames X.base X.stack := by
  rcases I.ok.stk with e | ⟨e, hf⟩
  · rw [e]; exact I.funs
  · rw [e]
    obtain ⟨m, hn, _⟩ := I.loc
    refine .cons (by rw [I.ok.kind]; decide) hf hn ?_ I.funs
    exact Heap.get?_none_of_le (Nat.le_trans I.ok.bsz I.ok.above)
theorem Inv.stkSub (I : Inv X pins σ H s) : ∀ b ∈ frs X.stack, b ∈ X.env.locals :: X.fs := fun b hb => by
  rcases I.ok.stk with e | ⟨e, hf⟩
  · rw [e] at hb; exact List.mem_cons_of_mem _ hb
  · rw [e] at hb
    unfold frs at hb
    rw [List.filterMap_cons, hf] at hb
    exact hb
theorem Inv.stkFree (I : Inv X pins σ H s) : ∀ b ∈ frs X.stack, H b = none := fun b hb => by
  rcases List.mem_cons.mp (I.stkSub b hb) with e | hb
  · rw [e]; exact I.free
  · obtain ⟨_, o, ho, _⟩ := I.ok.funs.mem hb
    exact I.base.free b o ho (I.ok.frf b hb) fun z => I.ok.exfs b z hb

/-- THE STEP: the untracked objects but the frame and the records at ch are kept (the callers' frames up to slots), the frame's map is kept, the new abstract heap is held -/
theorem Inv.step {g' : Array GenState} {t' : Nat} {d' : Drawn} {ch : List Addr} (I : Inv X pins σ H s)
    (hch : ∀ b ∈ ch, (b ∈ X.ex ∨ X.s₀.heap.objs.size ≤ b) ∧ b ≠ X.env.locals ∧ (∀ x c, X.env.cells.lookup x = some c → c ≠ b) ∧ ∀ p ∈ X.pn ++ pins, p.1 ≠ b)
    (keep : ∀ b o, b ≠ X.env.locals → b ∉ X.fs → b ∉ ch → s.heap.get? b = some o → H b = none → h'.get? b = some o)
    (slot : ∀ b o, b ≠ X.env.locals → b ∈ X.fs → b ∉ ch → s.heap.get? b = some o → H b = none → ∃ sl, h'.get? b = some { o with slots := sl }) (free : ∀ b o, b ∉ ch → s.heap.get? b = some o → H b = none → H' b = none)
    (there : ∀ b o, b ∉ ch → s.heap.get? b = some o → ∃ o', h'.get? b = some o')
    (tups : ∀ b xs, H b = some (.tup xs) → H' b = some (.tup xs)) (frzs : ∀ b o u, H b = some (.frz o u) → H' b = some (.frz o u)) (tbls : ∀ b ps, H b = some (.tbl ps) → ∃ more, H' b = some (.tbl (ps ++ more)))
    (ns : ∀ m, s.heap.Ns X.env.locals m → h'.Ns X.env.locals m) (hok : HOk X.prog X.w H' h') (hg : AllBare g') :
    Inv X pins σ H' { s with heap := h', gens := g', drawn := d', toks := t' } := by
  have neL : ∀ b o, X.s₀.heap.get? b = some o → b ≠ X.env.locals := fun b o e => Nat.ne_of_lt (Nat.lt_of_lt_of_le (Heap.lt_size e) I.ok.above)
  have neC : ∀ b o, X.s₀.heap.get? b = some o → b ∉ X.ex → b ∉ ch := fun b o e hx hb => by
    rcases (hch b hb).1 with z | z
    · exact hx z
    · exact absurd (Nat.lt_of_lt_of_le (Heap.lt_size e) z) (Nat.lt_irrefl _)
  have cellK : ∀ x c, X.env.cells.lookup x = some c → ∀ v, s.heap.IsCell c v → h'.IsCell c v := fun x c e v ⟨o, ho, hd⟩ => by
    have nch : c ∉ ch := fun z => (hch c z).2.2.1 x c e rfl
    by_cases hc : c ∈ X.fs
    · obtain ⟨sl, q⟩ := slot c o (I.cne x c e) hc nch ho (I.freeC x c e)
      exact ⟨_, q, hd⟩
    · exact ⟨o, keep c o (I.cne x c e) hc nch ho (I.freeC x c e), hd⟩
  refine ⟨I.ok, I.os, hg, ⟨fun b o e n hb hx => ?_, fun b o e n hb hx => ?_, fun b o e n hx => ?_, fun b o e hx => ?_, fun b xs e => tups b xs (I.base.tups b xs e), fun b o xs e => frzs b o xs (I.base.frzs b o xs e), fun b ps e => ?_⟩, ?_, fun x c e => ?_, ?_, fun x c e => ?_, fun p hp => ?_, hok, I.len⟩
  · exact keep b o (neL b o e) hb (neC b o e hx) (I.base.keep b o e n hb hx) (I.base.free b o e n hx)
  · obtain ⟨sl, e1⟩ := I.base.slot b o e n hb hx
    obtain ⟨sl', e2⟩ := slot b _ (neL b o e) hb (neC b o e hx) e1 (I.base.free b o e n hx)
    exact ⟨sl', e2⟩
  · obtain ⟨o', e1⟩ := I.base.there b o e hx
    exact free b o' (neC b o e hx) e1 (I.base.free b o e n hx)
  · obtain ⟨o', e1⟩ := I.base.there b o e hx
    exact there b o' (neC b o e hx) e1
  · obtain ⟨m1, e1⟩ := I.base.tbls b ps e
    obtain ⟨m2, e2⟩ := tbls b _ e1
    exact ⟨m1 ++ m2, by rw [e2, Array.append_assoc]⟩
  · obtain ⟨m, hn, hl⟩ := I.loc
    refine ⟨m, ns m hn, fun i x v e1 e2 e3 => ?_⟩
    obtain ⟨u, r, l⟩ := hl i x v e1 e2 e3
    refine ⟨u, r, ?_⟩
    rcases l with l | ⟨k, c, e, z⟩
    · exact .inl l
    · exact .inr ⟨k, c, e, cellK x c e _ z⟩
  · obtain ⟨v, z⟩ := I.cell x c e
    exact ⟨v, cellK x c e v z⟩
  · obtain ⟨m, ⟨o, _, _, ho, _⟩, _⟩ := I.loc
    exact free _ o (fun z => (hch _ z).2.1 rfl) ho I.free
  · obtain ⟨v, o, ho, hd⟩ := I.cell x c e
    exact free c o (fun z => (hch c z).2.2.1 x c e rfl) ho (I.freeC x c e)
  · obtain ⟨e, n, ne, nf, d⟩ := I.pin p hp
    have nch : p.1 ∉ ch := fun z => (hch p.1 z).2.2.2 p hp rfl
    exact ⟨keep p.1 p.2 ne nf nch e n, free p.1 p.2 nch e n, ne, nf, d⟩
/-- .. where the frame's own object is kept too -/
theorem Inv.un {t' : Nat} (I : Inv X pins σ H s) (u : Un X.fs [] H H' s.heap h') (hok : HOk X.prog X.w H' h') : Inv X pins σ H' { s with heap := h', toks := t' } := by
  obtain ⟨m, ⟨o, es, ep, ho, r⟩, _⟩ := id I.loc
  obtain ⟨sl, hL⟩ := u.any ho I.free (by simp)
  exact I.step (g' := s.gens) (d' := s.drawn) (ch := []) (fun _ z => nomatch z) (fun b o _ hb _ e n => u.keep b o e n hb (by simp)) (fun b o _ hb _ e n => u.slot b o e n hb (by simp)) (fun b o _ e n => u.free b o e n (by simp)) (fun b o _ e => u.there b o e (by simp)) u.tups u.frzs u.tbls (fun m' hm => by
    obtain ⟨o', es', ep', ho', r'⟩ := hm
    rw [ho] at ho'; cases ho'
    exact ⟨_, es', ep', hL, r'⟩) hok I.bare
/-- behind a call (or a comprehension's block): the slots of this frame may have changed too, the records at ch may have turned -/
theorem Inv.call {g' : Array GenState} {t' : Nat} {d' : Drawn} {ch : List Addr} (I : Inv X pins σ H s) (u : Un (frs X.stack) ch H H' s.heap h') (hok : HOk X.prog X.w H' h') (hg : AllBare g')
    (hch : ∀ b ∈ ch, (b ∈ X.ex ∨ X.s₀.heap.objs.size ≤ b) ∧ b ≠ X.env.locals ∧ (∀ x c, X.env.cells.lookup x = some c → c ≠ b) ∧ ∀ p ∈ X.pn ++ pins, p.1 ≠ b) :
    Inv X pins σ H' { s with heap := h', gens := g', drawn := d', toks := t' } := by
  obtain ⟨m, ⟨o, es, ep, ho, r⟩, _⟩ := id I.loc
  obtain ⟨sl, hL⟩ := u.any ho I.free fun z => (hch _ z).2.1 rfl
  exact I.step (ch := ch) hch (fun b o hL hb hc e n => u.keep b o e n (fun z => (List.mem_cons.mp (I.stkSub b z)).elim hL hb) hc) (fun b o _ _ hc e n => u.any e n hc) (fun b o hc e n => u.free b o e n hc) (fun b o hc e => u.there b o e hc) u.tups u.frzs u.tbls (fun m' hm => by
    obtain ⟨o', es', ep', ho', r'⟩ := hm
    rw [ho] at ho'; cases ho'
    exact ⟨_, es', ep', hL, r'⟩) hok hg
/-- an untracked record of ours (an iterator) has turned -/
theorem Inv.turned {t' : Nat} {it : Addr} (I : Inv X pins σ H s) (k : ∀ b o, b ≠ it → s.heap.get? b = some o → h'.get? b = some o) (hn : H it = none) (hL : it ≠ X.env.locals)
    (h1 : it ∈ X.ex ∨ X.s₀.heap.objs.size ≤ it) (h2 : ∀ x c, X.env.cells.lookup x = some c → c ≠ it) (h3 : ∀ p ∈ X.pn ++ pins, p.1 ≠ it) : Inv X pins σ H { s with heap := h', toks := t' } := by
  have nit : ∀ b u, H b = some u → b ≠ it := fun b u e z => by rw [z, hn] at e; cases e
  refine I.step (g' := s.gens) (d' := s.drawn) (ch := [it]) (fun b hb => ?_) (fun b o _ _ hc e _ => k b o (fun z => hc (by simp [z])) e) (fun b o _ _ hc e _ => ⟨o.slots, k b o (fun z => hc (by simp [z])) e⟩) (fun _ _ _ _ n => n)
    (fun b o hc e => ⟨o, k b o (fun z => hc (by simp [z])) e⟩) (fun _ _ e => e) (fun _ _ _ e => e) (fun b ps e => ⟨#[], by rw [e]; simp⟩) (fun m hm => ?_) (fun b u e => ?_) I.bare
  · have e : b = it := by simpa using hb
    subst e
    exact ⟨h1, hL, h2, h3⟩
  · obtain ⟨o, es, ep, ho, r⟩ := hm
    exact ⟨o, es, ep, k _ o (Ne.symm hL) ho, r⟩
  · refine (I.hok b u e).stay (fun c v hc q => k c v ?_ q) (fun _ q => q) fun _ _ q => q
    rcases hc with z | z
    · rw [z]; exact nit b u e
    · exact nit c _ z
theorem Inv.tok (I : Inv X pins σ H s) (t : Nat) : Inv X pins σ H { s with toks := t } := I.un (h' := s.heap) (t' := t) Un.refl I.hok
/-- all objects kept -/
theorem Inv.kept {t' : Nat} (I : Inv X pins σ H s) (k : ∀ b u, s.heap.get? b = some u → h'.get? b = some u) : Inv X pins σ H { s with heap := h', toks := t' } := I.un (Un.kept k) (I.hok.kept k)
/-- a new object laid and tracked -/
theorem Inv.laid {a : Addr} {o : HO} {t' : Nat} (I : Inv X pins σ H s) (k : ∀ b u, s.heap.get? b = some u → h'.get? b = some u) (hp : s.heap.objs.size ≤ a) (new : ObjOk X.prog X.w (upd H a o) h' a o) :
    Inv X pins σ (upd H a o) { s with heap := h', toks := t' } := I.un (Un.laid k hp (I.hok.fresh hp)) (I.hok.laid k hp new)
/-- an object written -/
theorem Inv.write {x e : Addr} {o : HO} {t' : Nat} (I : Inv X pins σ H s) (mu : Mut (H x)) (he : e = x ∨ H e = some (.own x)) (k : ∀ b u, b ≠ e → s.heap.get? b = some u → h'.get? b = some u) (heo : ∃ u, h'.get? e = some u)
    (new : ObjOk X.prog X.w (upd H x o) h' x o) : Inv X pins σ (upd H x o) { s with heap := h', toks := t' } := I.un (Un.write mu he k heo) (I.hok.write mu he k heo new)
theorem Inv.pins_of {pins' : List (Addr × Obj)} (I : Inv X pins σ H s) (h : ∀ p ∈ pins', s.heap.get? p.1 = some p.2 ∧ H p.1 = none ∧ p.1 ≠ X.env.locals ∧ p.1 ∉ X.fs ∧ ∀ v, p.2.data ≠ .cell v) : Inv X pins' σ H s :=
  ⟨I.ok, I.os, I.bare, I.base, I.loc, I.cell, I.free, I.freeC, fun p hp => (List.mem_append.mp hp).elim (fun z => I.pin p (List.mem_append_left _ z)) (h p), I.hok, I.len⟩

theorem nodup_ix {N : List Str} (hN : N.Nodup) {i j : Nat} {x : Str} (a : N[i]? = some x) (b : N[j]? = some x) : i = j := by
  obtain ⟨h1, e1⟩ := List.getElem?_eq_some_iff.mp a
  obtain ⟨h2, e2⟩ := List.getElem?_eq_some_iff.mp b
  exact (List.getElem_inj hN).mp (e1.trans e2.symm)

/-- a name is stored; what changed -/
theorem store_ok2 {M : Model} {A : Around} {E : Value → Shared → Prop} {i : Nat} {x : Str} {v : V} {u : Value} {Q : Unit → Shared → Prop} (I : Inv X pins σ H s) (hN : X.N.Nodup) (hi : X.N[i]? = some x) (hx : Loc X.env.scope x) (r : RelV v u)
    (h : ∀ s', Inv X pins (σ.set i (some v)) H s' → (∃ a, Heap.SameBut a s.heap s'.heap ∧ (a = X.env.locals ∨ X.env.cells.lookup x = some a)) → Q () s') (hf : X.fn x = true ∨ X.env.scope.names.lookup x = some .local := by first | exact .inl rfl | exact .inr rfl | assumption) : wpAny M A (storeName X.env x u) Q E s := by
  obtain ⟨m, hn, hl⟩ := id I.loc
  have hcls : (X.env.scope.kind == .class || (X.env.scope.kind == .module && X.env.locals != X.env.globals)) = false := by rw [I.ok.kind]; rfl
  have hiσ : i < σ.length := by rw [I.len]; exact (List.getElem?_eq_some_iff.mp hi).1
  have cne := I.cne
  have tracked : ∀ {a : Addr} {h' : Heap}, (∃ o, s.heap.get? a = some o ∧ H a = none) → Heap.SameBut a s.heap h' → HOk X.prog X.w H h' := fun {a h'} ha hs b ob e => by
    obtain ⟨_, _, hfree⟩ := ha
    refine (I.hok b ob e).stay (fun c w' hc q => (hs.2 c ?_).trans q) (fun _ q => q) fun _ _ q => q
    rintro rfl
    rcases hc with rfl | hc
    · rw [hfree] at e; cases e
    · rw [hfree] at hc; cases hc
  rcases hx with hk | hk
  · refine wpAny_storeName_local hk hn (fun h' hn' hs => ?_) hcls
    obtain ⟨oL, _, _, hoL, _⟩ := id hn
    refine h _ ⟨I.ok, I.os, I.bare, ⟨fun b o e n hb hx => ?_, fun b o e n hb hx => ?_, I.base.free, fun b o e hx => ?_, I.base.tups, I.base.frzs, I.base.tbls⟩, ⟨_, hn', fun j y v' e1 e2 e3 => ?_⟩, fun y c e => ?_, I.free, I.freeC, fun p hp => ?_, tracked ⟨oL, hoL, I.free⟩ hs, by simpa using I.len⟩ ⟨_, hs, .inl rfl⟩
    · exact (hs.2 b (Nat.ne_of_lt (Nat.lt_of_lt_of_le (Heap.lt_size e) I.ok.above))).trans (I.base.keep b o e n hb hx)
    · obtain ⟨sl, e1⟩ := I.base.slot b o e n hb hx
      exact ⟨sl, (hs.2 b (Nat.ne_of_lt (Nat.lt_of_lt_of_le (Heap.lt_size e) I.ok.above))).trans e1⟩
    · obtain ⟨o', e1⟩ := I.base.there b o e hx
      exact ⟨o', (hs.2 b (Nat.ne_of_lt (Nat.lt_of_lt_of_le (Heap.lt_size e) I.ok.above))).trans e1⟩
    · by_cases hj : j = i
      · subst hj
        rw [hi] at e1; cases e1
        rw [List.getElem?_set_self hiσ] at e2
        cases e2
        exact ⟨u, r, .inl ⟨hk, by simp⟩⟩
      · rw [List.getElem?_set_ne (Ne.symm hj)] at e2
        obtain ⟨u', r', q⟩ := hl j y v' e1 e2 e3
        refine ⟨u', r', ?_⟩
        rcases q with ⟨k, e⟩ | ⟨k, c, e, z⟩
        · refine .inl ⟨k, ?_⟩
          have : y ≠ x := fun e => hj (nodup_ix hN e1 (e ▸ hi))
          simp [this, e]
        · exact .inr ⟨k, c, e, z.sameBut hs (cne y c e)⟩
    · obtain ⟨w', z⟩ := I.cell y c e
      exact ⟨w', z.sameBut hs (cne y c e)⟩
    · obtain ⟨e, n, ne, nf, d⟩ := I.pin p hp
      exact ⟨(hs.2 p.1 ne).trans e, n, ne, nf, d⟩
  · have hfn : X.fn x = true := by
      rcases hf with z | z
      · exact z
      · rw [z] at hk; cases hk
    obtain ⟨c, hc⟩ := I.ok.has x (.inl hk)
    obtain ⟨w', z⟩ := I.cell x c hc
    refine wpAny_storeName_cell I.ok.kind hk hc z (fun h' hc' hs => ?_)
    obtain ⟨oc, hoc, hocd⟩ := id z
    refine h { s with heap := h' } ⟨I.ok, I.os, I.bare, ⟨fun b o e n hb hx => ?_, fun b o e n hb hx => ?_, I.base.free, fun b o e hx => ?_, I.base.tups, I.base.frzs, I.base.tbls⟩, ⟨m, hn.sameBut hs (Ne.symm (cne x c hc)), fun j y v' e1 e2 e3 => ?_⟩, fun y c' e => ?_, I.free, I.freeC, fun p hp => ?_, tracked ⟨oc, hoc, I.freeC x c hc⟩ hs, by simpa using I.len⟩ ⟨c, hs, .inr hc⟩
    · exact (hs.2 b (Nat.ne_of_lt (Nat.lt_of_lt_of_le (Heap.lt_size e) (I.ok.cab x c hfn hc)))).trans (I.base.keep b o e n hb hx)
    · obtain ⟨sl, e1⟩ := I.base.slot b o e n hb hx
      exact ⟨sl, (hs.2 b (Nat.ne_of_lt (Nat.lt_of_lt_of_le (Heap.lt_size e) (I.ok.cab x c hfn hc)))).trans e1⟩
    · obtain ⟨o', e1⟩ := I.base.there b o e hx
      exact ⟨o', (hs.2 b (Nat.ne_of_lt (Nat.lt_of_lt_of_le (Heap.lt_size e) (I.ok.cab x c hfn hc)))).trans e1⟩
    · by_cases hj : j = i
      · subst hj
        rw [hi] at e1; cases e1
        rw [List.getElem?_set_self hiσ] at e2
        cases e2
        exact ⟨u, r, .inr ⟨.inl hk, c, hc, hc'⟩⟩
      · rw [List.getElem?_set_ne (Ne.symm hj)] at e2
        obtain ⟨u', r', q⟩ := hl j y v' e1 e2 e3
        refine ⟨u', r', ?_⟩
        rcases q with q | ⟨k, c', e, z'⟩
        · exact .inl q
        · refine .inr ⟨k, c', e, z'.sameBut hs ?_⟩
          rintro rfl
          exact hj (nodup_ix hN e1 (I.ok.inj _ _ _ e hc ▸ hi))
    · by_cases hcc : c' = c
      · subst hcc; exact ⟨_, hc'⟩
      · obtain ⟨w2, z2⟩ := I.cell y c' e
        exact ⟨w2, z2.sameBut hs hcc⟩
    · obtain ⟨e, n, ne, nf, d⟩ := I.pin p hp
      refine ⟨(hs.2 p.1 ?_).trans e, n, ne, nf, d⟩
      intro q
      rw [q, hoc] at e
      have q' : oc = p.2 := Option.some.inj e
      exact d w' (by rw [← q']; exact hocd)
theorem store_ok {M : Model} {A : Around} {E : Value → Shared → Prop} {i : Nat} {x : Str} {v : V} {u : Value} {Q : Unit → Shared → Prop} (I : Inv X pins σ H s) (hN : X.N.Nodup) (hi : X.N[i]? = some x) (hx : Loc X.env.scope x) (r : RelV v u)
    (h : ∀ s', Inv X pins (σ.set i (some v)) H s' → Q () s') (hf : X.fn x = true ∨ X.env.scope.names.lookup x = some .local := by first | exact .inl rfl | exact .inr rfl | assumption) : wpAny M A (storeName X.env x u) Q E s :=
  store_ok2 I hN hi hx r (fun s' I' _ => h s' I') hf
/-- behind a call or a block, the state as it is -/
theorem Inv.call' {s' : Shared} {ch : List Addr} (I : Inv X pins σ H s) (ho : s'.os = s.os) (u : Un (frs X.stack) ch H H' s.heap s'.heap) (hok : HOk X.prog X.w H' s'.heap) (hg : AllBare s'.gens)
    (hch : ∀ b ∈ ch, (b ∈ X.ex ∨ X.s₀.heap.objs.size ≤ b) ∧ b ≠ X.env.locals ∧ (∀ x c, X.env.cells.lookup x = some c → c ≠ b) ∧ ∀ p ∈ X.pn ++ pins, p.1 ≠ b) : Inv X pins σ H' s' := by
  obtain ⟨h', g', d', t', o'⟩ := s'
  have e : o' = s.os := ho
  subst e
  exact I.call (g' := g') (t' := t') (d' := d') u hok hg hch
end

/-- an exception: its class, its own dict's address (where it has one), the abstract heap behind it -/
abbrev XK := Value → Option Addr → Hp → Prop
abbrev St := List (Option V)
abbrev VK := V → Hp → Prop
/-- an expression's reading; a test's; an argument list's -/
abbrev TE := St → Hp → VK → Prop
abbrev TT := St → Hp → (Bool → Hp → Prop) → Prop
abbrev TA := St → Hp → (List V → Hp → Prop) → Prop
/-- what is wanted behind a statement -/
structure Ends where
  nx : St → Hp → Prop
  rt : VK
  bk : St → Hp → Prop := fun _ _ => False
  ct : St → Hp → Prop := fun _ _ => False
abbrev TS := Ends → St → Hp → Prop

def EP (X : Cx) (pins : List (Addr × Obj)) (σ : St) (Q : VK) (u : Value) (s' : Shared) : Prop := ∃ v H', Inv X pins σ H' s' ∧ RelV v u ∧ Q v H'
def TP (X : Cx) (pins : List (Addr × Obj)) (σ : St) (Q : Bool → Hp → Prop) (b : Bool) (s' : Shared) : Prop := ∃ H', Inv X pins σ H' s' ∧ Q b H'
def AP (X : Cx) (pins : List (Addr × Obj)) (σ : St) (Q : List V → Hp → Prop) (us : List Value) (s' : Shared) : Prop := ∃ vs H', Inv X pins σ H' s' ∧ Vals vs us ∧ Q vs H'
def SP (X : Cx) (pins : List (Addr × Obj)) (D : Ends) (f : Flow) (s' : Shared) : Prop :=
  match f with
  | .next => ∃ σ' H', Inv X pins σ' H' s' ∧ D.nx σ' H'
  | .brk => ∃ σ' H', Inv X pins σ' H' s' ∧ D.bk σ' H'
  | .cont => ∃ σ' H', Inv X pins σ' H' s' ∧ D.ct σ' H'
  | .ret u => ∃ v σ' H', Inv X pins σ' H' s' ∧ RelV v u ∧ D.rt v H'

def PE (X : Cx) (e : Expr) (t : TE) : Prop :=
  ∀ (pins : List (Addr × Obj)) (s : Shared) (σ : St) (H : Hp) (Q : VK), Inv X pins σ H s → t σ H Q → wpAny (model X.prog X.w) X.A (eval e X.env) (EP X pins σ Q) X.xe s
def PT (X : Cx) (e : Expr) (t : TT) : Prop :=
  ∀ (pins : List (Addr × Obj)) (s : Shared) (σ : St) (H : Hp) (Q : Bool → Hp → Prop), Inv X pins σ H s → t σ H Q → wpAny (model X.prog X.w) X.A (isTrue e X.env (eval e X.env)) (TP X pins σ Q) X.xe s
/-- a test whatever its 'whole' is (and, or) -/
def PW (X : Cx) (e : Expr) (t : TT) : Prop :=
  ∀ (whole : Sem Value) (pins : List (Addr × Obj)) (s : Shared) (σ : St) (H : Hp) (Q : Bool → Hp → Prop), Inv X pins σ H s → t σ H Q → wpAny (model X.prog X.w) X.A (isTrue e X.env whole) (TP X pins σ Q) X.xe s
theorem PW.pt {X : Cx} {e : Expr} {t : TT} (h : PW X e t) : PT X e t := h _
/-- an argument list (no star), from the left -/
def PA (X : Cx) (es : List Expr) (t : TA) : Prop :=
  ∀ (pos : Pos) (pins : List (Addr × Obj)) (s : Shared) (σ : St) (H : Hp) (Q : List V → Hp → Prop), Inv X pins σ H s → t σ H Q → wpAny (model X.prog X.w) X.A (spliced (backTo pos (starEach es X.env))) (AP X pins σ Q) X.xe s
def PS (X : Cx) (st : Stmt) (t : TS) : Prop :=
  ∀ (pins : List (Addr × Obj)) (s : Shared) (σ : St) (H : Hp) (D : Ends), Inv X pins σ H s → t D σ H → wpAny (model X.prog X.w) X.A (exec st X.env) (SP X pins D) X.xe s
def PSs (X : Cx) (st : List Stmt) (t : TS) : Prop :=
  ∀ (pins : List (Addr × Obj)) (s : Shared) (σ : St) (H : Hp) (D : Ends), Inv X pins σ H s → t D σ H → wpAny (model X.prog X.w) X.A (execs st X.env) (SP X pins D) X.xe s
/-- weaken the end -/
theorem thn {α : Type} {t : Sem α} {Q Q' : α → Shared → Prop} {M : Model} {A : Around} {E : Value → Shared → Prop} {s : Shared} (h : wpAny M A t Q E s) (hQ : ∀ a s, Q a s → Q' a s) : wpAny M A t Q' E s := wpAny_mono h hQ fun _ _ x => x
end L2

namespace L2
open PySem PySem.Spec PyProof.Rows
section
variable {X : Cx}

def tVar (i : Nat) : TE := fun σ H Q => ∃ v, σ[i]? = some (some v) ∧ Q v H
def tC (v : V) : TE := fun _ H Q => Q v H
theorem pe_var {i : Nat} {x : Str} {pos : Pos} (hN : X.N[i]? = some x) (hv : Vis X.env.scope x) (hd : (x == ("__debug__" : Str)) = false := by decide) (hcd : (x == ("__classdict__" : Str)) = false := by decide) : PE X (.Name x pos) (tVar i) := by
  intro pins s σ H Q I h
  obtain ⟨v, e, h⟩ := h
  obtain ⟨m, hn, hl⟩ := I.loc
  obtain ⟨u, r, l⟩ := hl i x v hN e hv
  have fin : EP X pins σ Q u s := ⟨v, H, I, r, h⟩
  rcases l with ⟨hk, hm⟩ | ⟨hk, c, hc, hcell⟩
  · exact wpAny_Name (wpAny_loadName_local I.ok.kind hk hn hm fin) hd
  · rcases hk with hk | hk
    · exact wpAny_Name (wpAny_loadName_cell I.ok.kind hk hc hcell fin) hd
    · exact wpAny_Name (wpAny_loadName_free I.ok.kind hk hc hcell fin hcd) hd
theorem pe_int {i j pos} : PE X (.Constant (.int i) j pos) (tC (.int i)) := fun _ _ _ H _ I h => wpAny_Constant_int ⟨.int i, H, I.tok _, ⟨_, rfl⟩, h⟩
theorem pe_bl {b j pos} : PE X (.Constant (.bool b) j pos) (tC (.bl b)) := fun _ _ _ H _ I h => Constant_bool ⟨.bl b, H, I, rfl, h⟩
/-- a global name of the def -/
def Gl (X : Cx) (x : Str) : Prop := X.env.kindOf x = some .globalImplicit
theorem ld_glob {E : Value → Shared → Prop} {pins : List (Addr × Obj)} {s : Shared} {σ : St} {H : Hp} {x : Str} {u : Value} {pos : Pos} {Q : Value → Shared → Prop} (I : Inv X pins σ H s) (hg : Gl X x) (hm : X.mg x = some u) (h : Q u s)
    (hd : (x == ("__debug__" : Str)) = false := by decide) : wpAny (model X.prog X.w) X.A (eval (.Name x pos) X.env) Q E s :=
  Calls.Name_function_global I.ok.kind hg (Calls.loadGlobal_global (by rw [I.ok.glob]; exact I.mod.glob.keeps I.bk) hm h) hd
theorem ld_blt {E : Value → Shared → Prop} {pins : List (Addr × Obj)} {s : Shared} {σ : St} {H : Hp} {x : Str} {u : Value} {pos : Pos} {Q : Value → Shared → Prop} (I : Inv X pins σ H s) (hg : Gl X x) (hm : X.mg x = none) (hv : bootBuiltins x = some u) (h : Q u s)
    (hn : x ≠ "__name__" := by decide) (hd : (x == ("__debug__" : Str)) = false := by decide) : wpAny (model X.prog X.w) X.A (eval (.Name x pos) X.env) Q E s := by
  obtain ⟨mb, h1, h2⟩ := I.mod.blt
  exact Calls.Name_function_global I.ok.kind hg (Calls.loadGlobal_builtin (by rw [I.ok.glob]; exact I.mod.glob.keeps I.bk) hm (by rw [I.ok.blt]; exact h1.keeps I.bk) ((h2 x hn).trans hv) h) hd
/-- a module's constant, a class, a function, as a value -/
theorem pe_glob {x : Str} {v : V} {u : Value} {pos : Pos} (hg : Gl X x) (hm : X.mg x = some u) (r : RelV v u) (hd : (x == ("__debug__" : Str)) = false := by decide) : PE X (.Name x pos) (tC v) :=
  fun _ _ _ H _ I h => ld_glob I hg hm ⟨v, H, I, r, h⟩ hd
theorem pe_bltn {x : Str} {v : V} {u : Value} {pos : Pos} (hg : Gl X x) (hm : X.mg x = none) (hv : bootBuiltins x = some u) (r : RelV v u) (hn : x ≠ "__name__" := by decide) (hd : (x == ("__debug__" : Str)) = false := by decide) : PE X (.Name x pos) (tC v) :=
  fun _ _ _ H _ I h => ld_blt I hg hm hv ⟨v, H, I, r, h⟩ hn hd

variable {a b : Expr} {ta tb : TE} {pos : Pos}
/-- a comparison as a value, as a test -/
def tB (t : TE) : TT := fun σ H Q => t σ H fun x H1 => ∃ c, x = .bl c ∧ Q c H1
/-- an expression whose value is a bool, as a test -/
theorem pt_val {e : Expr} {t : TE} (h : PE X e t) (he : ∀ whole, isTrue e X.env whole = (do let v ← whole; standAt e.pos; holding [v] (truthy v)) := by intro _; rfl) : PT X e (tB t) := by
  intro pins s σ H Q I hw
  refine isTrue_plain (thn (h pins s σ H _ I hw) fun v s1 ⟨x, H1, I1, r1, q1⟩ => ?_) (he _)
  obtain ⟨d, rfl, q⟩ := q1
  cases r1
  exact wpAny_truthy_bool ⟨H1, I1, q⟩

variable {tA tB' : TT} {rest : List Expr}
def tAnd (t u : TT) : TT := fun σ H Q => t σ H fun c H1 => if c = true then u σ H1 Q else Q false H1
def tOr (t u : TT) : TT := fun σ H Q => t σ H fun c H1 => if c = true then Q true H1 else u σ H1 Q
def tNot (t : TT) : TT := fun σ H Q => t σ H fun c H1 => Q (!c) H1
theorem pw_or1 (ha : PT X a tA) : PW X (.BoolOp .Or [a] pos) tA := by
  intro wh pins s σ H Q I h
  refine isTrue_or (thn (ha pins s σ H Q I h) fun c s1 e => ?_)
  cases c with
  | false => exact isTrue_or_nil e
  | true => exact e
theorem pw_or (ha : PT X a tA) (hb : PW X (.BoolOp .Or (b :: rest) pos) tB') : PW X (.BoolOp .Or (a :: b :: rest) pos) (tOr tA tB') := by
  intro wh pins s σ H Q I h
  refine isTrue_or (thn (ha pins s σ H _ I h) fun c s1 ⟨H1, I1, q1⟩ => ?_)
  cases c with
  | true => exact ⟨H1, I1, q1⟩
  | false => exact hb wh pins s1 σ H1 Q I1 q1
theorem pt_not (ha : PT X a tA) : PT X (.UnaryOp .Not a pos) (tNot tA) := by
  intro pins s σ H Q I h
  exact isTrue_not (ha pins s σ H (fun c H1 => Q (!c) H1) I h)
/-- .. as values (bools) -/
def tAndV (ta tb : TE) : TE := fun σ H Q => ta σ H fun x H1 => ∃ c, x = .bl c ∧ if c = true then tb σ H1 Q else Q (.bl false) H1
def tOrV (ta tb : TE) : TE := fun σ H Q => ta σ H fun x H1 => ∃ c, x = .bl c ∧ if c = true then Q (.bl true) H1 else tb σ H1 Q
def tNotV (ta : TE) : TE := fun σ H Q => ta σ H fun x H1 => ∃ c, x = .bl c ∧ Q (.bl (!c)) H1
theorem pe_one {op} {t : TE} (h : PE X a t) : PE X (.BoolOp op [a] pos) t := fun pins s σ H Q I hw => BoolOp_one (h pins s σ H Q I hw)
theorem pe_and (ha : PE X a ta) (hb : PE X (.BoolOp .And (b :: rest) pos) tb) : PE X (.BoolOp .And (a :: b :: rest) pos) (tAndV ta tb) := by
  intro pins s σ H Q I h
  refine BoolOp_and (thn (ha pins s σ H _ I h) fun v s1 ⟨x, H1, I1, r1, q1⟩ => ?_)
  obtain ⟨c, rfl, q1⟩ := q1
  cases r1
  refine wpAny_truthy_bool ?_
  cases c with
  | true => exact hb pins s1 σ H1 Q I1 q1
  | false => exact ⟨.bl false, H1, I1, rfl, q1⟩
theorem pe_not (ha : PE X a ta) : PE X (.UnaryOp .Not a pos) (tNotV ta) := by
  intro pins s σ H Q I h
  refine UnaryOp_ (thn (ha pins s σ H _ I h) fun v s1 ⟨x, H1, I1, r1, q1⟩ => ?_)
  obtain ⟨c, rfl, q1⟩ := q1
  cases r1
  exact not_of (wpAny_truthy_bool ⟨.bl (!c), H1, I1, rfl, q1⟩)
/-- a if t else b -/
def tIf (t : TT) (ta tb : TE) : TE := fun σ H Q => t σ H fun c H1 => if c = true then ta σ H1 Q else tb σ H1 Q
end
end L2

namespace L2
open PySem PySem.Spec PyProof.Rows

def SqL (K : PySem.W.Frag) (H : Hp) (a : Addr) (xs : List V) : Prop :=
  Rd H a (.lst xs) ∨
    ∃ (o : Obj) (its : Array Value) (n : Nat), K.lookup a = some o ∧ o.cls = .type "list" ∧ o.dict = none ∧ o.data = .seq its n ∧ its.size ≤ sizeLine ∧ Vals xs its.toList
def SqT (K : PySem.W.Frag) (H : Hp) (a : Addr) (xs : List V) : Prop :=
  Rd H a (.tup xs) ∨
    ∃ (o : Obj) (its : Array Value) (n : Nat), K.lookup a = some o ∧ o.cls = .type "tuple" ∧ o.data = .seq its n ∧ its.size ≤ sizeLine ∧ Vals xs its.toList
def absV : Value → Option V
  | .none => some .non
  | .bool b => some (.bl b)
  | .int i _ => some (.int i)
  | .str x _ => some (.str x)
  | .bytes b _ => some (.byt b)
  | .float b _ => some (.flt b)
  | .ref a => some (.ref a)
  | .type n => some (.ty n)
  | _ => none
theorem RelV.abs {x : V} {u : Value} (r : RelV x u) : absV u = some x := by
  cases x with
  | non => cases r; rfl
  | bl _ => cases r; rfl
  | int _ => obtain ⟨t, rfl⟩ := r; rfl
  | str _ => obtain ⟨t, rfl⟩ := r; rfl
  | byt _ => obtain ⟨t, rfl⟩ := r; rfl
  | flt _ => obtain ⟨t, rfl⟩ := r; rfl
  | ref _ => cases r; rfl
  | ty _ => cases r; rfl
theorem RelV.inj {x y : V} {u : Value} (r : RelV x u) (q : RelV y u) : x = y := Option.some.inj (r.abs.symm.trans q.abs)
theorem Vals.inj : ∀ {xs ys : List V} {us : List Value}, Vals xs us → Vals ys us → xs = ys
  | _, _, _, .nil, .nil => rfl
  | _, _, _, .cons r t, .cons r' t' => by rw [r.inj r', Vals.inj t t']
section
variable {X : Cx} {pins : List (Addr × Obj)} {σ : St} {H : Hp} {s : Shared} {a : Addr} {xs ys : List V}
theorem SqL.of {K : PySem.W.Frag} (h : H a = some (.lst xs)) : SqL K H a xs := .inl (.inl h)
theorem SqT.of {K : PySem.W.Frag} (h : H a = some (.tup xs)) : SqT K H a xs := .inl (.inl h)
theorem Inv.list (I : Inv X pins σ H s) (h : SqL X.K H a xs) : ∃ its : List Value, Vals xs its ∧ PlainL s.heap a its.toArray ∧ xs.length ≤ sizeLine := by
  rcases h with h | ⟨o, its, n, hk, hc, hd, hs, hz, r⟩
  · obtain ⟨z, its, n, r, e⟩ := h.ok I.hok
    exact ⟨its, r, ⟨_, n, e, rfl, rfl, rfl⟩, z⟩
  · refine ⟨its.toList, r, ⟨o, n, I.kIn a o hk, hc, hd, by simpa using hs⟩, ?_⟩
    have e := r.length
    simp only [Array.length_toList] at e
    omega
theorem Inv.tuple (I : Inv X pins σ H s) (h : SqT X.K H a xs) : ∃ its : List Value, Vals xs its ∧ IsTup s.heap a its.toArray ∧ xs.length ≤ sizeLine := by
  rcases h with h | ⟨o, its, n, hk, hc, hs, hz, r⟩
  · obtain ⟨z, its, r, p⟩ := h.ok I.hok
    exact ⟨its, r, p, z⟩
  · refine ⟨its.toList, r, ⟨o, I.kIn a o hk, hc, n, by simpa using hs⟩, ?_⟩
    have e := r.length
    simp only [Array.length_toList] at e
    omega
theorem Inv.list_inj (I : Inv X pins σ H s) (h : SqL X.K H a xs) (h' : SqL X.K H a ys) : xs = ys := by
  obtain ⟨its, r, ⟨o, n, e, _, _, d⟩, _⟩ := I.list h
  obtain ⟨its', r', ⟨o', n', e', _, _, d'⟩, _⟩ := I.list h'
  rw [e] at e'; cases e'
  rw [d] at d'
  injection d' with d1 _
  have : its = its' := by simpa using congrArg Array.toList d1
  subst this
  exact r.inj r'
theorem Inv.tuple_inj (I : Inv X pins σ H s) (h : SqT X.K H a xs) (h' : SqT X.K H a ys) : xs = ys := by
  obtain ⟨its, r, ⟨o, e, _, n, d⟩, _⟩ := I.tuple h
  obtain ⟨its', r', ⟨o', e', _, n', d'⟩, _⟩ := I.tuple h'
  rw [e] at e'; cases e'
  rw [d] at d'
  injection d' with d1 _
  have : its = its' := by simpa using congrArg Array.toList d1
  subst this
  exact r.inj r'
end

abbrev Cx.wish (X : Cx) (E : Value → Shared → Prop) : Cx := { X with xe := E }
/-- no exception leaves -/
abbrev Cx.nox (X : Cx) : Cx := X.wish fun _ _ => False
theorem Cx.Ok.wish {X : Cx} (ok : X.Ok) (E : Value → Shared → Prop) : (X.wish E).Ok :=
  ⟨ok.mod, ok.kind, ok.glob, ok.blt, ok.above, ok.inj, ok.has, ok.cab, ok.hd, ok.frames, ok.stk, ok.exf, ok.bs, ok.bsz, ok.noex, ok.exfs, ok.funs, ok.frf⟩
theorem Cx.Ok.unwish {X : Cx} {E : Value → Shared → Prop} (ok : (X.wish E).Ok) : X.Ok :=
  ⟨ok.mod, ok.kind, ok.glob, ok.blt, ok.above, ok.inj, ok.has, ok.cab, ok.hd, ok.frames, ok.stk, ok.exf, ok.bs, ok.bsz, ok.noex, ok.exfs, ok.funs, ok.frf⟩
section
variable {X : Cx} {pins : List (Addr × Obj)} {σ : St} {H : Hp} {s : Shared} {E : Value → Shared → Prop}
theorem Inv.wish (I : Inv X pins σ H s) (E : Value → Shared → Prop) : Inv (X.wish E) pins σ H s := ⟨I.ok.wish E, I.os, I.bare, I.base, I.loc, I.cell, I.free, I.freeC, I.pin, I.hok, I.len⟩
theorem Inv.unwish (I : Inv (X.wish E) pins σ H s) : Inv X pins σ H s := ⟨I.ok.unwish, I.os, I.bare, I.base, I.loc, I.cell, I.free, I.freeC, I.pin, I.hok, I.len⟩
theorem SP.unwish {D : Ends} {f : Flow} {s' : Shared} (h : SP (X.wish E) pins D f s') : SP X pins D f s' := by
  cases f with
  | next => obtain ⟨σ', H', I, q⟩ := h; exact ⟨σ', H', I.unwish, q⟩
  | brk => obtain ⟨σ', H', I, q⟩ := h; exact ⟨σ', H', I.unwish, q⟩
  | cont => obtain ⟨σ', H', I, q⟩ := h; exact ⟨σ', H', I.unwish, q⟩
  | ret u => obtain ⟨v, σ', H', I, r, q⟩ := h; exact ⟨v, σ', H', I.unwish, r, q⟩
theorem PE.nox {e : Expr} {t : TE} (h : PE X.nox e t) : PE X e t := fun pins s σ H Q I hw =>
  wpAny_mono (h pins s σ H Q (I.wish _) hw) (fun _ _ ⟨v, H', I', r, q⟩ => ⟨v, H', I'.unwish, r, q⟩) fun _ _ z => False.elim z
theorem PT.nox {e : Expr} {t : TT} (h : PT X.nox e t) : PT X e t := fun pins s σ H Q I hw =>
  wpAny_mono (h pins s σ H Q (I.wish _) hw) (fun _ _ ⟨H', I', q⟩ => ⟨H', I'.unwish, q⟩) fun _ _ z => False.elim z
theorem PSs.nox {st : List Stmt} {t : TS} (h : PSs X.nox st t) : PSs X st t := fun pins s σ H D I hw =>
  wpAny_mono (h pins s σ H D (I.wish _) hw) (fun _ _ q => q.unwish) fun _ _ z => False.elim z
end

section
variable {X : Cx} {st : Stmt} {rest : List Stmt} {t u : TS} {e : Expr} {te : TE} {pos : Pos}
def tNext : TS := fun D σ H => D.nx σ H
def tSeq (t u : TS) : TS := fun D σ H => t { D with nx := u D } σ H
theorem pss_nil : PSs X [] tNext := fun _ _ σ H _ I h => wpAny_execs_nil ⟨σ, H, I, h⟩
theorem pss_cons (h1 : PS X st t) (h2 : PSs X rest u) : PSs X (st :: rest) (tSeq t u) := by
  intro pins s σ H D I h
  refine wpAny_execs_cons (thn (h1 pins s σ H { D with nx := u D } I h) fun f s1 q => ?_)
  cases f with
  | next =>
    obtain ⟨σ', H', I', q⟩ := q
    exact h2 pins s1 σ' H' D I' q
  | ret v => exact q
  | brk => exact q
  | cont => exact q
theorem pss_one (h1 : PS X st t) : PSs X [st] t := by
  intro pins s σ H D I h
  refine wpAny_execs_cons (thn (h1 pins s σ H D I h) fun f s1 q => ?_)
  cases f with
  | next => exact wpAny_execs_nil q
  | ret v => exact q
  | brk => exact q
  | cont => exact q
/-- in a def's body nothing is shown -/
theorem Inv.quiet {pins : List (Addr × Obj)} {σ : St} {H : Hp} {s : Shared} (I : Inv X pins σ H s) : interactive X.env = false := by simp [interactive, I.ok.kind]
/-- an expression whose value is dropped -/
def tDrop (te : TE) : TS := fun D σ H => te σ H fun _ H1 => D.nx σ H1
theorem ps_expr (he : PE X e te) (hs : swapsWith e none pos.line X.env = pure false := by rfl) : PS X (.Expr e pos) (tDrop te) := by
  intro pins s σ H D I h
  exact wpAny_Expr_any (thn (he pins s σ H _ I h) fun v s1 ⟨x, H1, I1, r1, q1⟩ => ⟨σ, H1, I1, q1⟩) I.quiet hs
def tRet (te : TE) : TS := fun D σ H => te σ H D.rt
theorem ps_ret (he : PE X e te) : PS X (.Return (some e) pos) (tRet te) := by
  intro pins s σ H D I h
  exact wpAny_Return_some (thn (he pins s σ H _ I h) fun v s1 ⟨x, H1, I1, r1, q1⟩ => ⟨x, σ, H1, I1, r1, q1⟩)
def tRetN : TS := fun D _ H => D.rt .non H
def tIfS (c : TT) (t u : TS) : TS := fun D σ H => c σ H fun b H1 => if b = true then t D σ H1 else u D σ H1
theorem ps_if {c : Expr} {a b : List Stmt} {tc : TT} (hc : PT X c tc) (ha : PSs X a t) (hb : PSs X b u) : PS X (.If c a b pos) (tIfS tc t u) := by
  intro pins s σ H D I h
  refine wpAny_If (thn (hc pins s σ H _ I h) fun d s1 ⟨H1, I1, q1⟩ => ?_)
  cases d with
  | true => exact ha pins s1 σ H1 D I1 q1
  | false => exact hb pins s1 σ H1 D I1 q1
end

abbrev TG := V → St → Hp → (St → Hp → Prop) → Prop
abbrev TGs := List V → St → Hp → (St → Hp → Prop) → Prop
def PG (X : Cx) (target : Expr) (t : TG) : Prop :=
  ∀ (pins : List (Addr × Obj)) (s : Shared) (σ : St) (H : Hp) (v : V) (u : Value) (Q : St → Hp → Prop), Inv X pins σ H s → RelV v u → t v σ H Q →
    wpAny (model X.prog X.w) X.A (assign target X.env u) (fun _ s' => ∃ σ' H', Inv X pins σ' H' s' ∧ Q σ' H') X.xe s
/-- several targets, one after another -/
def PGs (X : Cx) (ts : List Expr) (t : TGs) : Prop :=
  ∀ (pins : List (Addr × Obj)) (s : Shared) (σ : St) (H : Hp) (vs : List V) (us : List Value) (Q : St → Hp → Prop), Inv X pins σ H s → Vals vs us → t vs σ H Q →
    wpAny (model X.prog X.w) X.A (assignInOrder ((assignEach ts X.env).map (·.2)) us) (fun _ s' => ∃ σ' H', Inv X pins σ' H' s' ∧ Q σ' H') X.xe s
/-- o[i] = v, by values -/
abbrev TSet := V → V → V → Hp → (Hp → Prop) → Prop
def PSet (X : Cx) (t : TSet) : Prop :=
  ∀ (pins : List (Addr × Obj)) (s : Shared) (σ : St) (H : Hp) (o i v : V) (ov iv u : Value) (Q : Hp → Prop), Inv X pins σ H s → RelV o ov → RelV i iv → RelV v u → t o i v H Q →
    wpAny (model X.prog X.w) X.A (setItem ov iv u) (fun _ s' => ∃ H', Inv X pins σ H' s' ∧ Q H') X.xe s
section
variable {X : Cx} {pos : Pos}
def gName (i : Nat) : TG := fun v σ H Q => Q (σ.set i (some v)) H
theorem pg_name {i : Nat} {x : Str} (hN : X.N.Nodup) (hi : X.N[i]? = some x) (hx : Loc X.env.scope x) (hf : X.fn x = true ∨ X.env.scope.names.lookup x = some .local := by first | exact .inl rfl | exact .inr rfl | assumption) : PG X (.Name x pos) (gName i) := by
  intro pins s σ H v u Q I r h
  exact wpAny_assign_Name (store_ok I hN hi hx r (fun s' I' => ⟨_, H, I', h⟩) hf)
def gNil : TGs := fun vs σ H Q => vs = [] ∧ Q σ H
def gCons (t : TG) (u : TGs) : TGs := fun vs σ H Q => ∃ v r, vs = v :: r ∧ t v σ H fun σ' H' => u r σ' H' Q
theorem pgs_nil : PGs X [] gNil := by
  intro pins s σ H vs us Q I r h
  obtain ⟨e, h⟩ := h
  subst e
  cases r
  exact assignInOrder_nil ⟨σ, H, I, h⟩
theorem pgs_cons {e : Expr} {es : List Expr} {t : TG} {u : TGs} (h1 : PG X e t) (h2 : PGs X es u)
    (hs : (assignEach (e :: es) X.env).map (·.2) = assign e X.env :: (assignEach es X.env).map (·.2) := by rfl) : PGs X (e :: es) (gCons t u) := by
  intro pins s σ H vs us Q I r h
  obtain ⟨v, vr, e1, h⟩ := h
  subst e1
  cases r with
  | cons r rr =>
    rw [hs]
    refine assignInOrder_cons (thn (h1 pins s σ H _ _ _ I r h) fun _ s1 ⟨σ1, H1, I1, q1⟩ => ?_)
    exact h2 pins s1 σ1 H1 _ _ Q I1 rr q1
/-- (a, b, ..) = a tuple of that length -/
def gTup (K : PySem.W.Frag) (n : Nat) (t : TGs) : TG := fun v σ H Q => ∃ a xs, v = .ref a ∧ SqT K H a xs ∧ xs.length = n ∧ t xs σ H Q
theorem pg_tup {es : List Expr} {k : Nat} {t : TGs} {n : Nat} (hc : X.calm = true) (h : PGs X es t)
    (hn : (assignEach es X.env).length = n := by rfl) (hst : (assignEach es X.env).findIdx? (·.1) = none := by rfl) : PG X (.Tuple es k pos) (gTup X.K n t) := by
  intro pins s σ H v u Q I r hw
  obtain ⟨a, xs, e1, hq, hl, hw⟩ := hw
  subst e1
  cases r
  obtain ⟨its, rv, ht, hz⟩ := I.tuple hq
  refine assign_Tuple_tuple (I.ok.hd hc) ht (by simp [hn, ← hl, rv.length]) hst fun h' hx => ?_
  have I1 : Inv X pins σ H { s with heap := h' } := I.kept (t' := s.toks) fun b o e => hx b o (Nat.ne_of_lt (Heap.lt_size e)) e
  exact h pins _ σ H xs _ Q I1 (by simpa using rv) hw
/-- o[i] = .. -/
def gSub (to ti : TE) (t : TSet) : TG := fun v σ H Q => to σ H fun o H1 => ti σ H1 fun i H2 => t o i v H2 fun H3 => Q σ H3
theorem pg_sub {o i : Expr} {to ti : TE} {t : TSet} (ho : PE X o to) (hi : PE X i ti) (hs : PSet X t)
    (ha : ∀ v, assign (.Subscript o i pos) X.env v = (do
      let ov ← holding [v] (eval o X.env)
      let iv ← holding [v, ov] (eval i X.env)
      standAt pos
      holding [v, ov, iv] (setItem ov iv v)
      release [v, ov, iv] []) := by intro _; rfl) : PG X (.Subscript o i pos) (gSub to ti t) := by
  intro pins s σ H v u Q I r h
  rw [ha]
  refine wpAny_bind (wpAny_holding (thn (ho pins s σ H _ I h) fun ov s1 ⟨x, H1, I1, r1, q1⟩ => ?_))
  refine wpAny_bind (wpAny_holding (thn (hi pins s1 σ H1 _ I1 q1) fun iv s2 ⟨y, H2, I2, r2, q2⟩ => ?_))
  refine wpAny_bind (wpAny_standAt (wpAny_bind (wpAny_holding (thn (hs pins s2 σ H2 x y v ov iv u _ I2 r1 r2 r q2) fun _ s3 ⟨H3, I3, q3⟩ => ?_))))
  exact wpAny_release ⟨σ, H3, I3, q3⟩
/-- target = value -/
def tAsg (te : TE) (g : TG) : TS := fun D σ H => te σ H fun x H1 => g x σ H1 D.nx
theorem ps_asg {tg e : Expr} {te : TE} {g : TG} (he : PE X e te) (hg : PG X tg g) (hs : swapsWithSole [tg] e pos.line X.env = pure false := by rfl) (hw : swappedStores [tg] e X.env = pure none := by rfl)
    (h1 : (assignEach [tg] X.env).map (·.2) = [assign tg X.env] := by rfl) : PS X (.Assign [tg] e pos) (tAsg te g) := by
  intro pins s σ H D I h
  refine wpAny_Assign_stores (thn (he pins s σ H _ I h) fun v s1 ⟨x, H1, I1, r1, q1⟩ => ?_) hs hw
  rw [h1]
  exact thn (hg pins s1 σ H1 x v _ I1 r1 q1) fun _ s2 q => q
/-- name = value -/
theorem ps_set {i : Nat} {x : Str} {e : Expr} {te : TE} {pos' : Pos} (hN : X.N.Nodup) (hi : X.N[i]? = some x) (hx : Loc X.env.scope x) (he : PE X e te) (hs : swapsWith e (some (.Name x pos')) pos.line X.env = pure false := by rfl) (hf : X.fn x = true ∨ X.env.scope.names.lookup x = some .local := by first | exact .inl rfl | exact .inr rfl | assumption) :
    PS X (.Assign [.Name x pos'] e pos) (tAsg te (gName i)) := by
  intro pins s σ H D I h
  refine wpAny_Assign_Name (thn (he pins s σ H _ I h) fun v s1 ⟨y, H1, I1, r1, q1⟩ => ?_) hs
  exact store_ok I1 hN hi hx r1 (fun s2 I2 => ⟨_, H1, I2, q1⟩) hf
end

section
variable {X : Cx} {pos : Pos}
/-- the invariant W with its measure -/
def tWhile (c : TT) (tb : TS) : TS := fun D σ H => ∃ W : Nat → St → Hp → Prop, (∃ m, W m σ H) ∧ ∀ m σ H, W m σ H →
  c σ H fun b H1 => if b = true then ∃ N : St → Hp → Prop, (∀ σ' H', N σ' H' → ∃ m', m' < m ∧ W m' σ' H') ∧ tb { D with nx := N, ct := N, bk := D.nx } σ H1 else D.nx σ H1
end

/-- at turn i: it yields x (the heap may grow), or it stops -/
structure It where
  go : Nat → Hp → Prop
  yld : Nat → Hp → V → Hp → Prop
  stop : Nat → Hp → Prop
/-- the iterator's own objects may turn: they are not the frame's, not pinned, younger than the entry (or a comprehension's own) -/
def FpOk (X : Cx) (pins : List (Addr × Obj)) (H : Hp) (b : Addr) : Prop :=
  H b = none ∧ b ≠ X.env.locals ∧ b ∉ X.fs ∧ (b ∈ X.ex ∨ X.s₀.heap.objs.size ≤ b) ∧ (∀ x c, X.env.cells.lookup x = some c → c ≠ b) ∧ ∀ p ∈ X.pn ++ pins, p.1 ≠ b
theorem Inv.fpOk {X : Cx} {pins : List (Addr × Obj)} {σ : St} {H H' : Hp} {s : Shared} {b : Addr} (I : Inv X pins σ H s) (hb : s.heap.objs.size ≤ b) (hn : H' b = none) : FpOk X pins H' b := by
  refine ⟨hn, Nat.ne_of_gt (Nat.lt_of_lt_of_le I.lt hb), I.nofs hb, .inr (Nat.le_trans I.sz hb), fun x c e z => ?_, fun p hp z => ?_⟩
  · obtain ⟨v, q⟩ := I.cell x c e
    exact absurd (Nat.lt_of_lt_of_le q.lt (by rw [z]; exact hb)) (Nat.lt_irrefl _)
  · exact absurd (Nat.lt_of_lt_of_le (Heap.lt_size (I.pin p hp).1) (by rw [z]; exact hb)) (Nat.lt_irrefl _)
structure Turn (P : Program) (w : World) (K : PySem.W.Frag) (tg : Expr) (J : It) (fp : List Addr) (it : Addr) (tn : Nat → Heap → Prop) : Prop where
  mem : it ∈ fp
  obj : ∀ i h, tn i h → ∀ b ∈ fp, ∃ o, h.get? b = some o ∧ ∀ v, o.data ≠ .cell v
  keep : ∀ i h h', tn i h → (∀ b ∈ fp, ∀ o, h.get? b = some o → h'.get? b = some o) → tn i h'
  item : ∀ (X : Cx), X.prog = P → X.w = w → X.K = K → X.calm = true → ∀ (i : Nat) (pins : List (Addr × Obj)) (s : Shared) (σ : St) (H : Hp) (E : Value → Shared → Prop), Inv X pins σ H s → (∀ b ∈ fp, FpOk X pins H b) → tn i s.heap → J.go i H →
    wpAny (model P w) X.A (pyNext (.ref it)) (fun r s1 => ∃ u, r = some u ∧
      wpAny (model P w) X.A (letOwnedTupleGo tg (.ref it) u) (fun _ s2 => ∃ x H', Inv X pins σ H' s2 ∧ RelV x u ∧ J.yld i H x H' ∧ tn (i + 1) s2.heap ∧ ∀ b ∈ fp, H' b = none) E s1) E s
  done : ∀ (X : Cx), X.prog = P → X.w = w → X.K = K → X.calm = true → ∀ (i : Nat) (pins : List (Addr × Obj)) (s : Shared) (σ : St) (H : Hp) (E : Value → Shared → Prop), Inv X pins σ H s → (∀ b ∈ fp, FpOk X pins H b) → tn i s.heap → J.stop i H →
    wpAny (model P w) X.A (pyNext (.ref it)) (fun r s1 => r = none ∧ Inv X pins σ H s1) E s
  self : ∀ (A : Around) (i : Nat) (s : Shared) (Q : Value → Shared → Prop) (E : Value → Shared → Prop), tn i s.heap → Q (.ref it) s → wpAny (model P w) A (pyIter (.ref it)) Q E s
abbrev TI := St → Hp → (It → Hp → Prop) → Prop
/-- an iterator has come -/
def PIE (X : Cx) (pins : List (Addr × Obj)) (σ : St) (tg : Expr) (R : It → Hp → Prop) (itv : Value) (s2 : Shared) : Prop :=
  ∃ (it : Addr) (fp : List Addr) (tn : Nat → Heap → Prop) (J : It) (H' : Hp), itv = .ref it ∧ Inv X pins σ H' s2 ∧ Turn X.prog X.w X.K tg J fp it tn ∧ tn 0 s2.heap ∧ (∀ b ∈ fp, FpOk X pins H' b) ∧ R J H'
def PI (X : Cx) (tg iter : Expr) (wi : TI) : Prop :=
  ∀ (pins : List (Addr × Obj)) (s : Shared) (σ : St) (H : Hp) (R : It → Hp → Prop), Inv X pins σ H s → wi σ H R →
    wpAny (model X.prog X.w) X.A (eval iter X.env) (fun v s1 => wpAny (model X.prog X.w) X.A (pyIter v) (PIE X pins σ tg R) X.xe s1) X.xe s

/-- the step ahead of the store is nothing for an iterator that keeps no tuple -/
theorem go_of {M : Model} {A : Around} {E : Value → Shared → Prop} {s : Shared} {tg : Expr} {it : Addr} {u : Value} {o : Obj} {n : String} {vs : Array Value} {Q : Unit → Shared → Prop} (ho : s.heap.get? it = some o) (hc : o.cls = .type n) (hd : o.data = .fields vs)
    (hn : ["enumerate", "zip", "dict_itemiterator", "dict_reverseitemiterator", "odict_iterator", "itertools.zip_longest", "itertools.pairwise"].contains n = false) (hQ : Q () s) : wpAny M A (letOwnedTupleGo tg (.ref it) u) Q E s := by
  unfold letOwnedTupleGo
  cases tg <;> first
    | exact wpAny_pure hQ
    | (cases u <;> first
        | exact wpAny_pure hQ
        | (refine wpAny_bind (wpAny_load ho ?_)
           rw [hc, hd]
           show wpAny M A (if (["enumerate", "zip", "dict_itemiterator", "dict_reverseitemiterator", "odict_iterator", "itertools.zip_longest", "itertools.pairwise"].contains n && vs[0]? == some (rawInt _)) = true then _ else _) Q E s
           rw [if_neg (by intro h; rw [hn, Bool.false_and] at h; cases h)]
           exact wpAny_pure hQ))

/-- the list at a, as it stands at each turn (a loop may append to it) -/
def Itl (K : PySem.W.Frag) (a : Addr) : It :=
  ⟨fun i H => ∃ xs x, SqL K H a xs ∧ xs[i]? = some x, fun i H x H' => H' = H ∧ ∀ xs, SqL K H a xs → xs[i]? = some x, fun i H => ∃ xs, SqL K H a xs ∧ xs.length ≤ i⟩
def Itt (K : PySem.W.Frag) (a : Addr) : It :=
  ⟨fun i H => ∃ xs x, SqT K H a xs ∧ xs[i]? = some x, fun i H x H' => H' = H ∧ ∀ xs, SqT K H a xs → xs[i]? = some x, fun i H => ∃ xs, SqT K H a xs ∧ xs.length ≤ i⟩
/-- lo, lo + 1, .. (n of them) -/
def Itr (lo : Int) (n : Nat) : It := ⟨fun i _ => i < n, fun i H x H' => H' = H ∧ x = .int (lo + i), fun i _ => n ≤ i⟩
theorem turn_list {P : Program} {w : World} {K : PySem.W.Frag} {tg : Expr} (a it : Addr) : Turn P w K tg (Itl K a) [it] it (fun i h => h.IsListIter it a i) where
  mem := by simp
  obj := fun i h st b hb => by
    have e : b = it := by simpa using hb
    subst e
    obtain ⟨o, e, c, d⟩ := st
    exact ⟨o, e, fun v z => by rw [d] at z; cases z⟩
  keep := fun i h h' st k => st.at fun o e => k it (by simp) o e
  item := by
    intro X hP hw hK hc i pins s σ H E I hf st hg
    subst hP hw hK
    obtain ⟨xs, x, hq, hx⟩ := hg
    obtain ⟨its, rv, p, hz⟩ := I.list hq
    obtain ⟨u, hu, ru⟩ := rv.get hx
    obtain ⟨f0, f1, f2, f3, f4, f5⟩ := hf it (by simp)
    refine wpAny_pyNext_list_item st p.isList (x := u) (by simpa using hu) fun h' st' sb => ?_
    have I1 : Inv X pins σ H { s with heap := h' } := I.turned (t' := s.toks) (fun b o hb e => (sb.2 b hb).trans e) f0 f1 f3 f4 f5
    obtain ⟨o, e, c, d⟩ := id st'
    exact ⟨u, rfl, go_of (s := { s with heap := h' }) e c d (by decide) ⟨x, H, I1, ru, ⟨rfl, fun ys hy => by rw [I.list_inj hy hq]; exact hx⟩, st', fun b hb => (hf b hb).1⟩⟩
  done := by
    intro X hP hw hK hc i pins s σ H E I hf st hg
    subst hP hw hK
    obtain ⟨xs, hq, hx⟩ := hg
    obtain ⟨its, rv, p, hz⟩ := I.list hq
    obtain ⟨f0, f1, f2, f3, f4, f5⟩ := hf it (by simp)
    have hl := rv.length
    exact wpAny_pyNext_list_end (I.ok.hd hc) st p.isList (by simp; omega) fun h' eb => ⟨rfl, I.turned (t' := s.toks) (fun b o hb e => eb b o hb e) f0 f1 f3 f4 f5⟩
  self := fun _ _ _ _ _ st h => wpAny_pyIter_listiter st h
theorem turn_range {P : Program} {w : World} {K : PySem.W.Frag} {tg : Expr} (it : Addr) (lo : Int) (n : Nat) : Turn P w K tg (Itr lo n) [it] it (fun i h => IsRangeIter h it (lo + (i : Nat) * 1) ((n : Int) - (i : Nat)) 1) where
  mem := by simp
  obj := fun i h st b hb => by
    have e : b = it := by simpa using hb
    subst e
    exact ⟨_, st, fun v z => by
      have z' : Data.fields _ = Data.cell v := z
      cases z'⟩
  keep := fun i h h' st k => k it (by simp) _ st
  item := by
    intro X hP hw hK hc i pins s σ H E I hf st hg
    subst hP hw hK
    obtain ⟨f0, f1, f2, f3, f4, f5⟩ := hf it (by simp)
    have W := Walks.range (prog := X.prog) (w := X.w) (I.ok.hd hc) it lo 1 n
    refine W.item i s _ _ hg st fun v h' tk hv st' kk => ?_
    obtain ⟨t, rfl⟩ := hv
    have I1 : Inv X pins σ H { s with heap := h', toks := tk } := I.turned (fun b o hb e => kk b o (by simpa using hb) e) f0 f1 f3 f4 f5
    refine ⟨_, rfl, go_of (s := { s with heap := h', toks := tk }) (n := "range_iterator") st' rfl rfl (by decide) ⟨.int (lo + i), H, I1, ⟨t, ?_⟩, ⟨rfl, rfl⟩, st', fun b hb => (hf b hb).1⟩⟩
    rw [Int.mul_one]
  done := by
    intro X hP hw hK hc i pins s σ H E I hf st hg
    subst hP hw hK
    obtain ⟨f0, f1, f2, f3, f4, f5⟩ := hf it (by simp)
    exact wpAny_pyNext_range_end (I.ok.hd hc) st (by have : n ≤ i := hg; omega) fun h' eb => ⟨rfl, I.turned (t' := s.toks) (fun b o hb e => eb b o hb e) f0 f1 f3 f4 f5⟩
  self := fun _ _ _ _ _ st h => wpAny_pyIter_rangeiter st h
end L2

namespace L2
open PySem PySem.Spec PyProof.Rows
section
variable {X : Cx} {tg : Expr}
def iList (K : PySem.W.Frag) (tl : TE) : TI := fun σ H R => tl σ H fun x H1 => ∃ a, x = .ref a ∧ (∃ xs, SqL K H1 a xs) ∧ R (Itl K a) H1
def iTup (K : PySem.W.Frag) (tl : TE) : TI := fun σ H R => tl σ H fun x H1 => ∃ a, x = .ref a ∧ (∃ xs, SqT K H1 a xs) ∧ R (Itt K a) H1
theorem pi_list {l : Expr} {tl : TE} (hl : PE X l tl) : PI X tg l (iList X.K tl) := by
  intro pins s σ H R I h
  refine thn (hl pins s σ H _ I h) fun v s1 ⟨x, H1, I1, r1, q1⟩ => ?_
  obtain ⟨a, e, ⟨xs, hq⟩, q⟩ := q1
  subst e
  cases r1
  obtain ⟨its, rv, p, hz⟩ := I1.list hq
  refine wpAny_pyIter_list p.isList ?_
  refine ⟨s1.heap.objs.size, [s1.heap.objs.size], _, _, H1, rfl, I1.kept (t' := s1.toks) fun b o e => Heap.get?_push_of_some _ e, turn_list a _, ⟨_, Heap.get?_push_size _ rfl, rfl, rfl⟩, fun b hb => ?_, q⟩
  have e : b = s1.heap.objs.size := by simpa using hb
  subst e
  exact I1.fpOk (Nat.le_refl _) (I1.hok.fresh (Nat.le_refl _))
/-- a range object just made, walked -/
theorem range_it {pins : List (Addr × Obj)} {σ : St} {H : Hp} {s : Shared} {R : It → Hp → Prop} {E : Value → Shared → Prop} {lo hi : Int} {t u v : Tok} {tk : Nat} (I : Inv X pins σ H s) (h1 : -(2 ^ 62) ≤ lo) (h2 : lo < 2 ^ 62) (h3 : -(2 ^ 62) ≤ hi) (h4 : hi < 2 ^ 62)
    (q : R (Itr lo (hi - lo).toNat) H) : wpAny (model X.prog X.w) X.A (pyIter (.ref s.heap.objs.size)) (PIE X pins σ tg R) E { s with heap := s.heap.push { cls := .type "range", data := .fields #[.int lo t, .int hi u, .int 1 v] }, toks := tk } := by
  refine wpAny_pyIter_range (IsRange.new ..) (small_one h1 h2 h3 h4) ?_
  have I1 : Inv X pins σ H { s with heap := s.heap.push { cls := .type "range", data := .fields #[.int lo t, .int hi u, .int 1 v] }, toks := tk } := I.kept fun b o e => Heap.get?_push_of_some _ e
  refine ⟨(s.heap.push { cls := .type "range", data := .fields #[.int lo t, .int hi u, .int 1 v] }).objs.size, [(s.heap.push { cls := .type "range", data := .fields #[.int lo t, .int hi u, .int 1 v] }).objs.size], _, _, H, rfl,
    I1.kept (t' := tk) fun b o e => Heap.get?_push_of_some _ e, turn_range _ lo (hi - lo).toNat, ?_, fun b hb => ?_, q⟩
  · have e1 : lo + ((0 : Nat) : Int) * 1 = lo := by simp
    have e2 : (((hi - lo).toNat : Nat) : Int) - ((0 : Nat) : Int) = Builtin.Range.rangeSize lo hi 1 := by rw [rangeSize_one]; split <;> omega
    show IsRangeIter _ _ (lo + ((0 : Nat) : Int) * 1) ((((hi - lo).toNat : Nat) : Int) - ((0 : Nat) : Int)) 1
    rw [e1, e2]
    exact Heap.get?_push_size _ rfl
  · have e : b = (s.heap.push { cls := .type "range", data := .fields #[.int lo t, .int hi u, .int 1 v] }).objs.size := by simpa using hb
    subst e
    exact I1.fpOk (Nat.le_refl _) (I1.hok.fresh (Nat.le_refl _))
def iRng1 (ta : TA) : TI := fun σ H R => ta σ H fun vs H1 => ∃ j : Int, vs = [.int j] ∧ -(2 ^ 62) ≤ j ∧ j < 2 ^ 62 ∧ R (Itr 0 j.toNat) H1
def iRng2 (ta : TA) : TI := fun σ H R => ta σ H fun vs H1 => ∃ i j : Int, vs = [.int i, .int j] ∧ (-(2 ^ 62) ≤ i ∧ i < 2 ^ 62 ∧ -(2 ^ 62) ≤ j ∧ j < 2 ^ 62) ∧ R (Itr i (j - i).toNat) H1
theorem pi_range1 {a : Expr} {ta : TA} {p pos : Pos} (hg : Gl X "range") (hm : X.mg "range" = none) (ha : PA X [a] ta) (hs : starEach [a] X.env = [(false, eval a X.env)] := by rfl) : PI X tg (.Call (.Name "range" p) [a] [] pos) (iRng1 ta) := by
  intro pins s σ H R I h
  refine Call_ (ld_blt I hg hm boot_range (PyProof.Rows.callWith_type1 (thn (ha pos pins s σ H _ I h) fun us s1 ⟨vs, H1, I1, r1, q1⟩ => ?_) hs rfl))
  obtain ⟨j, e, q1, q2, q⟩ := q1
  subst e
  cases r1 with
  | cons r rr =>
    cases rr
    obtain ⟨t, rfl⟩ := r
    exact call_range_1 (range_it I1 (by omega) (by omega) q1 q2 (by simpa using q))
/-- W: the invariant by the turn and a measure; N: what the body is to reach -/
def tFor (wi : TI) (g : TG) (tb : TS) : TS := fun D σ H => wi σ H fun J H1 => ∃ W : Nat → Nat → St → Hp → Prop, (∃ m, W 0 m σ H1) ∧ ∀ i m σ H, W i m σ H →
  (J.stop i H ∧ D.nx σ H) ∨ (J.go i H ∧ ∃ N : St → Hp → Prop, (∀ σ' H', N σ' H' → ∃ m', m' < m ∧ W (i + 1) m' σ' H') ∧ ∀ x H', J.yld i H x H' → g x σ H' fun σ2 H2 => tb { D with nx := N, ct := N, bk := D.nx } σ2 H2)
/-- the records at fp as they stand -/
def pinsAt (fp : List Addr) (h : Heap) : List (Addr × Obj) := fp.filterMap fun b => (h.get? b).map fun o => (b, o)
theorem mem_pinsAt {fp : List Addr} {h : Heap} {b : Addr} {o : Obj} (hb : b ∈ fp) (e : h.get? b = some o) : (b, o) ∈ pinsAt fp h := List.mem_filterMap.mpr ⟨b, hb, by rw [e]; rfl⟩
theorem of_pinsAt {fp : List Addr} {h : Heap} {p : Addr × Obj} (hp : p ∈ pinsAt fp h) : p.1 ∈ fp ∧ h.get? p.1 = some p.2 := by
  obtain ⟨b, hb, e⟩ := List.mem_filterMap.mp hp
  cases q : h.get? b with
  | none => rw [q] at e; cases e
  | some o =>
    rw [q] at e
    have e' : (b, o) = p := Option.some.inj e
    subst e'
    exact ⟨hb, q⟩
theorem Inv.pinned {pins : List (Addr × Obj)} {σ : St} {H : Hp} {s : Shared} {fp : List Addr} (I : Inv X pins σ H s) (hf : ∀ b ∈ fp, FpOk X pins H b) (ho : ∀ b ∈ fp, ∃ o, s.heap.get? b = some o ∧ ∀ v, o.data ≠ .cell v) : Inv X (pins ++ pinsAt fp s.heap) σ H s :=
  I.pins_of fun p hp => (List.mem_append.mp hp).elim (fun z => I.pin p (List.mem_append_right _ z)) fun z => by
    obtain ⟨hb, e⟩ := of_pinsAt z
    obtain ⟨f0, f1, f2, _⟩ := hf p.1 hb
    obtain ⟨o, e', d⟩ := ho p.1 hb
    rw [e] at e'; cases e'
    exact ⟨e, f0, f1, f2, d⟩
theorem Inv.unpinned {pins pl : List (Addr × Obj)} {σ : St} {H : Hp} {s : Shared} (I : Inv X (pins ++ pl) σ H s) : Inv X pins σ H s := I.pins_of fun p hp => I.pin p (List.mem_append_right _ (List.mem_append_left _ hp))
theorem ps_for {iter : Expr} {body : List Stmt} {wi : TI} {g : TG} {tb : TS} {pos : Pos} (hp : PassesOwn (model X.prog X.w) X.A X.env X.xe) (hc : X.calm = true) (hi : PI X tg iter wi) (hg : PG X tg g) (hb : PSs X body tb)
    (hs : ∀ x, foldedSetIterable iter X.env x = pure x := by intro _; rfl) : PS X (.For tg iter body [] pos) (tFor wi g tb) := by
  intro pins s σ H D I h
  refine wpAny_For (thn (hi pins s σ H _ I h) fun v s1 h1 => thn h1 fun itv s2 h2 => ?_) hs
  obtain ⟨it, fp, tn, J, H2, e, I2, T, st2, f2, W, ⟨m0, w0⟩, turn⟩ := h2
  subst e
  -- what stays true of the iterator's objects through the loop
  have stat : ∀ {H' : Hp}, (∀ b ∈ fp, H' b = none) → ∀ b ∈ fp, FpOk X pins H' b := fun hn b hb => ⟨hn b hb, (f2 b hb).2⟩
  refine codeAny_forLoop_any (fun n s' => ∃ i σ' H', Inv X pins σ' H' s' ∧ tn i s'.heap ∧ (∀ b ∈ fp, H' b = none) ∧ W i n σ' H') ?_ m0 ⟨0, σ, H2, I2, st2, fun b hb => (f2 b hb).1, w0⟩
  rintro n s3 ⟨i, σ3, H3, I3, st3, fr3, w3⟩
  rcases turn i n σ3 H3 w3 with ⟨stop, qn⟩ | ⟨go, N, hN, step⟩
  · refine wpAny_passesOwn hp (thn (T.done X rfl rfl rfl hc i pins s3 σ3 H3 X.xe I3 (stat fr3) st3 stop) fun r s4 ⟨hr, I4⟩ => ?_)
    subst hr
    exact wpAny_execs_nil ⟨σ3, H3, I4, qn⟩
  · refine wpAny_passesOwn hp (thn (T.item X rfl rfl rfl hc i pins s3 σ3 H3 X.xe I3 (stat fr3) st3 go) fun r s4 ⟨u, hr, h4⟩ => ?_)
    subst hr
    refine wpAny_passesOwn hp (thn h4 fun _ s5 ⟨x, H5, I5, r5, y5, st5, fr5⟩ => ?_)
    have I5' := I5.pinned (stat fr5) (T.obj _ _ st5)
    refine wpAny_passesOwn hp (thn (hg _ s5 σ3 H5 x u _ I5' r5 (step x H5 y5)) fun _ s6 ⟨σ6, H6, I6, q6⟩ => ?_)
    refine wpAny_passesOwn hp (thn (hb _ s6 σ6 H6 _ I6 q6) fun f s7 q7 => ?_)
    have again : ∀ {σ7 : St} {H7 : Hp}, Inv X (pins ++ pinsAt fp s5.heap) σ7 H7 s7 → N σ7 H7 → ∃ m, m < n ∧ ∃ i σ' H', Inv X pins σ' H' s7 ∧ tn i s7.heap ∧ (∀ b ∈ fp, H' b = none) ∧ W i m σ' H' := fun {σ7 H7} I7 n7 => by
      obtain ⟨m', hm, w7⟩ := hN σ7 H7 n7
      refine ⟨m', hm, i + 1, σ7, H7, I7.unpinned, T.keep _ _ _ st5 fun b hb o e => (I7.pin (b, o) (List.mem_append_right _ (List.mem_append_right _ (mem_pinsAt hb e)))).1, fun b hb => ?_, w7⟩
      obtain ⟨o, e, d⟩ := T.obj _ _ st5 b hb
      exact (I7.pin (b, o) (List.mem_append_right _ (List.mem_append_right _ (mem_pinsAt hb e)))).2.1
    cases f with
    | next => obtain ⟨σ7, H7, I7, n7⟩ := q7; exact again I7 n7
    | cont => obtain ⟨σ7, H7, I7, n7⟩ := q7; exact again I7 n7
    | brk => obtain ⟨σ7, H7, I7, q7⟩ := q7; exact ⟨σ7, H7, I7.unpinned, q7⟩
    | ret v => obtain ⟨x7, σ7, H7, I7, r7, q7⟩ := q7; exact ⟨x7, σ7, H7, I7.unpinned, r7, q7⟩
end

end L2

namespace L2
open PySem PySem.Spec PyProof.Rows

abbrev R2 := V → V → Hp → VK → Prop
/-- a two-place operation on values: f is binaryOp op, inplaceOp op or compareOp op -/
def OpR (X : Cx) (f : Value → Value → Sem Value) (r : R2) : Prop :=
  ∀ (pins : List (Addr × Obj)) (s : Shared) (σ : St) (H : Hp) (x y : V) (v u : Value) (Q : VK), Inv X pins σ H s → RelV x v → RelV y u → r x y H Q →
    wpAny (model X.prog X.w) X.A (f v u) (EP X pins σ Q) X.xe s
/-- a call of a value that is known (a builtin, a type) with values -/
def CallR (X : Cx) (f : Value) (r : List V → Hp → VK → Prop) : Prop :=
  ∀ (pins : List (Addr × Obj)) (s : Shared) (σ : St) (H : Hp) (xs : List V) (us : List Value) (Q : VK), Inv X pins σ H s → Vals xs us → r xs H Q →
    wpAny (model X.prog X.w) X.A (call f us) (EP X pins σ Q) X.xe s
def tOp (r : R2) (ta tb : TE) : TE := fun σ H Q => ta σ H fun x H1 => tb σ H1 fun y H2 => r x y H2 Q
def tUn (r : V → Hp → VK → Prop) (ta : TE) : TE := fun σ H Q => ta σ H fun x H1 => r x H1 Q
/-- ints in, under C, and a value out -/
def rI (C : Int → Int → Prop) (g : Int → Int → V) : R2 := fun x y H Q => ∃ i j, x = .int i ∧ y = .int j ∧ C i j ∧ Q (g i j) H
def rI0 (g : Int → Int → V) : R2 := fun x y H Q => ∃ i j, x = .int i ∧ y = .int j ∧ Q (g i j) H
def rU (g : Int → V) : V → Hp → VK → Prop := fun x H Q => ∃ i, x = .int i ∧ Q (g i) H

section
variable {X : Cx} {a b c : Expr} {ta tb tc : TE} {pos : Pos}

theorem binT (ha : PE X a ta) (hb : PE X b tb) {pins : List (Addr × Obj)} {s : Shared} {σ : St} {H : Hp} {R : V → V → Hp → Prop} (I : Inv X pins σ H s)
    (h : ta σ H fun x H1 => tb σ H1 fun y H2 => R x y H2) {Q : Value → Shared → Prop} {f : Value → Value → Sem Value}
    (hf : ∀ v u s2 x y H2, Inv X pins σ H2 s2 → RelV x v → RelV y u → R x y H2 → wpAny (model X.prog X.w) X.A (f v u) Q X.xe s2) :
    wpAny (model X.prog X.w) X.A (eval a X.env) (fun v s₁ => wpAny (model X.prog X.w) X.A (eval b X.env) (fun u s₂ => wpAny (model X.prog X.w) X.A (f v u) Q X.xe s₂) X.xe s₁) X.xe s := by
  refine thn (ha pins s σ H _ I h) fun v s1 ⟨x, H1, I1, r1, q1⟩ => ?_
  refine thn (hb pins s1 σ H1 _ I1 q1) fun u s2 ⟨y, H2, I2, r2, q2⟩ => ?_
  exact hf v u s2 x y H2 I2 r1 r2 q2

theorem pe_op {op : Operator} {r : R2} (ho : OpR X (binaryOp op) r) (ha : PE X a ta) (hb : PE X b tb) : PE X (.BinOp a op b pos) (tOp r ta tb) := by
  intro pins s σ H Q I h
  exact wpAny_BinOp (binT ha hb I h fun v u s2 x y H2 I2 rx ry q => ho pins s2 σ H2 x y v u Q I2 rx ry q)
theorem opI {f : Value → Value → Sem Value} {C : Int → Int → Prop} {g : Int → Int → Int}
    (rule : ∀ (i j : Int) (t u : Tok) (s : Shared) (Q : Value → Shared → Prop) (E : Value → Shared → Prop), C i j → Q (.int (g i j) s.toks) { s with toks := s.toks + 1 } → wpAny (model X.prog X.w) X.A (f (.int i t) (.int j u)) Q E s) :
    OpR X f (rI C fun i j => .int (g i j)) := by
  intro pins s σ H x y v u Q I rx ry h
  obtain ⟨i, j, rfl, rfl, hc, q⟩ := h
  obtain ⟨t, rfl⟩ := rx
  obtain ⟨t', rfl⟩ := ry
  exact rule i j t t' s _ _ hc ⟨.int (g i j), H, I.tok _, ⟨_, rfl⟩, q⟩
theorem opI0 {f : Value → Value → Sem Value} {g : Int → Int → Int}
    (rule : ∀ (i j : Int) (t u : Tok) (s : Shared) (Q : Value → Shared → Prop) (E : Value → Shared → Prop), Q (.int (g i j) s.toks) { s with toks := s.toks + 1 } → wpAny (model X.prog X.w) X.A (f (.int i t) (.int j u)) Q E s) :
    OpR X f (rI0 fun i j => .int (g i j)) := by
  intro pins s σ H x y v u Q I rx ry h
  obtain ⟨i, j, rfl, rfl, q⟩ := h
  obtain ⟨t, rfl⟩ := rx
  obtain ⟨t', rfl⟩ := ry
  exact rule i j t t' s _ _ ⟨.int (g i j), H, I.tok _, ⟨_, rfl⟩, q⟩
theorem opB0 {f : Value → Value → Sem Value} {g : Int → Int → Bool}
    (rule : ∀ (i j : Int) (t u : Tok) (s : Shared) (Q : Value → Shared → Prop) (E : Value → Shared → Prop), Q (.bool (g i j)) s → wpAny (model X.prog X.w) X.A (f (.int i t) (.int j u)) Q E s) :
    OpR X f (rI0 fun i j => .bl (g i j)) := by
  intro pins s σ H x y v u Q I rx ry h
  obtain ⟨i, j, rfl, rfl, q⟩ := h
  obtain ⟨t, rfl⟩ := rx
  obtain ⟨t', rfl⟩ := ry
  exact rule i j t t' s _ _ ⟨.bl (g i j), H, I, rfl, q⟩

def CDiv (i j : Int) : Prop := 0 < j ∧ j < 1073741824
def CPow (i j : Int) : Prop := 0 ≤ j ∧ j ≤ 1000000 ∧ i.natAbs < 2 ^ 64
def CMul (i j : Int) : Prop := (-(2 ^ 64) < i ∧ i < 2 ^ 64) ∨ (-(2 ^ 64) < j ∧ j < 2 ^ 64)
theorem CMul.ok {i j : Int} (h : CMul i j) : IntMulOk i j := by
  rcases h with ⟨h1, h2⟩ | ⟨h1, h2⟩
  · exact .of_left (intBits_le_64 h1 h2)
  · exact .of_right (intBits_le_64 h1 h2)
theorem op_add : OpR X (binaryOp .Add) (rI0 fun i j => .int (i + j)) := opI0 fun _ _ _ _ _ _ _ q => add_int q
theorem op_mul : OpR X (binaryOp .Mult) (rI CMul fun i j => .int (i * j)) := opI fun _ _ _ _ _ _ _ hc q => mul_int q hc.ok
/-- // by a positive divisor -/
theorem op_fdiv : OpR X (binaryOp .FloorDiv) (rI CDiv fun i j => .int (i / j)) := opI fun i j _ _ _ _ _ hc q => by
  have h1 : (0 : Int) < j := hc.1
  have h2 : j < 1073741824 := hc.2
  exact floordiv_int (by omega) (by rw [Int.fdiv_eq_ediv_of_nonneg i (by omega)]; exact q) (.inl (PyProof.noPylong_small (by omega)))
/-- % by a positive divisor of any size -/
theorem op_mod : OpR X (binaryOp .Mod) (rI (fun _ j => 0 < j) fun i j => .int (i % j)) := opI fun i j _ _ _ _ _ hc q => by
  have h1 : (0 : Int) < j := hc
  exact mod_int' (by omega) (by rw [Int.fmod_eq_emod_of_nonneg i (by omega)]; exact q)
theorem op_pow : OpR X (binaryOp .Pow) (rI CPow fun i j => .int (i ^ j.toNat)) := opI fun _ _ _ _ _ _ _ hc q => pow_int_small hc.1 hc.2.1 hc.2.2 q
theorem op_shl : OpR X (binaryOp .LShift) (rI CPow fun i j => .int (i * 2 ^ j.toNat)) := opI fun _ _ _ _ _ _ _ hc q => lshift_int_small hc.1 hc.2.1 hc.2.2 q
theorem op_and : OpR X (binaryOp .BitAnd) (rI0 fun i j => .int (Builtin.bitAnd i j)) := opI0 fun _ _ _ _ _ _ _ q => and_int q
end

/-- the scalars that == tells apart as data does -/
def scal : V → V → Bool
  | .non, .non => true | .non, .int _ => true | .int _, .non => true | .non, .bl _ => true | .bl _, .non => true | .non, .str _ => true | .str _, .non => true
  | .int _, .int _ => true | .bl _, .bl _ => true | .str _, .str _ => true | .byt _, .byt _ => true
  | .int _, .str _ => true | .str _, .int _ => true | .bl _, .str _ => true | .str _, .bl _ => true
  | _, _ => false
def rEq : R2 := fun x y H Q => scal x y = true ∧ Q (.bl (decide (x = y))) H
def rNe : R2 := fun x y H Q => scal x y = true ∧ Q (.bl (!decide (x = y))) H

theorem dec_int {i j : Int} : decide (V.int i = V.int j) = (i == j) := by
  rw [Bool.eq_iff_iff]
  simp
theorem dec_bl {i j : Bool} : decide (V.bl i = V.bl j) = (i == j) := by
  rw [Bool.eq_iff_iff]
  simp
theorem dec_str {i j : Str} : decide (V.str i = V.str j) = (i == j) := by
  rw [Bool.eq_iff_iff]
  simp
theorem dec_byt {i j : Array UInt8} : decide (V.byt i = V.byt j) = (i.toList == j.toList) := by
  rw [Bool.eq_iff_iff]
  cases i
  cases j
  simp

section
variable {X : Cx} {a b c : Expr} {ta tb tc : TE} {pos : Pos}
theorem fin_bl {pins : List (Addr × Obj)} {σ : St} {H : Hp} {s : Shared} {Q : VK} {k k' : Bool} (I : Inv X pins σ H s) (q : Q (.bl k) H) (e : k = k') : EP X pins σ Q (.bool k') s := by
  subst e
  exact ⟨.bl k, H, I, rfl, q⟩
theorem op_eq : OpR X (compareOp .Eq) rEq := by
  intro pins s σ H x y v u Q I rx ry h
  obtain ⟨hs, q⟩ := h
  cases x with
  | non =>
    cases rx
    cases y with
    | non => cases ry; exact PySem.EqNone.eq_none_none (fin_bl I q (by simp))
    | bl j => cases ry; exact PySem.EqNone.eq_none_bool (fin_bl I q (by simp))
    | int j => obtain ⟨t', rfl⟩ := ry; exact PySem.EqNone.eq_none_int (fin_bl I q (by simp))
    | str j => obtain ⟨t', rfl⟩ := ry; exact PySem.EqNone.eq_none_str (fin_bl I q (by simp))
    | _ => exact absurd (show false = true from hs) Bool.false_ne_true
  | bl i =>
    cases rx
    cases y with
    | non => cases ry; exact PySem.EqNone.eq_bool_none (fin_bl I q (by simp))
    | bl j => cases ry; exact eq_bool (fin_bl I q dec_bl)
    | str j => obtain ⟨t', rfl⟩ := ry; exact PySem.EqMixed.eq_bool_str (fin_bl I q (by simp))
    | _ => exact absurd (show false = true from hs) Bool.false_ne_true
  | int i =>
    obtain ⟨t, rfl⟩ := rx
    cases y with
    | non => cases ry; exact PySem.EqNone.eq_int_none (fin_bl I q (by simp))
    | int j => obtain ⟨t', rfl⟩ := ry; exact eq_int (fin_bl I q dec_int)
    | str j => obtain ⟨t', rfl⟩ := ry; exact PySem.EqMixed.eq_int_str (fin_bl I q (by simp))
    | _ => exact absurd (show false = true from hs) Bool.false_ne_true
  | str i =>
    obtain ⟨t, rfl⟩ := rx
    cases y with
    | non => cases ry; exact PySem.EqNone.eq_str_none (fin_bl I q (by simp))
    | bl j => cases ry; exact PySem.EqMixed.eq_str_bool (fin_bl I q (by simp))
    | int j => obtain ⟨t', rfl⟩ := ry; exact PySem.EqMixed.eq_str_int (fin_bl I q (by simp))
    | str j => obtain ⟨t', rfl⟩ := ry; exact eq_str (fin_bl I q dec_str)
    | _ => exact absurd (show false = true from hs) Bool.false_ne_true
  | byt i =>
    obtain ⟨t, rfl⟩ := rx
    cases y with
    | byt j => obtain ⟨t', rfl⟩ := ry; exact PySem.W.eq_bytes (fin_bl I q dec_byt)
    | _ => exact absurd (show false = true from hs) Bool.false_ne_true
  | _ => cases y <;> exact absurd (show false = true from hs) Bool.false_ne_true
theorem op_ne : OpR X (compareOp .NotEq) rNe := by
  intro pins s σ H x y v u Q I rx ry h
  obtain ⟨hs, q⟩ := h
  cases x with
  | non =>
    cases rx
    cases y with
    | non => cases ry; exact PySem.EqNone.ne_none_none (fin_bl I q (by simp))
    | bl j => cases ry; exact PySem.EqNone.ne_none_bool (fin_bl I q (by simp))
    | int j => obtain ⟨t', rfl⟩ := ry; exact PySem.EqNone.ne_none_int (fin_bl I q (by simp))
    | str j => obtain ⟨t', rfl⟩ := ry; exact PySem.EqNone.ne_none_str (fin_bl I q (by simp))
    | _ => exact absurd (show false = true from hs) Bool.false_ne_true
  | bl i =>
    cases rx
    cases y with
    | non => cases ry; exact PySem.EqNone.ne_bool_none (fin_bl I q (by simp))
    | bl j => cases ry; exact ne_bool (fin_bl I q (congrArg not dec_bl))
    | str j => obtain ⟨t', rfl⟩ := ry; exact PySem.EqMixed.ne_bool_str (fin_bl I q (by simp))
    | _ => exact absurd (show false = true from hs) Bool.false_ne_true
  | int i =>
    obtain ⟨t, rfl⟩ := rx
    cases y with
    | non => cases ry; exact PySem.EqNone.ne_int_none (fin_bl I q (by simp))
    | int j => obtain ⟨t', rfl⟩ := ry; exact ne_int (fin_bl I q (congrArg not dec_int))
    | str j => obtain ⟨t', rfl⟩ := ry; exact PySem.EqMixed.ne_int_str (fin_bl I q (by simp))
    | _ => exact absurd (show false = true from hs) Bool.false_ne_true
  | str i =>
    obtain ⟨t, rfl⟩ := rx
    cases y with
    | non => cases ry; exact PySem.EqNone.ne_str_none (fin_bl I q (by simp))
    | bl j => cases ry; exact PySem.EqMixed.ne_str_bool (fin_bl I q (by simp))
    | int j => obtain ⟨t', rfl⟩ := ry; exact PySem.EqMixed.ne_str_int (fin_bl I q (by simp))
    | str j => obtain ⟨t', rfl⟩ := ry; exact ne_str (fin_bl I q (congrArg not dec_str))
    | _ => exact absurd (show false = true from hs) Bool.false_ne_true
  | byt i =>
    obtain ⟨t, rfl⟩ := rx
    cases y with
    | byt j => obtain ⟨t', rfl⟩ := ry; exact PySem.W.ne_bytes (fin_bl I q (congrArg not dec_byt))
    | _ => exact absurd (show false = true from hs) Bool.false_ne_true
  | _ => cases y <;> exact absurd (show false = true from hs) Bool.false_ne_true

theorem op_lt : OpR X (compareOp .Lt) (rI0 fun i j => .bl (decide (i < j))) := opB0 fun _ _ _ _ _ _ _ q => lt_int q
theorem op_gt : OpR X (compareOp .Gt) (rI0 fun i j => .bl (decide (j < i))) := opB0 fun _ _ _ _ _ _ _ q => gt_int q
/-- two rules for one operation: by cases -/
theorem OpR.or {f : Value → Value → Sem Value} {r r' : R2} (h : OpR X f r) (h' : OpR X f r') : OpR X f (fun x y H Q => r x y H Q ∨ r' x y H Q) := by
  intro pins s σ H x y v u Q I rx ry q
  rcases q with q | q
  · exact h pins s σ H x y v u Q I rx ry q
  · exact h' pins s σ H x y v u Q I rx ry q

theorem nomark (b : Expr) {op : CmpOp} (h : op ≠ .In := by decide) (h2 : op ≠ .NotIn := by decide) : behindInMarks op b = false := by
  have e1 : (op == CmpOp.In) = false := by cases op <;> first | rfl | exact absurd rfl h
  have e2 : (op == CmpOp.NotIn) = false := by cases op <;> first | rfl | exact absurd rfl h2
  cases b <;> simp [behindInMarks, e1, e2]
/-- a comparison as a value; hm: nomark b, or (for in, not in) by with_unfolding_all rfl -/
theorem pe_cmpR {op : CmpOp} {r : R2} (ho : OpR X (compareOp op) r) (ha : PE X a ta) (hb : PE X b tb) (hm : behindInMarks op b = false) : PE X (.Compare a [op] [b] pos) (tOp r ta tb) := by
  intro pins s σ H Q I h
  exact wpAny_Compare1 (binT ha hb I h fun v u s2 x y H2 I2 rx ry q => ho pins s2 σ H2 x y v u Q I2 rx ry q) hm
/-- a reading of a value as a test -/
def tTest (t : TE) : TT := fun σ H Q => t σ H fun x H' => ∃ k, x = .bl k ∧ Q k H'
theorem pt_cmpR {op : CmpOp} {r : R2} (ho : OpR X (compareOp op) r) (ha : PE X a ta) (hb : PE X b tb) (hm : behindInMarks op b = false) : PT X (.Compare a [op] [b] pos) (tTest (tOp r ta tb)) := by
  intro pins s σ H Q I h
  refine wpAny_isTrue_Compare1 (thn (ha pins s σ H _ I h) fun v s1 ⟨x, H1, I1, r1, q1⟩ => thn (hb pins s1 σ H1 _ I1 q1) fun u s2 ⟨y, H2, I2, r2, q2⟩ =>
    thn (ho pins s2 σ H2 x y v u _ I2 r1 r2 q2) fun c s3 ⟨z, H3, I3, r3, k, e, q3⟩ => ?_) hm
  subst e
  cases r3
  exact wpAny_truthy_bool ⟨H3, I3, q3⟩
/-- a op1 b op2 c -/
def tChain (r r' : R2) (ta tb tc : TE) : TE := fun σ H Q => ta σ H fun x H1 => tb σ H1 fun y H2 => r x y H2 fun z H3 => ∃ k, z = .bl k ∧
  (if k = true then tc σ H3 fun w' H4 => r' y w' H4 Q else Q (.bl false) H3)
theorem line63 : (sizeLine : Nat) < 2 ^ 63 := by rw [sizeLine_eq]; decide
theorem vals1 {x : V} {us : List Value} (r : Vals [x] us) : ∃ u, us = [u] ∧ RelV x u := by
  cases r with
  | cons r1 r2 => cases r2; exact ⟨_, rfl, r1⟩
theorem vals2 {x y : V} {us : List Value} (r : Vals [x, y] us) : ∃ u w', us = [u, w'] ∧ RelV x u ∧ RelV y w' := by
  cases r with
  | cons r1 r2 =>
    cases r2 with
    | cons r3 r4 => cases r4; exact ⟨_, _, rfl, r1, r3⟩
end
end L2

namespace L2
open PySem PySem.Spec PyProof.Rows

structure ObjM (h : Heap) (x dx C : Addr) (mA : Str → Option Value) : Prop where
  obj : h.get? x = some (PySem.W.instObj C dx)
  ns : h.Ns1 dx mA
  ne : dx ≠ x

theorem lookIn_ns {h : Heap} {dx : Addr} {mA : Str → Option Value} (n : h.Ns1 dx mA) : ∃ od, h.get? dx = some od ∧ ∀ name, PySem.W.lookIn name od = some (mA name) := by
  obtain ⟨o, es, ep, ho, hd, hk, _, hm⟩ := n
  refine ⟨o, ho, fun name => ?_⟩
  have e := hm name
  unfold nsFind findBy at e
  rw [← Array.find?_toList] at e
  unfold PySem.W.lookIn
  rw [hd]
  dsimp only
  split
  · rename_i y q
    rw [q] at e
    exact congrArg some e
  · rename_i q
    rw [q] at e
    have a : es.toList.any (·.refKey) = false := by
      rw [List.any_eq_false]
      intro y hy
      obtain ⟨z, t, hkey⟩ := hk y (Array.mem_toList_iff.mp hy)
      simp [DictEntry.refKey, hkey]
    have a' : ¬ es.toList.any (·.refKey) = true := by rw [a]; exact Bool.false_ne_true
    rw [if_neg a']
    exact congrArg some e

theorem ObjM.look {h : Heap} {x dx C : Addr} {mA : Str → Option Value} (I : ObjM h x dx C mA) : ∃ od, PySem.W.InstAt h x (PySem.W.instObj C dx) C (some od) ∧ ∀ name, PySem.W.lookIn name od = some (mA name) :=
  let ⟨od, ho, hl⟩ := lookIn_ns I.ns
  ⟨od, ⟨I.obj, rfl, rfl, ho⟩, hl⟩

section
variable {prog : Program} {w : World} {A : Around} {E : Value → Shared → Prop} {s : Shared} {K : PySem.W.Frag} {x dx C f : Addr} {mA : Str → Option Value} {name : Str} {v : Value}

end

def putF (f : Str) (v : V) : List (Str × V) → List (Str × V)
  | [] => [(f, v)]
  | (g, x) :: r => if g = f then (g, v) :: r else (g, x) :: putF f v r
section
variable {P : Program} {w : World} {H H' : Hp} {h h' : Heap} {a C dx : Addr} {fs fs' : List (Str × V)}
theorem ins_get (hok : HOk P w H h) (e : H a = some (.ins C dx fs)) : ∃ mA, ObjM h a dx C mA ∧ (∀ f, RelO (fs.lookup f) (mA f)) ∧ PySem.Within mA (fs.map (·.1)) ∧ fs.length ≤ 1000 ∧ H dx = some (.own a) := by
  obtain ⟨d, z, ne, ob, mA, n, r, q⟩ := (show ObjOk P w H h a (.ins C dx fs) from hok a _ e)
  exact ⟨mA, ⟨ob, n, ne⟩, r, q, z, d⟩
end

structure Cls (K : PySem.W.Frag) (C : Addr) : Prop where
  pg : PySem.W.plainGet K C Str.empty = true
  hd : PySem.W.hasDictIn K C = true
  po : PySem.W.plainOver K C = true
  sa : PySem.W.findIn K (.ref C) "__setattr__" = some (some (.builtin "object.__setattr__"))
theorem Cls.get {K : PySem.W.Frag} {C : Addr} (c : Cls K C) (f : Str) : PySem.W.plainGet K C f = true := c.pg
/-- no class of it has the name -/
def NoAttr (K : PySem.W.Frag) (C : Addr) (f : Str) : Prop := PySem.W.findIn K (.ref C) f = some none
/-- a constant of the class -/
structure Con (K : PySem.W.Frag) (C : Addr) (f : Str) (v : V) (u : Value) : Prop where
  at_ : PySem.W.findIn K (.ref C) f = some (some u)
  rel : RelV v u
  get : PySem.W.specialIn K u "__get__" = some none
  cp : PySem.W.copiedNames.contains f = false
/-- a method: a plain def of the class or of one above it -/
structure Meth (K : PySem.W.Frag) (C : Addr) (m : Str) (f : Addr) : Prop where
  at_ : PySem.W.findIn K (.ref C) m = some (some (.ref f))
  fn : PySem.W.isFn K (.ref f) = true
  kp : PySem.W.keepIn K (.ref f) = true

section
variable {X : Cx} {pins : List (Addr × Obj)} {σ : St} {H : Hp} {s : Shared} {a C dx : Addr} {fs : List (Str × V)} {f : Str} {v : V} {A : Around} {E : Value → Shared → Prop}

/-- a new instance, tracked, without attributes -/
theorem Inv.made (I : Inv X pins σ H s) : Inv X pins σ (upd (upd H s.heap.objs.size (.own (s.heap.objs.size + 1))) (s.heap.objs.size + 1) (.ins C s.heap.objs.size []))
    { s with heap := (s.heap.push PySem.W.emptyDict).push (PySem.W.instObj C s.heap.objs.size) } := by
  have e1 : (s.heap.push PySem.W.emptyDict).get? s.heap.objs.size = some PySem.W.emptyDict := Heap.get?_push_size s.heap rfl
  have e2 : ((s.heap.push PySem.W.emptyDict).push (PySem.W.instObj C s.heap.objs.size)).get? (s.heap.objs.size + 1) = some (PySem.W.instObj C s.heap.objs.size) := by
    have := Heap.get?_push_size (s.heap.push PySem.W.emptyDict) (o := PySem.W.instObj C s.heap.objs.size) rfl
    rwa [Heap.size_push] at this
  have e3 : (s.heap.push PySem.W.emptyDict).Ns s.heap.objs.size (fun _ => none) := ⟨PySem.W.emptyDict, #[], _, e1, rfl, (fun e he => absurd he (by simp)), fun _ => rfl⟩
  have I1 := I.laid (a := s.heap.objs.size) (o := .own (s.heap.objs.size + 1)) (h' := s.heap.push PySem.W.emptyDict) (t' := s.toks) (fun b u q => Heap.get?_push_of_some _ q) (Nat.le_refl _) ⟨_, e1⟩
  refine I1.laid (a := s.heap.objs.size + 1) (o := .ins C s.heap.objs.size []) (t' := s.toks) (fun b u q => Heap.get?_push_of_some _ q) (Nat.le_of_eq (Heap.size_push _ _)) ?_
  have ne : s.heap.objs.size ≠ s.heap.objs.size + 1 := Nat.ne_of_lt (Nat.lt_succ_self _)
  refine ⟨by rw [upd_ne ne, upd_same], Nat.zero_le _, ne, e2, fun _ => none, (Heap.Ns1.of_empty e3).at fun o q => Heap.get?_push_of_some _ q, fun _ => True.intro, fun y hy => absurd rfl hy⟩

end

/-- e.f, an attribute of the instance -/
def tFld (K : PySem.W.Frag) (ta : TE) (f : Str) : TE := fun σ H Q => ta σ H fun x H1 => ∃ a C dx fs v, x = .ref a ∧ H1 a = some (.ins C dx fs) ∧ Cls K C ∧ NoAttr K C f ∧ fs.lookup f = some v ∧ Q v H1
/-- e.f = value -/
def sFld (K : PySem.W.Frag) (ta tv : TE) (f : Str) : TS := fun D σ H => tv σ H fun y H1 => ta σ H1 fun x H2 => ∃ a C dx fs, x = .ref a ∧ H2 a = some (.ins C dx fs) ∧ Cls K C ∧ NoAttr K C f ∧ fs.length < 1000 ∧
  D.nx σ (upd H2 a (.ins C dx (putF f y fs)))
section
variable {X : Cx} {o e value : Expr} {f : Str} {pos pos' tpos : Pos} {ta tv : TE}
end

section
variable {X : Cx} {pins : List (Addr × Obj)} {σ : St} {H : Hp} {s : Shared} {A : Around} {E : Value → Shared → Prop} {Q : Value → Shared → Prop} {c : Value} {b : Bool}
/-- the type of a value, as the fragment's deciders take it; for an instance its class -/
inductive TyOf (K : PySem.W.Frag) (H : Hp) : V → Value → Prop where
  | non : TyOf K H .non (.type "NoneType")
  | bl (x : Bool) : TyOf K H (.bl x) (.type "bool")
  | int (i : Int) : TyOf K H (.int i) (.type "int")
  | str (x : Str) : TyOf K H (.str x) (.type "str")
  | flt (x : UInt64) : TyOf K H (.flt x) (.type "float")
  | lst {a : Addr} {xs : List V} (e : H a = some (.lst xs)) : TyOf K H (.ref a) (.type "list")
  | frz {a : Addr} {o : Obj} {xs : List V} (e : H a = some (.frz o (.lst xs))) : TyOf K H (.ref a) (.type "list")
  | tup {a : Addr} {xs : List V} (e : H a = some (.tup xs)) : TyOf K H (.ref a) (.type "tuple")
  | dK {a : Addr} {kvs : List (Key × V)} (e : H a = some (.dK kvs)) : TyOf K H (.ref a) (.type "dict")
  | dT {a : Addr} {kvs : List (List Key × V)} (e : H a = some (.dT kvs)) : TyOf K H (.ref a) (.type "dict")
  | ins {a C dx : Addr} {fs : List (Str × V)} (e : H a = some (.ins C dx fs)) (cl : Cls K C) (ha : PySem.W.findIn K (.ref C) "__class__" = some (some (.builtin "object.__class__")))
      (hn : PySem.W.specialIn K (.builtin "object.__class__") "__get__" = some (some (.builtin "getset_descriptor.__get__"))) (htk : PySem.W.takesIn K (.builtin "object.__class__") = some true)
      (hm : PySem.W.mroIn K C (.type "object") = some true) : TyOf K H (.ref a) (.ref C)
/-- isinstance(x, c) for one class c, a built-in or an own one: kitOne's answer -/
theorem isinst_ok {x : V} {u t : Value} (I : Inv X pins σ H s) (rx : RelV x u) (ty : TyOf X.K H x t) (e : PySem.W.kitOne X.K t c = some b) (h : ∀ tk, Q (.bool b) { s with toks := tk }) :
    wpAny (model X.prog X.w) A (call (.builtin "isinstance") [u, c]) Q E s := by
  cases ty with
  | non => cases (show u = Value.none from rx); exact PySem.W.kia_one PySem.W.kitx_none I.kIn True.intro e (fun z => nomatch z) h
  | bl y => cases (show u = Value.bool y from rx); exact PySem.W.kia_one PySem.W.kitx_bool I.kIn True.intro e (fun z => nomatch z) h
  | int i => obtain ⟨t, q⟩ := (show ∃ t, u = Value.int i t from rx); cases q; exact PySem.W.kia_one PySem.W.kitx_int I.kIn True.intro e (fun z => nomatch z) h
  | str y => obtain ⟨t, q⟩ := (show ∃ t, u = Value.str y t from rx); cases q; exact PySem.W.kia_one PySem.W.kitx_str I.kIn True.intro e (fun z => nomatch z) h
  | flt y => obtain ⟨t, q⟩ := (show ∃ t, u = Value.float y t from rx); cases q; exact PySem.W.kia_one PySem.W.kitx_float I.kIn True.intro e (fun z => nomatch z) h
  | @lst a xs ea =>
    cases (show u = Value.ref a from rx)
    obtain ⟨_, _, n, _, h1⟩ := (show ObjOk X.prog X.w H s.heap a (.lst xs) from I.hok a _ ea)
    exact PySem.W.kia_one PySem.W.kitx_list I.kIn ⟨_, h1, rfl⟩ e (fun z => nomatch z) h
  | @frz a ob xs ea =>
    cases (show u = Value.ref a from rx)
    obtain ⟨_, _, _, n, _, h1⟩ := (show ObjOk X.prog X.w H s.heap a (.frz ob (.lst xs)) from I.hok a _ ea)
    exact PySem.W.kia_one PySem.W.kitx_list I.kIn ⟨_, h1, rfl⟩ e (fun z => nomatch z) h
  | @tup a xs ea =>
    cases (show u = Value.ref a from rx)
    obtain ⟨_, _, _, p⟩ := (show ObjOk X.prog X.w H s.heap a (.tup xs) from I.hok a _ ea)
    obtain ⟨o, h1, h2, _⟩ := p
    exact PySem.W.kia_one PySem.W.kitx_tuple I.kIn ⟨o, h1, h2⟩ e (fun z => nomatch z) h
  | @dK a kvs ea =>
    cases (show u = Value.ref a from rx)
    obtain ⟨_, _, vs, _, p⟩ := (show ObjOk X.prog X.w H s.heap a (.dK kvs) from I.hok a _ ea)
    obtain ⟨o, es, ep, h1, h2, _⟩ := p
    exact PySem.W.kia_one PySem.W.kitx_dict I.kIn ⟨o, h1, h2.1⟩ e (fun z => nomatch z) h
  | @dT a kvs ea =>
    cases (show u = Value.ref a from rx)
    obtain ⟨_, _, xs, _, o, es, ep, h1, h2, _⟩ := (show ObjOk X.prog X.w H s.heap a (.dT kvs) from I.hok a _ ea)
    exact PySem.W.kia_one PySem.W.kitx_dict I.kIn ⟨o, h1, h2.1⟩ e (fun z => nomatch z) h
  | @ins a C dx fs ea cl ha hn htk hm =>
    cases (show u = Value.ref a from rx)
    obtain ⟨mA, O, _⟩ := ins_get I.hok ea
    obtain ⟨od, J, _⟩ := O.look
    exact PySem.W.kia_one (PySem.W.kitx_own (cl.get _) cl.hd ha hn htk hm) I.kIn J e (fun z => nomatch z) h
end
end L2

namespace L2
open PySem PySem.Spec PyProof.Rows

structure Room (k : Nat) (A : Around) : Prop where
  hd : A.handled = none
  dp : A.depth + 3 * k + 5 < recursionLimit
  un : A.units + 16 * k + 200 < cLine
theorem Room.mono {j k : Nat} {A : Around} (r : Room k A) (h : j ≤ k) : Room j A := ⟨r.hd, by have := r.dp; omega, by have := r.un; omega⟩
theorem Room.deeper {k : Nat} {A : Around} (r : Room (k + 1) A) (env : Env) : Room k (A.deeper env) :=
  ⟨r.hd, by have := r.dp; show A.depth + 1 + 3 * k + 5 < _; omega, by have := r.un; show A.units + 3 + 16 * k + 200 < _; omega⟩
theorem Room.in1 {k : Nat} {A : Around} (r : Room (k + 1) A) : Room k A.in1 :=
  ⟨r.hd, by have := r.dp; show A.depth + 3 * k + 5 < _; omega, by have := r.un; show A.units + 1 + 16 * k + 200 < _; omega⟩
theorem Room.depth {k : Nat} {A : Around} (r : Room k A) : A.depth < recursionLimit := by have := r.dp; omega
theorem Room.units {k : Nat} {A : Around} (r : Room k A) : A.units + 64 < cLine := by have := r.un; omega
def tNil : TA := fun _ H Q => Q [] H
def tCons (ta : TE) (tr : TA) : TA := fun σ H Q => ta σ H fun x H1 => tr σ H1 fun xs H2 => Q (x :: xs) H2
section
variable {X : Cx} {e : Expr} {es : List Expr} {te : TE} {t : TA} {pos : Pos}
theorem pa_nil : PA X [] tNil := fun _ _ _ _ H Q I h => Calls.spliced_nil ⟨[], H, I, .nil, h⟩
theorem pa_cons (ha : PE X e te) (hr : PA X es t) (hs : starEach (e :: es) X.env = (false, eval e X.env) :: starEach es X.env := by rfl) : PA X (e :: es) (tCons te t) := by
  intro pos pins s σ H Q I h
  rw [hs]
  show wpAny _ _ (spliced ((false, eval e X.env) :: backTo pos (starEach es X.env))) _ _ s
  refine Calls.spliced_cons (thn (ha pins s σ H _ I h) fun u s1 ⟨x, H1, I1, r1, q1⟩ => ?_)
  exact thn (hr pos pins s1 σ H1 _ I1 q1) fun us s2 ⟨xs, H2, I2, r2, q2⟩ => ⟨x :: xs, H2, I2, .cons r1 r2, q2⟩

/-- a tuple, a list of written items -/
def tTup (t : TA) : TE := fun σ H Q => t σ H fun xs H1 => xs.length ≤ sizeLine ∧ ∀ p, H1 p = none → Q (.ref p) (upd H1 p (.tup xs))
def tLst (t : TA) : TE := fun σ H Q => t σ H fun xs H1 => xs.length ≤ sizeLine ∧ ∀ p, H1 p = none → Q (.ref p) (upd H1 p (.lst xs))
theorem pe_tup {x1} (h : PA X es t) : PE X (.Tuple es x1 pos) (tTup t) := by
  intro pins s σ H Q I hq
  refine wpAny_Tuple_spliced (thn (h pos pins s σ H _ I hq) fun us s1 ⟨xs, H1, I1, r, z, q⟩ => ⟨by rw [← r.length]; exact z, ?_⟩)
  have hf : H1 s1.heap.objs.size = none := I1.hok.fresh (Nat.le_refl _)
  refine ⟨.ref s1.heap.objs.size, upd H1 s1.heap.objs.size (.tup xs), I1.laid (t' := s1.toks) (fun b u e => Heap.get?_push_of_some _ e) (Nat.le_refl _) ?_, rfl, q _ hf⟩
  exact ⟨z, us, r, ⟨_, Heap.get?_push_size _ rfl, rfl, _, rfl⟩⟩
theorem pe_lst (h : PA X es t) : PE X (.List es pos) (tLst t) := by
  intro pins s σ H Q I hq
  refine wpAny_List_spliced (thn (h pos pins s σ H _ I hq) fun us s1 ⟨xs, H1, I1, r, z, q⟩ => ⟨by rw [← r.length]; exact z, ?_⟩)
  have hf : H1 s1.heap.objs.size = none := I1.hok.fresh (Nat.le_refl _)
  refine ⟨.ref s1.heap.objs.size, upd H1 s1.heap.objs.size (.lst xs), I1.laid (t' := s1.toks) (fun b u e => Heap.get?_push_of_some _ e) (Nat.le_refl _) ?_, rfl, q _ hf⟩
  exact ⟨z, us, 0, r, Heap.get?_push_size _ rfl⟩
end

/-- a def's promise: the bound arguments in the parameters' order, the heap, the wanted end, the wanted exception -/
abbrev Sp := List V → Hp → VK → XK → Prop
/-- how an exception lies behind a call (file 08 gives it): the callers' frames, abstract heap and state ahead of the call, the wish, the exception, the state -/
abbrev CXT := List Env → Hp → Shared → XK → Value → Shared → Prop

/-- the state at a call -/
structure Env0 (P : Program) (w : World) (K : PySem.W.Frag) (mg : Str → Option Value) (base : Heap) (A : Around) (outer : List Env) (s : Shared) (H : Hp) : Prop where
  frames : A.frames = some outer
  mod : Mod K mg base
  bs : ∀ b o, base.get? b = some o → s.heap.get? b = some o ∧ H b = none
  bsz : base.objs.size ≤ s.heap.objs.size
  funs : s.heap.FunFrames base outer
  frf : ∀ b ∈ frs outer, H b = none
  hok : HOk P w H s.heap
  bare : AllBare s.gens
/-- a call's end -/
def CE (outer : List Env) (P : Program) (w : World) (H : Hp) (s : Shared) (Q : VK) (u : Value) (s' : Shared) : Prop :=
  ∃ v H', s'.os = s.os ∧ AllBare s'.gens ∧ Un (frs outer) [] H H' s.heap s'.heap ∧ HOk P w H' s'.heap ∧ RelV v u ∧ Q v H'
def CR (CX : CXT) (outer : List Env) (P : Program) (w : World) (H : Hp) (s : Shared) (Q : VK) (E : XK) (r : Result) (s' : Shared) : Prop :=
  match r with
  | .ok (.ret u) => CE outer P w H s Q u s'
  | .ok _ => False
  | .error e => CX outer H s E e s'
structure FnOk (P : Program) (w : World) (K : PySem.W.Frag) (mg : Str → Option Value) (base : Heap) (CX : CXT) (k : Nat) (f : Addr) (fd : FuncData) (ps : List Str) (sp : Sp) : Prop where
  len : ∀ vs H Q E, sp vs H Q E → vs.length = ps.length
  run : ∀ (A : Around) (outer : List Env) (s : Shared) (H : Hp) (args : Args) (us : List Value) (vs : List V) (Q : VK) (E : XK), Room k A → Env0 P w K mg base A outer s H → BindsTo s fd args (ps.zip us) → Vals vs us → sp vs H Q E →
    codeAny (model P w) A (.call (.ref f) args) (CR CX outer P w H s Q E) s
theorem FnOk.mono {P : Program} {w : World} {K : PySem.W.Frag} {mg : Str → Option Value} {base : Heap} {CX : CXT} {j k : Nat} {f : Addr} {fd : FuncData} {ps : List Str} {sp : Sp} (F : FnOk P w K mg base CX j f fd ps sp) (h : j ≤ k) :
    FnOk P w K mg base CX k f fd ps sp := ⟨F.len, fun A outer s H args us vs Q E hr => F.run A outer s H args us vs Q E (hr.mono h)⟩
/-- a weaker promise -/
theorem FnOk.imp {P : Program} {w : World} {K : PySem.W.Frag} {mg : Str → Option Value} {base : Heap} {CX : CXT} {k : Nat} {f : Addr} {fd : FuncData} {ps : List Str} {sp sp' : Sp} (F : FnOk P w K mg base CX k f fd ps sp)
    (h : ∀ vs H Q E, sp' vs H Q E → sp vs H Q E) : FnOk P w K mg base CX k f fd ps sp' :=
  ⟨fun vs H Q E q => F.len vs H Q E (h _ _ _ _ q), fun A outer s H args us vs Q E hr he hb hv hs => F.run A outer s H args us vs Q E hr he hb hv (h _ _ _ _ hs)⟩

theorem Env0.in1 {P : Program} {w : World} {K : PySem.W.Frag} {mg : Str → Option Value} {base : Heap} {A : Around} {outer : List Env} {s : Shared} {H : Hp} (e : Env0 P w K mg base A outer s H) :
    Env0 P w K mg base A.in1 outer s H := ⟨e.frames, e.mod, e.bs, e.bsz, e.funs, e.frf, e.hok, e.bare⟩

section
variable {X : Cx} {pins : List (Addr × Obj)} {σ : St} {H : Hp} {s s' : Shared}
/-- from a body: what a callee wants -/
theorem Inv.env0 (I : Inv X pins σ H s) : Env0 X.prog X.w X.K X.mg X.base X.A X.stack s H :=
  ⟨I.ok.frames, I.ok.mod, I.bs, Nat.le_trans I.ok.bsz I.sz, I.stack, I.stkFree, I.hok, I.bare⟩
/-- behind a call -/
theorem Inv.after {Q : VK} {u : Value} (I : Inv X pins σ H s) (h : CE X.stack X.prog X.w H s Q u s') : EP X pins σ Q u s' := by
  obtain ⟨v, H', os, bare, un, hok, r, q⟩ := h
  obtain ⟨hh, g, d, t, os'⟩ := s'
  obtain rfl : os' = s.os := os
  exact ⟨v, H', I.call (h' := hh) (g' := g) (d' := d) (t' := t) (ch := []) un hok bare (fun b z => absurd z (by simp)), r, q⟩
end

/-- f(..): the written arguments, then the defaults dvs; E: what is wanted of an exception -/
def tCall (sp : Sp) (dvs : List V) (E : XK) (t : TA) : TE := fun σ H Q => t σ H fun vs H1 => sp (vs ++ dvs) H1 Q E
/-- o.m(..) of an instance of the class at C -/
def tMeth (C : Addr) (m : Str) (sp : Sp) (dvs : List V) (E : XK) (ta : TE) (t : TA) : TE := fun σ H Q => ta σ H fun x H1 => ∃ a dx fs, x = .ref a ∧ H1 a = some (.ins C dx fs) ∧ fs.lookup m = none ∧
  t σ H1 fun vs H2 => sp (x :: (vs ++ dvs)) H2 Q E
/-- C(..): a new instance and its dict, then __init__ -/
def tMake (C : Addr) (sp : Sp) (dvs : List V) (E : XK) (t : TA) : TE := fun σ H Q => t σ H fun vs H1 => ∀ x dx, H1 x = none → H1 dx = none → dx ≠ x →
  sp (.ref x :: (vs ++ dvs)) (upd (upd H1 dx (.own x)) x (.ins C dx [])) (fun v H2 => v = .non ∧ Q (.ref x) H2) E

/-- how the parameters are bound: us the positional arguments, kw the keywords' values by name, ds the defaults that fill up -/
def Binds (K : PySem.W.Frag) (fd : FuncData) (ps : List Str) (ds : List Value) : Prop :=
  ∀ (s : Shared) (us : List Value), K.In s.heap → (us ++ ds).length = ps.length → BindsTo s fd ⟨us, []⟩ (ps.zip (us ++ ds))
/-- every parameter is given -/
theorem Binds.all {K : PySem.W.Frag} {fd : FuncData} {ps : List Str} (h : ∀ us : List Value, us.length = ps.length → bindArgs fd ⟨us, []⟩ = pure (ps.zip us)) : Binds K fd ps [] := fun s us _ hl => by
  rw [List.append_nil] at hl ⊢
  exact .of_eq (h us hl)

/-- an exception of a callee reaches what this body wants of exceptions -/
def Passes (CX : CXT) (X : Cx) (E : XK) : Prop := ∀ (pins : List (Addr × Obj)) (σ : St) (H : Hp) (s : Shared) (e : Value) (s' : Shared), Inv X pins σ H s → CX X.stack H s E e s' → X.xe e s'

section
variable {X : Cx} {CX : CXT} {k : Nat} {f C : Addr} {fd : FuncData} {ps : List Str} {sp : Sp} {dvs : List V} {ds : List Value} {E : XK} {x m : Str} {p pos apos : Pos} {e o : Expr} {es : List Expr} {ta : TE} {t : TA}

/-- the callee runs -/
theorem run_fn {pins : List (Addr × Obj)} {σ : St} {H : Hp} {s : Shared} {Q : VK} {us : List Value} {vs : List V} (F : FnOk X.prog X.w X.K X.mg X.base CX k f fd ps sp) (hr : Room k X.A) (hb : Binds X.K fd ps ds) (hd : Vals dvs ds) (hx : Passes CX X E)
    (I : Inv X pins σ H s) (r : Vals vs us) (h : sp (vs ++ dvs) H Q E) : wpAny (model X.prog X.w) X.A (call (.ref f) us) (EP X pins σ Q) X.xe s := by
  have r2 : Vals (vs ++ dvs) (us ++ ds) := r.append hd
  have hl : (us ++ ds).length = ps.length := by rw [← r2.length]; exact F.len _ _ _ _ h
  refine wpAny_call (codeAny_mono (F.run X.A X.stack s H ⟨us, []⟩ (us ++ ds) (vs ++ dvs) Q E hr I.env0 (hb s us I.kIn hl) r2 h) fun r s' hq => ?_)
  cases r with
  | error e => exact hx pins σ H s e s' I hq
  | ok fl =>
    cases fl with
    | ret u => exact I.after hq
    | next => exact False.elim hq
    | brk => exact False.elim hq
    | cont => exact False.elim hq

theorem pe_call (F : FnOk X.prog X.w X.K X.mg X.base CX k f fd ps sp) (hr : Room k X.A) (hg : Gl X x) (hm : X.mg x = some (.ref f)) (hk : PySem.W.keepIn X.K (.ref f) = true) (hb : Binds X.K fd ps ds) (hd : Vals dvs ds) (hx : Passes CX X E)
    (ha : PA X (e :: es) t) (hdb : (x == ("__debug__" : Str)) = false := by decide) (he : starEach (e :: es) X.env = (false, eval e X.env) :: starEach es X.env := by rfl) (hpl : (backTo pos (starEach es X.env)).any (·.1) = false := by rfl) :
    PE X (.Call (.Name x p) (e :: es) [] pos) (tCall sp dvs E t) := by
  intro pins s σ H Q I h
  refine wpAny_Call_Name_kw (ld_glob I hg hm ?_ hdb)
  refine PySem.W.callWith_K (h₀ := X.base) I.ok.mod.kin hk (thn (ha pos pins s σ H _ I h) fun us s1 ⟨vs, H1, I1, r, q⟩ => ⟨I1.kIn, ?_⟩) he hpl
  exact run_fn F hr hb hd hx I1 r q
/-- what a class must have to be made -/
structure Mk (K : PySem.W.Frag) (C f : Addr) : Prop where
  makes : PySem.W.makesIn K C = true
  init : PySem.W.findIn K (.ref C) "__init__" = some (some (.ref f))
  fn : PySem.W.isFn K (.ref f) = true
  kp : PySem.W.keepIn K (.ref C) = true

end

/-- the values of the keywords, from the left -/
def PK (X : Cx) (kws : List Keyword) (t : TA) : Prop :=
  ∀ (pos : Pos) (pins : List (Addr × Obj)) (s : Shared) (σ : St) (H : Hp) (Q : List V → Hp → Prop), Inv X pins σ H s → t σ H Q → wpAny (model X.prog X.w) X.A (evalAll ((backToKw pos (keywordEach kws X.env)).map (·.2))) (AP X pins σ Q) X.xe s
section
variable {X : Cx} {CX : CXT} {k : Nat} {f C : Addr} {fd : FuncData} {ps ks : List Str} {sp : Sp} {E : XK} {x m : Str} {p pos apos kpos : Pos} {e o : Expr} {es : List Expr} {kws : List Keyword} {te ta : TE} {t tk : TA} {nm : Option Str}
theorem pk_nil : PK X [] tNil := fun _ _ _ _ H Q I h => wpAny_evalAll_nil ⟨[], H, I, .nil, h⟩
theorem pk_cons (ha : PE X e te) (hr : PK X kws t) : PK X (⟨nm, e, kpos⟩ :: kws) (tCons te t) := by
  intro pos pins s σ H Q I h
  show wpAny _ _ (evalAll ((do let v ← eval e X.env; standAt pos; pure v) :: (backToKw pos (keywordEach kws X.env)).map (·.2))) _ _ s
  refine wpAny_evalAll_cons (wpAny_bind (thn (ha pins s σ H _ I h) fun u s1 ⟨x, H1, I1, r1, q1⟩ => wpAny_bind (wpAny_standAt (wpAny_pure ?_))))
  exact thn (hr pos pins s1 σ H1 _ I1 q1) fun us s2 ⟨xs, H2, I2, r2, q2⟩ => ⟨x :: xs, H2, I2, .cons r1 r2, q2⟩

/-- how a call with keywords binds: g puts the positional values us and the keywords' values ws (names ks) in the parameters' order, defaults among them -/
structure KBinds (K : PySem.W.Frag) (fd : FuncData) (ps ks : List Str) (g : List Value → List Value → List Value) (gV : List V → List V → List V) : Prop where
  to : ∀ (s : Shared) (us ws : List Value), K.In s.heap → (g us ws).length = ps.length → BindsTo s fd ⟨us, ks.zip ws⟩ (ps.zip (g us ws))
  rel : ∀ {vs : List V} {us : List Value} {zs : List V} {ws : List Value}, Vals vs us → Vals zs ws → Vals (gV vs zs) (g us ws)
variable {g : List Value → List Value → List Value} {gV : List V → List V → List V}
end

/-- names: the parameters first -/
structure FnScope (N P : List Str) (sc : Scope) : Prop where
  kind : sc.kind = .function
  co : sc.isCoroutine = false
  gen : sc.isGenerator = false
  nd : N.Nodup
  pre : N.take P.length = P
  par : ∀ x ∈ P, sc.names.lookup x = some .local ∨ sc.names.lookup x = some .cell
  nofree : ∀ y ∈ sc.names, y.2 ≠ .free

theorem bindL_out {kindOf : Str → Option NameKind} {x : Str} : ∀ {binds : List (Str × Value)} {m : Str → Option Value}, (∀ v, (x, v) ∉ binds) → bindL kindOf binds m x = m x
  | [], _, _ => rfl
  | (n, v) :: r, m, h => by
    unfold bindL
    rw [bindL_out fun w hw => h w (List.mem_cons_of_mem _ hw)]
    split
    · have : x ≠ n := by rintro rfl; exact h v List.mem_cons_self
      simp [this]
    · rfl
theorem bindC_out {kindOf : Str → Option NameKind} {x : Str} : ∀ {binds : List (Str × Value)} {m : Str → Option Value}, (∀ v, (x, v) ∉ binds) → bindC kindOf binds m x = m x
  | [], _, _ => rfl
  | (n, v) :: r, m, h => by
    unfold bindC
    rw [bindC_out fun w hw => h w (List.mem_cons_of_mem _ hw)]
    split
    · rfl
    · have : x ≠ n := by rintro rfl; exact h v List.mem_cons_self
      simp [this]
theorem bindL_get {kindOf : Str → Option NameKind} {x : Str} {v : Value} : ∀ {P : List Str} {vs : List Value} {i : Nat} {m : Str → Option Value}, P.Nodup → P[i]? = some x → vs[i]? = some v → kindOf x = some .local →
    bindL kindOf (P.zip vs) m x = some v
  | [], _, _, _, _, h, _, _ => by simp at h
  | _ :: _, [], _, _, _, _, h, _ => by simp at h
  | p :: P, w :: vs, 0, m, nd, h1, h2, hk => by
    simp at h1 h2; subst h1; subst h2
    show bindL kindOf ((p, w) :: P.zip vs) m p = _
    unfold bindL
    rw [bindL_out fun v hv => (List.nodup_cons.mp nd).1 (List.of_mem_zip hv).1, if_pos hk]
    simp
  | p :: P, w :: vs, i + 1, m, nd, h1, h2, hk => by
    show bindL kindOf ((p, w) :: P.zip vs) m x = _
    unfold bindL
    exact bindL_get (i := i) (List.nodup_cons.mp nd).2 (by simpa using h1) (by simpa using h2) hk
theorem bindC_get {kindOf : Str → Option NameKind} {x : Str} {v : Value} : ∀ {P : List Str} {vs : List Value} {i : Nat} {m : Str → Option Value}, P.Nodup → P[i]? = some x → vs[i]? = some v → kindOf x ≠ some .local →
    bindC kindOf (P.zip vs) m x = some v
  | [], _, _, _, _, h, _, _ => by simp at h
  | _ :: _, [], _, _, _, _, h, _ => by simp at h
  | p :: P, w :: vs, 0, m, nd, h1, h2, hk => by
    simp at h1 h2; subst h1; subst h2
    show bindC kindOf ((p, w) :: P.zip vs) m p = _
    unfold bindC
    rw [bindC_out fun v hv => (List.nodup_cons.mp nd).1 (List.of_mem_zip hv).1, if_neg hk]
    simp
  | p :: P, w :: vs, i + 1, m, nd, h1, h2, hk => by
    show bindC kindOf ((p, w) :: P.zip vs) m x = _
    unfold bindC
    exact bindC_get (i := i) (List.nodup_cons.mp nd).2 (by simpa using h1) (by simpa using h2) hk

/-- the names' values at the entry -/
def start (N : List Str) (vs : List V) : St := vs.map some ++ List.replicate (N.length - vs.length) none

/-- the context of a def's body, at its entry; an exception leaves the frame, then lies as CX says -/
def cxOf (CX : CXT) (P : Program) (w : World) (K : PySem.W.Frag) (mg : Str → Option Value) (base : Heap) (N : List Str) (qual : Str) (scope : Scope) (f : Addr) (cd : Value) (A : Around) (outer : List Env) (s : Shared) (H : Hp) (E : XK) : Cx where
  prog := P
  w := w
  K := K
  mg := mg
  base := base
  A := A.deeper (envOfC qual scope s.heap.objs.size f cd)
  N := N
  s₀ := s
  H₀ := H
  env := envOfC qual scope s.heap.objs.size f cd
  outer := outer
  stack := envOfC qual scope s.heap.objs.size f cd :: outer
  ex := []
  calm := true
  fn := fun _ => true
  pn := []
  xe := fun e s' => wpAny (model P w) (A.deeper (envOfC qual scope s.heap.objs.size f cd)) (leaving (envOfC qual scope s.heap.objs.size f cd) e) (fun _ s'' => CX outer H s E e s'') (fun e' s'' => CX outer H s E e' s'') s'

theorem cell_has {sc : Scope} {n : Nat} {x : Str} (h : sc.names.lookup x = some .cell) : ∃ c, (cellsFrom n sc.names []).lookup x = some c := by
  have q := PySem.W.cellsFrom_some sc.names n [] (.inl h)
  exact Option.isSome_iff_exists.mp q

theorem inv_start {CX : CXT} {P : Program} {w : World} {K : PySem.W.Frag} {mg : Str → Option Value} {base : Heap} {N ps : List Str} {qual : Str} {scope : Scope} {f : Addr} {cd : Value} {A : Around} {outer : List Env} {s s1 : Shared} {H : Hp} {E : XK} {us : List Value} {vs : List V}
    (S : FnScope N ps scope) (hd : A.handled = none) (e0 : Env0 P w K mg base A outer s H) (hl : vs.length = ps.length) (r : Vals vs us)
    (x : InCallC s s.heap.objs.size (bindL (envOfC qual scope s.heap.objs.size f cd).kindOf (ps.zip us) fun _ => none) (cellsFrom (s.heap.objs.size + 1) scope.names []) (bindC (envOfC qual scope s.heap.objs.size f cd).kindOf (ps.zip us) fun _ => none) s1) :
    Inv (cxOf CX P w K mg base N qual scope f cd A outer s H E) [] (start N vs) H s1 := by
  have hpl : ps.length ≤ N.length := by have := congrArg List.length S.pre; rw [List.length_take] at this; omega
  obtain ⟨h1, tk, rfl, hk⟩ := x.done
  have noA : ∀ b : Addr, b ∉ (cxOf CX P w K mg base N qual scope f cd A outer s H E).ex := fun b z => absurd (show b ∈ ([] : List Addr) from z) (by simp)
  refine ⟨⟨e0.mod, S.kind, rfl, rfl, Nat.le_refl _, fun y z c h1 h2 => ?_, fun y hy => ?_, fun y c _ h => ?_, fun _ => hd, Around.frames_deeper e0.frames, .inr ⟨rfl, rfl⟩, fun b z => absurd z (noA b), e0.bs, e0.bsz, fun b _ _ => noA b, fun b z => absurd z (noA b), e0.funs, e0.frf⟩,
    rfl, e0.bare, Un.kept hk, ⟨_, x.toInCall.ns, fun i y v h1 h2 h3 => ?_⟩, fun y c h => ⟨_, x.cell y c h⟩, e0.hok.fresh (Nat.le_refl _), fun y c h => ?_, fun p hp => absurd (show p ∈ ([] : List (Addr × Obj)) from hp) (by simp), e0.hok.kept hk, ?_⟩
  · exact name_of_addr x.apart (PySem.mem_of_lookup h1) (PySem.mem_of_lookup h2)
  · have hy : scope.names.lookup y = some .cell ∨ scope.names.lookup y = some .free := hy
    rcases hy with hy | hy
    · exact cell_has hy
    · exact absurd rfl (S.nofree _ (PySem.mem_of_lookup hy))
  · exact Nat.le_of_lt (x.above y c (PySem.mem_of_lookup h))
  · have hi : i < vs.length := by
      unfold start at h2
      by_cases hi : i < vs.length
      · exact hi
      · rw [List.getElem?_append_right (by simpa using hi)] at h2
        rw [List.getElem?_replicate] at h2
        split at h2 <;> cases h2
    have ha : vs[i]? = some v := by
      unfold start at h2
      rw [List.getElem?_append_left (by simpa using hi), List.getElem?_map] at h2
      cases e : vs[i]? with
      | none => rw [e] at h2; cases h2
      | some a => rw [e] at h2; cases h2; rfl
    obtain ⟨u, hu, rv⟩ := r.get ha
    have hp : ps[i]? = some y := by
      rw [← S.pre, List.getElem?_take_of_lt (by omega)]; exact h1
    have ndP : ps.Nodup := by rw [← S.pre]; exact S.nd.sublist (List.take_sublist _ _)
    refine ⟨u, rv, ?_⟩
    rcases S.par y (List.mem_of_getElem? hp) with k | k
    · exact .inl ⟨k, bindL_get ndP hp hu k⟩
    · obtain ⟨c, e⟩ := cell_has (n := s.heap.objs.size + 1) k
      refine .inr ⟨.inl k, c, e, ?_⟩
      have q := x.cell y c e
      rw [bindC_get ndP hp hu (by show scope.names.lookup y ≠ _; rw [k]; decide)] at q
      exact q
  · exact e0.hok.fresh (Nat.le_of_lt (x.above y c (PySem.mem_of_lookup h)))
  · unfold start
    show _ = N.length
    rw [List.length_append, List.length_map, List.length_replicate]
    omega

/-- THE RULE: a def (or a method) of the text, by its body. The body's reading t is chosen for each entry; it is run at the parameters' values -/
theorem fn_of {CX : CXT} {P : Program} {w : World} {K : PySem.W.Frag} {mg : Str → Option Value} {base : Heap} {k : Nat} {f : Addr} {name qual : Str} {params : Arguments} {body : List Stmt} {scope : Scope} {dV kV doc pm cdv ct oc : Value} {an od : Option Addr}
    {osl : Array (Option Value)} {N ps : List Str} {sp : Sp} (lk : K.lookup f = some ⟨oc, od, .func (PySem.W.fnOf name qual params body scope dV kV doc pm an cdv ct), osl⟩) (hcd : PySem.W.codeIn K cdv qual = true) (S : FnScope N ps scope)
    (len : ∀ vs H Q E, sp vs H Q E → vs.length = ps.length)
    (hbody : ∀ (A : Around) (outer : List Env) (s : Shared) (H : Hp) (vs : List V) (Q : VK) (E : XK), Room k (A.deeper (envOfC qual scope s.heap.objs.size f cdv)) → sp vs H Q E →
      ∃ t, PSs (cxOf CX P w K mg base N qual scope f cdv A outer s H E) body t ∧ t { nx := fun _ H' => Q .non H', rt := Q } (start N vs) H) :
    FnOk P w K mg base CX (k + 1) f (PySem.W.fnOf name qual params body scope dV kV doc pm an cdv ct) ps sp := by
  refine ⟨len, fun A outer s H args us vs Q E hr e0 hb r hsp => ?_⟩
  have hl := len _ _ _ _ hsp
  have KX : K.In s.heap := e0.mod.kin.keeps fun b o e => (e0.bs b o e).1
  have lim : s.heap.NoLimit := e0.mod.nolimit.keeps fun b o e => (e0.bs b o e).1
  have hkind : ∀ y ∈ ps.zip us, scope.names.lookup y.1 = some .local ∨ (scope.names.lookup y.1 = some .cell ∧ ((cellsFrom (s.heap.objs.size + 1) scope.names []).lookup y.1).isSome = true) := fun ⟨n, v⟩ hy => by
    rcases S.par n (List.of_mem_zip hy).1 with q | q
    · exact .inl q
    · exact .inr ⟨q, PySem.W.cellsFrom_some _ _ _ (.inl q)⟩
  refine codeAny_call_function hr.depth (KX _ _ lk) rfl S.co S.gen rfl (PySem.W.codeRec_of KX hcd) (hb _ _ _ _ ?_)
  refine wpAny_newFunctionEnv_cells S.kind hkind fun env he s1 x => ?_
  subst he
  refine ⟨lim.keeps x.toInCall.keep, codeAny_func ?_⟩
  obtain ⟨t, ht, hq⟩ := hbody A outer s H vs Q E (hr.deeper _) hsp
  have I : Inv (cxOf CX P w K mg base N qual scope f cdv A outer s H E) [] (start N vs) H s1 := inv_start S hr.hd e0 hl r x
  refine wpAny_mono (ht [] s1 (start N vs) H _ I hq) (fun fl s' hs => ?_) fun e s' hs => hs
  have fin : ∀ {σ' : St} {H' : Hp} {v : V} {u : Value}, Inv (cxOf CX P w K mg base N qual scope f cdv A outer s H E) [] σ' H' s' → RelV v u → Q v H' → CE outer P w H s Q u s' :=
    fun {σ' H' v u} J rv q => ⟨v, H', J.os, J.bare, J.base, J.hok, rv, q⟩
  cases fl with
  | ret u =>
    obtain ⟨v, σ', H', J, rv, q⟩ := hs
    exact fin J rv q
  | next =>
    obtain ⟨σ', H', J, q⟩ := hs
    exact fin (v := V.non) (u := Value.none) J rfl q
  | brk =>
    obtain ⟨_, _, _, q⟩ := hs
    exact False.elim q
  | cont =>
    obtain ⟨_, _, _, q⟩ := hs
    exact False.elim q
end L2

namespace L2
open PySem PySem.Spec PyProof.Rows
section
variable {X : Cx} {x : Str} {p pos : Pos} {e : Expr} {es : List Expr} {t : TA} {id T : String} {r : List V → Hp → VK → Prop}

def tCB (r : List V → Hp → VK → Prop) (t : TA) : TE := fun σ H Q => t σ H fun vs H1 => r vs H1 Q
/-- f(e, ..), f a built-in function -/
theorem pe_callB (hc : CallR X (.builtin id) r) (hg : Gl X x) (hm : X.mg x = none) (hv : bootBuiltins x = some (.builtin id)) (ha : PA X (e :: es) t) (hn : x ≠ "__name__" := by decide) (hdb : (x == ("__debug__" : Str)) = false := by decide)
    (he : starEach (e :: es) X.env = (false, eval e X.env) :: starEach es X.env := by rfl) (hpl : (backTo pos (starEach es X.env)).any (·.1) = false := by rfl) : PE X (.Call (.Name x p) (e :: es) [] pos) (tCB r t) := by
  intro pins s σ H Q I h
  refine wpAny_Call_Name_kw (ld_blt I hg hm hv ?_ hn hdb)
  exact PyProof.Rows.callWith_builtin1 (thn (ha pos pins s σ H _ I h) fun us s1 ⟨vs, H1, I1, r1, q1⟩ => hc pins s1 σ H1 vs us Q I1 r1 q1) he hpl
/-- T(e, ..), T a built-in type -/
theorem pe_callTy (hc : CallR X (.type T) r) (hg : Gl X x) (hm : X.mg x = none) (hv : bootBuiltins x = some (.type T)) (ha : PA X (e :: es) t) (hn : x ≠ "__name__" := by decide) (hdb : (x == ("__debug__" : Str)) = false := by decide)
    (he : starEach (e :: es) X.env = (false, eval e X.env) :: starEach es X.env := by rfl) (hpl : (backTo pos (starEach es X.env)).any (·.1) = false := by rfl) : PE X (.Call (.Name x p) (e :: es) [] pos) (tCB r t) := by
  intro pins s σ H Q I h
  refine wpAny_Call_Name_kw (ld_blt I hg hm hv ?_ hn hdb)
  exact PyProof.Rows.callWith_type1 (thn (ha pos pins s σ H _ I h) fun us s1 ⟨vs, H1, I1, r1, q1⟩ => hc pins s1 σ H1 vs us Q I1 r1 q1) he hpl
end
end L2

namespace HT
open PySem PyProof.Rows

section
open PySem.SeqAt
open PySem.AutoSeq1 (wpAny_loadPart')
open PySem.MeetsSeq PySem.MeetsSeq2 PySem.MeetsSeq3

end

section
variable {prog : Program} {w : World} {A : Around} {E : Value → Shared → Prop} {s : Shared}

/-- a slice's bound as a place among n (d where it is left out) -/
def sIx (n d : Nat) : Option Int → Nat
  | none => d
  | some v => if v < 0 then (v + (n : Int)).toNat else min v.toNat n
end
end HT

namespace L2
open PySem PySem.Spec PyProof.Rows

abbrev TO := St → Hp → (Option Int → Hp → Prop) → Prop
/-- a slice's part (left out, or an int) -/
def PO (X : Cx) (e : Option Expr) (t : TO) : Prop :=
  ∀ (pins : List (Addr × Obj)) (s : Shared) (σ : St) (H : Hp) (Q : Option Int → Hp → Prop), Inv X pins σ H s → t σ H Q →
    wpAny (model X.prog X.w) X.A (evalPart e X.env) (fun u s' => ∃ o H', Inv X pins σ H' s' ∧ IsPart u o ∧ Q o H') X.xe s
def tNoPart : TO := fun _ H Q => Q none H
def tPart (t : TE) : TO := fun σ H Q => t σ H fun x H1 => ∃ i, x = .int i ∧ Q (some i) H1

section
variable {X : Cx} {e : Expr} {te : TE} {lo hi : Option Expr} {tl th : TO} {pos p2 : Pos}

theorem po_some (h : PE X e te) : PO X (some e) (tPart te) := by
  intro pins s σ H Q I hw
  rw [evalPart_some]
  refine thn (h pins s σ H _ I hw) fun u s1 ⟨x, H1, I1, r1, q1⟩ => ?_
  obtain ⟨i, rfl, q⟩ := q1
  obtain ⟨t, rfl⟩ := r1
  exact ⟨some i, H1, I1, .int i t, q⟩

/-- what a slice of a value is, by values: the slice object stands at sl -/
def SlR (X : Cx) (r : V → Option Int → Option Int → Hp → VK → Prop) : Prop :=
  ∀ (pins : List (Addr × Obj)) (s : Shared) (σ : St) (H : Hp) (x : V) (v vl vu : Value) (lo hi : Option Int) (sl : Addr) (Q : VK), Inv X pins σ H s → RelV x v → s.heap.IsSliceOf sl vl vu .none → IsPart vl lo → IsPart vu hi → r x lo hi H Q →
    ∃ T id, typeLookup (.type T) "__getitem__" = pure (some (.builtin id)) ∧ s.TypeIs v T ∧ wpAny (model X.prog X.w) X.A (getItem v (.ref sl)) (EP X pins σ Q) X.xe s
theorem SlR.or {r r' : V → Option Int → Option Int → Hp → VK → Prop} (h : SlR X r) (h' : SlR X r') : SlR X (fun x lo hi H Q => r x lo hi H Q ∨ r' x lo hi H Q) := by
  intro pins s σ H x v vl vu lo hi sl Q I rx hs pl pu q
  rcases q with q | q
  · exact h pins s σ H x v vl vu lo hi sl Q I rx hs pl pu q
  · exact h' pins s σ H x v vl vu lo hi sl Q I rx hs pl pu q
def tSl (r : V → Option Int → Option Int → Hp → VK → Prop) (te : TE) (tl th : TO) : TE := fun σ H Q => te σ H fun x H1 => tl σ H1 fun l H2 => th σ H2 fun u H3 => r x l u H3 Q
/-- a[lo:hi], any a -/
theorem pe_slice {r : V → Option Int → Option Int → Hp → VK → Prop} (hr : SlR X r) (he : PE X e te) (hl : PO X lo tl) (hu : PO X hi th) : PE X (.Subscript e (.Slice lo hi none p2) pos) (tSl r te tl th) := by
  intro pins s σ H Q I h
  refine Subscript_ (thn (he pins s σ H _ I h) fun v s1 ⟨x, H1, I1, r1, q1⟩ => ?_)
  refine wpAny_Slice (thn (hl pins s1 σ H1 _ I1 q1) fun vl s2 ⟨l, H2, I2, pl, q2⟩ => thn (hu pins s2 σ H2 _ I2 q2) fun vu s3 ⟨u, H3, I3, pu, q3⟩ => ?_)
  rw [evalPart_none]
  refine wpAny_pure ?_
  have I4 : Inv X pins σ H3 { s3 with heap := s3.heap.push { cls := .type "slice", data := .fields #[vl, vu, .none] } } := I3.kept (t' := s3.toks) fun b ob q => Heap.get?_push_of_some _ q
  obtain ⟨T, id, hT, ht, hg⟩ := hr pins { s3 with heap := s3.heap.push { cls := .type "slice", data := .fields #[vl, vu, .none] } } σ H3 x v vl vu l u s3.heap.objs.size Q I4 r1 (Heap.IsSliceOf.new ..) pl pu q3
  show wpAny (model X.prog X.w) X.A (subscriptTail e (.Slice lo hi none p2) v (.ref s3.heap.objs.size)) (EP X pins σ Q) X.xe { s3 with heap := s3.heap.push { cls := .type "slice", data := .fields #[vl, vu, .none] } }
  exact tail_any (ops := [.ref s3.heap.objs.size, v]) ht hT hg (by with_unfolding_all rfl)

/-- the items of xs[lo:hi] -/
def cutV (xs : List V) (lo hi : Option Int) : List V := (xs.drop (HT.sIx xs.length 0 lo)).take (HT.sIx xs.length xs.length hi - HT.sIx xs.length 0 lo)
theorem cutV_length (xs : List V) (lo hi : Option Int) : (cutV xs lo hi).length ≤ xs.length := by
  unfold cutV
  rw [List.length_take, List.length_drop]
  omega
end
end L2

namespace L2
open PySem PySem.Spec PyProof.Rows

/-- the place that an index of any sign means -/
def ixN (n : Nat) (i : Int) : Option Nat := if 0 ≤ i then (if i < n then some i.toNat else none) else if -(n : Int) ≤ i then some (i + n).toNat else none
def atI {α : Type} (xs : List α) (i : Int) : Option α := (ixN xs.length i).bind fun j => xs[j]?
theorem ixN_seq {n : Nat} {i : Int} {j : Nat} (h : ixN n i = some j) : seqIndex? i n = some j ∧ j < n ∧ -(n : Int) ≤ i ∧ i < n := by
  unfold ixN at h
  by_cases h0 : 0 ≤ i
  · rw [if_pos h0] at h
    by_cases h1 : i < n
    · rw [if_pos h1] at h
      have e : i.toNat = j := Option.some.inj h
      exact ⟨by rw [seqIndex_of h0 h1, e], by omega, by omega, h1⟩
    · rw [if_neg h1] at h; cases h
  · rw [if_neg h0] at h
    by_cases h1 : -(n : Int) ≤ i
    · rw [if_pos h1] at h
      have e : (i + n).toNat = j := Option.some.inj h
      exact ⟨by rw [seqIndex_neg (by omega) h1, e], by omega, h1, by omega⟩
    · rw [if_neg h1] at h; cases h
theorem atI_get {α : Type} {xs : List α} {i : Int} {v : α} (h : atI xs i = some v) : ∃ j, seqIndex? i xs.length = some j ∧ xs[j]? = some v ∧ j < xs.length ∧ -(xs.length : Int) ≤ i ∧ i < xs.length := by
  unfold atI at h
  cases e : ixN xs.length i with
  | none => rw [e] at h; cases h
  | some j =>
    rw [e] at h
    obtain ⟨h1, h2, h3, h4⟩ := ixN_seq e
    exact ⟨j, h1, h, h2, h3, h4⟩
theorem atI_nat {α : Type} {xs : List α} {j : Nat} {v : α} (h : xs[j]? = some v) : atI xs (j : Int) = some v := by
  have hj : j < xs.length := (List.getElem?_eq_some_iff.mp h).1
  have e : ixN xs.length (j : Int) = some j := by
    unfold ixN
    rw [if_pos (by omega), if_pos (by omega)]; simp
  unfold atI; rw [e]; exact h
/-- what stands as an index of a plain subscript -/
def PlainIx (b : Expr) : Prop := ∀ o i, subscripted b false o i = operate [o, i] (getItem o i)
/-- a subscript by values -/
def IxR (X : Cx) (r : R2) : Prop :=
  ∀ (value slice : Expr) (pins : List (Addr × Obj)) (s : Shared) (σ : St) (H : Hp) (x y : V) (v u : Value) (Q : VK), Inv X pins σ H s → RelV x v → RelV y u → r x y H Q →
    subscripted slice false v u = operate [v, u] (getItem v u) → wpAny (model X.prog X.w) X.A (subscriptTail value slice v u) (EP X pins σ Q) X.xe s
/-- a call of a builtin's method by values: the receiver, the arguments -/
def MtR (X : Cx) (id : String) (r : V → List V → Hp → VK → Prop) : Prop :=
  ∀ (pins : List (Addr × Obj)) (s : Shared) (σ : St) (H : Hp) (x : V) (xs : List V) (v : Value) (us : List Value) (Q : VK), Inv X pins σ H s → RelV x v → Vals xs us → r x xs H Q →
    wpAny (model X.prog X.w) X.A (call (.builtin id) (v :: us)) (EP X pins σ Q) X.xe s
section
variable {X : Cx} {a b : Expr} {ta tb : TE} {pos : Pos}
theorem IxR.or {r r' : R2} (h : IxR X r) (h' : IxR X r') : IxR X (fun x y H Q => r x y H Q ∨ r' x y H Q) := by
  intro value slice pins s σ H x y v u Q I rx ry q hs
  rcases q with q | q
  · exact h value slice pins s σ H x y v u Q I rx ry q hs
  · exact h' value slice pins s σ H x y v u Q I rx ry q hs
theorem MtR.or {id : String} {r r' : V → List V → Hp → VK → Prop} (h : MtR X id r) (h' : MtR X id r') : MtR X id (fun x xs H Q => r x xs H Q ∨ r' x xs H Q) := by
  intro pins s σ H x xs v us Q I rx rs q
  rcases q with q | q
  · exact h pins s σ H x xs v us Q I rx rs q
  · exact h' pins s σ H x xs v us Q I rx rs q
/-- a[b] -/
theorem pe_ix {r : R2} (hr : IxR X r) (ha : PE X a ta) (hb : PE X b tb) (hs : PlainIx b) : PE X (.Subscript a b pos) (tOp r ta tb) := by
  intro pins s σ H Q I h
  exact Subscript_ (binT ha hb I h fun v u s2 x y H2 I2 rx ry q => hr a b pins s2 σ H2 x y v u Q I2 rx ry q (hs _ _))

def rIxL (K : PySem.W.Frag) : R2 := fun x y H Q => ∃ p xs i v, x = .ref p ∧ y = .int i ∧ SqL K H p xs ∧ atI xs i = some v ∧ Q v H
def rIxT (K : PySem.W.Frag) : R2 := fun x y H Q => ∃ p xs i v, x = .ref p ∧ y = .int i ∧ SqT K H p xs ∧ atI xs i = some v ∧ Q v H
theorem ix_list : IxR X (rIxL X.K) := by
  intro value slice pins s σ H x y v u Q I rx ry h hs
  obtain ⟨p, xs, i, z, rfl, rfl, hq, he, q⟩ := h
  cases rx
  obtain ⟨t, rfl⟩ := ry
  obtain ⟨its, r, pl, hz⟩ := I.list hq
  obtain ⟨j, h1, h2, h3, h4, h5⟩ := atI_get he
  obtain ⟨w, ew, rw'⟩ := r.get h2
  have hl := r.length
  have hn := line63
  have fin : EP X pins σ Q w s := ⟨z, H, I, rw', q⟩
  by_cases h0 : 0 ≤ i
  · have hj : i.toNat = j := by
      rw [seqIndex_of h0 h5] at h1
      exact Option.some.inj h1
    exact item_listR pl.isList h0 (by omega) (by rw [hj]; simpa using ew) fin hs
  · have hj : (i + (its.toArray.size : Int)).toNat = j := by
      rw [seqIndex_neg (by omega) h4] at h1
      rw [List.size_toArray, ← hl]
      exact Option.some.inj h1
    exact subscriptTail_builtinR (x := w) pl.isList.typeIs slot_list_getitem.lookup
      (wpAny_getItem_list_neg (Q := fun r s' => r = w ∧ EP X pins σ Q r s') pl.isList (by omega) (by rw [List.size_toArray] <;> omega) (by omega) (by rw [hj]; simpa using ew) ⟨rfl, fin⟩) hs
theorem ix_tup : IxR X (rIxT X.K) := by
  intro value slice pins s σ H x y v u Q I rx ry h hs
  obtain ⟨p, xs, i, z, rfl, rfl, hq, he, q⟩ := h
  cases rx
  obtain ⟨t, rfl⟩ := ry
  obtain ⟨its, r, pl, hz⟩ := I.tuple hq
  obtain ⟨j, h1, h2, h3, h4, h5⟩ := atI_get he
  obtain ⟨w, ew, rw'⟩ := r.get h2
  have hl := r.length
  have hn := line63
  have fin : EP X pins σ Q w s := ⟨z, H, I, rw', q⟩
  exact subscriptTail_builtinR (x := w) pl.typeIs slot_tuple_getitem.lookup
    (getItem_tuple (j := j) (Q := fun r s' => r = w ∧ EP X pins σ Q r s') pl (by omega) (by omega) (by rw [List.size_toArray, ← hl]; exact h1) (by simpa using ew) ⟨rfl, fin⟩) hs
/-- the list's object behind a store -/
theorem mapSeq_set (its : List Value) (n j : Nat) (u : Value) : Obj.mapSeq (·.setIfInBounds j u) { cls := .type "list", data := .seq its.toArray n } = { cls := .type "list", data := .seq (its.set j u).toArray n } := by
  simp [Obj.mapSeq]
theorem Inv.lst {pins : List (Addr × Obj)} {σ : St} {H : Hp} {s : Shared} {p : Addr} {xs : List V} (I : Inv X pins σ H s) (h : H p = some (.lst xs)) :
    ∃ (its : List Value) (n : Nat), Vals xs its ∧ s.heap.get? p = some { cls := .type "list", data := .seq its.toArray n } ∧ xs.length ≤ sizeLine := by
  obtain ⟨z, its, n, r, e⟩ := I.hok p _ h
  exact ⟨its, n, r, e, z⟩
/-- the list at p is written by an update of its object -/
theorem Inv.lstUpd {pins : List (Addr × Obj)} {σ : St} {H : Hp} {s : Shared} {p : Addr} {xs ys : List V} {its its' : List Value} {n n' : Nat} {f : Obj → Obj} (I : Inv X pins σ H s) (h : H p = some (.lst xs))
    (ho : s.heap.get? p = some { cls := .type "list", data := .seq its.toArray n }) (hf : f { cls := .type "list", data := .seq its.toArray n } = { cls := .type "list", data := .seq its'.toArray n' }) (r : Vals ys its') (hz : ys.length ≤ sizeLine) (t : Nat) :
    Inv X pins σ (upd H p (.lst ys)) { s with heap := s.heap.update p f, toks := t } := by
  have e : (s.heap.update p f).get? p = some { cls := .type "list", data := .seq its'.toArray n' } := by
    rw [Heap.get?_update_self f ho (by rw [hf] <;> rfl), hf]
  refine I.write (x := p) (e := p) (by rw [h]; trivial) (.inl rfl) (fun b u hb q => (Heap.get?_update_other _ _ (Ne.symm hb)).trans q) ⟨_, e⟩ ?_
  exact ⟨hz, its', n', r, e⟩
def rSetL : V → V → V → Hp → (Hp → Prop) → Prop := fun o i v H Q => ∃ p xs k j, o = .ref p ∧ i = .int k ∧ H p = some (.lst xs) ∧ ixN xs.length k = some j ∧ Q (upd H p (.lst (xs.set j v)))
theorem set_list : PSet X rSetL := by
  intro pins s σ H o i v ov iv u Q I ro ri rv h
  obtain ⟨p, xs, k, j, rfl, rfl, hp, hj, q⟩ := h
  cases ro
  obtain ⟨t, rfl⟩ := ri
  obtain ⟨its, n, r, ho, hz⟩ := I.lst hp
  obtain ⟨h1, h2, h3, h4⟩ := ixN_seq hj
  have hl := r.length
  have hn := line63
  have I' : Inv X pins σ (upd H p (.lst (xs.set j v))) { s with heap := s.heap.update p (Obj.mapSeq (·.setIfInBounds j u)) } :=
    I.lstUpd hp ho (mapSeq_set its n j u) (r.set rv j) (by rw [List.length_set]; exact hz) s.toks
  by_cases h0 : 0 ≤ k
  · have hk : k.toNat = j := by
      rw [seqIndex_of h0 h4] at h1
      exact Option.some.inj h1
    exact PySem.W.ki_setAt ho h0 (by omega) (by rw [List.size_toArray, ← hl]; exact h4) (by rw [hk]; exact ⟨_, I', q⟩)
  · have hk : (k + (its.toArray.size : Int)).toNat = j := by
      rw [seqIndex_neg (by omega) h3] at h1
      rw [List.size_toArray, ← hl]
      exact Option.some.inj h1
    exact PySem.W.ki_setBack ho (by omega) (by rw [List.size_toArray, ← hl]; exact h3) (by omega) (by rw [hk]; exact ⟨_, I', q⟩)

theorem slice_bounds (lo hi : Option Int) (n : Nat) : (sliceBounds lo hi none n).1 = ((HT.sIx n 0 lo : Nat) : Int) ∧ (sliceBounds lo hi none n).2.1 = ((HT.sIx n n hi : Nat) : Int) ∧ (sliceBounds lo hi none n).2.2 = 1 := by
  refine ⟨?_, ?_, rfl⟩
  · cases lo with
    | none => simp [sliceBounds, HT.sIx]
    | some i =>
      simp only [sliceBounds, HT.sIx, Option.getD_none, show (1 : Int) > 0 by decide, if_true]
      by_cases h : i < 0
      · simp only [h, if_true] <;> omega
      · simp only [h, if_false] <;> omega
  · cases hi with
    | none => simp [sliceBounds, HT.sIx]
    | some i =>
      simp only [sliceBounds, HT.sIx, Option.getD_none, show (1 : Int) > 0 by decide, if_true]
      by_cases h : i < 0
      · simp only [h, if_true] <;> omega
      · simp only [h, if_false] <;> omega
theorem slicePick_cut (its : List Value) (lo hi : Option Int) : slicePick its.toArray lo hi none = ((its.drop (HT.sIx its.length 0 lo)).take (HT.sIx its.length its.length hi - HT.sIx its.length 0 lo)).toArray := by
  obtain ⟨h1, h2, h3⟩ := slice_bounds lo hi its.toArray.size
  unfold slicePick
  rw [h1, h2, h3]
  simp only [sliceRange_one, pick_run, List.size_toArray] <;> rfl
/-- xs[lo:hi] of a list: a new list -/
def rSlL (K : PySem.W.Frag) : V → Option Int → Option Int → Hp → VK → Prop := fun x lo hi H Q => ∃ a xs, x = .ref a ∧ SqL K H a xs ∧ ∀ p, H p = none → Q (.ref p) (upd H p (.lst (cutV xs lo hi)))
theorem sl_list : SlR X (rSlL X.K) := by
  intro pins s σ H x v vl vu lo hi sl Q I rx hs pl pu h
  obtain ⟨a, xs, rfl, hx, q⟩ := h
  cases rx
  obtain ⟨its, r, ht, hz⟩ := I.list hx
  have hlen := r.length
  refine ⟨"list", _, slot_list_getitem.lookup, ht.isList.typeIs, ?_⟩
  refine wpAny_getItem_list_slice ht.isList hs pl pu .none (by simp) ?_ (by rw [List.size_toArray] <;> omega)
  rw [slicePick_cut, ← hlen]
  refine ⟨.ref s.heap.objs.size, _, I.laid (t' := s.toks) (o := .lst (cutV xs lo hi)) (fun b ob q => Heap.get?_push_of_some _ q) (Nat.le_refl _) ?_, rfl, q _ (I.hok.fresh (Nat.le_refl _))⟩
  exact ⟨Nat.le_trans (cutV_length xs lo hi) hz, _, 0, (r.drop (HT.sIx xs.length 0 lo)).take (HT.sIx xs.length xs.length hi - HT.sIx xs.length 0 lo), Heap.get?_push_size _ rfl⟩

theorem call_len_seq : CallR X (.builtin "len") (fun xs H Q => ∃ p ys, xs = [.ref p] ∧ (SqL X.K H p ys ∨ SqT X.K H p ys) ∧ Q (.int ys.length) H) := by
  intro pins s σ H xs us Q I r h
  obtain ⟨p, ys, rfl, hq, q⟩ := h
  obtain ⟨u, rfl, rx⟩ := vals1 r
  cases rx
  have hn := line63
  rcases hq with hq | hq
  · obtain ⟨its, r', pl, hz⟩ := I.list hq
    have hlen := r'.length
    exact Calls.call_len_list pl.isList (by simp only [List.size_toArray] <;> omega) ⟨.int ys.length, H, I.tok _, ⟨s.toks + 1, by rw [List.size_toArray, hlen]⟩, q⟩
  · obtain ⟨its, r', pl, hz⟩ := I.tuple hq
    have hlen := r'.length
    exact len_tuple pl (by simp only [List.size_toArray] <;> omega) ⟨.int ys.length, H, I.tok _, ⟨s.toks + 1, by rw [List.size_toArray, hlen]⟩, q⟩
theorem CallR.or {f : Value} {r r' : List V → Hp → VK → Prop} (h : CallR X f r) (h' : CallR X f r') : CallR X f (fun xs H Q => r xs H Q ∨ r' xs H Q) := by
  intro pins s σ H xs us Q I rs q
  rcases q with q | q
  · exact h pins s σ H xs us Q I rs q
  · exact h' pins s σ H xs us Q I rs q
theorem call_list_of : CallR X (.type "list") (fun xs H Q => ∃ p ys, xs = [.ref p] ∧ (SqL X.K H p ys ∨ SqT X.K H p ys) ∧ ∀ l, H l = none → Q (.ref l) (upd H l (.lst ys))) := by
  intro pins s σ H xs us Q I r h
  obtain ⟨p, ys, rfl, hq, q⟩ := h
  obtain ⟨u, rfl, rx⟩ := vals1 r
  cases rx
  have fin : ∀ (its : List Value), Vals ys its → ys.length ≤ sizeLine → ∀ (h' : Heap) (c' : Nat), (∀ b o', s.heap.get? b = some o' → h'.get? b = some o') →
      h'.get? s.heap.objs.size = some { cls := .type "list", dict := none, data := .seq its.toArray c', slots := #[] } → EP X pins σ Q (.ref s.heap.objs.size) { s with heap := h' } := fun its r' hz h' c' kp e =>
    ⟨.ref s.heap.objs.size, _, I.laid (t' := s.toks) kp (Nat.le_refl _) (show ObjOk X.prog X.w _ h' _ (.lst ys) from ⟨hz, its, c', r', e⟩), rfl, q _ (I.hok.fresh (Nat.le_refl _))⟩
  rcases hq with hq | hq
  · obtain ⟨its, r', pl, hz⟩ := I.list hq
    have hlen := r'.length
    obtain ⟨o, ho, hc, n, hd⟩ := pl.isList
    exact call_list_seq p (.inl rfl) ho hc hd (fun h' c' kp e => fin its r' hz h' c' kp e) (by simp only [List.size_toArray] <;> omega)
  · obtain ⟨its, r', pl, hz⟩ := I.tuple hq
    have hlen := r'.length
    obtain ⟨o, ho, hc, n, hd⟩ := pl
    exact call_list_seq p (.inr rfl) ho hc hd (fun h' c' kp e => fin its r' hz h' c' kp e) (by simp only [List.size_toArray] <;> omega)
/-- the value is of that builtin type -/
def tyV (K : PySem.W.Frag) (T : String) (x : V) (H : Hp) : Prop := match x with
  | .str _ => T = "str"
  | .int _ => T = "int"
  | .ref p => (T = "list" ∧ ∃ xs, SqL K H p xs) ∨ (T = "tuple" ∧ ∃ o, K.lookup p = some o ∧ o.cls = .type "tuple" ∧ o.dict = none) ∨
      (T = "dict" ∧ ((∃ kvs, H p = some (.dK kvs)) ∨ ∃ kvs, H p = some (.dT kvs))) ∨ (T = "set" ∧ ∃ S n, H p = some (.set S n))
  | _ => False
theorem tyV_is {pins : List (Addr × Obj)} {σ : St} {H : Hp} {s : Shared} {T : String} {x : V} {v : Value} (I : Inv X pins σ H s) (r : RelV x v) (ty : tyV X.K T x H) :
    s.TypeIs v T ∧ ∀ a, v = .ref a → ∃ ob, s.heap.get? a = some ob ∧ ob.dict = none := by
  cases x with
  | str z =>
    obtain ⟨t, rfl⟩ := r
    cases (show T = "str" from ty)
    exact ⟨typeIs_str s z t, fun _ e => nomatch e⟩
  | int i =>
    obtain ⟨t, rfl⟩ := r
    cases (show T = "int" from ty)
    exact ⟨typeIs_int s i t, fun _ e => nomatch e⟩
  | ref p =>
    cases r
    rcases ty with ⟨rfl, xs, hq⟩ | ⟨rfl, o, hk, hc, hd⟩ | ⟨rfl, hk⟩ | ⟨rfl, S, n, hk⟩
    · obtain ⟨its, _, pl, _⟩ := I.list hq
      refine ⟨pl.isList.typeIs, fun a e => ?_⟩
      cases e
      obtain ⟨o, n, e, c, hd, _⟩ := pl
      exact ⟨o, e, hd⟩
    · refine ⟨⟨o, I.kIn p o hk, hc⟩, fun a e => ?_⟩
      cases e
      exact ⟨o, I.kIn _ o hk, hd⟩
    · have z : ∃ o, s.heap.get? p = some o ∧ o.ExactDict := by
        rcases hk with ⟨kvs, hk⟩ | ⟨kvs, hk⟩
        · obtain ⟨_, _, _, _, o, _, _, e, ex, _⟩ := I.hok p _ hk
          exact ⟨o, e, ex⟩
        · obtain ⟨_, _, _, _, o, _, _, e, ex, _⟩ := I.hok p _ hk
          exact ⟨o, e, ex⟩
      obtain ⟨o, e, ex⟩ := z
      refine ⟨⟨o, e, ex.1⟩, fun a e2 => ?_⟩
      cases e2
      exact ⟨o, e, ex.2.1⟩
    · obtain ⟨o, _, _, _, e, ex, _⟩ := I.hok p _ hk
      refine ⟨⟨o, e, ex.1⟩, fun a e2 => ?_⟩
      cases e2
      exact ⟨o, e, ex.2.1⟩
  | _ => exact False.elim ty
def tBM0 (K : PySem.W.Frag) (T : String) (r : V → List V → Hp → VK → Prop) (to : TE) : TE := fun σ H Q => to σ H fun x H1 => tyV K T x H1 ∧ r x [] H1 Q
def tBM (K : PySem.W.Frag) (T : String) (r : V → List V → Hp → VK → Prop) (to : TE) (t : TA) : TE := fun σ H Q => to σ H fun x H1 => tyV K T x H1 ∧ t σ H1 fun xs H2 => r x xs H2 Q
variable {o e : Expr} {es : List Expr} {to : TE} {t : TA} {name : Str} {apos cpos : Pos} {T id : String} {r : V → List V → Hp → VK → Prop}
theorem pe_bm0 (pa : PlainAttrs T) (slot : Slot T name id) (hty : typeOf (.builtin id) = pure (.type "method_descriptor")) (hm : MtR X id r) (ho : PE X o to)
    (hbase : attributeBase o name X.env (eval o X.env) = eval o X.env := by rfl) (hline : (apos.endLine == cpos.line) = true := by rfl) : PE X (.Call (.Attribute o name apos) [] [] cpos) (tBM0 X.K T r to) := by
  intro pins s σ H Q I h
  refine wpAny_Call_method0_late hbase hline (thn (ho pins s σ H _ I h) fun v s1 ⟨x, H1, I1, r1, ty, q1⟩ => ?_)
  obtain ⟨h1, h2⟩ := tyV_is I1 r1 ty
  exact ⟨T, id, pa, slot, hty, h1, h2, Calls.callWith_builtin rfl (PySem.evalArgs_none (hm pins s1 σ H1 x [] v [] Q I1 r1 .nil q1))⟩
theorem pe_bm (pa : PlainAttrs T) (slot : Slot T name id) (hty : typeOf (.builtin id) = pure (.type "method_descriptor")) (hm : MtR X id r) (ho : PE X o to) (ha : PA X (e :: es) t)
    (hbase : attributeBase o name X.env (eval o X.env) = eval o X.env := by rfl)
    (hfew : ((backTo cpos (starEach (e :: es) X.env)).all (fun x => !x.1) && (backToKw cpos (keywordEach [] X.env)).all (fun x => x.1.isSome)
      && decide ((e :: es).length + ([] : List Keyword).length + (if ([] : List Keyword).isEmpty then 0 else 1) < 30)) = true := by rfl)
    (hline : (apos.endLine == cpos.line) = true := by rfl) (hs : starEach (e :: es) X.env = (false, eval e X.env) :: starEach es X.env := by rfl) (hplain : (backTo cpos (starEach es X.env)).any (·.1) = false := by rfl) :
    PE X (.Call (.Attribute o name apos) (e :: es) [] cpos) (tBM X.K T r to t) := by
  intro pins s σ H Q I h
  refine wpAny_Call_method_late hbase hfew hline rfl (thn (ho pins s σ H _ I h) fun v s1 ⟨x, H1, I1, r1, ty, q1⟩ => ?_)
  obtain ⟨h1, h2⟩ := tyV_is I1 r1 ty
  refine ⟨T, id, pa, slot, hty, h1, h2, ?_⟩
  have hA := ha cpos pins s1 σ H1 _ I1 q1
  rw [hs] at hA ⊢
  refine Calls.callWith_builtin (by show (false || (backTo cpos (starEach es X.env)).any (·.1)) = false; rw [hplain] <;> rfl) (Calls.evalArgs_plain ?_)
  exact thn hA fun us s2 ⟨vs, H2, I2, r2, q2⟩ => hm pins s2 σ H2 x vs v us Q I2 r1 r2 q2
/- xs.append(e), list.index on a module's tuple .. are MtR facts of 06m -/
end
end L2

namespace L2
open PySem PySem.Spec PyProof.Rows

def MtM (X : Cx) (id : String) (r : V → List V → Hp → VK → Prop) : Prop :=
  ∀ (pins : List (Addr × Obj)) (s : Shared) (σ : St) (H : Hp) (x : V) (xs : List V) (v : Value) (us : List Value) (Q : VK), Inv X pins σ H s → RelV x v → Vals xs us → r x xs H Q →
    wpAny (model X.prog X.w) X.A (call (.builtin id) (v :: us)) (EP X pins σ Q) X.xe s

theorem Vals.one : ∀ {x : V} {us : List Value}, Vals [x] us → ∃ u, us = [u] ∧ RelV x u
  | _, _, .cons r .nil => ⟨_, rfl, r⟩
theorem Vals.two : ∀ {x y : V} {us : List Value}, Vals [x, y] us → ∃ u v, us = [u, v] ∧ RelV x u ∧ RelV y v
  | _, _, _, .cons r (.cons q .nil) => ⟨_, _, rfl, r, q⟩
theorem Vals.zero : ∀ {us : List Value}, Vals [] us → us = []
  | _, .nil => rfl
theorem Vals.eraseIdx : ∀ {xs : List V} {us : List Value} (i : Nat), Vals xs us → Vals (xs.eraseIdx i) (us.eraseIdx i)
  | _, _, _, .nil => .nil
  | _, _, 0, .cons _ t => t
  | _, _, i + 1, .cons r t => .cons r (Vals.eraseIdx i t)
theorem Vals.reverse {xs : List V} {us : List Value} (h : Vals xs us) : Vals xs.reverse us.reverse := by
  induction h with
  | nil => exact .nil
  | cons r t ih => rw [List.reverse_cons, List.reverse_cons]; exact Vals.append ih (.cons r .nil)
section
variable {X : Cx} {pins : List (Addr × Obj)} {σ : St} {H : Hp} {s : Shared} {l b : Addr} {xs ys zs : List V}

theorem Inv.lset {its its' : List Value} {n : Nat} {f : Array Value → Array Value} {t' : Nat} (I : Inv X pins σ H s) (hH : H l = some (.lst xs))
    (e : s.heap.get? l = some { cls := .type "list", data := .seq its.toArray n }) (hf : f its.toArray = its'.toArray) (hv : Vals ys its') (hz : ys.length ≤ sizeLine) :
    Inv X pins σ (upd H l (.lst ys)) { s with heap := s.heap.update l (Obj.mapSeq f), toks := t' } := by
  have q := PySem.IsL.update e f
  rw [hf] at q
  refine I.write (x := l) (e := l) (by rw [hH]; exact trivial) (.inl rfl) (fun b' u hb hu => (Heap.get?_update_other s.heap (Obj.mapSeq f) (Ne.symm hb)).trans hu) ⟨_, q⟩ ?_
  exact ⟨hz, its', _, hv, q⟩
theorem Inv.lnew {its : List Value} {t' : Nat} (I : Inv X pins σ H s) (hv : Vals ys its) (hz : ys.length ≤ sizeLine) :
    Inv X pins σ (upd H s.heap.objs.size (.lst ys)) { s with heap := s.heap.push { cls := .type "list", data := .seq its.toArray }, toks := t' } :=
  I.laid (fun _ _ q => Heap.get?_push_of_some _ q) (Nat.le_refl _) ⟨hz, its, 0, hv, Heap.get?_push_size _ rfl⟩
theorem Inv.fresh (I : Inv X pins σ H s) : H s.heap.objs.size = none := I.hok.fresh (Nat.le_refl _)
theorem Inv.lstM (I : Inv X pins σ H s) (hH : H l = some (.lst xs)) : xs.length ≤ sizeLine ∧ ∃ (its : List Value) (n : Nat), Vals xs its ∧ xs.length = its.length ∧ s.heap.get? l = some { cls := .type "list", data := .seq its.toArray n } := by
  obtain ⟨z, its, n, r, e⟩ := I.hok l _ hH
  exact ⟨z, its, n, r, r.length, e⟩

end

section
variable {X : Cx}

def rAppend : V → List V → Hp → VK → Prop := fun x vs H Q => ∃ l xs y, x = .ref l ∧ vs = [y] ∧ H l = some (.lst xs) ∧ xs.length < sizeLine ∧ Q .non (upd H l (.lst (xs ++ [y])))
theorem mt_append : MtM X "list.append" rAppend := by
  intro pins s σ H x vs v us Q I rx rv h
  obtain ⟨l, xs, y, rfl, rfl, hH, hz, q⟩ := h
  cases rx
  obtain ⟨u, rfl, ru⟩ := rv.one
  obtain ⟨z, its, n, r, hl, e⟩ := I.lstM hH
  refine call_meets F.slot_list_append ⟨_, e, rfl⟩ F.entry_list_append (F.args_list_append_2 _ _) (PySem.list_append l its.toArray n u (by rw [List.size_toArray]; omega)) ⟨e, ?_⟩
  refine ⟨.non, _, I.lset (its' := its ++ [u]) hH e (by simp) (r.append (.cons ru .nil)) ?_, rfl, q⟩
  rw [List.length_append, List.length_singleton]
  omega

def rClear : V → List V → Hp → VK → Prop := fun x vs H Q => ∃ l xs, x = .ref l ∧ vs = [] ∧ H l = some (.lst xs) ∧ Q .non (upd H l (.lst []))
theorem mt_clear : MtM X "list.clear" rClear := by
  intro pins s σ H x vs v us Q I rx rv h
  obtain ⟨l, xs, rfl, rfl, hH, q⟩ := h
  cases rx
  have hus := rv.zero
  subst hus
  obtain ⟨z, its, n, r, hl, e⟩ := I.lstM hH
  refine call_meets F.slot_list_clear ⟨_, e, rfl⟩ F.entry_list_clear (F.args_list_clear_1 _) (AutoSeq1.list_clear_list_0 l its.toArray n (by rw [List.size_toArray]; omega)) ⟨e, ?_⟩
  exact ⟨.non, _, I.lset (its' := []) (ys := []) hH e rfl .nil (Nat.zero_le _), rfl, q⟩

def rCat : R2 := fun x y H Q => ∃ l b xs zs, x = .ref l ∧ y = .ref b ∧ H l = some (.lst xs) ∧ H b = some (.lst zs) ∧ xs.length + zs.length ≤ sizeLine ∧ ∀ p, H p = none → Q (.ref p) (upd H p (.lst (xs ++ zs)))
end

section
variable {prog : Program} {w : World} {A : Around} {E : Value → Shared → Prop} {s : Shared}
end

section
variable {X : Cx}
end
end L2

namespace Att
open PySem PySem.W PySem.Calls PyProof.Rows

theorem ints_of_wellAll {P : Params} {h : Heap} : ∀ (ns : List Int) (vs : List Value), WellAll P h vs (ns.map WData.int) → IntsAre vs ns := by
  intro ns
  induction ns with
  | nil =>
    intro vs w
    rw [List.map_nil] at w
    cases w
    exact .nil
  | cons n ns ih =>
    intro vs w
    rw [List.map_cons] at w
    cases w with
    | cons a b =>
      cases a
      exact .cons _ _ (ih _ b)

theorem script_of {l : OpenLaw} {n : Nat} (hn : l.most = some n) {P : Params} {h : Heap} {args : List WData} {vals : List Value}
    (hpre : l.row.toRowW.claim.pre args = true) (hwl : WellAll P h vals args) :
    ∃ a vs ns, vals = [Value.ref a] ∧ args = [WData.list (ns.map WData.int)] ∧ h.get? a = some { cls := .type "list", data := .seq vs.toArray } ∧ IntsAre vs ns ∧ ns.length ≤ n := by
  have hsh : WShape.hasAll [] args [.list .int] = true := (pre_splitW hpre).1
  have hc : l.pre.holds [] { args := args } = true := (pre_splitW hpre).2
  obtain ⟨d, r, rfl, h1, h2⟩ := hasAllW_cons hsh
  obtain rfl := hasAllW_nil h2
  obtain ⟨xs, rfl, h3⟩ := hasW_list h1
  obtain ⟨ns, rfl⟩ := items_int h3
  have hlen : ns.length ≤ n := by
    unfold OpenLaw.pre at hc
    have h4 : (WTm.not (.lt (.lit (.int (n : Int))) (.len (.arg 0)))).holds [] { args := [.list (ns.map .int)] } = true := by
      have h4 := (holds_andW hc).1
      rw [hn] at h4
      exact h4
    have h5 := condW_of h4 (w_not (w_lt w_lit (w_len_list (w_arg rfl))))
    rw [List.length_map] at h5
    refine Nat.le_of_not_lt fun q => ?_
    have q' : (n : Int) < ((ns.length : Nat) : Int) := by omega
    first
      | (rw [decide_eq_true q'] at h5; exact absurd h5 (by decide))
      | (simp at h5; omega)
  cases hwl with
  | cons w1 w2 =>
    cases w2
    cases w1 with
    | list ho hall => exact ⟨_, _, ns, rfl, rfl, ho, ints_of_wellAll ns _ hall, hlen⟩

theorem post_true (l : OpenLaw) (args : List WData) : l.row.toRowW.claim.post args (.bool true) args = true :=
  postW_of (r := l.row.toRowW) (X := (true == true))
    (show WShape.has [] (.bool true) .bool = true by first | rfl | decide | simp [WShape.has, WShape.arms, WShape.armsAll])
    (show (WTm.eq .res (.lit (.bool true))).value [] { args := args, res := some (.bool true), after := args } = some (.bool (true == true)) from w_eq_bool (w_res rfl) w_lit) rfl

/-- the same from a codeAny of the CALL (for a layer whose function contracts speak of calls) -/
theorem attach_call {l : OpenLaw} {n : Nat} {q : Program} {loose : List Str} {XP : (Str → Option Value) → Heap → Prop} {YP : World → Heap → Prop} {d : DefRec}
    (hn : l.most = some n) (hdf : d.params.defaults = [])
    (call : ∀ (w : World) (s₀ s₁ : Shared) (mg mb : Str → Option Value) (fa : Addr) (o : Obj) (pm cd doc : Value) (a : Addr) (vs : List Value) (ns : List Int),
      Ground q loose [] XP w s₀ mg mb s₁.heap → YP w s₁.heap →
      s₁.heap.get? fa = some o → o.data = .func (docDef d.name d.params d.body d.scope pm cd doc) → s₁.heap.CodeRec cd d.name → mg d.name = some (.ref fa) →
      s₁.heap.get? a = some { cls := .type "list", data := .seq vs.toArray } → IntsAre vs ns → ns.length ≤ n → s₁.gens = #[] →
      codeAny (model l.prog w) callerA (.call (.ref fa) ⟨[.ref a], []⟩) (fun r s' => r = .ok (.ret (.bool true)) ∧ OldK s₁.heap s'.heap ∧ s'.os = s₁.os ∧ AllBare s'.gens) s₁) :
    WalkO q loose XP YP l.row.toRowW d [] (fun f vs => PySem.call f vs) := by
  intro w s₀ s₁ mg mb G Y fa o pm cd doc dV kV ho hd hcd hD hmg hg args vals as hpre hlay hrd hwl hlo
  obtain rfl : dV = .none := Dflts.none hD hdf
  obtain rfl : kV = .none := Dflts.noKw hD
  obtain ⟨a, vs, ns, rfl, rfl, hobj, hints, hlen⟩ := script_of hn hpre hwl
  refine enter_call (codeAny_mono (call w s₀ s₁ mg mb fa o pm cd doc a vs ns G Y ho (fd_plain hd) hcd hmg hobj hints hlen hg) fun r s' hq => ?_)
  obtain ⟨rfl, h2, h3, h4⟩ := hq
  exact ⟨.inl ⟨.bool true, .bool true, [], rfl, fun _ => rfl, .bool true, post_true l _, fun _ => ⟨List.Pairwise.nil, fun _ hm => (nomatch hm)⟩⟩, h2, h3, h4⟩

section
variable {prog : Program} {w : World} {A : Around} {E : Value → Shared → Prop} {s : Shared} {K : Frag}

end
end Att

namespace L2
open PySem PySem.Spec PyProof.Rows

theorem vals_ints : ∀ {vs : List Value} {ns : List Int}, IntsAre vs ns → Vals (ns.map V.int) vs
  | _, _, .nil => .nil
  | _, _, .cons n t h => .cons ⟨t, rfl⟩ (vals_ints h)

/-- nothing is tracked but the script, known to the object (or it is an object of the module) -/
def Only (H : Hp) : Prop := ∀ b, H b = none ∨ ∃ o xs, H b = some (.frz o (.lst xs))

/-- THE HEAD: the law's promise, at the heap behind the top. F, the promise of the law's def, may use that base is part of the heap (so K.In base, base.Ns mainGlobals mg stand in Mod) -/
theorem law_call {P : Program} {w : World} {K : PySem.W.Frag} {mg mb : Str → Option Value} {CX : CXT} {k : Nat} {fa a : Addr} {fd : FuncData} {x : Str} {sp : Sp} {s₁ : Shared} {vs : List Value} {ns : List Int}
    (KX : K.In s₁.heap) (hns : s₁.heap.Ns mainGlobals mg) (hb : s₁.heap.Ns builtinsNs mb) (hbb : ∀ x : Str, x ≠ "__name__" → mb x = bootBuiltins x) (hlim : s₁.heap.NoLimit) (hg : s₁.gens = #[])
    (ha : s₁.heap.get? a = some { cls := .type "list", data := .seq vs.toArray }) (hi : IntsAre vs ns) (hl : ns.length ≤ sizeLine) (hr : Room k callerA)
    (F : ∀ base : Heap, K.In base → base.Ns mainGlobals mg → FnOk P w K mg base CX k fa fd [x] sp) (hbind : ∀ (s : Shared) (u : Value), BindsTo s fd ⟨[u], []⟩ [(x, u)])
    (hsp : ∀ H : Hp, Only H → SqL K H a (ns.map V.int) → sp [.ref a] H (fun v _ => v = .bl true) fun _ _ _ => False)
    (hCX : ∀ H e s', CX [] H s₁ (fun _ _ _ => False) e s' → False) :
    codeAny (model P w) callerA (.call (.ref fa) ⟨[.ref a], []⟩) (fun r s' => r = .ok (.ret (.bool true)) ∧ OldK s₁.heap s'.heap ∧ s'.os = s₁.os ∧ AllBare s'.gens) s₁ := by
  have rv := vals_ints hi
  have lenV := hi.length
  -- from an abstract heap in which nothing but the script may be tracked
  have core : ∀ H : Hp, Only H → SqL K H a (ns.map V.int) → HOk P w H s₁.heap → (∀ b, H b ≠ none → b = a) → (H a ≠ none → K.lookup a = none) →
      codeAny (model P w) callerA (.call (.ref fa) ⟨[.ref a], []⟩) (fun r s' => r = .ok (.ret (.bool true)) ∧ OldK s₁.heap s'.heap ∧ s'.os = s₁.os ∧ AllBare s'.gens) s₁ := by
    intro H hO hS hok hA hK
    have base_of : ∀ {b : Addr} {o : Obj}, s₁.heap.get? b = some o → H b = none → (hidT s₁.heap H).get? b = some o := fun e n => hidT_get e n
    have noA : ∀ {b : Addr} {o : Obj} {es : Array DictEntry} {ep : Nat}, s₁.heap.get? b = some o → o.data = .dict es ep → H b = none := fun {b o es ep} e d => by
      cases q : H b with
      | none => rfl
      | some u =>
        have e' : b = a := hA b (by rw [q]; simp)
        subst e'
        rw [ha] at e; cases e
        have d' : Data.seq vs.toArray _ = Data.dict es ep := d
        cases d'
    have nsK : ∀ {b : Addr} {m : Str → Option Value}, s₁.heap.Ns b m → (hidT s₁.heap H).Ns b m := fun {b m} ⟨o, es, ep, e, d, r⟩ => ⟨o, es, ep, base_of e (noA e d), d, r⟩
    have hKb : K.In (hidT s₁.heap H) := fun b o e => base_of (KX b o e) (by
      cases q : H b with
      | none => rfl
      | some u =>
        have e' : b = a := hA b (by rw [q]; simp)
        subst e'
        rw [hK (by rw [q]; simp)] at e; cases e)
    have hM : Mod K mg (hidT s₁.heap H) := ⟨hKb, nsK hns, ⟨mb, nsK hb, hbb⟩, let ⟨mc, h1, h2⟩ := hlim; ⟨mc, nsK h1, h2⟩⟩
    have e0 : Env0 P w K mg (hidT s₁.heap H) callerA [] s₁ H := ⟨rfl, hM, fun b o e => of_hidT e, Nat.le_of_eq (hidT_size _ _), trivial, fun b hb => absurd (show b ∈ ([] : List Addr) from hb) (by simp), hok, .of_eq hg⟩
    refine codeAny_mono ((F _ hKb (nsK hns)).run callerA [] s₁ H ⟨[.ref a], []⟩ [.ref a] [.ref a] _ _ hr e0 (hbind s₁ (.ref a)) (.cons rfl .nil) (hsp H hO hS)) fun r s' h => ?_
    cases r with
    | error e => exact (hCX H e s' h).elim
    | ok fl =>
      cases fl with
      | next => exact False.elim h
      | brk => exact False.elim h
      | cont => exact False.elim h
      | ret u =>
        obtain ⟨v, H', os, bare, un, hok', r', q⟩ := h
        have q' : v = .bl true := q
        subst q'
        obtain rfl : u = Value.bool true := r'
        refine ⟨rfl, OldK.of_keep fun b o e => ?_, os, bare⟩
        cases q : H b with
        | none => exact un.keep b o e q (by intro z; exact absurd (show b ∈ ([] : List Addr) from z) (by simp)) (by simp)
        | some u =>
          rcases hO b with z | ⟨ob, xs, z⟩
          · rw [q] at z; cases z
          · have z2 := un.frzs b ob _ z
            obtain ⟨e1, _⟩ := hok b _ z
            obtain ⟨e2, _⟩ := hok' b _ z2
            rw [e] at e1; cases e1
            exact e2
  cases hk : K.lookup a with
  | some o =>
    -- the script is one of the module's own objects
    have e := KX a o hk
    rw [ha] at e
    cases e
    refine core (fun _ => none) (fun _ => .inl rfl) (.inr ⟨_, vs.toArray, _, hk, rfl, rfl, rfl, by rw [List.size_toArray, lenV]; exact hl, by simpa using rv⟩) (fun b u z => by have z' : (none : Option HO) = some u := z; cases z') (fun b z => absurd rfl z) fun z => absurd rfl z
  | none =>
    refine core (fun b => if b = a then some (.frz { cls := .type "list", data := .seq vs.toArray } (.lst (ns.map V.int))) else none) (fun b => ?_) (.inl (.inr ⟨{ cls := .type "list", data := .seq vs.toArray }, if_pos rfl⟩)) (fun b u z => ?_) (fun b z => ?_) fun _ => hk
    · by_cases hb : b = a
      · exact .inr ⟨_, _, if_pos hb⟩
      · exact .inl (if_neg hb)
    · by_cases hb : b = a
      · have z' := (if_pos hb).symm.trans z
        cases z'
        subst hb
        exact ⟨ha, by rw [List.length_map]; exact hl, vs, _, rv, ha⟩
      · have z' := (if_neg hb).symm.trans z
        cases z'
    · by_cases hb : b = a
      · exact hb
      · exact absurd (if_neg hb) z
end L2

namespace L2
open PySem PySem.Spec PyProof.Rows

/-- the goal that k_head leaves (case hc), from the law's promise. F gives the function object fd (K's own) once, then the promise over every base -/
theorem walk_of {l : PySem.W.OpenLaw} {n k : Nat} {q : Program} {loose : List Str} {XP : (Str → Option Value) → Heap → Prop} {YP : World → Heap → Prop} {d : DefRec} {K : Params → PySem.W.Frag} {CX : World → CXT} {sp : World → Sp} {x : Str}
    (hn : l.most = some n) (hn2 : n ≤ sizeLine) (hdf : d.params.defaults = []) (hr : Room k callerA)
    (hY : ∀ (w : World) (h : Heap), YP w h → (K w.params).In h)
    (F : ∀ (w : World) (mg : Str → Option Value) (fa : Addr) (h : Heap), (K w.params).In h → h.Ns mainGlobals mg → mg d.name = some (.ref fa) →
      ∃ fd : FuncData, (∀ (s : Shared) (u : Value), BindsTo s fd ⟨[u], []⟩ [(x, u)]) ∧
        ∀ base : Heap, (K w.params).In base → base.Ns mainGlobals mg → FnOk l.prog w (K w.params) mg base (CX w) k fa fd [x] (sp w))
    (hsp : ∀ (w : World) (H : Hp) (a : Addr) (ns : List Int), ns.length ≤ n → Only H → SqL (K w.params) H a (ns.map V.int) → sp w [.ref a] H (fun v _ => v = .bl true) fun _ _ _ => False)
    (hCX : ∀ (w : World) (H : Hp) (s : Shared) (e : Value) (s' : Shared), CX w [] H s (fun _ _ _ => False) e s' → False) :
    PySem.W.WalkO q loose XP YP l.row.toRowW d [] (fun f vs => PySem.call f vs) := by
  refine Att.attach_call hn hdf fun w s₀ s₁ mg mb fa o pm cd doc a vs ns G Y ho hd hcd hmg hobj hints hlen hg => ?_
  have KX := hY w _ Y
  obtain ⟨fd, hb, hF⟩ := F w mg fa _ KX G.T.g hmg
  exact law_call KX G.T.g G.T.b G.T.builtins G.T.nolimit hg hobj hints (Nat.le_trans hlen hn2) hr hF hb (fun H hO hS => hsp w H a ns hlen hO hS) fun H e s' => hCX w H s₁ e s'
end L2

/- THE LAST THEOREM (shape; LID, My.* are yours):
   My.Adr: a structure of the addresses that your layer names (classes, functions); My.Txt K t: a structure (Prop) of the equations over K;
   My.txt_mk : {K} {implicit addresses ..} (e1 : nsIn K mainGlobals "law" = some (some (.ref f))) (e2 : K.lookup f = some ⟨oc, od, .func (fnOf "law" "law" params body scope dV kV doc pm an cdv ct), sl⟩) (e3 : codeIn K cdv "law" = true) .. : ∃ t, My.Txt K t

(the tactic k_is has no namespace: write k_is) -/

namespace L2
open PySem PySem.Spec PyProof.Rows

def defArgs (s : Stmt) : Arguments := match s with
  | .FunctionDef _ a _ _ _ _ _ _ _ _ => a
  | _ => { posonlyargs := [], args := [], vararg := none, kwonlyargs := [], kw_defaults := [], kwarg := none, defaults := [] }
def defBody (s : Stmt) : List Stmt := match s with
  | .FunctionDef _ _ b _ _ _ _ _ _ _ => b
  | _ => []
def defScope (s : Stmt) : Scope := match s with
  | .FunctionDef _ _ _ _ _ _ sc _ _ _ => sc
  | _ => { kind := .function, names := [], isGenerator := false, isCoroutine := false }

abbrev CX0 : CXT := fun _ _ _ _ _ _ => False
abbrev E0 : XK := fun _ _ _ => False
theorem pass0 {X : Cx} : Passes CX0 X E0 := fun _ _ _ _ _ _ _ h => h.elim

structure Fun (K : PySem.W.Frag) (x qual : Str) (st : Stmt) (f : Addr) (fd : FuncData) : Prop where
  ex : ∃ (oc : Value) (od : Option Addr) (kV doc pm : Value) (an : Option Addr) (cdv ct : Value) (osl : Array (Option Value)),
    fd = PySem.W.fnOf x qual (defArgs st) (defBody st) (defScope st) .none kV doc pm an cdv ct ∧ K.lookup f = some ⟨oc, od, .func fd, osl⟩ ∧ PySem.W.codeIn K cdv qual = true
  kp : PySem.W.keepIn K (.ref f) = true
section
variable {P : Program} {w : World} {K : PySem.W.Frag} {mg : Str → Option Value} {base : Heap}
/-- THE RULE for a def: its body as a term of rules, and the reading of that term -/
theorem Fun.ok {x qual : Str} {st : Stmt} {f : Addr} {fd : FuncData} {N ps : List Str} {k : Nat} {sp : Sp} (F : Fun K x qual st f fd) (S : FnScope N ps (defScope st)) (len : ∀ vs H Q E, sp vs H Q E → vs.length = ps.length)
    (hbody : ∀ (cdv : Value) (A : Around) (outer : List Env) (s : Shared) (H : Hp) (vs : List V) (Q : VK) (E : XK), Room k (A.deeper (envOfC qual (defScope st) s.heap.objs.size f cdv)) → sp vs H Q E →
      ∃ t, PSs (cxOf CX0 P w K mg base N qual (defScope st) f cdv A outer s H E).nox (defBody st) t ∧ t { nx := fun _ H' => Q .non H', rt := Q } (start N vs) H) : FnOk P w K mg base CX0 (k + 1) f fd ps sp := by
  obtain ⟨oc, od, kV, doc, pm, an, cdv, ct, osl, rfl, lk, hcd⟩ := F.ex
  refine fn_of lk hcd S len fun A outer s H vs Q E hr hsp => ?_
  obtain ⟨t, h, q⟩ := hbody cdv A outer s H vs Q E hr hsp
  exact ⟨t, h.nox, q⟩
/-- how its arguments bind (no defaults): h is «fun _ _ _ _ _ _ us hl => match us, hl with | [_, _], _ => rfl», one _ a parameter -/
theorem Fun.binds {x qual : Str} {st : Stmt} {f : Addr} {fd : FuncData} {ps : List Str} (F : Fun K x qual st f fd)
    (h : ∀ (kV doc pm : Value) (an : Option Addr) (cdv ct : Value) (us : List Value), us.length = ps.length → bindArgs (PySem.W.fnOf x qual (defArgs st) (defBody st) (defScope st) .none kV doc pm an cdv ct) ⟨us, []⟩ = pure (ps.zip us)) : Binds K fd ps [] := by
  obtain ⟨oc, od, kV, doc, pm, an, cdv, ct, osl, rfl, lk, hcd⟩ := F.ex
  exact .all (h kV doc pm an cdv ct)
theorem fun_mk {x qual : Str} {st : Stmt} {f : Addr} {oc : Value} {od an : Option Addr} {osl : Array (Option Value)} {kV doc pm cdv ct : Value} (l : K.lookup f = some ⟨oc, od, .func (PySem.W.fnOf x qual (defArgs st) (defBody st) (defScope st) .none kV doc pm an cdv ct), osl⟩)
    (c : PySem.W.codeIn K cdv qual = true) (k : PySem.W.keepIn K (.ref f) = true) : Fun K x qual st f (PySem.W.fnOf x qual (defArgs st) (defBody st) (defScope st) .none kV doc pm an cdv ct) := ⟨⟨oc, od, kV, doc, pm, an, cdv, ct, osl, rfl, l, c⟩, k⟩
end
theorem small1000 {n : Nat} (h : n ≤ 1000) : n < sizeLine := Nat.lt_of_le_of_lt h (by decide)

section
variable {X : Cx}
theorem pv (i : Nat) {x : Str} {pos : Pos} (hN : X.N[i]? = some x := by rfl) (hv : Vis X.env.scope x := by first | exact Or.inl rfl | exact Or.inr (Or.inl rfl) | exact Or.inr (Or.inr rfl)) (hd : (x == ("__debug__" : Str)) = false := by decide)
    (hcd : (x == ("__classdict__" : Str)) = false := by decide) : PE X (.Name x pos) (tVar i) := pe_var hN hv hd hcd
end

/-- all that was tracked is as it was -/
def Same (H H' : Hp) : Prop := ∀ b o, H b = some o → H' b = some o
theorem Same.refl (H : Hp) : Same H H := fun _ _ h => h
theorem Same.trans {H H1 H2 : Hp} (a : Same H H1) (b : Same H1 H2) : Same H H2 := fun c o h => b c o (a c o h)
theorem Same.free {H H' : Hp} (e : Same H H') {l : Addr} (h : H' l = Option.none) : H l = Option.none := by
  cases q : H l with
  | none => rfl
  | some o =>
    rw [e l o q] at h
    cases h
theorem Same.seq {K : PySem.W.Frag} {H H' : Hp} {a : Addr} {xs : List V} (e : Same H H') (h : SqL K H a xs) : SqL K H' a xs := by
  rcases h with (h | ⟨o, h⟩) | h
  · exact .inl (.inl (e _ _ h))
  · exact .inl (.inr ⟨o, e _ _ h⟩)
  · exact .inr h

end L2

set_option Elab.async false
set_option linter.all false
set_option maxRecDepth 100000
set_option maxHeartbeats 4000000
namespace L2
open PySem PySem.Spec PyProof.Rows
structure Cal (P : Program) (w : World) (K : PySem.W.Frag) (mg : Str → Option Value) (base : Heap) (x : Str) (ps : List Str) (k : Nat) (sp : Sp) : Prop where
  ex : ∃ (f : Addr) (fd : FuncData), FnOk P w K mg base CX0 k f fd ps sp ∧ Binds K fd ps [] ∧ PySem.W.keepIn K (.ref f) = true ∧ mg x = some (.ref f)
theorem Cal.mk' {P : Program} {w : World} {K : PySem.W.Frag} {mg : Str → Option Value} {base : Heap} {x : Str} {ps : List Str} {k : Nat} {sp : Sp} {f : Addr} {fd : FuncData}
    (F : FnOk P w K mg base CX0 k f fd ps sp) (b : Binds K fd ps []) (hk : PySem.W.keepIn K (.ref f) = true) (hm : mg x = some (.ref f)) : Cal P w K mg base x ps k sp := ⟨f, fd, F, b, hk, hm⟩
theorem pe_cal {X : Cx} {x : Str} {ps : List Str} {k : Nat} {sp : Sp} {e : Expr} {es : List Expr} {t : TA} {p pos : Pos} (C : Cal X.prog X.w X.K X.mg X.base x ps k sp) (hr : Room k X.A) (hg : Gl X x) (ha : PA X (e :: es) t)
    (hdb : (x == ("__debug__" : Str)) = false := by decide) (he : starEach (e :: es) X.env = (false, eval e X.env) :: starEach es X.env := by rfl) (hpl : (backTo pos (starEach es X.env)).any (·.1) = false := by rfl) :
    PE X (.Call (.Name x p) (e :: es) [] pos) (tCall sp [] E0 t) := by
  obtain ⟨f, fd, F, b, hk, hm⟩ := C.ex
  exact pe_call F hr hg hm hk b .nil pass0 ha hdb he hpl
def subN (n T : String) : Bool := n == T || (n == "bool" && T == "int")
def tyN (H : Hp) (x : V) (n : String) : Prop := match x with
  | .bl _ => n = "bool"
  | .int _ => n = "int"
  | .str _ => n = "str"
  | .ref a => (n = "list" ∧ ∃ xs, H a = some (.lst xs)) ∨ (n = "tuple" ∧ ∃ xs, H a = some (.tup xs))
  | _ => False
theorem tyN_int {H : Hp} {i : Int} {n : String} : tyN H (.int i) n = (n = "int") := rfl
theorem tyN_bl {H : Hp} {i : Bool} {n : String} : tyN H (.bl i) n = (n = "bool") := rfl
theorem tyN_str {H : Hp} {i : Str} {n : String} : tyN H (.str i) n = (n = "str") := rfl
theorem tyN_ref {H : Hp} {a : Addr} {n : String} : tyN H (.ref a) n = ((n = "list" ∧ ∃ xs, H a = some (.lst xs)) ∨ (n = "tuple" ∧ ∃ xs, H a = some (.tup xs))) := rfl
def okT (T : String) : Prop := T = "int" ∨ T = "bool" ∨ T = "str" ∨ T = "list" ∨ T = "tuple"
theorem kit_sub {K : PySem.W.Frag} {n T : String} (hn : okT n) (hT : okT T) : PySem.W.kitOne K (.type n) (.type T) = some (subN n T) := by
  rcases hn with rfl | rfl | rfl | rfl | rfl <;> rcases hT with rfl | rfl | rfl | rfl | rfl <;> rfl
theorem tyN_of {K : PySem.W.Frag} {H : Hp} {x : V} {n : String} (h : tyN H x n) : TyOf K H x (.type n) ∧ okT n := by
  cases x with
  | bl b => cases (show n = "bool" from h); exact ⟨.bl b, by simp [okT]⟩
  | int i => cases (show n = "int" from h); exact ⟨.int i, by simp [okT]⟩
  | str i => cases (show n = "str" from h); exact ⟨.str i, by simp [okT]⟩
  | ref a =>
    rcases (show (n = "list" ∧ ∃ xs, H a = some (.lst xs)) ∨ (n = "tuple" ∧ ∃ xs, H a = some (.tup xs)) from h) with ⟨rfl, xs, e⟩ | ⟨rfl, xs, e⟩
    · exact ⟨.lst e, by simp [okT]⟩
    · exact ⟨.tup e, by simp [okT]⟩
  | _ => exact False.elim h
theorem okT_int : okT "int" := by simp [okT]
theorem okT_bool : okT "bool" := by simp [okT]
theorem okT_str : okT "str" := by simp [okT]
theorem okT_list : okT "list" := by simp [okT]
theorem okT_tuple : okT "tuple" := by simp [okT]
theorem subN_ii : subN "int" "int" = true := rfl
theorem subN_ib : subN "int" "bool" = false := rfl
theorem subN_bb : subN "bool" "bool" = true := rfl
theorem subN_bi : subN "bool" "int" = true := rfl
theorem subN_ss : subN "str" "str" = true := rfl
theorem subN_ll : subN "list" "list" = true := rfl
theorem subN_tt : subN "tuple" "tuple" = true := rfl
def rIsi : List V → Hp → VK → Prop := fun xs H Q => ∃ x T n, xs = [x, .ty T] ∧ okT T ∧ tyN H x n ∧ Q (.bl (subN n T)) H
theorem call_isi {X : Cx} : CallR X (.builtin "isinstance") rIsi := by
  intro pins s σ H xs us Q I r h
  obtain ⟨x, T, n, rfl, hT, ty, q⟩ := h
  obtain ⟨u, u', rfl, rx, rT⟩ := vals2 r
  obtain rfl : u' = Value.type T := rT
  obtain ⟨ty', hn⟩ := tyN_of (K := X.K) ty
  exact isinst_ok I rx ty' (kit_sub hn hT) fun tk => ⟨.bl _, H, I.tok _, rfl, q⟩
theorem scal_ii {i j : Int} : scal (.int i) (.int j) = true := rfl
theorem scal_bb {i j : Bool} : scal (.bl i) (.bl j) = true := rfl
theorem scal_ss {i j : Str} : scal (.str i) (.str j) = true := rfl
theorem tEqI' {i j : Int} : decide (V.int i = V.int j) = decide (i = j) := by
  by_cases h : i = j
  · subst h; simp
  · have : ¬ V.int i = V.int j := fun e => h (V.int.inj e)
    simp [h, this]
def tCut (t u : TS) : TS := fun D σ H => ∃ R : St → Hp → Prop, t { D with nx := R } σ H ∧ ∀ σ' H', R σ' H' → u D σ' H'
theorem pss_cut {X : Cx} {st : Stmt} {rest : List Stmt} {t u : TS} (h1 : PS X st t) (h2 : PSs X rest u) : PSs X (st :: rest) (tCut t u) := by
  intro pins s σ H D I h
  obtain ⟨R, ha, hb⟩ := h
  refine wpAny_execs_cons (thn (h1 pins s σ H { D with nx := R } I ha) fun f s1 q => ?_)
  cases f with
  | next =>
    obtain ⟨σ', H', I', q⟩ := q
    exact h2 pins s1 σ' H' D I' (hb σ' H' q)
  | ret v => exact q
  | brk => exact q
  | cont => exact q
theorem cut_of {t u : TS} {D : Ends} {σ : St} {H : Hp} (R : St → Hp → Prop) (h1 : t { D with nx := R } σ H) (h2 : ∀ σ' H', R σ' H' → u D σ' H') : tCut t u D σ H := ⟨R, h1, h2⟩
theorem for_rangeW {lo : Int} {n : Nat} {σ : St} {H : Hp} {DN : St → Hp → Prop} {B : (St → Hp → Prop) → V → St → Hp → Prop} (Pv : Nat → St → Hp → Prop) (h0 : Pv 0 σ H)
    (hs : ∀ i σ H, i < n → Pv i σ H → B (Pv (i + 1)) (.int (lo + i)) σ H) (hd : ∀ σ H, Pv n σ H → DN σ H) :
    ∃ W : Nat → Nat → St → Hp → Prop, (∃ m, W 0 m σ H) ∧ ∀ i m σ H, W i m σ H →
      ((Itr lo n).stop i H ∧ DN σ H) ∨ ((Itr lo n).go i H ∧ ∃ N : St → Hp → Prop, (∀ σ' H', N σ' H' → ∃ m', m' < m ∧ W (i + 1) m' σ' H') ∧ ∀ x H', (Itr lo n).yld i H x H' → B N x σ H') := by
  refine ⟨fun i m σ H => m = n - i ∧ i ≤ n ∧ Pv i σ H, ⟨n, by simp, Nat.zero_le _, h0⟩, ?_⟩
  rintro i m σ H ⟨rfl, hi, p⟩
  by_cases hlt : i < n
  · refine .inr ⟨hlt, Pv (i + 1), fun σ' H' p' => ⟨n - (i + 1), by omega, rfl, hlt, p'⟩, fun x H' y => ?_⟩
    obtain ⟨e, y⟩ := y
    subst e y
    exact hs i σ _ hlt p
  · have e : i = n := by omega
    subst e
    exact .inl ⟨Nat.le_refl _, hd σ H p⟩
theorem for_listW {K : PySem.W.Frag} {a : Addr} {xs : List V} {σ : St} {H : Hp} {DN : St → Hp → Prop} {B : (St → Hp → Prop) → V → St → Hp → Prop} (Pv : Nat → St → Hp → Prop) (h0 : Pv 0 σ H)
    (hl : ∀ i σ H, i ≤ xs.length → Pv i σ H → SqL K H a xs)
    (hs : ∀ i x σ H, xs[i]? = some x → Pv i σ H → B (Pv (i + 1)) x σ H) (hd : ∀ σ H, Pv xs.length σ H → DN σ H) :
    ∃ W : Nat → Nat → St → Hp → Prop, (∃ m, W 0 m σ H) ∧ ∀ i m σ H, W i m σ H →
      ((Itl K a).stop i H ∧ DN σ H) ∨ ((Itl K a).go i H ∧ ∃ N : St → Hp → Prop, (∀ σ' H', N σ' H' → ∃ m', m' < m ∧ W (i + 1) m' σ' H') ∧ ∀ x H', (Itl K a).yld i H x H' → B N x σ H') := by
  refine ⟨fun i m σ H => m = xs.length - i ∧ i ≤ xs.length ∧ Pv i σ H, ⟨xs.length, by simp, Nat.zero_le _, h0⟩, ?_⟩
  rintro i m σ H ⟨rfl, hi, p⟩
  have q := hl i σ H hi p
  by_cases hlt : i < xs.length
  · refine .inr ⟨⟨xs, xs[i], q, by simp [hlt]⟩, Pv (i + 1), fun σ' H' p' => ⟨xs.length - (i + 1), by omega, rfl, hlt, p'⟩, fun x H' y => ?_⟩
    obtain ⟨e, y⟩ := y
    subst e
    exact hs i x σ _ (y xs q) p
  · have e : i = xs.length := by omega
    subst e
    exact .inl ⟨⟨xs, q, Nat.le_refl _⟩, hd σ H p⟩
end L2

set_option Elab.async false
set_option linter.all false
set_option maxRecDepth 100000
set_option maxHeartbeats 4000000
namespace L2
open PySem PySem.Spec PyProof.Rows
def clStep (env : Env) (cs : List (Str × Addr)) (y : Str × NameKind) : List (Str × Addr) := if y.2 == .free then (y.1, (env.cells.lookup y.1).getD 0) :: cs else cs
def clOf (names : List (Str × NameKind)) (env : Env) : List (Str × Addr) := names.foldl (clStep env) []
theorem closure_go {env : Env} : ∀ (names : List (Str × NameKind)) (acc : List (Str × Addr)), (∀ y ∈ names, y.2 = .free → ∃ c, env.cells.lookup y.1 = some c) →
    (forIn names acc fun (x : Str × NameKind) (cs : List (Str × Addr)) => if (x.2 == NameKind.free) = true then (do let a ← cellOf env x.1; pure (ForInStep.yield ((x.1, a) :: cs))) else (pure (ForInStep.yield cs) : Sem (ForInStep (List (Str × Addr))))) = pure (names.foldl (clStep env) acc)
  | [], _, _ => rfl
  | y :: r, acc, h => by
    have ih := closure_go (env := env) r
    rw [List.forIn_cons]
    by_cases hk : y.2 = .free
    · obtain ⟨c, hc⟩ := h y List.mem_cons_self hk
      have hb : (y.2 == NameKind.free) = true := by rw [hk]; rfl
      have e : cellOf env y.1 = pure c := by unfold cellOf; rw [hc]
      rw [if_pos hb, e]
      show (forIn r ((y.1, c) :: acc) _ : Sem _) = _
      rw [ih _ fun z hz => h z (List.mem_cons_of_mem _ hz), List.foldl_cons]
      show _ = pure (r.foldl (clStep env) (if (y.2 == NameKind.free) = true then (y.1, (env.cells.lookup y.1).getD 0) :: acc else acc))
      rw [if_pos hb, hc]; rfl
    · have hb : ¬ (y.2 == NameKind.free) = true := by simpa using hk
      rw [if_neg hb]
      show (forIn r acc _ : Sem _) = _
      rw [ih _ fun z hz => h z (List.mem_cons_of_mem _ hz), List.foldl_cons]
      show _ = pure (r.foldl (clStep env) (if (y.2 == NameKind.free) = true then (y.1, (env.cells.lookup y.1).getD 0) :: acc else acc))
      rw [if_neg hb]
theorem closure_is {scope : Scope} {env : Env} (h : ∀ y ∈ scope.names, y.2 = .free → ∃ c, env.cells.lookup y.1 = some c) : closureFor scope env = pure (clOf scope.names env) := by
  have e := closure_go scope.names [] h
  unfold closureFor clOf
  refine Eq.trans ?_ (congrArg (fun t => t >>= fun (r : List (Str × Addr)) => (pure r : Sem (List (Str × Addr)))) e)
  rfl
theorem mem_cl {env : Env} : ∀ {names : List (Str × NameKind)} {acc : List (Str × Addr)} {p : Str × Addr}, p ∈ names.foldl (clStep env) acc → p ∈ acc ∨ ((p.1, NameKind.free) ∈ names ∧ p.2 = (env.cells.lookup p.1).getD 0)
  | [], _, _, h => .inl h
  | y :: r, acc, p, h => by
    rw [List.foldl_cons] at h
    rcases mem_cl h with h | ⟨h, e⟩
    · unfold clStep at h
      split at h
      · rename_i hk
        rcases List.mem_cons.mp h with rfl | h
        · have : y.2 = .free := by simpa using hk
          exact .inr ⟨by rw [← this]; exact List.mem_cons_self, rfl⟩
        · exact .inl h
      · exact .inl h
    · exact .inr ⟨List.mem_cons_of_mem _ h, e⟩
theorem cl_mem {env : Env} {x : Str} : ∀ {names : List (Str × NameKind)} {acc : List (Str × Addr)}, ((∃ c, (x, c) ∈ acc) ∨ (x, NameKind.free) ∈ names) → ∃ c, (x, c) ∈ names.foldl (clStep env) acc
  | [], _, h => by
    rcases h with h | h
    · exact h
    · cases h
  | y :: r, acc, h => by
    rw [List.foldl_cons]
    refine cl_mem ?_
    rcases h with ⟨c, h⟩ | h
    · refine .inl ⟨c, ?_⟩
      unfold clStep
      split
      · exact List.mem_cons_of_mem _ h
      · exact h
    · rcases List.mem_cons.mp h with rfl | h
      · refine .inl ⟨(env.cells.lookup x).getD 0, ?_⟩
        unfold clStep
        exact List.mem_cons_self
      · exact .inr h
theorem lookup_some_of_mem {x : Str} {c : Addr} : ∀ {l : List (Str × Addr)}, (x, c) ∈ l → ∃ c', l.lookup x = some c'
  | [], h => by cases h
  | (y, d) :: r, h => by
    rw [List.lookup_cons]
    by_cases e : x == y
    · rw [e]; exact ⟨d, rfl⟩
    · have e' : (x == y) = false := by simpa using e
      rw [e']
      rcases List.mem_cons.mp h with z | z
      · cases z; simp at e
      · exact lookup_some_of_mem z

def Cx.comp (X : Cx) (scope : Scope) (N' : List Str) (s₀ : Shared) (H₀ : Hp) (fp : List Addr) (C : Addr) : Cx where
  prog := X.prog
  w := X.w
  K := X.K
  mg := X.mg
  base := X.base
  A := X.A
  N := N'
  s₀ := s₀
  H₀ := H₀
  env := compEnvC scope (clOf scope.names X.env) C X.env
  outer := X.stack
  stack := X.stack
  ex := fp
  fn := fun _ => false
  calm := X.calm
  pn := []
  xe := fun _ _ => False
/-- what is asked of the scopes (all by rfl) -/
structure CompSc (X : Cx) (scope : Scope) (N' own fnames : List Str) (fr : List Nat) : Prop where
  kind : scope.kind = .function
  nocell : (scope.names.all fun y => y.2 != .cell) = true
  free : (scope.names.all fun y => y.2 != .free || X.env.kindOf y.1 == some .cell) = true
  loc : (scope.names.all fun y => y.2 != .local || scope.names.lookup y.1 == some .local) = true
  fn : (fnames.all fun x => X.env.kindOf x == some .cell && (relabel scope X.env).names.lookup x == some .cell) = true
  N : N' = own ++ fnames
  fr : fr.map (fun j => X.N[j]?) = fnames.map some
/-- the block's first names: its own are unset, the free ones as they stand -/
def compSt (k : Nat) (fr : List Nat) (σ : St) : St := List.replicate k none ++ fr.map fun j => (σ[j]?).getD none

/-- the tests of a comprehension -/
def PTs (X : Cx) (ifs : List Expr) (t : TT) : Prop :=
  ∀ (pins : List (Addr × Obj)) (s : Shared) (σ : St) (H : Hp) (Q : Bool → Hp → Prop), Inv X pins σ H s → t σ H Q →
    wpAny (model X.prog X.w) X.A (forIn ifs true fun c r => if r = true then do let ok ← isTrue c X.env (eval c X.env); pure (ForInStep.yield ok) else pure (ForInStep.yield r)) (TP X pins σ Q) X.xe s
def tTrue : TT := fun _ H Q => Q true H
theorem pts_nil {X : Cx} : PTs X [] tTrue := fun pins s σ H Q I h => wpAny_pure ⟨H, I, h⟩
theorem pts_one {X : Cx} {c : Expr} {t : TT} (hc : PT X c t) : PTs X [c] t := by
  intro pins s σ H Q I h
  rw [List.forIn_cons]
  refine wpAny_bind ?_
  rw [if_pos rfl]
  refine wpAny_bind (thn (hc pins s σ H Q I h) fun b s1 q => wpAny_pure ?_)
  exact wpAny_pure q

section
variable {X : Cx} {scope : Scope} {N' own fnames : List Str} {fr : List Nat} {pins : List (Addr × Obj)} {σ : St} {H : Hp} {s₃ : Shared} {fp : List Addr}
theorem CompSc.has (S : CompSc X scope N' own fnames fr) (ok : X.Ok) : ∀ y ∈ scope.names, y.2 = .free → ∃ c, X.env.cells.lookup y.1 = some c := fun y hy hf => by
  have h := List.all_eq_true.mp S.free y hy
  rw [hf] at h
  exact ok.has _ (.inl (by simpa using h))
theorem CompSc.cell (S : CompSc X scope N' own fnames fr) (ok : X.Ok) {y : Str} {c : Addr} (h : (clOf scope.names X.env).lookup y = some c) : X.env.cells.lookup y = some c := by
  rcases mem_cl (PySem.mem_of_lookup h) with z | ⟨z, e⟩
  · cases z
  · obtain ⟨d, hd⟩ := S.has ok _ z rfl
    have hd' : X.env.cells.lookup y = some d := hd
    have e' : c = (X.env.cells.lookup y).getD 0 := e
    rw [hd'] at e'
    rw [hd', e']; rfl
theorem mem_of_lookupK {x : Str} {k : NameKind} : ∀ {l : List (Str × NameKind)}, l.lookup x = some k → (x, k) ∈ l
  | [], h => by simp at h
  | (y, d) :: r, h => by
    rw [List.lookup_cons] at h
    by_cases e : x == y
    · rw [e] at h
      have e1 : x = y := by simpa using e
      cases h; subst e1
      exact List.mem_cons_self
    · have e' : (x == y) = false := by simpa using e
      rw [e'] at h
      exact List.mem_cons_of_mem _ (mem_of_lookupK h)
theorem CompSc.names (S : CompSc X scope N' own fnames fr) {y : Str} {k : NameKind} (h : (relabel scope X.env).names.lookup y = some k) (hk : k = .cell ∨ k = .free) : (y, NameKind.free) ∈ scope.names := by
  have hm := mem_of_lookupK h
  unfold relabel at hm
  obtain ⟨⟨n, k0⟩, hn, e⟩ := List.mem_map.mp hm
  dsimp only at e
  split at e
  · rename_i hc
    have : k0 = .free := by
      simp only [Bool.and_eq_true, beq_iff_eq] at hc
      exact hc.1.1
    cases e; subst this; exact hn
  · cases e
    rcases hk with rfl | rfl
    · have := List.all_eq_true.mp S.nocell _ hn
      simp at this
    · exact hn
/-- the block's context is in order -/
theorem comp_ok {C : Addr} (S : CompSc X scope N' own fnames fr) (I : Inv X pins σ H s₃) (hC : s₃.heap.objs.size ≤ C) (hf : ∀ b ∈ fp, FpOk X pins H b) (hlt : ∀ b ∈ fp, b < s₃.heap.objs.size) : (X.comp scope N' s₃ H fp C).Ok := by
  have cellI : ∀ y c, (clOf scope.names X.env).lookup y = some c → X.env.cells.lookup y = some c := fun y c h => S.cell I.ok h
  refine ⟨I.ok.mod, S.kind, I.ok.glob, I.ok.blt, hC, fun x y c h1 h2 => I.ok.inj x y c (cellI x c h1) (cellI y c h2), fun x hx => ?_, fun x c h => (by cases h), I.ok.hd, I.ok.frames, .inl rfl, fun b hb => ⟨?_, fun x c h => (hf b hb).2.2.2.2.1 x c (cellI x c h)⟩, fun b o e => I.bs b o e, Nat.le_trans I.ok.bsz I.sz, fun b o e hb => ?_, fun b hb hb' => ?_, I.stack, I.stkFree⟩
  · have hm : (x, NameKind.free) ∈ scope.names := by
      rcases hx with h | h
      · exact S.names (show (relabel scope X.env).names.lookup x = some .cell from h) (.inl rfl)
      · exact S.names (show (relabel scope X.env).names.lookup x = some .free from h) (.inr rfl)
    obtain ⟨c, hc⟩ := cl_mem (env := X.env) (acc := []) (.inr hm)
    exact lookup_some_of_mem hc
  · intro z
    have h1 := hlt b hb
    have z' : b = C := z
    rw [z'] at h1
    exact absurd (Nat.lt_of_lt_of_le h1 hC) (Nat.lt_irrefl _)
  · obtain ⟨_, _, _, h3, _⟩ := hf b hb
    rcases h3 with h3 | h3
    · exact I.ok.noex b o e h3
    · exact absurd (Nat.lt_of_lt_of_le (Heap.lt_size e) (Nat.le_trans I.ok.bsz h3)) (Nat.lt_irrefl _)
  · obtain ⟨_, h1, h2, _⟩ := hf b hb
    rcases List.mem_cons.mp (I.stkSub b hb') with z | z
    · exact h1 z
    · exact h2 z
theorem comp_start {h₄ : Heap} {t₄ : Nat} {m : Str → Option Value} (S : CompSc X scope N' own fnames fr) (I : Inv X pins σ H s₃) (hf : ∀ b ∈ fp, FpOk X pins H b) (hlt : ∀ b ∈ fp, b < s₃.heap.objs.size)
    (k : ∀ b o, s₃.heap.get? b = some o → h₄.get? b = some o) (hn : h₄.Ns s₃.heap.objs.size m) :
    Inv (X.comp scope N' s₃ H fp s₃.heap.objs.size) [] (compSt own.length fr σ) H { s₃ with heap := h₄, toks := t₄ } := by
  have hlen : fr.length = fnames.length := by simpa using congrArg List.length S.fr
  refine ⟨comp_ok S I (Nat.le_refl _) hf hlt, rfl, I.bare, Un.kept k, ⟨m, hn, fun i x v e1 e2 e3 => ?_⟩, fun y c h => ?_, I.hok.fresh (Nat.le_refl _), fun y c h => I.freeC y c (S.cell I.ok h), fun p hp => absurd (show p ∈ ([] : List (Addr × Obj)) from hp) (by simp), I.hok.kept k, ?_⟩
  · have e1' : (own ++ fnames)[i]? = some x := by rw [← S.N]; exact e1
    have hi : own.length ≤ i := by
      refine Nat.le_of_not_lt fun z => ?_
      unfold compSt at e2
      rw [List.getElem?_append_left (by simpa using z), List.getElem?_replicate, if_pos z] at e2
      cases e2
    unfold compSt at e2
    rw [List.getElem?_append_right (by simpa using hi), List.length_replicate, List.getElem?_map] at e2
    rw [List.getElem?_append_right hi] at e1'
    cases q : fr[i - own.length]? with
    | none => rw [q] at e2; cases e2
    | some t =>
      rw [q] at e2
      have e2' : (σ[t]?).getD none = some v := Option.some.inj e2
      have hσ : σ[t]? = some (some v) := by
        cases z : σ[t]? with
        | none => rw [z] at e2'; cases e2'
        | some o => rw [z] at e2'; exact congrArg some e2'
      have hN : X.N[t]? = some x := by
        have z := congrArg (fun l => l[i - own.length]?) S.fr
        simp only [List.getElem?_map, q, e1', Option.map_some] at z
        exact Option.some.inj z
      have hx : x ∈ fnames := List.mem_of_getElem? e1'
      have hk := List.all_eq_true.mp S.fn x hx
      simp only [Bool.and_eq_true, beq_iff_eq] at hk
      obtain ⟨mX, _, hl⟩ := I.loc
      obtain ⟨u, r, l⟩ := hl t x v hN hσ (.inr (.inl hk.1))
      refine ⟨u, r, ?_⟩
      rcases l with ⟨kl, _⟩ | ⟨_, c, hc, o, ho, hd⟩
      · rw [hk.1] at kl; cases kl
      · obtain ⟨d, hd'⟩ := cl_mem (env := X.env) (acc := []) (.inr (S.names hk.2 (.inl rfl)))
        obtain ⟨c', hc'⟩ := lookup_some_of_mem hd'
        have z := S.cell I.ok hc'
        rw [hc] at z
        cases z
        exact .inr ⟨.inl hk.2, c, hc', o, k c o ho, hd⟩
  · obtain ⟨v, o, ho, hd⟩ := I.cell y c (S.cell I.ok h)
    exact ⟨v, o, k c o ho, hd⟩
  · unfold compSt
    show _ = N'.length
    rw [S.N, List.length_append, List.length_append, List.length_replicate, List.length_map, hlen]

/-- the block: what is wanted of its turns -/
def tBlk (k : Nat) (fr : List Nat) (g : TG) (tt : TT) (te : TE) (J : It) (σ : St) (H1 : Hp) (Q : VK) : Prop :=
  ∀ D, H1 D = none → ∃ W : Nat → Nat → St → Hp → Prop, (∃ m, W 0 m (compSt k fr σ) (upd H1 D (.lst []))) ∧ ∀ i m σ' H', W i m σ' H' →
    (J.stop i H' ∧ Q (.ref D) H') ∨ (J.go i H' ∧ ∃ N : St → Hp → Prop, (∀ σ2 H2, N σ2 H2 → ∃ m', m' < m ∧ W (i + 1) m' σ2 H2) ∧ ∀ x H2, J.yld i H' x H2 →
      g x σ' H2 fun σ2 H3 => tt σ2 H3 fun b H4 => if b = true then te σ2 H4 fun v H5 => ∃ xs, H5 D = some (.lst xs) ∧ xs.length < sizeLine ∧ N σ2 (upd H5 D (.lst (xs ++ [v]))) else N σ2 H4)
def tComp (wi : TI) (k : Nat) (fr : List Nat) (g : TG) (tt : TT) (te : TE) : TE := fun σ H Q => wi σ H fun J H1 => tBlk k fr g tt te J σ H1 Q

theorem comp_run {elt tg iter : Expr} {ifs : List Expr} {pos : Pos} {g : TG} {tt : TT} {te : TE} {s₂ : Shared} {H2 : Hp} {J : It} {it : Addr} {tn : Nat → Heap → Prop} {RR : Value → Addr → Result → Shared → Prop} {E : Value → Shared → Prop} {Q : VK}
    (S : CompSc X scope N' own fnames fr) (hc : X.calm = true)
    (hb : ∀ (s₀ : Shared) (H₀ : Hp) (fp : List Addr) (C : Addr), PG (X.comp scope N' s₀ H₀ fp C) tg g ∧ PTs (X.comp scope N' s₀ H₀ fp C) ifs tt ∧ PE (X.comp scope N' s₀ H₀ fp C) elt te)
    (I2 : Inv X pins σ H2 s₂) (T : Turn X.prog X.w X.K tg J fp it tn) (st2 : tn 0 s₂.heap) (f2 : ∀ b ∈ fp, FpOk X pins H2 b) (hq : tBlk own.length fr g tt te J σ H2 Q)
    (hRR : ∀ D C H' s', Inv X pins σ H' s' → (∃ m, s'.heap.Ns C m) → FpOk X pins H' C → Q (.ref D) H' → RR (.ref D) C (.ok .next) s') :
    wpAny (model X.prog X.w) X.A (newList []) (fun acc s₃ => wpAny (model X.prog X.w) X.A (newFunctionEnv scope X.env.globals (clOf scope.names X.env) [] X.env.qual none .none (some X.env)) (fun cenv s₄ =>
      codeAny (model X.prog X.w) X.A (.compStart (.ListComp elt [⟨tg, iter, ifs, 0⟩] scope pos) 0 (.ref it) acc { cenv with scope := relabel scope X.env }) (RR acc cenv.locals) s₄) E s₃) E s₂ := by
  have nocell : ∀ y ∈ scope.names, y.2 ≠ .cell := fun y hy z => by
    have := List.all_eq_true.mp S.nocell y hy
    rw [z] at this
    simp at this
  refine wpAny_newObj_type (wpAny_newFunctionEnv nocell (by intro y hy; simp at hy) (fun h₁ hns₁ hsb₁ => ?_) S.kind)
  have hlt2 : ∀ b ∈ fp, b < s₂.heap.objs.size := fun b hb' => by
    obtain ⟨o, e, _⟩ := T.obj _ _ st2 b hb'
    exact Heap.lt_size e
  have I3 : Inv X pins σ (upd H2 s₂.heap.objs.size (.lst [])) { s₂ with heap := s₂.heap.push { cls := .type "list", data := .seq ([] : List Value).toArray }, toks := s₂.toks } := I2.lnew (its := []) (ys := []) .nil (Nat.zero_le _)
  have hD : H2 s₂.heap.objs.size = none := I2.fresh
  obtain ⟨W, ⟨m0, w0⟩, turn⟩ := hq _ hD
  generalize hs3 : ({ s₂ with heap := s₂.heap.push { cls := .type "list", data := .seq ([] : List Value).toArray }, toks := s₂.toks } : Shared) = s₃ at I3
  have eh : s₃.heap = s₂.heap.push { cls := .type "list", data := .seq ([] : List Value).toArray } := by rw [← hs3]
  have hsz : s₃.heap.objs.size = s₂.heap.objs.size + 1 := by rw [eh, Heap.size_push]
  have f3 : ∀ b ∈ fp, FpOk X pins (upd H2 s₂.heap.objs.size (.lst [])) b := fun b hb' => by
    refine ⟨?_, (f2 b hb').2⟩
    rw [upd_ne (Nat.ne_of_lt (hlt2 b hb'))]
    exact (f2 b hb').1
  have hlt3 : ∀ b ∈ fp, b < s₃.heap.objs.size := fun b hb' => by rw [hsz]; exact Nat.lt_succ_of_lt (hlt2 b hb')
  have old : ∀ b o, s₃.heap.get? b = some o → h₁.get? b = some o := fun b o e => by
    have hb1 : b ≠ s₃.heap.objs.size := Nat.ne_of_lt (Heap.lt_size e)
    refine hsb₁.extBut b o ?_ ?_
    · show b ≠ (s₂.heap.push _).objs.size
      rw [← eh]; exact hb1
    · show (Heap.push (s₂.heap.push _) _).get? b = some o
      rw [← eh]
      exact Heap.get?_push_of_some _ e
  have hns : ∃ m, h₁.Ns s₃.heap.objs.size m := ⟨_, by rw [eh]; exact hns₁⟩
  obtain ⟨m1, hns⟩ := hns
  have I4 : Inv (X.comp scope N' s₃ (upd H2 s₂.heap.objs.size (.lst [])) fp s₃.heap.objs.size) [] (compSt own.length fr σ) (upd H2 s₂.heap.objs.size (.lst [])) { s₃ with heap := h₁, toks := s₂.toks + ([] : List (Str × Value)).length } :=
    comp_start S I3 f3 hlt3 old hns
  have st4 : tn 0 h₁ := T.keep _ _ _ st2 fun b hb' o e => old b o (by rw [eh]; exact Heap.get?_push_of_some _ e)
  obtain ⟨hpg, hpt, hpe⟩ := hb s₃ (upd H2 s₂.heap.objs.size (.lst [])) fp s₃.heap.objs.size
  have fpok : ∀ {H' : Hp}, (∀ b ∈ fp, H' b = none) → ∀ b ∈ fp, FpOk (X.comp scope N' s₃ (upd H2 s₂.heap.objs.size (.lst [])) fp s₃.heap.objs.size) [] H' b := fun hn b hb' =>
    ⟨hn b hb', fun z => by
        have h1 := hlt3 b hb'
        have z' : b = s₃.heap.objs.size := z
        rw [z'] at h1
        exact absurd h1 (Nat.lt_irrefl _), fun z => I4.ok.exfs b hb' z, .inl hb', fun x c e => (I4.ok.exf b hb').2 x c e, fun p hp => absurd (show p ∈ ([] : List (Addr × Obj)) from hp) (by simp)⟩
  have loop : ∀ s4 : Shared, s4 = { s₃ with heap := h₁, toks := s₂.toks + ([] : List (Str × Value)).length } →
      codeAny (model X.prog X.w) X.A (.compLoop (.ListComp elt [⟨tg, iter, ifs, 0⟩] scope pos) 0 (.ref it) (.ref s₂.heap.objs.size) (compEnvC scope (clOf scope.names X.env) s₃.heap.objs.size X.env)) (RR (.ref s₂.heap.objs.size) s₃.heap.objs.size) s4 := by
    rintro s4 rfl
    refine codeAny_loop rfl (fun n s => ∃ i σ' H', Inv (X.comp scope N' s₃ (upd H2 s₂.heap.objs.size (.lst [])) fp s₃.heap.objs.size) [] σ' H' s ∧ tn i s.heap ∧ (∀ b ∈ fp, H' b = none) ∧ W i n σ' H') ?_ m0
      ⟨0, _, _, I4, st4, fun b hb' => (f3 b hb').1, w0⟩
    rintro n s5 ⟨i, σ5, H5, I5, st5, fr5, w5⟩
    show wpAny _ X.A ((compTurn (.ListComp elt [⟨tg, iter, ifs, 0⟩] scope pos) 0 (.ref it) (.ref s₂.heap.objs.size) (compEnvC scope (clOf scope.names X.env) s₃.heap.objs.size X.env)).onRaise (fun x => do noteFrame x (compEnvC scope (clOf scope.names X.env) s₃.heap.objs.size X.env); theTreesLotGoes x)) _ _ s5
    refine wpAny_noted ?_
    rw [compTurn_list]
    refine wpAny_bind (wpAny_standAt (wpAny_bind ?_))
    rcases turn i n σ5 H5 w5 with ⟨stop, q⟩ | ⟨go, N, hN, step⟩
    · refine wpAny_mono (T.done (X.comp scope N' s₃ (upd H2 s₂.heap.objs.size (.lst [])) fp s₃.heap.objs.size) rfl rfl rfl hc i [] s5 σ5 H5 (fun _ _ => False) I5 (fpok fr5) st5 stop) (fun r s6 hr => ?_) fun _ _ z => z.elim
      obtain ⟨rfl, I6⟩ := hr
      refine wpAny_pure ?_
      obtain ⟨m6, hn6, _⟩ := id I6.loc
      have I7 : Inv X pins σ H5 s6 := I3.call' (ch := fp) I6.os I6.base I6.hok I6.bare fun b hb' => by
        obtain ⟨_, h1, _, h3, h4, h5⟩ := f3 b hb'
        exact ⟨h3, h1, h4, h5⟩
      exact hRR _ _ H5 s6 I7 ⟨m6, hn6⟩ (I3.fpOk (Nat.le_refl _) I6.free) q
    · refine wpAny_mono (T.item (X.comp scope N' s₃ (upd H2 s₂.heap.objs.size (.lst [])) fp s₃.heap.objs.size) rfl rfl rfl hc i [] s5 σ5 H5 (fun _ _ => False) I5 (fpok fr5) st5 go) (fun r s6 hr => ?_) fun _ _ z => z.elim
      obtain ⟨u, rfl, h6⟩ := hr
      refine wpAny_bind (wpAny_mono h6 (fun _ s7 h7 => ?_) fun _ _ z => z.elim)
      obtain ⟨x, H7, I7, r7, y7, st7, fr7⟩ := h7
      have I7' := I7.pinned (fpok fr7) (T.obj _ _ st7)
      refine wpAny_bind (wpAny_mono (hpg _ s7 σ5 H7 x u _ I7' r7 (step x H7 y7)) (fun _ s8 h8 => ?_) fun _ _ z => z.elim)
      obtain ⟨σ8, H8, I8, q8⟩ := h8
      have again' : ∀ {σ9 : St} {H9 : Hp} {s9 : Shared}, Inv (X.comp scope N' s₃ (upd H2 s₂.heap.objs.size (.lst [])) fp s₃.heap.objs.size) ([] ++ pinsAt fp s7.heap) σ9 H9 s9 → N σ9 H9 →
          ∃ m, m < n ∧ ∃ i σ' H', Inv (X.comp scope N' s₃ (upd H2 s₂.heap.objs.size (.lst [])) fp s₃.heap.objs.size) [] σ' H' s9 ∧ tn i s9.heap ∧ (∀ b ∈ fp, H' b = none) ∧ W i m σ' H' := fun {σ9 H9 s9} I9 n9 => by
        obtain ⟨m', hm, w9⟩ := hN σ9 H9 n9
        refine ⟨m', hm, i + 1, σ9, H9, I9.unpinned, T.keep _ _ _ st7 fun b hb' o e => (I9.pin (b, o) (List.mem_append_right _ (List.mem_append_right _ (mem_pinsAt hb' e)))).1, fun b hb' => ?_, w9⟩
        obtain ⟨o, e, d⟩ := T.obj _ _ st7 b hb'
        exact (I9.pin (b, o) (List.mem_append_right _ (List.mem_append_right _ (mem_pinsAt hb' e)))).2.1
      refine wpAny_bind (wpAny_mono (hpt _ s8 σ8 H8 _ I8 q8) (fun b s9 h9 => ?_) fun _ _ z => z.elim)
      obtain ⟨H9, I9, q9⟩ := h9
      cases b with
      | false =>
        rw [if_neg Bool.false_ne_true] at q9
        exact wpAny_pure ⟨rfl, again' I9 q9⟩
      | true =>
        rw [if_pos rfl] at q9
        refine wpAny_bind (wpAny_bind (wpAny_mono (hpe _ s9 σ8 H9 _ I9 q9) (fun v s10 h10 => ?_) fun _ _ z => z.elim))
        obtain ⟨y, H10, I10, r10, xs, hx, hz, q10⟩ := h10
        refine wpAny_bind (wpAny_mono (mt_append (X := X.comp scope N' s₃ (upd H2 s₂.heap.objs.size (.lst [])) fp s₃.heap.objs.size) _ s10 σ8 H10 (.ref s₂.heap.objs.size) [y] (.ref s₂.heap.objs.size) [v] (fun _ H' => N σ8 H') I10 rfl (.cons r10 .nil) ⟨_, xs, y, rfl, rfl, hx, hz, q10⟩) (fun r s11 h11 => ?_) fun _ _ z => z.elim)
        obtain ⟨_, H11, I11, _, q11⟩ := h11
        exact wpAny_pure (wpAny_pure ⟨rfl, again' I11 q11⟩)
  have e3 : ({ s₂ with heap := s₂.heap.push { cls := .type "list", data := .seq ([] : List Value).toArray } } : Shared) = s₃ := hs3
  have go4 := codeAny_compStart_list (loop _ rfl) (T.self X.A 0 _ _ _ st4 (loop _ rfl))
  subst hs3
  exact go4
theorem pe_comp {elt tg iter : Expr} {ifs : List Expr} {pos : Pos} {wi : TI} {g : TG} {tt : TT} {te : TE} (S : CompSc X scope N' own fnames fr) (hc : X.calm = true) (hi : PI X tg iter wi)
    (hb : ∀ (s₀ : Shared) (H₀ : Hp) (fp : List Addr) (C : Addr), PG (X.comp scope N' s₀ H₀ fp C) tg g ∧ PTs (X.comp scope N' s₀ H₀ fp C) ifs tt ∧ PE (X.comp scope N' s₀ H₀ fp C) elt te)
    (hs : ∀ x, foldedSetIterable iter X.env x = pure x := by intro _; rfl) : PE X (.ListComp elt [⟨tg, iter, ifs, 0⟩] scope pos) (tComp wi own.length fr g tt te) := by
  intro pins s σ H Q I h
  rw [eval_ListComp]
  refine wpAny_comprehension_free (use := none) rfl hs (closure_is (S.has I.ok)) S.kind (fun y hy hl => ?_) (wpAny_mono (hi pins s σ H _ I h) (fun xv s₁ h₁ => wpAny_mono h₁ (fun itv s₂ h₂ => ?_) fun _ _ e => e) fun _ _ e => e)
  · have := List.all_eq_true.mp S.loc y hy
    rw [hl] at this
    simpa using this
  · obtain ⟨it, fp, tn, J, H2, rfl, I2, T, st2, f2, q2⟩ := h₂
    refine comp_run S hc hb I2 T st2 f2 q2 (RR := fun acc C => compPost (model X.prog X.w) X.A X.xe none (EP X pins σ Q) acc C) fun D C H' s' I' hn fC q => ?_
    obtain ⟨m, hn⟩ := hn
    obtain ⟨f0, f1, f2', f3, f4, f5⟩ := fC
    exact ⟨m, hn, fun h' hs' => ⟨.ref D, H', I'.turned (t' := s'.toks) (fun b o hb' e => (hs'.2 b hb').trans e) f0 f1 f3 f4 f5, rfl, q⟩⟩
/-- x = [..]: the name is stored ahead of the block's end -/
theorem ps_comp {i : Nat} {x : Str} {pos' spos : Pos} {elt tg iter : Expr} {ifs : List Expr} {pos : Pos} {wi : TI} {g : TG} {tt : TT} {te : TE} (hN : X.N.Nodup) (hi' : X.N[i]? = some x) (hx : X.env.scope.names.lookup x = some .local) (S : CompSc X scope N' own fnames fr) (hc : X.calm = true) (hi : PI X tg iter wi)
    (hb : ∀ (s₀ : Shared) (H₀ : Hp) (fp : List Addr) (C : Addr), PG (X.comp scope N' s₀ H₀ fp C) tg g ∧ PTs (X.comp scope N' s₀ H₀ fp C) ifs tt ∧ PE (X.comp scope N' s₀ H₀ fp C) elt te)
    (hsw : swapsWith (.ListComp elt [⟨tg, iter, ifs, 0⟩] scope pos) (some (.Name x pos')) spos.line X.env = pure true := by rfl)
    (hs : ∀ x, foldedSetIterable iter X.env x = pure x := by intro _; rfl) : PS X (.Assign [.Name x pos'] (.ListComp elt [⟨tg, iter, ifs, 0⟩] scope pos) spos) (tAsg (tComp wi own.length fr g tt te) (gName i)) := by
  intro pins s σ H D I h
  rw [exec_Assign_Name_used _ _ _ _ hsw]
  refine wpAny_bind (wpAny_standAt (wpAny_bind ?_))
  show wpAny _ X.A (do let _ ← comprehension (.ListComp elt [⟨tg, iter, ifs, 0⟩] scope pos) scope X.env _ (newList []) false (eval iter X.env) (some (assign (.Name x pos') X.env))) _ _ s
  refine wpAny_bind (wpAny_mono (wpAny_comprehension_free (use := some (assign (.Name x pos') X.env)) (Q := fun _ s' => SP X pins D .next s') rfl hs (closure_is (S.has I.ok)) S.kind (fun y hy hl => ?_)
    (wpAny_mono (hi pins s σ H _ I h) (fun xv s₁ h₁ => wpAny_mono h₁ (fun itv s₂ h₂ => ?_) fun _ _ e => e) fun _ _ e => e)) (fun _ s' hq => wpAny_pure (wpAny_pure hq)) fun _ _ e => e)
  · have := List.all_eq_true.mp S.loc y hy
    rw [hl] at this
    simpa using this
  · obtain ⟨it, fp, tn, J, H2, rfl, I2, T, st2, f2, q2⟩ := h₂
    refine comp_run S hc hb I2 T st2 f2 q2 (RR := fun acc C => compPost (model X.prog X.w) X.A X.xe (some (assign (.Name x pos') X.env)) (fun _ s' => SP X pins D .next s') acc C) fun D' C H' s' I' hn fC q => ?_
    obtain ⟨m, hn⟩ := hn
    obtain ⟨f0, f1, f2', f3, f4, f5⟩ := fC
    show wpAny _ X.A (assign (.Name x pos') X.env (.ref D')) _ _ _
    refine wpAny_assign_Name (store_ok2 I' hN hi' (.inl hx) (v := .ref D') rfl (fun s'' I'' hch => ?_) (.inr hx))
    obtain ⟨a, hsa, hca⟩ := hch
    have hCa : C ≠ a := by
      rcases hca with z | z
      · rw [z]; exact f1
      · exact fun e => f4 x a z e.symm
    refine ⟨m, hn.sameBut hsa hCa, fun h' hs' => ⟨_, H', I''.turned (t' := s''.toks) (fun b o hb' e => (hs'.2 b hb').trans e) f0 f1 f3 f4 f5, q⟩⟩
end
end L2

set_option Elab.async false
set_option linter.all false
set_option maxRecDepth 100000
set_option maxHeartbeats 4000000
namespace L2
open PySem PySem.Spec PyProof.Rows
inductive DV where
  | int (i : Int) | bl (b : Bool) | str (x : Str) | non | lst (xs : List DV) | tup (xs : List DV)
def Den (K : PySem.W.Frag) (H : Hp) : Nat → V → DV → Prop
  | _, .int i, .int j => i = j
  | _, .bl i, .bl j => i = j
  | _, .str i, .str j => i = j
  | _, .non, .non => True
  | n + 1, .ref a, .lst ds => ∃ xs, SqL K H a xs ∧ Paired (Den K H n) xs ds
  | n + 1, .ref a, .tup ds => ∃ xs, SqT K H a xs ∧ Paired (Den K H n) xs ds
  | _, _, _ => False
/-- two data that are compared place by place -/
def Like : Nat → DV → DV → Prop
  | _, .int _, .int _ => True
  | _, .bl _, .bl _ => True
  | _, .str _, .str _ => True
  | _, .non, .non => True
  | n + 1, .lst ds, .lst es => ds.length = es.length → ∀ (i : Nat) d e, ds[i]? = some d → es[i]? = some e → Like n d e
  | n + 1, .tup ds, .tup es => ∀ (i : Nat) d e, ds[i]? = some d → es[i]? = some e → Like n d e
  | _, _, _ => False
theorem Paired.get' {α β : Type} {F : α → β → Prop} : ∀ {xs : List α} {ys : List β} {i : Nat} {x : α}, Paired F xs ys → xs[i]? = some x → ∃ y, ys[i]? = some y ∧ F x y
  | _, _, _, _, .nil, e => by simp at e
  | _, _, 0, _, .cons r _, e => by simp at e; subst e; exact ⟨_, rfl, r⟩
  | _, _, i + 1, x, .cons _ t, e => by
    obtain ⟨u, h1, h2⟩ := Paired.get' (i := i) (x := x) t (by simpa using e)
    exact ⟨u, by simpa using h1, h2⟩
section
variable {X : Cx} {pins : List (Addr × Obj)} {σ : St} {H : Hp} {s : Shared}
theorem paired_inj {α β : Type} {F : α → β → Prop} (hF : ∀ x d e, F x d → F x e → d = e) : ∀ {xs : List α} {ds es : List β}, Paired F xs ds → Paired F xs es → ds = es
  | _, _, _, .nil, .nil => rfl
  | _, _, _, .cons a b, .cons c d => by rw [hF _ _ _ a c, paired_inj hF b d]
theorem not_both (I : Inv X pins σ H s) {a : Addr} {xs ys : List V} (h : SqL X.K H a xs) (h' : SqT X.K H a ys) : False := by
  obtain ⟨its, _, ⟨o, n, e, c, _⟩, _⟩ := I.list h
  obtain ⟨its', _, ⟨o', e', c', _⟩, _⟩ := I.tuple h'
  rw [e] at e'; cases e'
  rw [c] at c'
  exact absurd c' (by decide)
theorem den_inj (I : Inv X pins σ H s) : ∀ (n : Nat) (x : V) (d e : DV), Den X.K H n x d → Den X.K H n x e → d = e := by
  intro n
  induction n with
  | zero =>
    intro x d e h1 h2
    cases x <;> cases d <;> simp only [Den] at h1 <;> cases e <;> simp only [Den] at h2 <;> first | rfl | (subst h1; subst h2; rfl)
  | succ n ih =>
    intro x d e h1 h2
    cases x with
    | ref a =>
      cases d with
      | lst ds =>
        obtain ⟨xs, hs, hp⟩ : ∃ xs, SqL X.K H a xs ∧ Paired (Den X.K H n) xs ds := h1
        cases e with
        | lst es =>
          obtain ⟨ys, hs', hp'⟩ : ∃ xs, SqL X.K H a xs ∧ Paired (Den X.K H n) xs es := h2
          rw [I.list_inj hs' hs] at hp'
          rw [paired_inj ih hp hp']
        | tup es =>
          obtain ⟨ys, hs', hp'⟩ : ∃ xs, SqT X.K H a xs ∧ Paired (Den X.K H n) xs es := h2
          exact (not_both I hs hs').elim
        | _ => exact False.elim h2
      | tup ds =>
        obtain ⟨xs, hs, hp⟩ : ∃ xs, SqT X.K H a xs ∧ Paired (Den X.K H n) xs ds := h1
        cases e with
        | tup es =>
          obtain ⟨ys, hs', hp'⟩ : ∃ xs, SqT X.K H a xs ∧ Paired (Den X.K H n) xs es := h2
          rw [I.tuple_inj hs' hs] at hp'
          rw [paired_inj ih hp hp']
        | lst es =>
          obtain ⟨ys, hs', hp'⟩ : ∃ xs, SqL X.K H a xs ∧ Paired (Den X.K H n) xs es := h2
          exact (not_both I hs' hs).elim
        | _ => exact False.elim h2
      | _ => exact False.elim h1
    | int i => cases d <;> simp only [Den] at h1 <;> cases e <;> simp only [Den] at h2 <;> (subst h1; subst h2; rfl)
    | bl i => cases d <;> simp only [Den] at h1 <;> cases e <;> simp only [Den] at h2 <;> (subst h1; subst h2; rfl)
    | str i => cases d <;> simp only [Den] at h1 <;> cases e <;> simp only [Den] at h2 <;> (subst h1; subst h2; rfl)
    | non => cases d <;> simp only [Den] at h1 <;> cases e <;> simp only [Den] at h2 <;> rfl
    | _ => cases d <;> exact False.elim h1
open Classical in
/-- the answer of == -/
noncomputable def eqD (d e : DV) : Bool := decide (d = e)
theorem eqD_same (d : DV) : eqD d d = true := by simp [eqD]
theorem all_places {ds es : List DV} (h : ds.length = es.length) : ((List.range ds.length).all fun j => eqD (ds[j]?.getD (.int 0)) (es[j]?.getD (.int 0))) = eqD (.lst ds) (.lst es) := by
  rw [Bool.eq_iff_iff]
  simp only [List.all_eq_true, List.mem_range, eqD, decide_eq_true_eq, DV.lst.injEq]
  constructor
  · intro hj
    refine List.ext_getElem? fun i => ?_
    by_cases hi : i < ds.length
    · have := hj i hi
      rw [List.getElem?_eq_getElem hi, List.getElem?_eq_getElem (by omega : i < es.length)] at this ⊢
      simpa using this
    · rw [List.getElem?_eq_none (by omega), List.getElem?_eq_none (by omega)]
  · rintro rfl j _
    rfl
theorem all_placesT {ds es : List DV} : (((List.range (min ds.length es.length)).all fun j => eqD (ds[j]?.getD (.int 0)) (es[j]?.getD (.int 0))) && ds.length == es.length) = eqD (.tup ds) (.tup es) := by
  by_cases h : ds.length = es.length
  · have e : eqD (.tup ds) (.tup es) = eqD (.lst ds) (.lst es) := by simp [eqD]
    rw [e, ← all_places h, h]
    simp [h]
  · have : ¬ ds = es := fun e => h (congrArg List.length e)
    have e : eqD (.tup ds) (.tup es) = false := by simp [eqD, this]
    rw [e]
    simp [h]
theorem eqAt_D (I : Inv X pins σ H s) : ∀ (n : Nat) (A : Around) (x y : V) (d e : DV) (u v : Value), Den X.K H n x d → Den X.K H n y e → Like n d e → RelV x u → RelV y v → A.units + n < cLine → SeqAt.EqAt A s u v (eqD d e) := by
  intro n
  have leaf : ∀ (n : Nat) (A : Around) (x y : V) (d e : DV) (u v : Value), (∀ a, x ≠ .ref a) → Den X.K H n x d → Den X.K H n y e → Like n d e → RelV x u → RelV y v → SeqAt.EqAt A s u v (eqD d e) := by
    intro n A x y d e u v hx h1 h2 hl r1 r2
    cases x with
    | ref a => exact absurd rfl (hx a)
    | non =>
      cases d <;> simp only [Den] at h1
      cases e <;> simp only [Like] at hl
      cases y <;> simp only [Den] at h2
      cases r1
      cases r2
      rw [eqD_same]
      exact SeqAt.EqAt.same _
    | int i =>
      cases d <;> simp only [Den] at h1
      subst h1
      cases e <;> simp only [Like] at hl
      cases y <;> simp only [Den] at h2
      subst h2
      obtain ⟨t, rfl⟩ := r1
      obtain ⟨t', rfl⟩ := r2
      rename_i j
      have e1 : eqD (.int i) (.int j) = (i == j) := by
        rw [Bool.eq_iff_iff]; simp [eqD]
      rw [e1]
      exact SeqAt.EqAt.int_int i t j t'
    | bl i =>
      cases d <;> simp only [Den] at h1
      subst h1
      cases e <;> simp only [Like] at hl
      cases y <;> simp only [Den] at h2
      subst h2
      cases r1
      cases r2
      rename_i j
      have e1 : eqD (.bl i) (.bl j) = (i == j) := by
        rw [Bool.eq_iff_iff]; simp [eqD]
      rw [e1]
      exact SeqAt.EqAt.bool_bool i j
    | str i =>
      cases d <;> simp only [Den] at h1
      subst h1
      cases e <;> simp only [Like] at hl
      cases y <;> simp only [Den] at h2
      subst h2
      obtain ⟨t, rfl⟩ := r1
      obtain ⟨t', rfl⟩ := r2
      rename_i j
      have e1 : eqD (.str i) (.str j) = (i == j) := by
        rw [Bool.eq_iff_iff]; simp [eqD]
      rw [e1]
      exact SeqAt.EqAt.str_str i t j t'
    | _ => cases n <;> cases d <;> exact False.elim h1
  induction n with
  | zero =>
    intro A x y d e u v h1 h2 hl r1 r2 hu
    refine leaf 0 A x y d e u v (fun a z => ?_) h1 h2 hl r1 r2
    subst z
    cases d <;> exact False.elim h1
  | succ n ih =>
    intro A x y d e u v h1 h2 hl r1 r2 hu
    cases x with
    | ref a =>
      cases r1
      cases d with
      | lst ds =>
        obtain ⟨xs, hs, hp⟩ : ∃ xs, SqL X.K H a xs ∧ Paired (Den X.K H n) xs ds := h1
        cases e with
        | lst es =>
          cases y with
          | ref b =>
            cases r2
            obtain ⟨ys, hs', hp'⟩ : ∃ xs, SqL X.K H b xs ∧ Paired (Den X.K H n) xs es := h2
            by_cases hab : a = b
            · subst hab
              rw [I.list_inj hs' hs] at hp'
              rw [paired_inj (den_inj I n) hp hp', eqD_same]
              exact SeqAt.EqAt.same _
            · refine SeqAt.EqAt.of_refs hab ?_
              obtain ⟨its, ri, pl, _⟩ := I.list hs
              obtain ⟨its', ri', pl', _⟩ := I.list hs'
              have l1 := ri.length
              have l2 := ri'.length
              have l3 : xs.length = ds.length := Paired.length hp
              have l4 : ys.length = es.length := Paired.length hp'
              by_cases hlen : ds.length = es.length
              · rw [← all_places hlen]
                have hsz : its.toArray.size = its'.toArray.size := by rw [List.size_toArray, List.size_toArray]; omega
                have := SeqAt.RcAt.lists (e := fun j => eqD (ds[j]?.getD (.int 0)) (es[j]?.getD (.int 0))) pl.isList pl'.isList hsz (by omega : A.units < cLine) (fun j h1' h2' => ?_)
                · rw [List.size_toArray, ← l1, l3] at this
                  exact this
                · rw [List.size_toArray] at h1' h2'
                  have hj1 : xs[j]? = some xs[j] := List.getElem?_eq_getElem (by omega)
                  have hj2 : ys[j]? = some ys[j] := List.getElem?_eq_getElem (by omega)
                  obtain ⟨d', hd, hdd⟩ := Paired.get' hp hj1
                  obtain ⟨e', he, hee⟩ := Paired.get' hp' hj2
                  obtain ⟨u', hu', ru'⟩ := ri.get hj1
                  obtain ⟨v', hv', rv'⟩ := ri'.get hj2
                  have eu : its.toArray[j] = u' := by
                    have : its[j]? = some its[j] := List.getElem?_eq_getElem h1'
                    rw [this] at hu'; simpa using Option.some.inj hu'
                  have ev : its'.toArray[j] = v' := by
                    have : its'[j]? = some its'[j] := List.getElem?_eq_getElem h2'
                    rw [this] at hv'; simpa using Option.some.inj hv'
                  rw [eu, ev, hd, he]
                  exact ih A.in1 _ _ d' e' u' v' hdd hee (hl hlen j d' e' hd he) ru' rv' (by show A.units + 1 + n < cLine; omega)
              · have hne : ¬ ds = es := fun z => hlen (congrArg List.length z)
                have e1 : eqD (.lst ds) (.lst es) = false := by simp [eqD, hne]
                rw [e1]
                exact SeqAt.RcAt.lists_lengths pl.isList pl'.isList (by simp only [List.size_toArray, bne_iff_ne, ne_eq]; omega) (by omega)
          | _ => exact False.elim h2
        | _ => exact False.elim hl
      | tup ds =>
        obtain ⟨xs, hs, hp⟩ : ∃ xs, SqT X.K H a xs ∧ Paired (Den X.K H n) xs ds := h1
        cases e with
        | tup es =>
          cases y with
          | ref b =>
            cases r2
            obtain ⟨ys, hs', hp'⟩ : ∃ xs, SqT X.K H b xs ∧ Paired (Den X.K H n) xs es := h2
            by_cases hab : a = b
            · subst hab
              rw [I.tuple_inj hs' hs] at hp'
              rw [paired_inj (den_inj I n) hp hp', eqD_same]
              exact SeqAt.EqAt.same _
            · refine SeqAt.EqAt.of_refs hab ?_
              obtain ⟨its, ri, pl, _⟩ := I.tuple hs
              obtain ⟨its', ri', pl', _⟩ := I.tuple hs'
              have l1 := ri.length
              have l2 := ri'.length
              have l3 : xs.length = ds.length := Paired.length hp
              have l4 : ys.length = es.length := Paired.length hp'
              rw [← all_placesT]
              have := SeqAt.RcAt.tuples (e := fun j => eqD (ds[j]?.getD (.int 0)) (es[j]?.getD (.int 0))) (show s.heap.IsTuple a its.toArray from pl) (show s.heap.IsTuple b its'.toArray from pl') (by omega : A.units < cLine) (fun j h1' h2' => ?_)
              · rw [List.size_toArray, List.size_toArray, ← l1, l3, ← l2, l4] at this
                exact this
              · rw [List.size_toArray] at h1' h2'
                have hj1 : xs[j]? = some xs[j] := List.getElem?_eq_getElem (by omega)
                have hj2 : ys[j]? = some ys[j] := List.getElem?_eq_getElem (by omega)
                obtain ⟨d', hd, hdd⟩ := Paired.get' hp hj1
                obtain ⟨e', he, hee⟩ := Paired.get' hp' hj2
                obtain ⟨u', hu', ru'⟩ := ri.get hj1
                obtain ⟨v', hv', rv'⟩ := ri'.get hj2
                have eu : its.toArray[j] = u' := by
                  have : its[j]? = some its[j] := List.getElem?_eq_getElem h1'
                  rw [this] at hu'; simpa using Option.some.inj hu'
                have ev : its'.toArray[j] = v' := by
                  have : its'[j]? = some its'[j] := List.getElem?_eq_getElem h2'
                  rw [this] at hv'; simpa using Option.some.inj hv'
                rw [eu, ev, hd, he]
                exact ih A.in1 _ _ d' e' u' v' hdd hee (hl j d' e' hd he) ru' rv' (by show A.units + 1 + n < cLine; omega)
          | _ => exact False.elim h2
        | _ => exact False.elim hl
      | _ => exact False.elim h1
    | int i => exact leaf (n + 1) A (.int i) y d e u v (fun _ z => nomatch z) h1 h2 hl r1 r2
    | bl i => exact leaf (n + 1) A (.bl i) y d e u v (fun _ z => nomatch z) h1 h2 hl r1 r2
    | str i => exact leaf (n + 1) A (.str i) y d e u v (fun _ z => nomatch z) h1 h2 hl r1 r2
    | non => exact leaf (n + 1) A .non y d e u v (fun _ z => nomatch z) h1 h2 hl r1 r2
    | _ => cases d <;> exact False.elim h1
end
section
variable {X : Cx} {pins : List (Addr × Obj)} {σ : St} {H : Hp} {s : Shared}
theorem rc_lists (I : Inv X pins σ H s) {n : Nat} {A : Around} {a b : Addr} {ds es : List DV} (h1 : Den X.K H (n + 1) (.ref a) (.lst ds)) (h2 : Den X.K H (n + 1) (.ref b) (.lst es)) (hl : Like (n + 1) (.lst ds) (.lst es)) (hu : A.units + n + 1 < cLine) :
    SeqAt.RcAt A s (.ref a) (.ref b) (eqD (.lst ds) (.lst es)) ∧ SeqAt.RcNeAt A s (.ref a) (.ref b) (!eqD (.lst ds) (.lst es)) := by
  obtain ⟨xs, hs, hp⟩ : ∃ xs, SqL X.K H a xs ∧ Paired (Den X.K H n) xs ds := h1
  obtain ⟨ys, hs', hp'⟩ : ∃ xs, SqL X.K H b xs ∧ Paired (Den X.K H n) xs es := h2
  obtain ⟨its, ri, pl, _⟩ := I.list hs
  obtain ⟨its', ri', pl', _⟩ := I.list hs'
  have l1 := ri.length
  have l2 := ri'.length
  have l3 : xs.length = ds.length := Paired.length hp
  have l4 : ys.length = es.length := Paired.length hp'
  have go : ∀ j (h1' : j < its.toArray.size) (h2' : j < its'.toArray.size), ds.length = es.length → SeqAt.EqAt A.in1 s its.toArray[j] its'.toArray[j] (eqD (ds[j]?.getD (.int 0)) (es[j]?.getD (.int 0))) := fun j h1' h2' hlen => by
    rw [List.size_toArray] at h1' h2'
    have hj1 : xs[j]? = some xs[j] := List.getElem?_eq_getElem (by omega)
    have hj2 : ys[j]? = some ys[j] := List.getElem?_eq_getElem (by omega)
    obtain ⟨d', hd, hdd⟩ := Paired.get' hp hj1
    obtain ⟨e', he, hee⟩ := Paired.get' hp' hj2
    obtain ⟨u', hu', ru'⟩ := ri.get hj1
    obtain ⟨v', hv', rv'⟩ := ri'.get hj2
    have eu : its.toArray[j] = u' := by
      have : its[j]? = some its[j] := List.getElem?_eq_getElem h1'
      rw [this] at hu'; simpa using Option.some.inj hu'
    have ev : its'.toArray[j] = v' := by
      have : its'[j]? = some its'[j] := List.getElem?_eq_getElem h2'
      rw [this] at hv'; simpa using Option.some.inj hv'
    rw [eu, ev, hd, he]
    exact eqAt_D I n A.in1 _ _ d' e' u' v' hdd hee (hl hlen j d' e' hd he) ru' rv' (by show A.units + 1 + n < cLine; omega)
  by_cases hlen : ds.length = es.length
  · rw [← all_places hlen]
    have hsz : its.toArray.size = its'.toArray.size := by rw [List.size_toArray, List.size_toArray]; omega
    have r1 := SeqAt.RcAt.lists (e := fun j => eqD (ds[j]?.getD (.int 0)) (es[j]?.getD (.int 0))) pl.isList pl'.isList hsz (by omega : A.units < cLine) (fun j h1' h2' => go j h1' h2' hlen)
    have r2 := SeqAt.RcNeAt.lists (e := fun j => eqD (ds[j]?.getD (.int 0)) (es[j]?.getD (.int 0))) pl.isList pl'.isList hsz (by omega : A.units < cLine) (fun j h1' h2' => go j h1' h2' hlen)
    rw [List.size_toArray, ← l1, l3] at r1 r2
    exact ⟨r1, r2⟩
  · have hne : ¬ ds = es := fun z => hlen (congrArg List.length z)
    have e1 : eqD (.lst ds) (.lst es) = false := by simp [eqD, hne]
    rw [e1]
    exact ⟨SeqAt.RcAt.lists_lengths pl.isList pl'.isList (by simp only [List.size_toArray, bne_iff_ne, ne_eq]; omega) (by omega), SeqAt.RcNeAt.lists_lengths pl.isList pl'.isList (by simp only [List.size_toArray, bne_iff_ne, ne_eq]; omega) (by omega)⟩
theorem rc_tuples (I : Inv X pins σ H s) {n : Nat} {A : Around} {a b : Addr} {ds es : List DV} (h1 : Den X.K H (n + 1) (.ref a) (.tup ds)) (h2 : Den X.K H (n + 1) (.ref b) (.tup es)) (hl : Like (n + 1) (.tup ds) (.tup es)) (hu : A.units + n + 1 < cLine) :
    SeqAt.RcAt A s (.ref a) (.ref b) (eqD (.tup ds) (.tup es)) ∧ SeqAt.RcNeAt A s (.ref a) (.ref b) (!eqD (.tup ds) (.tup es)) := by
  obtain ⟨xs, hs, hp⟩ : ∃ xs, SqT X.K H a xs ∧ Paired (Den X.K H n) xs ds := h1
  obtain ⟨ys, hs', hp'⟩ : ∃ xs, SqT X.K H b xs ∧ Paired (Den X.K H n) xs es := h2
  obtain ⟨its, ri, pl, _⟩ := I.tuple hs
  obtain ⟨its', ri', pl', _⟩ := I.tuple hs'
  have l1 := ri.length
  have l2 := ri'.length
  have l3 : xs.length = ds.length := Paired.length hp
  have l4 : ys.length = es.length := Paired.length hp'
  have go : ∀ j (h1' : j < its.toArray.size) (h2' : j < its'.toArray.size), SeqAt.EqAt A.in1 s its.toArray[j] its'.toArray[j] (eqD (ds[j]?.getD (.int 0)) (es[j]?.getD (.int 0))) := fun j h1' h2' => by
    rw [List.size_toArray] at h1' h2'
    have hj1 : xs[j]? = some xs[j] := List.getElem?_eq_getElem (by omega)
    have hj2 : ys[j]? = some ys[j] := List.getElem?_eq_getElem (by omega)
    obtain ⟨d', hd, hdd⟩ := Paired.get' hp hj1
    obtain ⟨e', he, hee⟩ := Paired.get' hp' hj2
    obtain ⟨u', hu', ru'⟩ := ri.get hj1
    obtain ⟨v', hv', rv'⟩ := ri'.get hj2
    have eu : its.toArray[j] = u' := by
      have : its[j]? = some its[j] := List.getElem?_eq_getElem h1'
      rw [this] at hu'; simpa using Option.some.inj hu'
    have ev : its'.toArray[j] = v' := by
      have : its'[j]? = some its'[j] := List.getElem?_eq_getElem h2'
      rw [this] at hv'; simpa using Option.some.inj hv'
    rw [eu, ev, hd, he]
    exact eqAt_D I n A.in1 _ _ d' e' u' v' hdd hee (hl j d' e' hd he) ru' rv' (by show A.units + 1 + n < cLine; omega)
  rw [← all_placesT]
  have r1 := SeqAt.RcAt.tuples (e := fun j => eqD (ds[j]?.getD (.int 0)) (es[j]?.getD (.int 0))) (show s.heap.IsTuple a its.toArray from pl) (show s.heap.IsTuple b its'.toArray from pl') (by omega : A.units < cLine) go
  have r2 := SeqAt.RcNeAt.tuples (e := fun j => eqD (ds[j]?.getD (.int 0)) (es[j]?.getD (.int 0))) (show s.heap.IsTuple a its.toArray from pl) (show s.heap.IsTuple b its'.toArray from pl') (by omega : A.units < cLine) go
  rw [List.size_toArray, List.size_toArray, ← l1, l3, ← l2, l4] at r1 r2
  exact ⟨r1, r2⟩
end
/-- == of two lists, two tuples by what they hold -/
def rEqD (K : PySem.W.Frag) (n : Nat) : R2 := fun x y H Q => ∃ a b d e, x = .ref a ∧ y = .ref b ∧ Den K H (n + 1) (.ref a) d ∧ Den K H (n + 1) (.ref b) e ∧ Like (n + 1) d e ∧ Q (.bl (eqD d e)) H
def rNeD (K : PySem.W.Frag) (n : Nat) : R2 := fun x y H Q => ∃ a b d e, x = .ref a ∧ y = .ref b ∧ Den K H (n + 1) (.ref a) d ∧ Den K H (n + 1) (.ref b) e ∧ Like (n + 1) d e ∧ Q (.bl (!eqD d e)) H
theorem op_eqD {X : Cx} {k : Nat} (n : Nat) (hr : Room k X.A) (hn : n ≤ 9 := by decide) : OpR X (compareOp .Eq) (rEqD X.K n) := by
  intro pins s σ H x y v u Q I rx ry h
  obtain ⟨a, b, d, e, rfl, rfl, hd, he, hl, q⟩ := h
  cases rx; cases ry
  have hu := hr.units
  cases d with
  | lst ds =>
    cases e with
    | lst es => exact (rc_lists I (A := X.A) hd he hl (by omega)).1 _ _ _ _ ⟨.bl _, H, I, rfl, q⟩
    | _ => exact False.elim hl
  | tup ds =>
    cases e with
    | tup es => exact (rc_tuples I (A := X.A) hd he hl (by omega)).1 _ _ _ _ ⟨.bl _, H, I, rfl, q⟩
    | _ => exact False.elim hl
  | _ => exact False.elim hd
theorem op_neD {X : Cx} {k : Nat} (n : Nat) (hr : Room k X.A) (hn : n ≤ 9 := by decide) : OpR X (compareOp .NotEq) (rNeD X.K n) := by
  intro pins s σ H x y v u Q I rx ry h
  obtain ⟨a, b, d, e, rfl, rfl, hd, he, hl, q⟩ := h
  cases rx; cases ry
  have hu := hr.units
  cases d with
  | lst ds =>
    cases e with
    | lst es => exact (rc_lists I (A := X.A) hd he hl (by omega)).2 _ _ _ _ ⟨.bl _, H, I, rfl, q⟩
    | _ => exact False.elim hl
  | tup ds =>
    cases e with
    | tup es => exact (rc_tuples I (A := X.A) hd he hl (by omega)).2 _ _ _ _ ⟨.bl _, H, I, rfl, q⟩
    | _ => exact False.elim hl
  | _ => exact False.elim hd
theorem paired_ints {F : V → DV → Prop} (hF : ∀ i : Int, F (.int i) (.int i)) : ∀ ns : List Int, Paired F (ns.map V.int) (ns.map DV.int)
  | [] => .nil
  | i :: r => .cons (hF i) (paired_ints hF r)
theorem den_int {K : PySem.W.Frag} {H : Hp} {n : Nat} {i : Int} : Den K H n (.int i) (.int i) := by cases n <;> rfl
theorem den_ints {K : PySem.W.Frag} {H : Hp} {n : Nat} {a : Addr} {ns : List Int} (h : SqL K H a (ns.map V.int)) : Den K H (n + 1) (.ref a) (.lst (ns.map DV.int)) := ⟨_, h, paired_ints (fun _ => den_int) ns⟩
theorem mt_bitlen {X : Cx} : MtR X "int.bit_length" (fun x xs H Q => ∃ i, x = .int i ∧ xs = [] ∧ Q (.int (Builtin.Int.intBits i)) H) := by
  intro pins s σ H x xs v us Q I rx rs h
  obtain ⟨i, rfl, rfl, q⟩ := h
  obtain ⟨t, rfl⟩ := rx
  cases rs
  exact call_int_bit_length ⟨.int _, H, I.tok _, ⟨_, rfl⟩, q⟩
end L2

set_option Elab.async false
set_option linter.all false
set_option maxRecDepth 100000
set_option maxHeartbeats 4000000
namespace L2
open PySem PySem.Spec PyProof.Rows
section
variable {X : Cx}
end
end L2

set_option Elab.async false
set_option linter.all false
set_option maxRecDepth 100000
set_option maxHeartbeats 4000000
namespace L2
open PySem PySem.Spec PyProof.Rows
section
variable {prog : Program} {w : World} {A : Around} {E : Value → Shared → Prop} {s : Shared}
end
section
variable {prog : Program} {w : World} {A : Around} {E : Value → Shared → Prop} {s : Shared}
end
end L2

set_option Elab.async false
set_option linter.all false
set_option maxRecDepth 100000
set_option maxHeartbeats 400000
namespace L2
open PySem PySem.Spec PyProof.Rows
def Iten (S : Hp → Addr → List V → Prop) (a : Addr) (k : Nat) : It :=
  ⟨fun i H => ∃ xs x, S H a xs ∧ xs[i]? = some x, fun i H x H' => ∃ t y, x = .ref t ∧ H t = none ∧ H' = upd H t (.tup [.int (((k + i : Nat)) : Int), y]) ∧ ∀ xs, S H a xs → xs[i]? = some y, fun i H => ∃ xs, S H a xs ∧ xs.length = i⟩
section
variable {X : Cx} {pins : List (Addr × Obj)} {σ : St} {H : Hp} {s : Shared}
/-- two records turn, a pair is laid -/
theorem Inv.pair {e it t : Addr} {g : Heap} {tk : Nat} {o : HO} (I : Inv X pins σ H s) (fe : FpOk X pins H e) (fi : FpOk X pins H it) (ht : s.heap.objs.size ≤ t)
    (k : ∀ b o, b ≠ e → b ≠ it → s.heap.get? b = some o → g.get? b = some o) (new : ObjOk X.prog X.w (upd H t o) g t o) : Inv X pins σ (upd H t o) { s with heap := g, toks := tk } := by
  have hn : H t = none := I.hok.fresh ht
  obtain ⟨e0, e1, e2, e3, e4, e5⟩ := fe
  obtain ⟨i0, i1, i2, i3, i4, i5⟩ := fi
  have nt : ∀ b o, s.heap.get? b = some o → b ≠ t := fun b o q z => by
    subst z
    exact absurd (Nat.lt_of_lt_of_le (Heap.lt_size q) ht) (Nat.lt_irrefl _)
  have nch : ∀ b, b ∉ [e, it] → b ≠ e ∧ b ≠ it := fun b hb => ⟨fun z => hb (by simp [z]), fun z => hb (by simp [z])⟩
  have ne : ∀ b u, H b = some u → b ≠ e ∧ b ≠ it := fun b u q => ⟨ne_of_none q e0, ne_of_none q i0⟩
  refine I.step (g' := s.gens) (d' := s.drawn) (ch := [e, it]) (fun b hb => ?_) (fun b o _ _ hc q _ => k b o (nch b hc).1 (nch b hc).2 q) (fun b o _ _ hc q _ => ⟨o.slots, k b o (nch b hc).1 (nch b hc).2 q⟩) (fun b o _ q n => by rw [upd_ne (nt b o q)]; exact n)
    (fun b o hc q => ⟨o, k b o (nch b hc).1 (nch b hc).2 q⟩) (fun b xs q => by rw [upd_ne (ne_of_none q hn)]; exact q) (fun b o u q => by rw [upd_ne (ne_of_none q hn)]; exact q) (fun b ps q => ⟨#[], by rw [upd_ne (ne_of_none q hn), q]; simp⟩) (fun m hm => ?_) (fun b u q => ?_) I.bare
  · rcases List.mem_cons.mp hb with z | z
    · subst z; exact ⟨e3, e1, e4, e5⟩
    · have z' : b = it := by simpa using z
      subst z'; exact ⟨i3, i1, i4, i5⟩
  · obtain ⟨ol, es, ep, ho, r⟩ := hm
    exact ⟨ol, es, ep, k _ ol (Ne.symm e1) (Ne.symm i1) ho, r⟩
  · by_cases hb : b = t
    · subst hb; rw [upd_same] at q; cases q; exact new
    · rw [upd_ne hb] at q
      refine (I.hok b u q).stay (fun c v hc z => k c v ?_ ?_ z) (fun c z => by rw [upd_ne (ne_of_none z hn)]; exact z) fun c xs z => by rw [upd_ne (ne_of_none z hn)]; exact z
      · rcases hc with z' | z'
        · rw [z']; exact (ne b u q).1
        · exact (ne c _ z').1
      · rcases hc with z' | z'
        · rw [z']; exact (ne b u q).2
        · exact (ne c _ z').2
end
/-- what draws from the sequence at a by the iterator at it -/
structure SrcOk (P : Program) (w : World) (K : PySem.W.Frag) (S : Hp → Addr → List V → Prop) (a it : Addr) (sq : Heap → Array Value → Prop) (ti : Nat → Heap → Prop) : Prop where
  obj : ∀ i h, ti i h → ∃ o, h.get? it = some o ∧ ∀ v, o.data ≠ .cell v
  keep : ∀ i h h', ti i h → (∀ o, h.get? it = some o → h'.get? it = some o) → ti i h'
  sk : ∀ h h' vs, sq h vs → (∀ o, h.get? a = some o → h'.get? a = some o) → sq h' vs
  ne : ∀ h vs i, sq h vs → ti i h → a ≠ it
  nee : ∀ h vs e j old, sq h vs → IsEnum h e it j old → a ≠ e
  abs : ∀ (X : Cx) (pins : List (Addr × Obj)) (σ : St) (H : Hp) (s : Shared) (xs : List V), X.K = K → Inv X pins σ H s → S H a xs → ∃ its : List Value, Vals xs its ∧ sq s.heap its.toArray
  one : ∀ (X : Cx) (pins : List (Addr × Obj)) (σ : St) (H : Hp) (s : Shared) (xs ys : List V), X.K = K → Inv X pins σ H s → S H a xs → S H a ys → xs = ys
  item : ∀ (A : Around) (i : Nat) (s : Shared) (vs : Array Value) (u : Value) (Q : Value → Shared → Prop) (E : Value → Shared → Prop), ti i s.heap → sq s.heap vs → vs[i]? = some u →
    (∀ g, ti (i + 1) g → Heap.SameBut it s.heap g → Q u { s with heap := g }) → wpAny (model P w) A (Builtin.SmallTypes.nextOf (.ref it)) Q E s
  done : ∀ (A : Around) (i : Nat) (s : Shared) (vs : Array Value) (Q : Value → Shared → Prop) (E : Value → Shared → Prop), A.handled = none → ti i s.heap → sq s.heap vs → vs[i]? = none →
    (∀ g e, Heap.ExtBut it s.heap g → (∃ o, g.get? e = some o ∧ o.cls = .type "StopIteration") → E (.ref e) { s with heap := g }) → wpAny (model P w) A (Builtin.SmallTypes.nextOf (.ref it)) Q E s
theorem src_list {P : Program} {w : World} {K : PySem.W.Frag} (a it : Addr) : SrcOk P w K (SqL K) a it (fun h vs => h.IsList a vs) (fun i h => h.IsListIter it a i) where
  obj := fun i h st => by
    obtain ⟨o, e, c, d⟩ := st
    exact ⟨o, e, fun v z => by rw [d] at z; cases z⟩
  keep := fun i h h' st k => st.at k
  sk := fun h h' vs q k => q.at k
  ne := fun h vs i q st z => by
    obtain ⟨o, e, c, _⟩ := q
    obtain ⟨o', e', c', _⟩ := st
    rw [z, e'] at e
    cases e
    rw [c'] at c
    exact absurd (Value.type.inj c) (by decide)
  nee := fun h vs e j old q en z => by
    obtain ⟨o, q, c, _⟩ := q
    subst z
    rw [show h.get? a = _ from en] at q
    cases q
    exact absurd (Value.type.inj c) (by decide)
  abs := fun X pins σ H s xs hK I hq => by
    subst hK
    obtain ⟨its, rv, p, hz⟩ := I.list hq
    exact ⟨its, rv, p.isList⟩
  one := fun X pins σ H s xs ys hK I h1 h2 => by subst hK; exact I.list_inj h1 h2
  item := fun A i s vs u Q E st q hx k => wpAny_nextOf_list_item st q hx k
  done := fun A i s vs Q E hh st q hx k => wpAny_nextOf_list_end hh st q hx k
theorem SrcOk.draws {P : Program} {w : World} {K : PySem.W.Frag} {S : Hp → Addr → List V → Prop} {a it : Addr} {sq : Heap → Array Value → Prop} {ti : Nat → Heap → Prop} (O : SrcOk P w K S a it sq ti) {A : Around} (hh : A.handled = none) (k : Nat) (vs : Array Value) :
    Draws P w A it [it, a] (k + vs.size) (fun j y => ∃ i, j = k + i ∧ vs[i]? = some y) (fun j h => ∃ i, j = k + i ∧ ti i h ∧ sq h vs) where
  live := fun j h q => by
    obtain ⟨i, _, st, _⟩ := q
    obtain ⟨o, e, _⟩ := O.obj i h st
    exact ⟨o, e⟩
  frame := fun j h h' q kk => by
    obtain ⟨i, e, st, sv⟩ := q
    exact ⟨i, e, O.keep i h h' st fun o z => kk it (by simp) o z, O.sk h h' vs sv fun o z => kk a (by simp) o z⟩
  item := fun j s Q E hj q kq => by
    obtain ⟨i, rfl, st, sv⟩ := q
    have hi : i < vs.size := by omega
    refine O.item A i s vs vs[i] Q E st sv (by simp [hi]) fun g st' sb => ?_
    exact kq _ g s.toks ⟨i, rfl, by simp [hi]⟩ ⟨i + 1, by omega, st', O.sk _ _ vs sv fun o z => (sb.2 a (O.ne _ vs i sv st)).trans z⟩ sb
  done := fun s Q E q kq => by
    obtain ⟨i, hi, st, sv⟩ := q
    have : i = vs.size := by omega
    subst this
    exact O.done A _ s vs Q E hh st sv (by simp) kq
theorem turn_enum {P : Program} {w : World} {K : PySem.W.Frag} {S : Hp → Addr → List V → Prop} {elts : List Expr} {x1 : Nat} {tp : Pos} (a e it : Addr) (k : Nat) (hei : e ≠ it) {sq : Heap → Array Value → Prop} {ti : Nat → Heap → Prop} (O : SrcOk P w K S a it sq ti) :
    Turn P w K (.Tuple elts x1 tp) (Iten S a k) [e, it] e (fun i h => (∃ old, IsEnum h e it (((k + i : Nat)) : Int) old) ∧ ti i h) where
  mem := by simp
  obj := fun i h st b hb => by
    obtain ⟨⟨old, he⟩, st⟩ := st
    rcases List.mem_cons.mp hb with z | z
    · subst z
      exact ⟨_, he, fun v z => by
        have z' : Data.fields _ = Data.cell v := z
        cases z'⟩
    · have z' : b = it := by simpa using z
      subst z'
      exact O.obj i h st
  keep := fun i h h' st kk => by
    obtain ⟨⟨old, he⟩, st⟩ := st
    exact ⟨⟨old, kk e (by simp) _ he⟩, O.keep i h h' st fun o q => kk it (by simp) o q⟩
  item := by
    intro X hP hw hK hc i pins s σ H E I hf st hg
    obtain ⟨⟨old, he⟩, st⟩ := st
    obtain ⟨xs, x, hq, hx⟩ := hg
    have fe := hf e (by simp)
    have fi := hf it (by simp)
    obtain ⟨its, rv, sv⟩ := O.abs X pins σ H s xs hK I hq
    obtain ⟨u, hu, ru⟩ := rv.get hx
    have hlt : i < its.toArray.size := by
      rw [List.size_toArray]
      exact (List.getElem?_eq_some_iff.mp hu).1
    have hef : e ∉ [it, a] := fun z => by
      rcases List.mem_cons.mp z with z | z
      · exact hei z
      · exact O.nee _ _ _ _ _ sv he (by simpa using z : e = a).symm
    have hel : e < s.heap.objs.size := Heap.lt_size he
    have hil : it < s.heap.objs.size := by obtain ⟨o, q, _⟩ := O.obj i _ st; exact Heap.lt_size q
    refine wpAny_pyNext_enum_itemD (O.draws (A := X.A.in1) (I.ok.hd hc) k its.toArray) he ⟨i, rfl, st, sv⟩ (by omega) hei hef fun y g tk hy ho hst hT hsz hk => ?_
    obtain ⟨i', e1, hy⟩ := hy
    have e2 : i' = i := by omega
    subst e2
    have e3 : y = u := by
      have hu' : its.toArray[i']? = some u := by simpa using hu
      rw [hu'] at hy
      exact (Option.some.inj hy).symm
    subst e3
    refine ⟨_, rfl, wpAny_letOwnedTupleGo_enum ho fun g2 he2 hs2 => ?_⟩
    have nse : s.heap.objs.size ≠ e := Nat.ne_of_gt hel
    have hT2 : g2.get? s.heap.objs.size = some { cls := .type "tuple", data := .seq #[.int ((k + i' : Nat) : Int) tk, y] } := (hs2.2 _ nse).trans hT
    have I2 : Inv X pins σ (upd H s.heap.objs.size (.tup [.int (((k + i' : Nat)) : Int), x])) { s with heap := g2, toks := tk + 1 } := by
      refine I.pair fe fi (Nat.le_refl _) (fun b o h1 h2 q => (hs2.2 b h1).trans (hk b o h1 h2 q)) ?_
      exact ⟨by show 2 ≤ sizeLine; decide, [.int ((k + i' : Nat) : Int) tk, y], .cons ⟨tk, rfl⟩ (.cons ru .nil), ⟨_, hT2, rfl, 0, rfl⟩⟩
    obtain ⟨i2, e4, st2, _⟩ := hst
    have e5 : i2 = i' + 1 := by omega
    subst e5
    refine ⟨.ref s.heap.objs.size, _, I2, rfl, ⟨_, x, rfl, I.fresh, rfl, fun ys hys => ?_⟩, ⟨⟨y, ?_⟩, O.keep _ _ _ st2 fun o q => (hs2.2 it (Ne.symm hei)).trans q⟩, fun b hb => ?_⟩
    · rw [O.one X pins σ H s ys xs hK I hys hq]
      exact hx
    · have : (((k + (i' + 1) : Nat)) : Int) = ((k + i' : Nat) : Int) + 1 := by omega
      rw [this]
      exact he2
    · rcases List.mem_cons.mp hb with z | z
      · subst z
        rw [upd_ne (Ne.symm nse)]
        exact fe.1
      · have z' : b = it := by simpa using z
        subst z'
        rw [upd_ne (Nat.ne_of_lt hil)]
        exact fi.1
  done := by
    intro X hP hw hK hc i pins s σ H E I hf st hg
    obtain ⟨⟨old, he⟩, st⟩ := st
    obtain ⟨xs, hq, hx⟩ := hg
    obtain ⟨its, rv, sv⟩ := O.abs X pins σ H s xs hK I hq
    have hl := rv.length
    obtain ⟨f0, f1, f2, f3, f4, f5⟩ := hf it (by simp)
    exact wpAny_pyNext_enum_endD (O.draws (A := X.A.in1) (I.ok.hd hc) k its.toArray) he ⟨i, by simp; omega, st, sv⟩ fun g eb => ⟨rfl, I.turned (t' := s.toks) (fun b o hb q => eb b o hb q) f0 f1 f3 f4 f5⟩
  self := fun A i s Q E st h => by
    obtain ⟨⟨old, he⟩, st⟩ := st
    exact wpAny_pyIter_enum he h
theorem for_enumW {S : Hp → Addr → List V → Prop} {a : Addr} {k : Nat} {xs : List V} {σ : St} {H : Hp} {DN : St → Hp → Prop} {B : (St → Hp → Prop) → V → St → Hp → Prop} (Pv : Nat → St → Hp → Prop) (h0 : Pv 0 σ H)
    (hl : ∀ i σ H, i ≤ xs.length → Pv i σ H → S H a xs)
    (hs : ∀ i x σ H t, xs[i]? = some x → Pv i σ H → H t = none → B (Pv (i + 1)) (.ref t) σ (upd H t (.tup [.int (((k + i : Nat)) : Int), x]))) (hd : ∀ σ H, Pv xs.length σ H → DN σ H) :
    ∃ W : Nat → Nat → St → Hp → Prop, (∃ m, W 0 m σ H) ∧ ∀ i m σ H, W i m σ H →
      ((Iten S a k).stop i H ∧ DN σ H) ∨ ((Iten S a k).go i H ∧ ∃ N : St → Hp → Prop, (∀ σ' H', N σ' H' → ∃ m', m' < m ∧ W (i + 1) m' σ' H') ∧ ∀ x H', (Iten S a k).yld i H x H' → B N x σ H') := by
  refine ⟨fun i m σ H => m = xs.length - i ∧ i ≤ xs.length ∧ Pv i σ H, ⟨xs.length, by simp, Nat.zero_le _, h0⟩, ?_⟩
  rintro i m σ H ⟨rfl, hi, p⟩
  have q := hl i σ H hi p
  by_cases hlt : i < xs.length
  · refine .inr ⟨⟨xs, xs[i], q, by simp [hlt]⟩, Pv (i + 1), fun σ' H' p' => ⟨xs.length - (i + 1), by omega, rfl, hlt, p'⟩, fun x H' y => ?_⟩
    obtain ⟨t, y, e, ht, e', hy⟩ := y
    subst e e'
    exact hs i y σ _ t (hy xs q) p ht
  · have e : i = xs.length := by omega
    subst e
    exact .inl ⟨⟨xs, q, rfl⟩, hd σ H p⟩
def iEnL (K : PySem.W.Frag) (k : Nat) (te : TE) : TI := fun σ H R => te σ H fun x H1 => ∃ a, x = .ref a ∧ (∃ xs, SqL K H1 a xs) ∧ R (Iten (SqL K) a k) H1
def iEnT (K : PySem.W.Frag) (k : Nat) (te : TE) : TI := fun σ H R => te σ H fun x H1 => ∃ a, x = .ref a ∧ (∃ xs, SqT K H1 a xs) ∧ R (Iten (SqT K) a k) H1
section
variable {X : Cx} {elts : List Expr} {x1 : Nat} {tp : Pos}
/-- an enumerate object has come, over the iterator at it -/
theorem enum_pie {S : Hp → Addr → List V → Prop} {sq : Heap → Array Value → Prop} {ti : Nat → Heap → Prop} {pins : List (Addr × Obj)} {σ : St} {H : Hp} {s : Shared} {R : It → Hp → Prop} {E : Value → Shared → Prop} {a : Addr} {k : Nat} {g : Heap} {c : Int} (I : Inv X pins σ H s)
    (O : SrcOk X.prog X.w X.K S a s.heap.objs.size sq ti) (hc : c = (k : Int)) (he : IsEnum g (s.heap.objs.size + 1) s.heap.objs.size c .none) (hi : ti 0 g) (hk : ∀ b o, s.heap.get? b = some o → g.get? b = some o) (q : R (Iten S a k) H) :
    wpAny (model X.prog X.w) X.A (pyIter (.ref (s.heap.objs.size + 1))) (PIE X pins σ (.Tuple elts x1 tp) R) E { s with heap := g } := by
  subst hc
  refine wpAny_pyIter_enum he ⟨s.heap.objs.size + 1, [s.heap.objs.size + 1, s.heap.objs.size], _, _, H, rfl, I.kept (t' := s.toks) hk, turn_enum a _ _ k (Nat.succ_ne_self _) O, ⟨⟨_, he⟩, hi⟩, fun b hb => ?_, q⟩
  rcases List.mem_cons.mp hb with z | z
  · subst z
    exact I.fpOk (Nat.le_succ _) (I.hok.fresh (Nat.le_succ _))
  · have z' : b = s.heap.objs.size := by simpa using z
    subst z'
    exact I.fpOk (Nat.le_refl _) (I.hok.fresh (Nat.le_refl _))
theorem pi_enum_list {e : Expr} {te : TE} {p pos : Pos} (hg : Gl X "enumerate") (hm : X.mg "enumerate" = none) (he : PE X e te) (hs : starEach [e] X.env = [(false, eval e X.env)] := by rfl) : PI X (.Tuple elts x1 tp) (.Call (.Name "enumerate" p) [e] [] pos) (iEnL X.K 0 te) := by
  intro pins s σ H R I h
  refine Call_ (ld_blt I hg hm boot_enumerate (PyProof.Rows.callWith_type1 ?_ hs rfl))
  rw [hs]
  refine Calls.spliced_cons (thn (he pins s σ H _ I h) fun v s1 ⟨x, H1, I1, rx, q1⟩ => Calls.spliced_nil ?_)
  obtain ⟨a, rfl, ⟨xs, hq⟩, q⟩ := q1
  cases rx
  obtain ⟨its, rv, pl, _⟩ := I1.list hq
  exact call_enumerate_list pl.isList fun g e1 e2 _ hk => enum_pie I1 (src_list a _) rfl e1 e2 hk q
end
structure CalI (P : Program) (w : World) (K : PySem.W.Frag) (mg : Str → Option Value) (base : Heap) (x : Str) (C : Addr) (ps : List Str) (k : Nat) (sp : Sp) : Prop where
  ex : ∃ (f : Addr) (fd : FuncData), FnOk P w K mg base CX0 k f fd ps sp ∧ Binds K fd ps [] ∧ Mk K C f ∧ mg x = some (.ref C)
structure CalM (P : Program) (w : World) (K : PySem.W.Frag) (mg : Str → Option Value) (base : Heap) (C : Addr) (m : Str) (ps : List Str) (k : Nat) (sp : Sp) : Prop where
  ex : ∃ (f : Addr) (fd : FuncData), FnOk P w K mg base CX0 k f fd ps sp ∧ Binds K fd ps [] ∧ Meth K C m f ∧ Cls K C
def rInsert : V → List V → Hp → VK → Prop := fun x vs H Q => ∃ l xs i y, x = .ref l ∧ vs = [.int i, y] ∧ H l = some (.lst xs) ∧ 0 ≤ i ∧ i ≤ xs.length ∧ xs.length < sizeLine ∧ Q .non (upd H l (.lst (xs.take i.toNat ++ y :: xs.drop i.toNat)))
end L2
namespace L2
open PySem PySem.Spec PyProof.Rows
section
variable {X : Cx} {K : PySem.W.Frag}
def rLen (K : PySem.W.Frag) : List V → Hp → VK → Prop := fun xs H Q => ∃ p ys, xs = [.ref p] ∧ (SqL K H p ys ∨ SqT K H p ys) ∧ Q (.int ys.length) H
theorem call_lenK (hK : X.K = K) : CallR X (.builtin "len") (rLen K) := by subst hK; exact call_len_seq
def rListOf (K : PySem.W.Frag) : List V → Hp → VK → Prop := fun xs H Q => ∃ p ys, xs = [.ref p] ∧ (SqL K H p ys ∨ SqT K H p ys) ∧ ∀ l, H l = none → Q (.ref l) (upd H l (.lst ys))
theorem call_listK (hK : X.K = K) : CallR X (.type "list") (rListOf K) := by subst hK; exact call_list_of
def rTupL (K : PySem.W.Frag) : List V → Hp → VK → Prop := fun xs H Q => ∃ p ys, xs = [.ref p] ∧ SqL K H p ys ∧ ∀ l, H l = none → Q (.ref l) (upd H l (.tup ys))
end
theorem SqL.off {K : PySem.W.Frag} {H : Hp} {a x : Addr} {xs : List V} {o : HO} (h : SqL K H a xs) (h1 : ∀ ys, H x ≠ some (.lst ys)) (h2 : ∀ v u, H x ≠ some (.frz v u)) : SqL K (upd H x o) a xs := by
  rcases h with (h | ⟨v, h⟩) | h
  · have ne : a ≠ x := fun z => h1 _ (z ▸ h)
    exact .inl (.inl (by rw [upd_ne ne]; exact h))
  · have ne : a ≠ x := fun z => h2 _ _ (z ▸ h)
    exact .inl (.inr ⟨v, by rw [upd_ne ne]; exact h⟩)
  · exact .inr h
end L2
namespace L2
/-- one statement of a block; the rest waits under a name -/
theorem seq_of {t u : TS} {D : Ends} {σ : St} {H : Hp} (h : ∀ U : TS, U = u → t { D with nx := U D } σ H) : tSeq t u D σ H := h u rfl
end L2

set_option Elab.async false
set_option linter.all false
set_option maxRecDepth 100000
set_option maxHeartbeats 400000
namespace L2
open PySem PySem.Spec PyProof.Rows
/-- what of the heap ahead (s) and of the tracked (H') the part B that stays has -/
structure Flies (P : Program) (w : World) (l : List Env) (H : Hp) (s : Shared) (H' : Hp) (B : Heap) (a : Addr) (cls a0 : Value) (s' : Shared) : Prop where
  os : s'.os = s.os
  bare : AllBare s'.gens
  un : Un (frs l) [] H H' s.heap s'.heap
  hok : HOk P w H' s'.heap
  fly : Heap.FlyingW B l a cls a0 s'.heap
  cov : ∀ b o, s.heap.get? b = some o → b ∉ frs l → ∃ o', B.get? b = some o'
  trk : ∀ b u, H' b = some u → ∃ o', B.get? b = some o'
  own : ∀ b u, H' b = some u → b ∉ frs l
def CX1 (P : Program) (w : World) : CXT := fun outer H s E e s' => ∃ (a : Addr) (cls : Value) (H' : Hp) (B : Heap) (a0 : Value), e = .ref a ∧ Flies P w outer H s H' B a cls a0 s' ∧ E cls none H'
theorem ObjOk.there {P : Program} {w : World} {H : Hp} {h : Heap} {a : Addr} {o : HO} (x : ObjOk P w H h a o) : ∃ ob, h.get? a = some ob := by
  cases o with
  | lst xs => obtain ⟨_, _, _, _, e⟩ := x; exact ⟨_, e⟩
  | tup xs => obtain ⟨_, _, _, ob, e, _⟩ := x; exact ⟨_, e⟩
  | dK kvs => obtain ⟨_, _, _, _, o, _, _, e, _⟩ := x; exact ⟨_, e⟩
  | dT kvs => obtain ⟨_, _, _, _, o, _, _, e, _⟩ := x; exact ⟨_, e⟩
  | set S n => obtain ⟨o, _, _, _, e, _⟩ := x; exact ⟨_, e⟩
  | ins C dx fs => obtain ⟨_, _, _, e, _⟩ := x; exact ⟨_, e⟩
  | own y => exact x
  | xd fs => obtain ⟨_, ⟨o, _, _, e, _⟩, _⟩ := x; exact ⟨_, e⟩
  | rng lo hi => obtain ⟨_, _, _, e⟩ := x; exact ⟨_, e⟩
  | frz ob u => exact ⟨_, x.1⟩
  | tbl ps => exact ⟨_, x⟩
  | met f y => exact ⟨_, x⟩
  | ext φ => exact x.2.1
section
variable {P : Program} {w : World} {l : List Env} {H H' : Hp} {s s' : Shared} {B h'' : Heap} {a : Addr} {cls a0 : Value}
theorem Flies.same (F : Flies P w l H s H' B a cls a0 s') {b : Addr} {o o' : Obj} (e : B.get? b = some o') (q : s'.heap.get? b = some o) : o' = o := by
  have z := F.fly.1 b o' e
  rw [q] at z
  exact (Option.some.inj z).symm
/-- B stays, the frames keep all but slots: the same of another heap -/
theorem Flies.next (F : Flies P w l H s H' B a cls a0 s') (st : B.StaysIn h'') (us : s'.heap.UpToSlots h'') : Un (frs l) [] H H' s.heap h'' ∧ HOk P w H' h'' := by
  have keep : ∀ b o, s.heap.get? b = some o → H b = none → b ∉ frs l → b ∉ ([] : List Addr) → h''.get? b = some o := fun b o e n hb hx => by
    obtain ⟨o', eb⟩ := F.cov b o e hb
    have q := F.un.keep b o e n hb hx
    rw [F.same eb q] at eb
    exact st b o eb
  have fr : ∀ b ∈ frs l, ∀ o, s'.heap.get? b = some o → ∃ sl, h''.get? b = some { o with slots := sl } := fun b hb o e => by
    obtain ⟨_, o', e', nf⟩ := F.fly.2.2.1.mem hb
    rw [e] at e'
    cases e'
    exact us b o e nf
  refine ⟨⟨keep, fun b o e n hb hx => ?_, F.un.free, fun b o e hx => ?_, F.un.tups, F.un.frzs, F.un.tbls⟩, fun b u e => ?_⟩
  · obtain ⟨sl, e1⟩ := F.un.slot b o e n hb hx
    obtain ⟨sl', e2⟩ := fr b hb _ e1
    exact ⟨sl', e2⟩
  · by_cases hb : b ∈ frs l
    · obtain ⟨o', e1⟩ := F.un.there b o e hx
      obtain ⟨sl, e2⟩ := fr b hb _ e1
      exact ⟨_, e2⟩
    · obtain ⟨o', eb⟩ := F.cov b o e hb
      exact ⟨o', st b o' eb⟩
  · have one : ∀ c v, (∃ u, H' c = some u) → s'.heap.get? c = some v → h''.get? c = some v := fun c v ⟨u, hc⟩ q => by
      obtain ⟨o', eb⟩ := F.trk c u hc
      rw [F.same eb q] at eb
      exact st c v eb
    refine (F.hok b u e).stay (fun c v hc q => one c v ?_ q) (fun _ q => q) fun _ _ q => q
    rcases hc with z | z
    · exact ⟨u, by rw [z]; exact e⟩
    · exact ⟨_, z⟩
end
/-- a def's body as its entry lays it -/
structure Body (X : Cx) : Prop where
  st : X.stack = X.env :: X.outer
  fr : X.env.frame = some X.env.locals
  ex : X.ex = []
section
variable {X : Cx} {pins : List (Addr × Obj)} {σ : St} {H H' : Hp} {s s' : Shared} {B : Heap} {a : Addr} {cls a0 : Value}
theorem Body.frs (b : Body X) : frs X.stack = X.env.locals :: X.fs := by
  rw [b.st]
  unfold L2.frs
  rw [List.filterMap_cons, b.fr]
  rfl
theorem body_ne (I : Inv X pins σ H s) {b : Addr} {o : Obj} (e : X.s₀.heap.get? b = some o) : b ≠ X.env.locals := Nat.ne_of_lt (Nat.lt_of_lt_of_le (Heap.lt_size e) I.ok.above)
/-- an exception of a callee flies on: what is known at this body's entry -/
theorem Flies.up (hb : Body X) (I : Inv X pins σ H s) (F : Flies X.prog X.w X.stack H s H' B a cls a0 s') {h'' : Heap} (fly : Heap.FlyingW B X.outer a cls a0 h'') (us : s'.heap.UpToSlots h'') :
    Flies X.prog X.w X.outer X.H₀ X.s₀ H' B a cls a0 { s' with heap := h'' } := by
  obtain ⟨u, k⟩ := F.next fly.1 us
  have nf : ∀ b o, X.s₀.heap.get? b = some o → b ∉ X.fs → b ∉ L2.frs X.stack := fun b o e hn z => by
    rw [hb.frs] at z
    rcases List.mem_cons.mp z with z | z
    · exact body_ne I e z
    · exact hn z
  have ib := I.base
  rw [hb.ex] at ib
  refine ⟨F.os.trans I.os, F.bare, ⟨fun b o e n hn hx => ?_, fun b o e n hn hx => ?_, fun b o e n hx => ?_, fun b o e hx => ?_, fun b xs e => u.tups b xs (ib.tups b xs e), fun b o v e => u.frzs b o v (ib.frzs b o v e), fun b ps e => ?_⟩, k, fly, fun b o e hn => ?_, F.trk, fun b v e z => F.own b v e ?_⟩
  · exact u.keep b o (ib.keep b o e n hn hx) (ib.free b o e n hx) (nf b o e hn) hx
  · obtain ⟨sl, e1⟩ := ib.slot b o e n hn hx
    obtain ⟨sl', e2⟩ := u.slot b _ e1 (ib.free b o e n hx) (by rw [hb.frs]; exact List.mem_cons_of_mem _ hn) hx
    exact ⟨sl', e2⟩
  · obtain ⟨o', e1⟩ := ib.there b o e hx
    exact u.free b o' e1 (ib.free b o e n hx) hx
  · obtain ⟨o', e1⟩ := ib.there b o e hx
    exact u.there b o' e1 hx
  · obtain ⟨m1, e1⟩ := ib.tbls b ps e
    obtain ⟨m2, e2⟩ := u.tbls b _ e1
    exact ⟨m1 ++ m2, by rw [e2, Array.append_assoc]⟩
  · obtain ⟨o', e1⟩ := ib.there b o e (by simp)
    exact F.cov b o' e1 (nf b o e hn)
  · rw [hb.frs]
    exact List.mem_cons_of_mem _ z
/-- .. and lies before the frame's own code -/
theorem Flies.inv (I : Inv X pins σ H s) (F : Flies X.prog X.w X.stack H s H' B a cls a0 s') {h'' : Heap} {t : Nat} (st : B.StaysIn h'') (us : s'.heap.UpToSlots h'') : Inv X pins σ H' { s' with heap := h'', toks := t } := by
  obtain ⟨u, k⟩ := F.next st us
  exact I.call' (s' := { s' with heap := h'', toks := t }) (ch := []) F.os u k F.bare fun b z => absurd z (by simp)
/-- an exception that is just made, in this body -/
theorem Flies.made (hb : Body X) (I : Inv X pins σ H s) {h' h'' : Heap} {t : Nat} (mk : ∀ b o, s.heap.get? b = some o → h'.get? b = some o) (fly : Heap.FlyingW (PySem.W.hideAll s.heap (L2.frs X.stack)) X.outer a cls a0 h'') (us : h'.UpToSlots h'') :
    Flies X.prog X.w X.outer X.H₀ X.s₀ H (PySem.W.hideAll s.heap (L2.frs X.stack)) a cls a0 { s with heap := h'', toks := t } := by
  have inB : ∀ b o, s.heap.get? b = some o → b ∉ L2.frs X.stack → (PySem.W.hideAll s.heap (L2.frs X.stack)).get? b = some o := fun b o e n => PySem.W.hideAll_get _ e n
  have own : ∀ b u, H b = some u → b ∉ L2.frs X.stack := fun b u e z => by rw [I.stkFree b z] at e; cases e
  have nf : ∀ b o, X.s₀.heap.get? b = some o → b ∉ X.fs → b ∉ L2.frs X.stack := fun b o e hn z => by
    rw [hb.frs] at z
    rcases List.mem_cons.mp z with z | z
    · exact body_ne I e z
    · exact hn z
  have fr : ∀ b ∈ X.fs, ∀ o, s.heap.get? b = some o → ∃ sl, h''.get? b = some { o with slots := sl } := fun b hb' o e => by
    obtain ⟨_, o', e', nfd⟩ := I.funs.mem hb'
    rw [e] at e'
    cases e'
    exact us b o (mk b o e) nfd
  have ib := I.base
  rw [hb.ex] at ib
  refine ⟨I.os, I.bare, ⟨fun b o e n hn hx => fly.1 b o (inB b o (ib.keep b o e n hn hx) (nf b o e hn)), fun b o e n hn hx => ?_, ib.free, fun b o e hx => ?_, ib.tups, ib.frzs, ib.tbls⟩, fun b u e => ?_, fly, fun b o e hn => ?_, fun b u e => ?_, fun b u e z => own b u e ?_⟩
  · obtain ⟨sl, e1⟩ := ib.slot b o e n hn hx
    obtain ⟨sl', e2⟩ := fr b hn _ e1
    exact ⟨sl', e2⟩
  · obtain ⟨o', e1⟩ := ib.there b o e hx
    by_cases hn : b ∈ X.fs
    · obtain ⟨sl, e2⟩ := fr b hn _ e1
      exact ⟨_, e2⟩
    · exact ⟨o', fly.1 b o' (inB b o' e1 (nf b o e hn))⟩
  · refine (I.hok b u e).stay (fun c v hc q => fly.1 c v (inB c v q ?_)) (fun _ q => q) fun _ _ q => q
    rcases hc with z | z
    · rw [z]; exact own b u e
    · exact own c _ z
  · obtain ⟨o', e1⟩ := ib.there b o e (by simp)
    exact ⟨o', inB b o' e1 (nf b o e hn)⟩
  · obtain ⟨o', e1⟩ := (I.hok b u e).there
    exact ⟨o', inB b o' e1 (own b u e)⟩
  · rw [hb.frs]
    exact List.mem_cons_of_mem _ z
end
section
variable {P : Program} {w : World} {K : PySem.W.Frag} {mg : Str → Option Value} {base : Heap} {N : List Str} {qual : Str} {scope : Scope} {f : Addr} {cd : Value} {A : Around} {outer : List Env} {s₀ : Shared} {H₀ : Hp} {E : XK}
end
abbrev bmV : List Value := [.type "ValueError", .type "Exception", .type "BaseException", .type "object"]
structure ExcC (K : PySem.W.Frag) (mg : Str → Option Value) (x : Str) (C : Addr) : Prop where
  at_ : mg x = some (.ref C)
  ok : PySem.W.excIn K C bmV "ValueError.__new__" = true
theorem ExcC.obj {K : PySem.W.Frag} {mg : Str → Option Value} {x : Str} {C : Addr} (c : ExcC K mg x C) {h : Heap} (X : K.In h) : ∃ bm N nm q bs hdct sn sub ab col dd k0 k1 k2 k3 k5 mN, h.get? C = some (excClassObj nm q C N bs bm hdct sn sub ab col dd k0 k1 k2 k3 k5 "ValueError.__new__") ∧ h.Ns N mN ∧ mN "__init__" = none ∧ OwnTail h bmV bm := by
  have z := c.ok
  unfold PySem.W.excIn at z
  split at z
  · rename_i dd cd sl ho
    split at z
    · rename_i C' bm k0 k1 k2 k3 n k5 hm hs
      simp only [Bool.and_eq_true, beq_iff_eq, Bool.not_eq_true'] at z
      obtain ⟨⟨⟨⟨⟨e1, e2⟩, e3⟩, e4⟩, e5⟩, e6⟩ := z
      subst e1 e2
      obtain ⟨nm, bs, mro, ns, qn, hd, sn, sub, ab, col, del⟩ := cd
      dsimp only at hm e3 e5 e6
      subst hm e3
      obtain ⟨sl⟩ := sl
      have hs' : sl = [k0, k1, k2, k3, some (.builtin "ValueError.__new__"), k5] := hs
      subst hs'
      exact ⟨bm, ns, nm, qn, bs, hd, sn, sub, ab, col, dd, k0, k1, k2, k3, k5, _, X _ _ ho, .of_isNs (PySem.W.isNs_of_in X e5), PySem.W.nsMap_none_of_in X e5 e6, PySem.W.tail_of_in X e4⟩
    · cases z
  · cases z
def tRaise (E : XK) (C : Addr) (ta : TA) : TS := fun _ σ H => ta σ H fun vs H1 => vs.length ≤ sizeLine ∧ E (.ref C) none H1
structure CalX (P : Program) (w : World) (K : PySem.W.Frag) (mg : Str → Option Value) (base : Heap) (x : Str) (ps : List Str) (k : Nat) (sp : Sp) : Prop where
  ex : ∃ (f : Addr) (fd : FuncData), FnOk P w K mg base (CX1 P w) k f fd ps sp ∧ Binds K fd ps [] ∧ PySem.W.keepIn K (.ref f) = true ∧ mg x = some (.ref f)
def tCallX (sp : Sp) (t : TA) : St → Hp → VK → XK → Prop := fun σ H Q E => t σ H fun vs H1 => sp (vs ++ []) H1 Q E
def tDropX (te : St → Hp → VK → XK → Prop) : Ends → St → Hp → XK → Prop := fun D σ H E => te σ H (fun _ H1 => D.nx σ H1) E
def tSetX (i : Nat) (te : St → Hp → VK → XK → Prop) : Ends → St → Hp → XK → Prop := fun D σ H E => te σ H (fun v H1 => D.nx (σ.set i (some v)) H1) E
def tTry0 (C : Addr) (tb : Ends → St → Hp → XK → Prop) (ts to : TS) : TS := fun D σ H => tb { D with nx := to D } σ H fun cls _ H' => cls = .ref C ∧ ts D σ H'
end L2

set_option Elab.async false
set_option linter.all false
set_option maxRecDepth 100000
set_option maxHeartbeats 400000
namespace L2
open PySem PySem.Spec PySem.Calls PyProof.Rows
/-- what of an own exception class is looked at -/
structure ExcG (K : PySem.W.Frag) (C : Addr) : Prop where
  ga : PySem.W.findIn K (.ref C) "__getattribute__" = some (some (.builtin "BaseException.__getattribute__"))
  cl : PySem.W.findIn K (.ref C) "__class__" = some (some (.builtin "object.__class__"))
  no : PySem.W.findIn K (.ref C) "__getattr__" = some none
  be : PySem.W.mroIn K C (.type "BaseException") = some true
  ob : PySem.W.mroIn K C (.type "object") = some true
section
variable {K : PySem.W.Frag} {prog : Program} {w : World} {A : Around} {E : Value → Shared → Prop} {h : Heap} {g : Array GenState} {d : Drawn} {t : Nat} {os : OsState} {a C : Addr} {o : Obj}
end

theorem ExcG.cls {K : PySem.W.Frag} {C : Addr} (Z : ExcG K C) : ∃ c' d' cd sl, K.lookup C = some ⟨c', d', .cls cd, sl⟩ := by
  have e := Z.be
  unfold PySem.W.mroIn PySem.W.clsIn at e
  split at e
  · rename_i c' d' cd' sl' ho
    exact ⟨_, _, _, _, ho⟩
  · cases e
abbrev IsExc (a C : Addr) (h : Heap) : Prop := ∃ o, h.get? a = some o ∧ o.cls = .ref C
abbrev excO (a C : Addr) : HO := .ext (IsExc a C)
theorem excO_ok {P : Program} {w : World} {H : Hp} {h : Heap} {a C : Addr} (x : IsExc a C h) : ObjOk P w H h a (excO a C) := by
  obtain ⟨o, h1, h2⟩ := x
  refine ⟨⟨o, h1, h2⟩, ⟨o, h1⟩, fun g1 g2 ⟨o', e1, e2⟩ k => ⟨o', k o' e1, e2⟩⟩
def vO : V → Value
  | .ref a => .ref a
  | .ty n => .type n
  | _ => .none
def rIsx (K : PySem.W.Frag) : List V → Hp → VK → Prop := fun xs H Q => ∃ a D c b, xs = [.ref a, c] ∧ H a = some (excO a D) ∧ ExcG K D ∧ PySem.W.kitOne K (.ref D) (vO c) = some b ∧ Q (.bl b) H
/-- a new thing of ours, all others kept -/
theorem Inv.anew {X : Cx} {pins : List (Addr × Obj)} {σ : St} {H : Hp} {s : Shared} {h' : Heap} {t : Nat} {a : Addr} {ob : HO} (I : Inv X pins σ H s) (k : ∀ b o, s.heap.get? b = some o → h'.get? b = some o) (n : s.heap.get? a = none) (ok : ObjOk X.prog X.w (upd H a ob) h' a ob) :
    H a = none ∧ Inv X pins σ (upd H a ob) { s with heap := h', toks := t } := by
  have ha : ∀ u, H a ≠ some u := fun u e => by
    obtain ⟨o, z⟩ := (I.hok a u e).there
    rw [n] at z; cases z
  have hn : H a = none := by
    cases e : H a with
    | none => rfl
    | some u => exact absurd e (ha u)
  have up : ∀ b u, H b = some u → upd H a ob b = some u := fun b u e => by
    rw [upd_ne fun z => ha u (by rw [← z]; exact e)]; exact e
  refine ⟨hn, I.step (g' := s.gens) (d' := s.drawn) (ch := []) (fun _ z => nomatch z) (fun b o _ _ _ e _ => k b o e) (fun b o _ _ _ e _ => ⟨o.slots, k b o e⟩) (fun b o _ e q => ?_) (fun b o _ e => ⟨o, k b o e⟩) (fun b xs e => up _ _ e) (fun b o u e => up _ _ e) (fun b ps e => ⟨#[], by rw [up _ _ e]; simp⟩) (fun m hm => ?_) (fun b u e => ?_) I.bare⟩
  · rw [upd_ne fun z => by rw [z, n] at e; cases e]; exact q
  · obtain ⟨o, es, ep, ho, r⟩ := hm
    exact ⟨o, es, ep, k _ o ho, r⟩
  · by_cases z : b = a
    · subst z
      rw [upd_same] at e
      cases e
      exact ok
    · rw [upd_ne z] at e
      exact (I.hok b u e).stay (fun c v _ q => k c v q) (fun c q => up _ _ q) fun _ _ q => up _ _ q
def rExc (C : Addr) : List V → Hp → VK → Prop := fun xs H Q => xs.length ≤ sizeLine ∧ ∀ a, H a = none → Q (.ref a) (upd H a (excO a C))
end L2

set_option Elab.async false
set_option linter.all false
set_option maxRecDepth 100000
set_option maxHeartbeats 400000
namespace L2
open PySem PySem.Spec PySem.Calls PyProof.Rows
/-- what an except looks at: the class W of the text, the class C that flies -/
structure ExcM (K : PySem.W.Frag) (mg : Str → Option Value) (x : Str) (W C : Addr) : Prop where
  at_ : mg x = some (.ref W)
  ty : PySem.W.typeIn K (.ref W) = some (.type "type")
  be : PySem.W.mroIn K W (.type "BaseException") = some true
  sub : PySem.W.mroIn K C (.ref W) = some true
section
variable {X : Cx} {pins : List (Addr × Obj)} {σ : St} {H H' : Hp} {s s' : Shared} {B : Heap} {a : Addr} {cls a0 : Value}
/-- a thing that lies there is tracked from here on -/
theorem Inv.track {ob : HO} (I : Inv X pins σ H s) (n : H a = none) (ns : ∀ o, X.s₀.heap.get? a ≠ some o) (nl : X.env.locals ≠ a) (nc : ∀ x c, X.env.cells.lookup x = some c → c ≠ a) (np : ∀ p ∈ X.pn ++ pins, p.1 ≠ a) (ok : ObjOk X.prog X.w (upd H a ob) s.heap a ob) :
    Inv X pins σ (upd H a ob) s := by
  have up : ∀ b u, H b = some u → upd H a ob b = some u := fun b u e => by
    rw [upd_ne fun z => by rw [z, n] at e; cases e]; exact e
  refine ⟨I.ok, I.os, I.bare, ⟨I.base.keep, I.base.slot, fun b o e m hx => ?_, I.base.there, fun b xs e => up _ _ (I.base.tups b xs e), fun b o u e => up _ _ (I.base.frzs b o u e), fun b ps e => ?_⟩, I.loc, I.cell, ?_, fun x c e => ?_, fun p hp => ?_, fun b u e => ?_, I.len⟩
  · rw [upd_ne fun z => ns o (by rw [← z]; exact e)]
    exact I.base.free b o e m hx
  · obtain ⟨m, z⟩ := I.base.tbls b ps e
    exact ⟨m, up _ _ z⟩
  · rw [upd_ne nl]; exact I.free
  · rw [upd_ne (nc x c e)]; exact I.freeC x c e
  · obtain ⟨e, m, q⟩ := I.pin p hp
    exact ⟨e, by rw [upd_ne (np p hp)]; exact m, q⟩
  · by_cases z : b = a
    · subst z
      rw [upd_same] at e
      cases e
      exact ok
    · rw [upd_ne z] at e
      exact (I.hok b u e).stay (fun c v _ q => q) (fun c q => up _ _ q) fun _ _ q => up _ _ q
/-- what flies is new -/
theorem Flies.anew (F : Flies X.prog X.w X.stack H s H' B a cls a0 s') : a ∉ frs X.stack ∧ s.heap.get? a = none ∧ H' a = none := by
  obtain ⟨oe, vs, h1, h2, h3, h4⟩ := F.fly.first
  have nf : a ∉ frs X.stack := fun z => by
    obtain ⟨_, o', e', nfd⟩ := F.fly.2.2.1.mem z
    rw [h1] at e'
    cases e'
    exact nfd _ h3
  refine ⟨nf, ?_, ?_⟩
  · cases e : s.heap.get? a with
    | none => rfl
    | some o =>
      obtain ⟨o', z⟩ := F.cov a o e nf
      rw [F.fly.2.1] at z; cases z
  · cases e : H' a with
    | none => rfl
    | some u =>
      obtain ⟨o', z⟩ := F.trk a u e
      rw [F.fly.2.1] at z; cases z
theorem Flies.track (hb : Body X) (I : Inv X pins σ H s) (F : Flies X.prog X.w X.stack H s H' B a (.ref C) a0 s') {s'' : Shared} (J : Inv X pins σ H' s'') (x : IsExc a C s''.heap) : Inv X pins σ (upd H' a (excO a C)) s'' := by
  obtain ⟨nf, nh, nt⟩ := F.anew
  refine J.track nt (fun o e => ?_) (fun z => ?_) (fun y c e z => ?_) (fun p hp z => ?_) (excO_ok x)
  · obtain ⟨o', q⟩ := I.base.there a o e (by rw [hb.ex]; simp)
    rw [nh] at q; cases q
  · exact nf (by rw [hb.frs, ← z]; exact List.mem_cons_self)
  · obtain ⟨v, o, q, _⟩ := I.cell y c e
    rw [z, nh] at q; cases q
  · obtain ⟨q, _⟩ := I.pin p hp
    rw [z, nh] at q; cases q
end
/-- the name of an except is gone behind it -/
def Ends.gone (D : Ends) (i : Nat) : Ends := { nx := fun σ H => D.nx (σ.set i none) H, rt := D.rt, bk := fun σ H => D.bk (σ.set i none) H, ct := fun σ H => D.ct (σ.set i none) H }
def tTryA (i : Nat) (K : PySem.W.Frag) (mg : Str → Option Value) (x : Str) (W : Addr) (tb : Ends → St → Hp → XK → Prop) (ts to : TS) : TS := fun D σ H =>
  tb { D with nx := to D } σ H fun cls _ H' => ∃ C, cls = .ref C ∧ ExcM K mg x W C ∧ ∀ a, H' a = none → ts (D.gone i) (σ.set i (some (.ref a))) (upd H' a (excO a C))
end L2

set_option Elab.async false
set_option linter.all false
set_option maxRecDepth 100000
set_option maxHeartbeats 4000000
namespace My
open PySem L2
/-- a new list r, all else as it was -/
def New (H H' : Hp) (r : Addr) (xs : List V) : Prop := Same H H' ∧ H r = none ∧ H' r = some (.lst xs)
theorem same_new {H : Hp} {p : Addr} (h : H p = none) (o : HO) : Same H (upd H p o) := fun b u q => by rw [upd_ne (ne_of_none q h)]; exact q
theorem same_upd {H H' : Hp} {p : Addr} (h : H p = none) (g : Same H H') (o : HO) : Same H (upd H' p o) := fun b u q => by rw [upd_ne (ne_of_none q h)]; exact g b u q
theorem item_of {ns : List Int} {k : Int} (h0 : 0 ≤ k) (h : k < (ns.length : Int)) : ∃ v : Int, atI (ns.map V.int) k = some (.int v) := by
  have hk : k.toNat < ns.length := by omega
  have q : atI (ns.map V.int) ((k.toNat : Nat) : Int) = some (.int ns[k.toNat]) := atI_nat (by rw [List.getElem?_map, List.getElem?_eq_getElem hk] <;> rfl)
  rw [show ((k.toNat : Nat) : Int) = k by omega] at q
  exact ⟨_, q⟩
abbrev Pst := Int × Int × Int
def PostV (H : Hp) (v : V) (q : Pst) : Prop := ∃ t, v = .ref t ∧ H t = some (.tup [.int q.1, .int q.2.1, .int q.2.2])
def okH (h : Int) : Prop := 0 ≤ h ∧ h < 1073741824
def okP (q : Pst) : Prop := (0 ≤ q.1 ∧ q.1 < 1073741824) ∧ (0 ≤ q.2.1 ∧ q.2.1 ≤ 1000000000) ∧ (0 ≤ q.2.2 ∧ q.2.2 ≤ 1)
structure Ok (d : Int) (hs : List Int) (ps : List Pst) : Prop where
  d1 : 1 ≤ d
  d2 : d ≤ 31
  h : ∀ x ∈ hs, okH x
  hl : hs.length ≤ 8
  p : ∀ q ∈ ps, okP q
  pl : ps.length ≤ 6
theorem PostV.mono {H H' : Hp} {v : V} {q : Pst} (g : Same H H') (h : PostV H v q) : PostV H' v q := by
  obtain ⟨t, e, h⟩ := h
  exact ⟨t, e, g _ _ h⟩
abbrev Posts (H : Hp) : List V → List Pst → Prop := Paired (PostV H)
theorem Posts.mono {H H' : Hp} (g : Same H H') {ts : List V} {ps : List Pst} (h : Posts H ts ps) : Posts H' ts ps := Paired.mapP h fun _ _ => PostV.mono g
theorem Posts.off {H : Hp} {l : Addr} {o : HO} {ts : List V} {ps : List Pst} (hl : ∀ xs, H l ≠ some (.tup xs)) (h : Posts H ts ps) : Posts (upd H l o) ts ps := Paired.mapP h fun _ _ ⟨t, e, q⟩ => ⟨t, e, by
  have ne : t ≠ l := fun z => hl _ (z ▸ q)
  rw [upd_ne ne]
  exact q⟩
theorem Posts.at' {H : Hp} {ts : List V} {ps : List Pst} (h : Posts H ts ps) {i : Nat} {v : V} (e : ts[i]? = some v) : ∃ q, ps[i]? = some q ∧ PostV H v q := Paired.get' h e
theorem Posts.len {H : Hp} {ts : List V} {ps : List Pst} (h : Posts H ts ps) : ts.length = ps.length := Paired.length h
theorem Posts.get {H : Hp} {ts : List V} {ps : List Pst} (h : Posts H ts ps) {i : Nat} {q : Pst} (e : ps[i]? = some q) : ∃ t, ts[i]? = some (.ref t) ∧ H t = some (.tup [.int q.1, .int q.2.1, .int q.2.2]) := by
  have hi : i < ts.length := by rw [h.len]; exact (List.getElem?_eq_some_iff.mp e).1
  have e1 : ts[i]? = some ts[i] := List.getElem?_eq_getElem hi
  obtain ⟨q', e2, t, et, ht⟩ := h.at' e1
  rw [e] at e2
  cases e2
  exact ⟨t, by rw [e1, et], ht⟩
theorem Posts.snoc {H : Hp} {ts : List V} {ps : List Pst} {v : V} {q : Pst} (h : Posts H ts ps) (hv : PostV H v q) : Posts H (ts ++ [v]) (ps ++ [q]) := by
  induction h with
  | nil => exact .cons hv .nil
  | cons a _ ih => exact .cons a ih
theorem n1 : ¬ (("days" : Str) = "hands") := by decide +kernel
theorem n2 : ¬ (("days" : Str) = "posts") := by decide +kernel
def wf (d : Int) (h p : Addr) : List (Str × V) := putF "posts" (.ref p) (putF "hands" (.ref h) (putF "days" (.int d) []))
/-- a ward stands at x -/
structure WardAt (C : Addr) (H : Hp) (x : Addr) (d : Int) (hs : List Int) (ps : List Pst) : Prop where
  ex : ∃ dx ha pa ts, H x = some (.ins C dx (wf d ha pa)) ∧ H ha = some (.tup (hs.map V.int)) ∧ H pa = some (.tup ts) ∧ Posts H ts ps
theorem WardAt.mono {C : Addr} {H H' : Hp} {x : Addr} {d : Int} {hs : List Int} {ps : List Pst} (g : Same H H') (w : WardAt C H x d hs ps) : WardAt C H' x d hs ps := by
  obtain ⟨dx, ha, pa, ts, h1, h2, h3, h4⟩ := w.ex
  exact ⟨dx, ha, pa, ts, g _ _ h1, g _ _ h2, g _ _ h3, h4.mono g⟩
theorem WardAt.off {C : Addr} {H : Hp} {x : Addr} {d : Int} {hs : List Int} {ps : List Pst} {l : Addr} {xs : List V} {o : HO} (hl : H l = some (.lst xs)) (w : WardAt C H x d hs ps) : WardAt C (upd H l o) x d hs ps := by
  obtain ⟨dx, ha, pa, ts, h1, h2, h3, h4⟩ := w.ex
  refine ⟨dx, ha, pa, ts, ?_, ?_, ?_, h4.off fun ys z => by rw [hl] at z; cases z⟩
  · rw [upd_ne (ne_of h1 hl (by intro z; cases z))]; exact h1
  · rw [upd_ne (ne_of h2 hl (by intro z; cases z))]; exact h2
  · rw [upd_ne (ne_of h3 hl (by intro z; cases z))]; exact h3
def cv (h n : Int) : Bool := decide (Builtin.bitAnd h n = n)
def post0 : Pst := (0, 0, 0)
def chI (h : Int) (ps : List Pst) (i : Nat) : List Int := ((List.range i).filter fun j => cv h (ps[j]?.getD post0).1).map fun j : Nat => (j : Int) + 1
def ch (h : Int) (ps : List Pst) : List Int := 0 :: chI h ps ps.length
def ngt (ps : List Pst) : Nat → Bool
  | 0 => false
  | k + 1 => decide ((ps[k]?.getD post0).2.2 = 1)
def tb (d : Int) (hs : List Int) (ps : List Pst) : Nat → Int
  | 0 => 1
  | i + 1 => tb d hs ps i * ((ch (hs[i]?.getD 0) ps).length : Int) ^ d.toNat
theorem Paired.getR {α β : Type} {F : α → β → Prop} : ∀ {xs : List α} {ys : List β} {i : Nat} {y : β}, Paired F xs ys → ys[i]? = some y → ∃ x, xs[i]? = some x ∧ F x y
  | _, _, _, _, .nil, e => by simp at e
  | _, _, 0, _, .cons r _, e => by simp at e; subst e; exact ⟨_, rfl, r⟩
  | _, _, i + 1, y, .cons _ t, e => by
    obtain ⟨u, h1, h2⟩ := Paired.getR (i := i) (y := y) t (by simpa using e)
    exact ⟨u, by simpa using h1, h2⟩
theorem like_den {K : PySem.W.Frag} {H : Hp} : ∀ (n : Nat) (x : V) (d : DV), Den K H n x d → Like n d d := by
  intro n
  induction n with
  | zero =>
    intro x d h
    cases d with
    | lst ds => cases x <;> exact False.elim h
    | tup ds => cases x <;> exact False.elim h
    | _ => exact True.intro
  | succ n ih =>
    intro x d h
    cases d with
    | lst ds =>
      cases x with
      | ref a =>
        obtain ⟨xs, _, hp⟩ : ∃ xs, SqL K H a xs ∧ Paired (Den K H n) xs ds := h
        intro _ i d e h1 h2
        rw [h1] at h2
        cases h2
        obtain ⟨y, _, hy⟩ := Paired.getR hp h1
        exact ih y d hy
      | _ => exact False.elim h
    | tup ds =>
      cases x with
      | ref a =>
        obtain ⟨xs, _, hp⟩ : ∃ xs, SqT K H a xs ∧ Paired (Den K H n) xs ds := h
        intro i d e h1 h2
        rw [h1] at h2
        cases h2
        obtain ⟨y, _, hy⟩ := Paired.getR hp h1
        exact ih y d hy
      | _ => exact False.elim h
    | _ => exact True.intro
end My

set_option Elab.async false
set_option linter.all false
set_option maxRecDepth 100000
set_option maxHeartbeats 1000000
namespace My
open PySem L2
def RowV (H : Hp) (v : V) (row : List Int) : Prop := ∃ t, v = .ref t ∧ H t = some (.lst (row.map V.int))
abbrev Rows (H : Hp) : List V → List (List Int) → Prop := Paired (RowV H)
theorem Rows.mono {H H' : Hp} (g : Same H H') {ts : List V} {rows : List (List Int)} (h : Rows H ts rows) : Rows H' ts rows := Paired.mapP h fun _ _ ⟨t, e, q⟩ => ⟨t, e, g _ _ q⟩
theorem Rows.len {H : Hp} {ts : List V} {rows : List (List Int)} (h : Rows H ts rows) : ts.length = rows.length := Paired.length h
theorem Rows.at' {H : Hp} {ts : List V} {rows : List (List Int)} (h : Rows H ts rows) {i : Nat} {v : V} (e : ts[i]? = some v) : ∃ row, rows[i]? = some row ∧ RowV H v row := Paired.get' h e
theorem Rows.get {H : Hp} {ts : List V} {rows : List (List Int)} (h : Rows H ts rows) {i : Nat} {row : List Int} (e : rows[i]? = some row) : ∃ t, ts[i]? = some (.ref t) ∧ H t = some (.lst (row.map V.int)) := by
  obtain ⟨v, e1, t, rfl, q⟩ := Paired.getR h e
  exact ⟨t, e1, q⟩
theorem Rows.snoc {H : Hp} {ts : List V} {rows : List (List Int)} {v : V} {row : List Int} (h : Rows H ts rows) (hv : RowV H v row) : Rows H (ts ++ [v]) (rows ++ [row]) := by
  induction h with
  | nil => exact .cons hv .nil
  | cons a _ ih => exact .cons a ih
theorem Rows.off {H : Hp} {ts : List V} {rows : List (List Int)} {l : Addr} {o : HO} (h : Rows H ts rows) (hl : V.ref l ∉ ts) : Rows (upd H l o) ts rows := by
  induction h with
  | nil => exact .nil
  | cons a _ ih =>
    obtain ⟨t, rfl, q⟩ := a
    have ne : t ≠ l := fun z => hl (by rw [z]; exact List.mem_cons_self)
    exact .cons ⟨t, rfl, by rw [upd_ne ne]; exact q⟩ (ih fun z => hl (List.mem_cons_of_mem _ z))
theorem Rows.tracked {H : Hp} {ts : List V} {rows : List (List Int)} (h : Rows H ts rows) {l : Addr} (hl : V.ref l ∈ ts) : ∃ row : List Int, H l = some (.lst (row.map V.int)) := by
  induction h with
  | nil => cases hl
  | cons a _ ih =>
    obtain ⟨t, rfl, q⟩ := a
    rcases List.mem_cons.mp hl with z | z
    · cases z
      exact ⟨_, q⟩
    · exact ih z
theorem Rows.notin {H : Hp} {ts : List V} {rows : List (List Int)} (h : Rows H ts rows) {l : Addr} (hl : H l = none) : V.ref l ∉ ts := fun z => by
  obtain ⟨row, q⟩ := h.tracked z
  rw [hl] at q
  cases q
/-- row i's list is changed -/
theorem Rows.put {H : Hp} : ∀ {ts : List V} {rows : List (List Int)} {i : Nat} {t : Addr} {row : List Int}, Rows H ts rows → ts.Nodup → ts[i]? = some (.ref t) → Rows (upd H t (.lst (row.map V.int))) ts (rows.set i row)
  | _, _, _, _, _, .nil, _, e => by simp at e
  | _, _, 0, t, row, .cons a r, nd, e => by
    simp at e
    subst e
    have hn := (List.nodup_cons.mp nd).1
    exact .cons ⟨t, rfl, upd_same⟩ (Rows.off r hn)
  | v :: ts, _ :: rows, i + 1, t, row, .cons a r, nd, e => by
    have hn := (List.nodup_cons.mp nd)
    obtain ⟨t', rfl, q⟩ := a
    have e' : ts[i]? = some (.ref t) := by simpa using e
    have ne : t' ≠ t := fun z => hn.1 (by rw [z]; exact List.mem_of_getElem? e')
    exact .cons ⟨t', rfl, by rw [upd_ne ne]; exact q⟩ (Rows.put r hn.2 e')
def rD (row : List Int) : DV := .lst (row.map DV.int)
def tD (rows : List (List Int)) : DV := .lst (rows.map rD)
theorem den_rows {K : PySem.W.Frag} {H : Hp} {n : Nat} {a : Addr} {ts : List V} {rows : List (List Int)} (h : SqL K H a ts) (hT : Rows H ts rows) : Den K H (n + 2) (.ref a) (tD rows) := by
  refine ⟨_, h, ?_⟩
  clear h
  induction hT with
  | nil => exact .nil
  | cons a _ ih =>
    obtain ⟨t, rfl, q⟩ := a
    exact .cons (den_ints (SqL.of q)) ih
structure RotaOk (d : Int) (n m : Nat) (rows : List (List Int)) : Prop where
  len : rows.length = n
  rl : ∀ r ∈ rows, (r.length : Int) = d
  v : ∀ r ∈ rows, ∀ x ∈ r, 0 ≤ x ∧ x ≤ (m : Int)
def val (rows : List (List Int)) (j day : Nat) : Int := ((rows[j]?.getD [])[day]?).getD 0
def held (rows : List (List Int)) (day : Nat) (post : Int) (i : Nat) : List Int := ((List.range i).filter fun j => decide (val rows j day = post)).map fun j : Nat => (j : Int)
theorem val_of {rows : List (List Int)} {j day : Nat} {row : List Int} (h : rows[j]? = some row) (hd : day < row.length) : val rows j day = row[day] := by
  unfold val
  rw [h, Option.getD_some, List.getElem?_eq_getElem hd, Option.getD_some]
structure CopyI (H : Hp) (D : Addr) (rows : List (List Int)) (i : Nat) (H' : Hp) : Prop where
  ex : ∃ us' : List V, us'.length = i ∧ Same H H' ∧ H' D = some (.lst us') ∧ Rows H' us' (rows.take i) ∧ us'.Nodup ∧ ∀ t, V.ref t ∈ us' → t ≠ D ∧ H t = none
theorem CopyI.start {H : Hp} {D : Addr} {rows : List (List Int)} (hD : H D = none) : CopyI H D rows 0 (upd H D (.lst [])) :=
  ⟨[], rfl, same_new hD _, upd_same, by rw [List.take_zero]; exact .nil, List.nodup_nil, fun t z => by cases z⟩
theorem CopyI.same {H H' : Hp} {D : Addr} {rows : List (List Int)} {i : Nat} (h : CopyI H D rows i H') : Same H H' := by
  obtain ⟨_, _, g, _⟩ := h.ex
  exact g
theorem CopyI.step {H H' : Hp} {D l : Addr} {rows : List (List Int)} {i : Nat} {row : List Int} (h : CopyI H D rows i H') (hD : H D = none) (hrow : rows[i]? = some row) (hl : H' l = none) (hi : i ≤ 900) :
    ∃ xs, upd H' l (.lst (row.map V.int)) D = some (.lst xs) ∧ xs.length < sizeLine ∧ CopyI H D rows (i + 1) (upd (upd H' l (.lst (row.map V.int))) D (.lst (xs ++ [.ref l]))) := by
  obtain ⟨us', hu, g, e, hR, nd, fr⟩ := h.ex
  have g2 := same_new hl (.lst (row.map V.int))
  have ne : D ≠ l := ne_of_none e hl
  have hlu : V.ref l ∉ us' := hR.notin hl
  refine ⟨us', g2 _ _ e, small1000 (by omega), us' ++ [.ref l], by rw [List.length_append, hu]; rfl, same_upd hD (g.trans g2) _, upd_same, ?_, ?_, fun t ht => ?_⟩
  · refine Rows.off ?_ ?_
    · rw [List.take_add_one, hrow]
      exact Rows.snoc (hR.mono g2) ⟨l, rfl, upd_same⟩
    · intro z
      rcases List.mem_append.mp z with z | z
      · exact (fr D z).1 rfl
      · exact ne (V.ref.inj (List.mem_singleton.mp z))
  · rw [List.nodup_append]
    refine ⟨nd, by simp, fun a ha b hb => ?_⟩
    rw [List.mem_singleton.mp hb]
    exact fun z => hlu (z ▸ ha)
  · rcases List.mem_append.mp ht with z | z
    · exact fr t z
    · have : t = l := V.ref.inj (List.mem_singleton.mp z)
      subst this
      exact ⟨ne.symm, g.free hl⟩
theorem CopyI.done {H H' : Hp} {D : Addr} {rows : List (List Int)} {i : Nat} (h : CopyI H D rows i H') (hi : i = rows.length) :
    ∃ us' : List V, Same H H' ∧ H' D = some (.lst us') ∧ Rows H' us' rows ∧ us'.Nodup ∧ ∀ t, V.ref t ∈ us' → t ≠ D ∧ H t = none := by
  obtain ⟨us', hu, g, e, hR, nd, fr⟩ := h.ex
  rw [hi, List.take_length] at hR
  exact ⟨us', g, e, hR, nd, fr⟩
theorem RotaOk.day {d : Int} {n m : Nat} {rows : List (List Int)} (h : RotaOk d n m rows) {day : Nat} (hd : (day : Int) < d) : ∀ row ∈ rows, day < row.length := fun row hr => by
  have := h.rl row hr
  omega
end My

set_option Elab.async false
set_option linter.all false
set_option maxRecDepth 100000
set_option maxHeartbeats 1000000
namespace My
open PySem L2
def isRow (d : Int) (h : Int) (ps : List Pst) (row : List Int) : Bool := decide ((row.length : Int) = d) && row.all fun v => decide (v ∈ ch h ps)
def rowB (d : Int) (hs : List Int) (ps : List Pst) (rows : List (List Int)) (j : Nat) : Bool := isRow d (hs[j]?.getD 0) ps (rows[j]?.getD [])
theorem Ok.cut {d : Int} {hs : List Int} {ps : List Pst} (h : Ok d hs ps) : ∀ d' : Int, 1 ≤ d' → d' ≤ 31 → Ok d' (hs.take 4) (ps.take 2) := fun d' h1 h2 =>
  ⟨h1, h2, fun x hx => h.h x (List.mem_of_mem_take hx), by rw [List.length_take]; have := h.hl; omega, fun x hx => h.p x (List.mem_of_mem_take hx), by rw [List.length_take]; have := h.pl; omega⟩
end My

set_option Elab.async false
set_option linter.all false
set_option maxRecDepth 100000
set_option maxHeartbeats 1000000
namespace My
open PySem L2
structure RotaT (d : Int) (hs : List Int) (ps : List Pst) (i : Nat) (rows : List (List Int)) : Prop where
  len : rows.length = i
  ok : ∀ j, j < i → rowB d hs ps rows j = true
section
variable {d : Int} {hs : List Int} {ps : List Pst} {i : Nat} {rows : List (List Int)} {row : List Int} {x : Int}
theorem RotaT.snoc (h : RotaT d hs ps i rows) (hh : hs[i]? = some x) (hr : isRow d x ps row = true) : RotaT d hs ps (i + 1) (rows ++ [row]) := by
  refine ⟨by rw [List.length_append, h.len]; rfl, fun j hj => ?_⟩
  unfold rowB
  by_cases e : j = i
  · subst e
    rw [hh, ← h.len, List.getElem?_append_right (Nat.le_refl _), Nat.sub_self]
    exact hr
  · have hj' : j < i := by omega
    rw [List.getElem?_append_left (by rw [h.len]; exact hj')]
    exact h.ok j hj'
end
section
variable {H : Hp} {us : List V} {rows : List (List Int)} {v : V} {row : List Int}
theorem Rows.ins : ∀ (k : Nat) {us : List V} {rows : List (List Int)}, Rows H us rows → RowV H v row → Rows H (us.take k ++ v :: us.drop k) (rows.take k ++ row :: rows.drop k)
  | 0, _, _, h, hv => .cons hv h
  | _ + 1, _, _, .nil, hv => .cons hv .nil
  | k + 1, _, _, .cons a r, hv => .cons a (Rows.ins k r hv)
theorem Rows.del : ∀ (k : Nat) {us : List V} {rows : List (List Int)}, Rows H us rows → Rows H (us.eraseIdx k) (rows.eraseIdx k)
  | _, _, _, .nil => by simp only [List.eraseIdx_nil]; exact .nil
  | 0, _, _, .cons _ r => r
  | k + 1, _, _, .cons a r => .cons a (Rows.del k r)
theorem nodup_ins {α : Type} {us : List α} {v : α} (k : Nat) (nd : us.Nodup) (hv : v ∉ us) : (us.take k ++ v :: us.drop k).Nodup := by
  refine (List.perm_middle.nodup_iff).mpr ?_
  rw [List.take_append_drop]
  exact List.nodup_cons.mpr ⟨hv, nd⟩
theorem mem_ins {α : Type} {us : List α} {v x : α} {k : Nat} (h : x ∈ us.take k ++ v :: us.drop k) : x = v ∨ x ∈ us := by
  rcases List.mem_append.mp h with z | z
  · exact .inr (List.mem_of_mem_take z)
  · rcases List.mem_cons.mp z with z | z
    · exact .inl z
    · exact .inr (List.mem_of_mem_drop z)
theorem len_ins {α : Type} {us : List α} {v : α} {k : Nat} : (us.take k ++ v :: us.drop k).length = us.length + 1 := by
  rw [List.length_append, List.length_cons, List.length_take, List.length_drop]
  omega
end
def CellV (H : Hp) (v : V) (q : Int × Int) : Prop := ∃ t, v = .ref t ∧ H t = some (.tup [.int q.1, .int q.2])
abbrev Cells (H : Hp) : List V → List (Int × Int) → Prop := Paired (CellV H)
theorem Cells.mono {H H' : Hp} (g : Same H H') {ts : List V} {qs : List (Int × Int)} (h : Cells H ts qs) : Cells H' ts qs := Paired.mapP h fun _ _ ⟨t, e, q⟩ => ⟨t, e, g _ _ q⟩
theorem Cells.len {H : Hp} {ts : List V} {qs : List (Int × Int)} (h : Cells H ts qs) : ts.length = qs.length := Paired.length h
theorem Cells.snoc {H : Hp} {ts : List V} {qs : List (Int × Int)} {v : V} {q : Int × Int} (h : Cells H ts qs) (hv : CellV H v q) : Cells H (ts ++ [v]) (qs ++ [q]) := by
  induction h with
  | nil => exact .cons hv .nil
  | cons a _ ih => exact .cons a ih
theorem Cells.get' {H : Hp} {ts : List V} {qs : List (Int × Int)} (h : Cells H ts qs) {i : Nat} {v : V} (e : ts[i]? = some v) : ∃ q, qs[i]? = some q ∧ CellV H v q := Paired.get' h e
theorem Cells.off {H : Hp} {ts : List V} {qs : List (Int × Int)} {l : Addr} {o : HO} (h : Cells H ts qs) (hl : ∀ xs, H l ≠ some (.tup xs)) : Cells (upd H l o) ts qs := Paired.mapP h fun _ _ ⟨t, e, q⟩ => ⟨t, e, by rw [upd_ne fun z => hl _ (by rw [← z]; exact q)]; exact q⟩
def cD (q : Int × Int) : DV := .tup [.int q.1, .int q.2]
theorem den_cells {K : PySem.W.Frag} {H : Hp} {n : Nat} {a : Addr} {ts : List V} {qs : List (Int × Int)} (h : SqL K H a ts) (hT : Cells H ts qs) : Den K H (n + 2) (.ref a) (.lst (qs.map cD)) := by
  refine ⟨_, h, ?_⟩
  clear h
  induction hT with
  | nil => exact .nil
  | cons a _ ih =>
    obtain ⟨t, rfl, q⟩ := a
    exact .cons ⟨_, SqT.of q, .cons den_int (.cons den_int .nil)⟩ ih
def cl (n k : Nat) : List (Int × Int) := (List.range k).map fun j => (((j % n : Nat) : Int), ((j / n : Nat) : Int))
structure Flt (H : Hp) (r : Addr) (us : List V) (n L : Nat) (H' : Hp) (us' : List V) (rows' : List (List Int)) : Prop where
  fr : ∀ c o, H c = some o → c ≠ r → V.ref c ∉ us → H' c = some o
  at_ : H' r = some (.lst us')
  rs : Rows H' us' rows'
  nd : us'.Nodup
  mem : ∀ t, V.ref t ∈ us' → V.ref t ∈ us ∨ H t = none
  nr : V.ref r ∉ us'
  len : rows'.length ≤ n
  rl : ∀ row ∈ rows', row.length ≤ L
section
variable {H H' H'' : Hp} {r : Addr} {us us' : List V} {rows rows' : List (List Int)} {n L : Nat}
theorem Rows.nor (hE : H r = some (.lst us)) (hR : Rows H us rows) : V.ref r ∉ us := fun z => by
  obtain ⟨row, e⟩ := hR.tracked z
  rw [hE] at e
  have e' : us = row.map V.int := by cases e; rfl
  rw [e'] at z
  obtain ⟨_, _, q⟩ := List.mem_map.mp z
  cases q
theorem Flt.start (hE : H r = some (.lst us)) (hR : Rows H us rows) (nd : us.Nodup) (hl : rows.length ≤ n) (hr : ∀ row ∈ rows, row.length ≤ L) : Flt H r us n L H us rows :=
  ⟨fun _ _ h _ _ => h, hE, hR, nd, fun _ h => .inl h, hR.nor hE, hl, hr⟩
theorem Flt.mono (F : Flt H r us n L H' us' rows') (g : Same H' H'') : Flt H r us n L H'' us' rows' :=
  ⟨fun c o h1 h2 h3 => g _ _ (F.fr c o h1 h2 h3), g _ _ F.at_, F.rs.mono g, F.nd, F.mem, F.nr, F.len, F.rl⟩
theorem Flt.more {m M : Nat} (F : Flt H r us n L H' us' rows') (h1 : n ≤ m) (h2 : L ≤ M) : Flt H r us m M H' us' rows' :=
  ⟨F.fr, F.at_, F.rs, F.nd, F.mem, F.nr, Nat.le_trans F.len h1, fun row h => Nat.le_trans (F.rl row h) h2⟩
theorem Flt.ins {p : Addr} {row : List Int} (k : Nat) (F : Flt H r us n L H' us' rows') (hp : H' p = none) (hr : row.length ≤ L) :
    Flt H r us (n + 1) L (upd (upd H' p (.lst (row.map V.int))) r (.lst (us'.take k ++ .ref p :: us'.drop k))) (us'.take k ++ .ref p :: us'.drop k) (rows'.take k ++ row :: rows'.drop k) := by
  have g := same_new hp (.lst (row.map V.int))
  have npr : p ≠ r := fun z => by rw [z, F.at_] at hp; cases hp
  have hnp : V.ref p ∉ us' := F.rs.notin hp
  have hnr : V.ref r ∉ us'.take k ++ .ref p :: us'.drop k := fun z => by
    rcases mem_ins z with z | z
    · exact npr (V.ref.inj z).symm
    · exact F.nr z
  refine ⟨fun c o h1 h2 h3 => ?_, upd_same, Rows.off (Rows.ins k (F.rs.mono g) ⟨p, rfl, upd_same⟩) hnr, nodup_ins k F.nd hnp, fun t ht => ?_, hnr, ?_, fun y hy => ?_⟩
  · rw [upd_ne h2]
    exact g _ _ (F.fr c o h1 h2 h3)
  · rcases mem_ins ht with z | z
    · have e : t = p := V.ref.inj z
      subst e
      by_cases hu : V.ref t ∈ us
      · exact .inl hu
      · refine .inr ?_
        cases e : H t with
        | none => rfl
        | some o => have := F.fr t o e npr hu; rw [hp] at this; cases this
    · exact F.mem t z
  · rw [len_ins]
    exact Nat.succ_le_succ F.len
  · rcases mem_ins hy with z | z
    · rw [z]; exact hr
    · exact F.rl y z
theorem Flt.del (k : Nat) (F : Flt H r us n L H' us' rows') : Flt H r us n L (upd H' r (.lst (us'.eraseIdx k))) (us'.eraseIdx k) (rows'.eraseIdx k) := by
  have hnr : V.ref r ∉ us'.eraseIdx k := fun z => F.nr (List.mem_of_mem_eraseIdx z)
  refine ⟨fun c o h1 h2 h3 => by rw [upd_ne h2]; exact F.fr c o h1 h2 h3, upd_same, Rows.off (F.rs.del k) hnr, F.nd.sublist (List.eraseIdx_sublist us' k), fun t ht => F.mem t (List.mem_of_mem_eraseIdx ht), hnr, ?_, fun y hy => F.rl y (List.mem_of_mem_eraseIdx hy)⟩
  exact Nat.le_trans (List.eraseIdx_sublist rows' k).length_le F.len
end
end My

set_option Elab.async false
set_option linter.all false
set_option maxRecDepth 100000
set_option maxHeartbeats 1000000
namespace My
open PySem L2 PySem.Spec PyProof.Rows
structure InsG (K : PySem.W.Frag) (C : Addr) : Prop where
  ha : PySem.W.findIn K (.ref C) "__class__" = some (some (.builtin "object.__class__"))
  hn : PySem.W.specialIn K (.builtin "object.__class__") "__get__" = some (some (.builtin "getset_descriptor.__get__"))
  htk : PySem.W.takesIn K (.builtin "object.__class__") = some true
  hm : PySem.W.mroIn K C (.type "object") = some true
section
variable {X : Cx}
end
end My
namespace My
open PySem L2
end My

set_option Elab.async false
set_option linter.all false
set_option maxRecDepth 100000
set_option maxHeartbeats 1000000
namespace My
open PySem L2
theorem take_one {α : Type} {xs : List α} {i : Nat} {x : α} (h : xs[i]? = some x) : xs.take (i + 1) = xs.take i ++ [x] := by
  rw [List.take_succ, h]
  rfl
def Tups (H H' : Hp) : Prop := ∀ a xs, H a = some (.tup xs) → H' a = some (.tup xs)
theorem Tups.trans {H H' H'' : Hp} (g : Tups H H') (g' : Tups H' H'') : Tups H H'' := fun a xs e => g' _ _ (g _ _ e)
structure Prt where
  h : Int
  d : Int
  p : Int
  n : Int
def PrtV (H : Hp) (v : V) (q : Prt) : Prop := ∃ t, v = .ref t ∧ H t = some (.tup [.int q.h, .int q.d, .int q.p, .int q.n])
abbrev Prts (H : Hp) : List V → List Prt → Prop := Paired (PrtV H)
theorem Prts.mono {H H' : Hp} (g : Tups H H') {ts : List V} {qs : List Prt} (h : Prts H ts qs) : Prts H' ts qs := Paired.mapP h fun _ _ ⟨t, e, q⟩ => ⟨t, e, g _ _ q⟩
structure Lin where
  ps : List Prt
  b : Int
def LinV (H : Hp) (v : V) (l : Lin) : Prop := ∃ t u ts, v = .ref t ∧ H t = some (.tup [.ref u, .int l.b]) ∧ H u = some (.tup ts) ∧ Prts H ts l.ps
abbrev Lins (H : Hp) : List V → List Lin → Prop := Paired (LinV H)
theorem LinV.mono {H H' : Hp} (g : Tups H H') {v : V} {l : Lin} (h : LinV H v l) : LinV H' v l := by
  obtain ⟨t, u, ts, e, h1, h2, h3⟩ := h
  exact ⟨t, u, ts, e, g _ _ h1, g _ _ h2, h3.mono g⟩
theorem Lins.mono {H H' : Hp} (g : Tups H H') {ts : List V} {ls : List Lin} (h : Lins H ts ls) : Lins H' ts ls := Paired.mapP h fun _ _ => LinV.mono g
def npI (ps : List Pst) (i : Nat) : List Int := ((List.range i).filter fun j => ngt ps (j + 1)).map fun j : Nat => 1 + (j : Int)
def np (ps : List Pst) : List Int := npI ps ps.length
end My
namespace My
open PySem L2
def hm (h m : Int) : List (Str × V) := putF "many" (.int m) (putF "hand" (.int h) [])
end My
namespace My
open PySem L2
end My
namespace My
open PySem L2
end My

set_option Elab.async false
set_option linter.all false
set_option maxRecDepth 100000
set_option maxHeartbeats 1000000
namespace My
open PySem L2
def at_ (bs : List Bool) (j : Nat) : Bool := bs[j]?.getD false
def nk (ps : List Pst) (v : Int) : Bool := ngt ps v.toNat
end My
namespace My
open PySem L2
theorem RotaOk.cut {d : Int} {n m : Nat} {rows : List (List Int)} (h : RotaOk (d + 1) n m rows) (hd : 0 ≤ d) : RotaOk d n m (rows.map fun r => r.take d.toNat) := by
  refine ⟨by rw [List.length_map]; exact h.len, fun r hr => ?_, fun r hr x hx => ?_⟩
  · obtain ⟨r0, h0, rfl⟩ := List.mem_map.mp hr
    have := h.rl r0 h0
    rw [List.length_take]
    omega
  · obtain ⟨r0, h0, rfl⟩ := List.mem_map.mp hr
    exact h.v r0 h0 x (List.mem_of_mem_take hx)
/-- a ward, a table of it and its posts -/
def AskV (C : Addr) (n : Nat) (H : Hp) (v : V) : Prop := ∃ (t y r pa : Addr) (d : Int) (hs : List Int) (ps : List Pst) (ts us : List V) (rows : List (List Int)), v = .ref t ∧ H t = some (.tup [.ref y, .ref r, .ref pa]) ∧ WardAt C H y d hs ps ∧ Ok d hs ps ∧ H r = some (.lst us) ∧ Rows H us rows ∧ RotaOk d hs.length ps.length rows ∧ H pa = some (.lst ts) ∧ Posts H ts ps ∧ hs.length = n
theorem AskV.mono {C : Addr} {n : Nat} {H H' : Hp} {v : V} (g : Same H H') (h : AskV C n H v) : AskV C n H' v := by
  obtain ⟨t, y, r, pa, d, hs, ps, ts, us, rows, e, h1, h2, h3, h4, h5, h6, h7, h8, h9⟩ := h
  exact ⟨t, y, r, pa, d, hs, ps, ts, us, rows, e, g _ _ h1, h2.mono g, h3, g _ _ h4, h5.mono g, h6, g _ _ h7, h8.mono g, h9⟩
/-- a table's rows, each cut -/
structure CutI (H : Hp) (D : Addr) (rows : List (List Int)) (n i : Nat) (H' : Hp) : Prop where
  ex : ∃ us, Same H H' ∧ H' D = some (.lst us) ∧ Rows H' us ((rows.take i).map fun r => r.take n) ∧ ∀ t, V.ref t ∈ us → t ≠ D
theorem CutI.start {H : Hp} {D : Addr} {rows : List (List Int)} {n : Nat} (hD : H D = none) : CutI H D rows n 0 (upd H D (.lst [])) := ⟨[], same_new hD _, upd_same, .nil, fun t z => by cases z⟩
theorem CutI.step {H H' : Hp} {D l : Addr} {rows : List (List Int)} {n i : Nat} {row : List Int} (h : CutI H D rows n i H') (hD : H D = none) (hrow : rows[i]? = some row) (hl : H' l = none) (hi : i ≤ 900) :
    ∃ xs, upd H' l (.lst ((row.take n).map V.int)) D = some (.lst xs) ∧ xs.length < sizeLine ∧ CutI H D rows n (i + 1) (upd (upd H' l (.lst ((row.take n).map V.int))) D (.lst (xs ++ [.ref l]))) := by
  obtain ⟨us, g, e, hR, fr⟩ := h.ex
  have gl := same_new hl (.lst ((row.take n).map V.int))
  have hul := hR.len
  rw [List.length_map, List.length_take] at hul
  refine ⟨us, gl _ _ e, small1000 (by omega), us ++ [.ref l], same_upd hD (g.trans gl) _, upd_same, ?_, fun t ht => ?_⟩
  · rw [take_one hrow, List.map_append]
    refine Rows.off (Rows.snoc (hR.mono gl) ⟨l, rfl, upd_same⟩) fun z => ?_
    rcases List.mem_append.mp z with z | z
    · exact fr D z rfl
    · exact ne_of_none e hl (V.ref.inj (List.mem_singleton.mp z))
  · rcases List.mem_append.mp ht with z | z
    · exact fr t z
    · rw [V.ref.inj (List.mem_singleton.mp z)]
      exact (ne_of_none e hl).symm
end My
namespace My
open PySem L2
end My
namespace My
open PySem L2
theorem for_of {wi : TI} {g : TG} {tb : TS} {D : Ends} {σ : St} {H : Hp} (h : ∀ B : TS, B = tb → tFor wi g B D σ H) : tFor wi g tb D σ H := h tb rfl
end My

set_option Elab.async false
set_option linter.all false
set_option maxRecDepth 100000
set_option maxHeartbeats 1000000
namespace Tim
open PySem PyProof.Rows
def gal : Bool → Keyed → Array Keyed → Nat → Nat → Nat → StateT SortSt Sem (Option Nat) := sortPriv% PySem.Builtin.gallop
def mlo : Array Keyed → Array Keyed → StateT SortSt Sem (Array Keyed) := sortPriv% PySem.Builtin.mergeLo
def mhi : Array Keyed → Array Keyed → StateT SortSt Sem (Array Keyed) := sortPriv% PySem.Builtin.mergeHi
section
variable {prog : Program} {w : World} {A : Around} {E : Value → Shared → Prop} {s : Shared}
/-- the things that are sorted, and how two of them are compared: by keys that are wholly ordered -/
structure Cmp (prog : Program) (w : World) (A : Around) (E : Value → Shared → Prop) (s : Shared) where
  O : KeyOrd
  key : Keyed → O.α
  S : Keyed → Prop
  F : SortSt → Prop
  ok : ∀ (st : SortSt) (p q : Keyed) (Q : Option Bool → SortSt → Prop), F st → S p → S q → Q (some (O.blt (key p) (key q))) st → wpS (model prog w) A E s (lt' p q) Q st
theorem wpS_elem {arr : Array Keyed} {i : Nat} {p : Keyed} {Q : Keyed → SortSt → Prop} {st : SortSt} (e : arr[i]? = some p) (h : Q p st) : wpS (model prog w) A E s (elem' arr i) Q st := by
  rw [elem'_eq, e]
  exact wpS_pure h
/-- what is asked at each place in a gallop -/
def bey (C : Cmp prog w A E s) (left : Bool) (k : Keyed) (p : Keyed) : Bool := if left then C.O.blt (C.key p) (C.key k) else !C.O.blt (C.key k) (C.key p)
theorem gal_ok {C : Cmp prog w A E s} {left : Bool} {k : Keyed} {arr : Array Keyed} {base n hint : Nat} {st : SortSt} {P : Nat → Bool} {Q : Option Nat → SortSt → Prop} (hF : C.F st) (hk : C.S k) (hh : hint < n)
    (hP : ∀ i, i < n → ∃ p, arr[base + i]? = some p ∧ C.S p ∧ bey C left k p = P i) (mono : ∀ i j, i ≤ j → j < n → P j = true → P i = true)
    (h : ∀ m, m ≤ n → (∀ i, i < m → P i = true) → (∀ i, m ≤ i → i < n → P i = false) → Q (some m) st) : wpS (model prog w) A E s (gal left k arr base n hint) Q st := by
  have ask : ∀ (i : Nat) (R : Option Bool → SortSt → Prop), i < n → R (some (P i)) st → wpS (model prog w) A E s (do
      let x ← elem' arr (base + i)
      if left then lt' x k else return (← lt' k x).map (!·)) R st := by
    intro i R hi hR
    obtain ⟨p, e, hS, hb⟩ := hP i hi
    refine wpS_bind (wpS_elem e ?_)
    unfold bey at hb
    cases left with
    | true =>
      rw [if_pos rfl] at hb ⊢
      exact C.ok st _ _ _ hF hS hk (by rw [hb]; exact hR)
    | false =>
      rw [if_neg Bool.false_ne_true] at hb ⊢
      refine wpS_bind (C.ok st _ _ _ hF hk hS (wpS_pure ?_))
      show R (some (!C.O.blt (C.key k) (C.key p))) st
      rw [hb]
      exact hR
  have no : ∀ i j, i ≤ j → j < n → P i = false → P j = false := fun i j hij hj hi => by
    cases e : P j with
    | false => rfl
    | true => rw [mono i j hij hj e] at hi; cases hi
  refine wpS_bind (ask hint _ hh ?_)
  dsimp only
  cases e0 : P hint with
  | true =>
    rw [if_pos rfl]
    refine wpS_bind (wpS_mono (wpS_forRange (I := fun x c st' => st' = st ∧ ∃ l o, c = (none, l, o) ∧ x + 1 ≤ o ∧ l < o ∧ hint + l < n ∧ P (hint + l) = true)
      (Q := fun c st' => st' = st ∧ ∃ l o, c = (none, l, o) ∧ l < o ∧ hint + l < n ∧ P (hint + l) = true ∧ (n - hint ≤ o ∨ (o < n - hint ∧ P (hint + o) = false))) ?s ?e ⟨rfl, 0, 1, rfl, by omega, by omega, by omega, e0⟩) ?p)
    case s =>
      rintro x c st' _ hx ⟨rfl, l, o, rfl, h1, h2, h3, h4⟩
      dsimp only
      by_cases hge : o ≥ n - hint
      · rw [if_pos hge]
        exact wpS_pure ⟨rfl, l, o, rfl, h2, h3, h4, .inl hge⟩
      · rw [if_neg hge]
        refine wpS_bind (ask (hint + o) _ (by omega) ?_)
        dsimp only
        cases e1 : P (hint + o) with
        | true => exact wpS_pure ⟨rfl, o, 2 * o + 1, rfl, by omega, by omega, by omega, e1⟩
        | false => exact wpS_pure ⟨rfl, l, o, rfl, h2, h3, h4, .inr ⟨by omega, e1⟩⟩
    case e =>
      rintro c st' ⟨rfl, l, o, rfl, h1, h2, h3, h4⟩
      exact ⟨rfl, l, o, rfl, h2, h3, h4, .inl (by omega)⟩
    case p =>
      rintro c st' ⟨rfl, l, o, rfl, h2, h3, h4, h5⟩
      dsimp only
      have q1 : hint + l + 1 ≤ hint + min o (n - hint) := by omega
      have q2 : hint + min o (n - hint) ≤ n := by omega
      have q3 : ∀ i, i < hint + l + 1 → P i = true := fun i hi => mono i _ (by omega) h3 h4
      have q4 : ∀ i, hint + min o (n - hint) ≤ i → i < n → P i = false := fun i hi1 hi2 => by
        rcases h5 with h5 | ⟨h5, h6⟩
        · omega
        · exact no _ i (by omega) hi2 h6
      generalize hint + l + 1 = lo0 at q1 q3 ⊢
      generalize hint + min o (n - hint) = hi0 at q1 q2 q4 ⊢
      rename SortSt => st
      refine wpS_bind (wpS_mono (wpS_forRange (I := fun x c st' => st' = st ∧ ∃ l r, c = (none, l, r) ∧ l ≤ r ∧ r ≤ n ∧ r - l ≤ n - x ∧ (∀ i, i < l → P i = true) ∧ (∀ i, r ≤ i → i < n → P i = false))
        (Q := fun c st' => st' = st ∧ ∃ l, c = (none, l, l) ∧ l ≤ n ∧ (∀ i, i < l → P i = true) ∧ (∀ i, l ≤ i → i < n → P i = false)) ?s2 ?e2 ⟨rfl, lo0, hi0, rfl, q1, q2, by omega, q3, q4⟩) ?p2)
      case s2 =>
        rintro x c st' _ hx ⟨rfl, l, r, rfl, h1, h2, h3, h4, h5⟩
        dsimp only
        by_cases hge : l ≥ r
        · rw [if_pos hge]
          have : l = r := by omega
          subst this
          exact wpS_pure ⟨rfl, l, rfl, h2, h4, h5⟩
        · rw [if_neg hge]
          refine wpS_bind (ask (l + (r - l) / 2) _ (by omega) ?_)
          dsimp only
          cases e1 : P (l + (r - l) / 2) with
          | true => exact wpS_pure ⟨rfl, _, r, rfl, by omega, h2, by omega, fun i hi => mono i _ (by omega) (by omega) e1, h5⟩
          | false => exact wpS_pure ⟨rfl, l, _, rfl, by omega, by omega, by omega, h4, fun i hi1 hi2 => no _ i hi1 hi2 e1⟩
      case e2 =>
        rintro c st' ⟨rfl, l, r, rfl, h1, h2, h3, h4, h5⟩
        have : l = r := by omega
        subst this
        exact ⟨rfl, l, rfl, h2, h4, h5⟩
      case p2 =>
        rintro c st' ⟨rfl, l, rfl, h2, h4, h5⟩
        dsimp only
        exact wpS_pure (h l h2 h4 h5)
  | false =>
    rw [if_neg Bool.false_ne_true]
    refine wpS_bind (wpS_mono (wpS_forRange (I := fun x c st' => st' = st ∧ ∃ l o, c = (none, l, o) ∧ x + 1 ≤ o ∧ l < o ∧ l ≤ hint ∧ P (hint - l) = false)
      (Q := fun c st' => st' = st ∧ ∃ l o, c = (none, l, o) ∧ l < o ∧ l ≤ hint ∧ P (hint - l) = false ∧ (hint + 1 ≤ o ∨ (o < hint + 1 ∧ P (hint - o) = true))) ?sb ?eb ⟨rfl, 0, 1, rfl, by omega, by omega, by omega, e0⟩) ?pb)
    case sb =>
      rintro x c st' _ hx ⟨rfl, l, o, rfl, h1, h2, h3, h4⟩
      dsimp only
      by_cases hge : o ≥ hint + 1
      · rw [if_pos hge]
        exact wpS_pure ⟨rfl, l, o, rfl, h2, h3, h4, .inl hge⟩
      · rw [if_neg hge]
        refine wpS_bind (ask (hint - o) _ (by omega) ?_)
        dsimp only
        cases e1 : P (hint - o) with
        | true => exact wpS_pure ⟨rfl, l, o, rfl, h2, h3, h4, .inr ⟨by omega, e1⟩⟩
        | false => exact wpS_pure ⟨rfl, o, 2 * o + 1, rfl, by omega, by omega, by omega, e1⟩
    case eb =>
      rintro c st' ⟨rfl, l, o, rfl, h1, h2, h3, h4⟩
      exact ⟨rfl, l, o, rfl, h2, h3, h4, .inl (by omega)⟩
    case pb =>
      rintro c st' ⟨rfl, l, o, rfl, h2, h3, h4, h5⟩
      dsimp only
      have q1 : hint + 1 - min o (hint + 1) ≤ hint - l := by omega
      have q2 : hint - l ≤ n := by omega
      have q3 : ∀ i, i < hint + 1 - min o (hint + 1) → P i = true := fun i hi => by
        rcases h5 with h5 | ⟨h5, h6⟩
        · omega
        · exact mono i _ (by omega) (by omega) h6
      have q4 : ∀ i, hint - l ≤ i → i < n → P i = false := fun i hi1 hi2 => no _ i hi1 hi2 h4
      generalize hint + 1 - min o (hint + 1) = lo0 at q1 q3 ⊢
      generalize hint - l = hi0 at q1 q2 q4 ⊢
      rename SortSt => st
      refine wpS_bind (wpS_mono (wpS_forRange (I := fun x c st' => st' = st ∧ ∃ l r, c = (none, l, r) ∧ l ≤ r ∧ r ≤ n ∧ r - l ≤ n - x ∧ (∀ i, i < l → P i = true) ∧ (∀ i, r ≤ i → i < n → P i = false))
        (Q := fun c st' => st' = st ∧ ∃ l, c = (none, l, l) ∧ l ≤ n ∧ (∀ i, i < l → P i = true) ∧ (∀ i, l ≤ i → i < n → P i = false)) ?s3 ?e3 ⟨rfl, lo0, hi0, rfl, q1, q2, by omega, q3, q4⟩) ?p3)
      case s3 =>
        rintro x c st' _ hx ⟨rfl, l, r, rfl, h1, h2, h3, h4, h5⟩
        dsimp only
        by_cases hge : l ≥ r
        · rw [if_pos hge]
          have : l = r := by omega
          subst this
          exact wpS_pure ⟨rfl, l, rfl, h2, h4, h5⟩
        · rw [if_neg hge]
          refine wpS_bind (ask (l + (r - l) / 2) _ (by omega) ?_)
          dsimp only
          cases e1 : P (l + (r - l) / 2) with
          | true => exact wpS_pure ⟨rfl, _, r, rfl, by omega, h2, by omega, fun i hi => mono i _ (by omega) (by omega) e1, h5⟩
          | false => exact wpS_pure ⟨rfl, l, _, rfl, by omega, by omega, by omega, h4, fun i hi1 hi2 => no _ i hi1 hi2 e1⟩
      case e3 =>
        rintro c st' ⟨rfl, l, r, rfl, h1, h2, h3, h4, h5⟩
        have : l = r := by omega
        subst this
        exact ⟨rfl, l, rfl, h2, h4, h5⟩
      case p3 =>
        rintro c st' ⟨rfl, l, rfl, h2, h4, h5⟩
        dsimp only
        exact wpS_pure (h l h2 h4 h5)
end
end Tim

set_option Elab.async false
set_option linter.all false
set_option maxRecDepth 100000
set_option maxHeartbeats 1000000
namespace Tim
open PySem PyProof.Rows
section
variable {prog : Program} {w : World} {A : Around} {E : Value → Shared → Prop} {s : Shared}
def le (C : Cmp prog w A E s) (p q : Keyed) : Prop := C.O.kle (C.key p) (C.key q)
theorem le_trans {C : Cmp prog w A E s} {p q r : Keyed} (h : le C p q) (h' : le C q r) : le C p r := KeyOrd.kle_trans h h'
theorem le_of_lt {C : Cmp prog w A E s} {p q : Keyed} (h : C.O.blt (C.key p) (C.key q) = true) : le C p q := KeyOrd.kle_of_klt h
theorem le_of_not {C : Cmp prog w A E s} {p q : Keyed} (h : C.O.blt (C.key p) (C.key q) = false) : le C q p := h
/-- two sorted rows a, b are being put together: o is what came out -/
structure MI (C : Cmp prog w A E s) (a b o : List Keyed) (ia ib : Nat) : Prop where
  la : ia ≤ a.length
  lb : ib ≤ b.length
  pm : o.Perm (a.take ia ++ b.take ib)
  so : o.Pairwise (le C)
  xa : ∀ x ∈ o, ∀ y ∈ a.drop ia, le C x y
  xb : ∀ x ∈ o, ∀ y ∈ b.drop ib, le C x y
structure Mgd (C : Cmp prog w A E s) (a b o : List Keyed) : Prop where
  pm : o.Perm (a ++ b)
  so : o.Pairwise (le C)
section
variable {C : Cmp prog w A E s} {a b o : List Keyed} {ia ib : Nat}
theorem MI.size (h : MI C a b o ia ib) : o.length = ia + ib := by
  have := h.pm.length_eq
  rw [List.length_append, List.length_take, List.length_take] at this
  have := h.la
  have := h.lb
  omega
theorem drop_cut {α : Type} (xs : List α) (i k : Nat) : xs.drop i = (xs.drop i).take k ++ xs.drop (i + k) := by
  rw [← List.drop_drop, List.take_append_drop]
theorem MI.pushA (h : MI C a b o ia ib) (k : Nat) (hk : ia + k ≤ a.length) (sa : a.Pairwise (le C)) (c : ∀ x ∈ (a.drop ia).take k, ∀ y ∈ b.drop ib, le C x y) : MI C a b (o ++ (a.drop ia).take k) (ia + k) ib := by
  have sd : (a.drop ia).Pairwise (le C) := sa.sublist (List.drop_sublist _ _)
  rw [drop_cut a ia k, List.pairwise_append] at sd
  refine ⟨hk, h.lb, ?_, ?_, ?_, ?_⟩
  · refine (h.pm.append_right _).trans ?_
    rw [List.take_add, List.append_assoc, List.append_assoc]
    exact List.perm_append_comm.append_left _
  · rw [List.pairwise_append]
    exact ⟨h.so, sd.1, fun x hx y hy => h.xa x hx y (List.mem_of_mem_take hy)⟩
  · intro x hx y hy
    rcases List.mem_append.mp hx with hx | hx
    · exact h.xa x hx y (by rw [drop_cut a ia k]; exact List.mem_append_right _ hy)
    · exact sd.2.2 x hx y hy
  · intro x hx y hy
    rcases List.mem_append.mp hx with hx | hx
    · exact h.xb x hx y hy
    · exact c x hx y hy
theorem MI.pushB (h : MI C a b o ia ib) (k : Nat) (hk : ib + k ≤ b.length) (sb : b.Pairwise (le C)) (c : ∀ x ∈ (b.drop ib).take k, ∀ y ∈ a.drop ia, le C x y) : MI C a b (o ++ (b.drop ib).take k) ia (ib + k) := by
  have sd : (b.drop ib).Pairwise (le C) := sb.sublist (List.drop_sublist _ _)
  rw [drop_cut b ib k, List.pairwise_append] at sd
  refine ⟨h.la, hk, ?_, ?_, ?_, ?_⟩
  · refine (h.pm.append_right _).trans ?_
    rw [List.take_add, List.append_assoc]
  · rw [List.pairwise_append]
    exact ⟨h.so, sd.1, fun x hx y hy => h.xb x hx y (List.mem_of_mem_take hy)⟩
  · intro x hx y hy
    rcases List.mem_append.mp hx with hx | hx
    · exact h.xa x hx y hy
    · exact c x hx y hy
  · intro x hx y hy
    rcases List.mem_append.mp hx with hx | hx
    · exact h.xb x hx y (by rw [drop_cut b ib k]; exact List.mem_append_right _ hy)
    · exact sd.2.2 x hx y hy
theorem MI.all (h : MI C a b o ia ib) (sa : a.Pairwise (le C)) (sb : b.Pairwise (le C)) (c : ∀ x ∈ a.drop ia, ∀ y ∈ b.drop ib, le C x y) : Mgd C a b (o ++ a.drop ia ++ b.drop ib) := by
  have z := (h.pushA (a.length - ia) (by have := h.la; omega) sa (fun x hx y hy => c x (List.mem_of_mem_take hx) y hy))
  have e1 : (a.drop ia).take (a.length - ia) = a.drop ia := List.take_of_length_le (by rw [List.length_drop]; exact Nat.le_refl _)
  rw [e1, show ia + (a.length - ia) = a.length by have := h.la; omega] at z
  have y := z.pushB (b.length - ib) (by have := h.lb; omega) sb (fun x hx y hy => by rw [List.drop_length] at hy; cases hy)
  have e2 : (b.drop ib).take (b.length - ib) = b.drop ib := List.take_of_length_le (by rw [List.length_drop]; exact Nat.le_refl _)
  rw [e2, show ib + (b.length - ib) = b.length by have := h.lb; omega] at y
  exact ⟨by have := y.pm; rwa [List.take_length, List.take_length] at this, y.so⟩
theorem MI.allB (h : MI C a b o ia ib) (sa : a.Pairwise (le C)) (sb : b.Pairwise (le C)) (c : ∀ x ∈ b.drop ib, ∀ y ∈ a.drop ia, le C x y) : Mgd C a b (o ++ b.drop ib ++ a.drop ia) := by
  have z := (h.pushB (b.length - ib) (by have := h.lb; omega) sb (fun x hx y hy => c x (List.mem_of_mem_take hx) y hy))
  have e1 : (b.drop ib).take (b.length - ib) = b.drop ib := List.take_of_length_le (by rw [List.length_drop]; exact Nat.le_refl _)
  rw [e1, show ib + (b.length - ib) = b.length by have := h.lb; omega] at z
  have y := z.pushA (a.length - ia) (by have := h.la; omega) sa (fun x hx y hy => by rw [List.drop_length] at hy; cases hy)
  have e2 : (a.drop ia).take (a.length - ia) = a.drop ia := List.take_of_length_le (by rw [List.length_drop]; exact Nat.le_refl _)
  rw [e2, show ia + (a.length - ia) = a.length by have := h.la; omega] at y
  exact ⟨by have := y.pm; rwa [List.take_length, List.take_length] at this, y.so⟩
end
theorem galR {C : Cmp prog w A E s} {k : Keyed} {arr : Array Keyed} {base n hint : Nat} {st : SortSt} {Q : Option Nat → SortSt → Prop} (hF : C.F st) (hk : C.S k) (hh : hint < n)
    (hS : ∀ i, i < n → ∃ p, arr[base + i]? = some p ∧ C.S p) (so : ∀ i j p q, i ≤ j → j < n → arr[base + i]? = some p → arr[base + j]? = some q → le C p q)
    (h : ∀ m, m ≤ n → (∀ i p, i < m → arr[base + i]? = some p → le C p k) → (∀ i p, m ≤ i → i < n → arr[base + i]? = some p → C.O.blt (C.key k) (C.key p) = true) → Q (some m) st) : wpS (model prog w) A E s (gal false k arr base n hint) Q st := by
  refine gal_ok (P := fun i => match arr[base + i]? with | some p => bey C false k p | none => false) hF hk hh (fun i hi => ?_) (fun i j hij hj e => ?_) fun m hm h1 h2 => h m hm (fun i p hi e => ?_) fun i p hi1 hi2 e => ?_
  · obtain ⟨p, e, hp⟩ := hS i hi
    exact ⟨p, e, hp, by rw [e]⟩
  · obtain ⟨p, e1, _⟩ := hS i (by omega)
    obtain ⟨q, e2, _⟩ := hS j hj
    try dsimp only at e ⊢
    rw [e2] at e
    rw [e1]
    try dsimp only at e ⊢
    unfold bey at e ⊢
    rw [if_neg Bool.false_ne_true, Bool.not_eq_true'] at e ⊢
    exact le_trans (so i j p q hij hj e1 e2) (le_of_not e)
  · have z := h1 i hi
    try dsimp only at z
    rw [e] at z
    try dsimp only at z
    unfold bey at z
    rw [if_neg Bool.false_ne_true, Bool.not_eq_true'] at z
    exact le_of_not z
  · have z := h2 i hi1 hi2
    try dsimp only at z
    rw [e] at z
    try dsimp only at z
    unfold bey at z
    rw [if_neg Bool.false_ne_true] at z
    simpa using z
theorem galL {C : Cmp prog w A E s} {k : Keyed} {arr : Array Keyed} {base n hint : Nat} {st : SortSt} {Q : Option Nat → SortSt → Prop} (hF : C.F st) (hk : C.S k) (hh : hint < n)
    (hS : ∀ i, i < n → ∃ p, arr[base + i]? = some p ∧ C.S p) (so : ∀ i j p q, i ≤ j → j < n → arr[base + i]? = some p → arr[base + j]? = some q → le C p q)
    (h : ∀ m, m ≤ n → (∀ i p, i < m → arr[base + i]? = some p → C.O.blt (C.key p) (C.key k) = true) → (∀ i p, m ≤ i → i < n → arr[base + i]? = some p → le C k p) → Q (some m) st) : wpS (model prog w) A E s (gal true k arr base n hint) Q st := by
  refine gal_ok (P := fun i => match arr[base + i]? with | some p => bey C true k p | none => false) hF hk hh (fun i hi => ?_) (fun i j hij hj e => ?_) fun m hm h1 h2 => h m hm (fun i p hi e => ?_) fun i p hi1 hi2 e => ?_
  · obtain ⟨p, e, hp⟩ := hS i hi
    exact ⟨p, e, hp, by rw [e]⟩
  · obtain ⟨p, e1, _⟩ := hS i (by omega)
    obtain ⟨q, e2, _⟩ := hS j hj
    try dsimp only at e ⊢
    rw [e2] at e
    rw [e1]
    try dsimp only at e ⊢
    unfold bey at e ⊢
    rw [if_pos rfl] at e ⊢
    exact KeyOrd.klt_of_kle_of_klt (so i j p q hij hj e1 e2) e
  · have z := h1 i hi
    try dsimp only at z
    rw [e] at z
    try dsimp only at z
    unfold bey at z
    rw [if_pos rfl] at z
    exact z
  · have z := h2 i hi1 hi2
    try dsimp only at z
    rw [e] at z
    try dsimp only at z
    unfold bey at z
    rw [if_pos rfl] at z
    exact le_of_not z
theorem ext_all (a : Array Keyed) (i : Nat) : (a.extract i).toList = a.toList.drop i := by
  rw [Array.toList_extract, List.extract_eq_drop_take]
  exact List.take_of_length_le (by rw [List.length_drop]; simp)
theorem ext_k (a : Array Keyed) (i k : Nat) : (a.extract i (i + k)).toList = (a.toList.drop i).take k := by
  rw [Array.toList_extract]
  simp [List.extract_eq_drop_take]
theorem one_k {xs : Array Keyed} {i : Nat} {p : Keyed} (e : xs[i]? = some p) : (xs.toList.drop i).take 1 = [p] := by
  have hi : i < xs.toList.length := by have := (Array.getElem?_eq_some_iff.mp e).1; simpa using this
  rw [List.drop_eq_getElem_cons hi]
  have : xs.toList[i] = p := by
    have := (Array.getElem?_eq_some_iff.mp e).2
    rw [← this]
    simp
  rw [this]
  rfl
theorem at_drop {xs : Array Keyed} {i : Nat} {y : Keyed} (h : y ∈ xs.toList.drop i) : ∃ j, xs[i + j]? = some y := by
  obtain ⟨j, hj⟩ := List.getElem?_of_mem h
  exact ⟨j, by rw [List.getElem?_drop] at hj; simpa using hj⟩
theorem at_take {xs : Array Keyed} {i k : Nat} {y : Keyed} (h : y ∈ (xs.toList.drop i).take k) : ∃ j, j < k ∧ xs[i + j]? = some y := by
  obtain ⟨j, hj⟩ := List.getElem?_of_mem h
  rw [List.getElem?_take] at hj
  split at hj
  · exact ⟨j, ‹_›, by rw [List.getElem?_drop] at hj; simpa using hj⟩
  · cases hj
theorem mem_at {xs : Array Keyed} {i : Nat} {p : Keyed} (e : xs[i]? = some p) : p ∈ xs.toList := by
  have := Array.mem_of_getElem? e
  simpa using this
theorem sorted_at {C : Cmp prog w A E s} {xs : Array Keyed} (so : xs.toList.Pairwise (le C)) {i j : Nat} {p q : Keyed} (hij : i ≤ j) (e1 : xs[i]? = some p) (e2 : xs[j]? = some q) : le C p q := by
  rcases Nat.lt_or_ge i j with h | h
  · obtain ⟨h1, rfl⟩ := Array.getElem?_eq_some_iff.mp e1
    obtain ⟨h2, rfl⟩ := Array.getElem?_eq_some_iff.mp e2
    have z := List.pairwise_iff_getElem.mp so i j (by simpa using h1) (by simpa using h2) h
    simpa using z
  · have : i = j := by omega
    subst this
    rw [e1] at e2
    cases e2
    exact KeyOrd.kle_refl _
/-- what a merge is given -/
structure Two (C : Cmp prog w A E s) (a b : Array Keyed) (a0 b0 aL bL : Keyed) : Prop where
  Sa : ∀ p ∈ a.toList, C.S p
  Sb : ∀ p ∈ b.toList, C.S p
  sa : a.toList.Pairwise (le C)
  sb : b.toList.Pairwise (le C)
  ea : a[0]? = some a0
  eb : b[0]? = some b0
  eA : a[a.size - 1]? = some aL
  eB : b[b.size - 1]? = some bL
  first : C.O.blt (C.key b0) (C.key a0) = true
  last : C.O.blt (C.key bL) (C.key aL) = true
section
variable {C : Cmp prog w A E s} {a b : Array Keyed} {a0 b0 aL bL : Keyed}
theorem Two.na (T : Two C a b a0 b0 aL bL) : 0 < a.size := (Array.getElem?_eq_some_iff.mp T.ea).1
theorem Two.nb (T : Two C a b a0 b0 aL bL) : 0 < b.size := (Array.getElem?_eq_some_iff.mp T.eb).1
theorem Two.low (T : Two C a b a0 b0 aL bL) {x : Keyed} (h : x ∈ b.toList) : le C x aL := by
  obtain ⟨j, hj⟩ := List.getElem?_of_mem h
  have e : b[j]? = some x := by simpa using hj
  have hj2 := (Array.getElem?_eq_some_iff.mp e).1
  exact le_trans (sorted_at T.sb (by omega) e T.eB) (le_of_lt T.last)
theorem Two.start (T : Two C a b a0 b0 aL bL) : MI C a.toList b.toList [b0] 0 1 := by
  have z : MI C a.toList b.toList [] 0 0 := ⟨Nat.zero_le _, Nat.zero_le _, .nil, .nil, (fun x hx => by cases hx), fun x hx => by cases hx⟩
  have y := z.pushB 1 (by have := T.nb; simp; omega) T.sb (fun x hx y hy => ?_)
  · rw [one_k T.eb] at y
    exact y
  · rw [one_k T.eb] at hx
    rw [List.mem_singleton.mp hx]
    obtain ⟨j, hj⟩ := at_drop hy
    exact le_trans (le_of_lt T.first) (sorted_at T.sa (Nat.zero_le _) T.ea hj)
end
abbrev sg (st : SortSt) (g : Nat) : SortSt := SortSt.mk' (kindOf st) (arrOf st) (pendingOf st) g (failedOf st)
theorem mlo_ok {C : Cmp prog w A E s} {a b : Array Keyed} {a0 b0 aL bL : Keyed} {st : SortSt} {Q : Array Keyed → SortSt → Prop} (hF : ∀ (g : Nat), C.F (sg st g)) (T : Two C a b a0 b0 aL bL)
    (h : ∀ r g, Mgd C a.toList b.toList r.toList → Q r (sg st g)) : wpS (model prog w) A E s (mlo a b) Q st := by
  have na := T.na
  have nb := T.nb
  have doneB : ∀ (out : Array Keyed) (ia ib : Nat), MI C a.toList b.toList out.toList ia ib → ib = b.size → Mgd C a.toList b.toList (out ++ a.extract ia ++ b.extract ib).toList := fun out ia ib M e => by
    rw [Array.toList_append, Array.toList_append, ext_all, ext_all]
    refine M.all T.sa T.sb fun x _ y hy => ?_
    rw [e, List.drop_of_length_le (by simp)] at hy
    cases hy
  have doneA : ∀ (out : Array Keyed) (ia ib : Nat), MI C a.toList b.toList out.toList ia ib → ia = a.size → Mgd C a.toList b.toList (out ++ a.extract ia ++ b.extract ib).toList := fun out ia ib M e => by
    rw [Array.toList_append, Array.toList_append, ext_all, ext_all]
    refine M.all T.sa T.sb fun x hx y _ => ?_
    rw [e, List.drop_of_length_le (by simp)] at hx
    cases hx
  have doneL : ∀ (out : Array Keyed) (ia ib : Nat), MI C a.toList b.toList out.toList ia ib → ia + 1 = a.size → Mgd C a.toList b.toList (out ++ b.extract ib ++ a.extract ia).toList := fun out ia ib M e => by
    rw [Array.toList_append, Array.toList_append, ext_all, ext_all]
    refine M.allB T.sa T.sb fun x hx y hy => ?_
    have hj : a.toList.drop ia = [aL] := by
      have z := one_k (i := ia) (p := aL) (by rw [show ia = a.size - 1 by omega]; exact T.eA)
      rw [List.take_of_length_le (by rw [List.length_drop]; simp; omega)] at z
      exact z
    rw [hj] at hy
    rw [List.mem_singleton.mp hy]
    exact T.low (List.mem_of_mem_drop hx)
  have pA : ∀ (out : Array Keyed) (ia ib : Nat) (p q : Keyed), MI C a.toList b.toList out.toList ia ib → a[ia]? = some p → b[ib]? = some q → le C p q → MI C a.toList b.toList (out.push p).toList (ia + 1) ib := fun out ia ib p q M e1 e2 hpq => by
    rw [Array.toList_push, ← one_k e1]
    refine M.pushA 1 (by have := (Array.getElem?_eq_some_iff.mp e1).1; simp; omega) T.sa fun x hx y hy => ?_
    rw [one_k e1] at hx
    rw [List.mem_singleton.mp hx]
    obtain ⟨j, hj⟩ := at_drop hy
    exact le_trans hpq (sorted_at T.sb (by omega) e2 hj)
  have pB : ∀ (out : Array Keyed) (ia ib : Nat) (p q : Keyed), MI C a.toList b.toList out.toList ia ib → a[ia]? = some p → b[ib]? = some q → le C q p → MI C a.toList b.toList (out.push q).toList ia (ib + 1) := fun out ia ib p q M e1 e2 hpq => by
    rw [Array.toList_push, ← one_k e2]
    refine M.pushB 1 (by have := (Array.getElem?_eq_some_iff.mp e2).1; simp; omega) T.sb fun x hx y hy => ?_
    rw [one_k e2] at hx
    rw [List.mem_singleton.mp hx]
    obtain ⟨j, hj⟩ := at_drop hy
    exact le_trans hpq (sorted_at T.sa (by omega) e1 hj)
  refine wpS_bind (wpS_lift (wpAny_rule ⟨rfl, ?_⟩))
  dsimp only
  refine wpS_bind (wpS_elem T.eb ?_)
  by_cases h1 : 1 = b.size
  · rw [if_pos (by simpa using h1)]
    exact wpS_pure (h _ (gallopOf st) (doneB #[b0] 0 1 T.start h1))
  rw [if_neg (by simpa using h1)]
  by_cases h2 : 0 + 1 = a.size
  · rw [if_pos (by simpa using h2)]
    exact wpS_pure (h _ (gallopOf st) (doneL #[b0] 0 1 T.start h2))
  rw [if_neg (by simpa using h2)]
  refine wpS_bind (wpS_get ?_)
  refine wpS_bind (wpS_mono (wpS_forRange (I := fun x c st' => ∃ (out : Array Keyed) (ia ib mg g : Nat), c = (none, out, ia, ib, mg) ∧ st' = sg st g ∧ MI C a.toList b.toList out.toList ia ib ∧ ia + 1 < a.size ∧ ib < b.size ∧ x + 1 ≤ ia + ib)
    (Q := fun c st' => ∃ (r : Array Keyed) (g : Nat), c.1 = some r ∧ st' = sg st g ∧ Mgd C a.toList b.toList r.toList) ?oS ?oE ⟨#[b0], 0, 1, _, gallopOf st, rfl, rfl, T.start, by omega, by omega, by omega⟩) ?oP)
  case oP =>
    rintro ⟨c1, c2⟩ st' ⟨r, g, rfl, rfl, M⟩
    exact wpS_pure (h r g M)
  case oE =>
    rintro c st' ⟨out, ia, ib, mg, g, rfl, rfl, M, q1, q2, q3⟩
    omega
  case oS =>
    rintro x c st' _ hx ⟨out, ia, ib, mg, g, rfl, rfl, M, q1, q2, q3⟩
    dsimp only
    refine wpS_bind (wpS_mono (wpS_forRange (I := fun y c st' => ∃ (out1 : Array Keyed) (ja jb ac bc : Nat), c = (none, out1, ja, jb, ac, bc) ∧ st' = sg st g ∧ MI C a.toList b.toList out1.toList ja jb ∧ ja + 1 < a.size ∧ jb < b.size ∧ ia + ib + y ≤ ja + jb)
      (Q := fun c st' => st' = sg st g ∧ ((∃ (r : Array Keyed), c.1 = some r ∧ Mgd C a.toList b.toList r.toList) ∨ ∃ (out1 : Array Keyed) (ja jb ac bc : Nat), c = (none, out1, ja, jb, ac, bc) ∧ MI C a.toList b.toList out1.toList ja jb ∧ ja + 1 < a.size ∧ jb < b.size ∧ ia + ib + 1 ≤ ja + jb)) ?s1 ?e1 ⟨out, ia, ib, 0, 0, rfl, rfl, M, q1, q2, by omega⟩) ?p1)
    case e1 =>
      rintro c st' ⟨out1, ja, jb, ac, bc, rfl, rfl, M1, r1, r2, r3⟩
      exact ⟨rfl, .inr ⟨out1, ja, jb, ac, bc, rfl, M1, r1, r2, by omega⟩⟩
    case s1 =>
      rintro y c st' _ hy ⟨out1, ja, jb, ac, bc, rfl, rfl, M1, r1, r2, r3⟩
      have ea : a[ja]? = some a[ja] := Array.getElem?_eq_getElem (by omega)
      have eb : b[jb]? = some b[jb] := Array.getElem?_eq_getElem r2
      dsimp only
      refine wpS_bind (wpS_elem eb (wpS_bind (wpS_elem ea (wpS_bind (C.ok _ _ _ _ (hF g) (T.Sb _ (by simp)) (T.Sa _ (by simp)) ?_)))))
      dsimp only
      cases e0 : C.O.blt (C.key b[jb]) (C.key a[ja]) with
      | true =>
        rw [if_pos rfl]
        refine wpS_bind (wpS_elem eb ?_)
        have M2 := pB out1 ja jb _ _ M1 ea eb (le_of_lt e0)
        by_cases z : jb + 1 = b.size
        · rw [if_pos (by simpa using z)]
          exact wpS_pure ⟨rfl, .inl ⟨_, rfl, doneB _ _ _ M2 z⟩⟩
        · rw [if_neg (by simpa using z)]
          split
          · exact wpS_pure ⟨rfl, .inr ⟨_, _, _, _, _, rfl, M2, r1, by omega, by omega⟩⟩
          · exact wpS_pure ⟨_, _, _, _, _, rfl, rfl, M2, r1, by omega, by omega⟩
      | false =>
        rw [if_neg Bool.false_ne_true]
        refine wpS_bind (wpS_elem ea ?_)
        have M2 := pA out1 ja jb _ _ M1 ea eb (le_of_not e0)
        by_cases z : ja + 1 + 1 = a.size
        · rw [if_pos (by simpa using z)]
          exact wpS_pure ⟨rfl, .inl ⟨_, rfl, doneL _ _ _ M2 z⟩⟩
        · rw [if_neg (by simpa using z)]
          split
          · exact wpS_pure ⟨rfl, .inr ⟨_, _, _, _, _, rfl, M2, by omega, r2, by omega⟩⟩
          · exact wpS_pure ⟨_, _, _, _, _, rfl, rfl, M2, by omega, r2, by omega⟩
    case p1 =>
      rintro ⟨c1, c2⟩ st' ⟨rfl, ⟨r, rfl, Mr⟩ | ⟨out1, ja, jb, ac, bc, e, M1, r1, r2, r3⟩⟩
      · exact wpS_pure ⟨r, g, rfl, rfl, Mr⟩
      cases e
      dsimp only
      refine wpS_bind (wpS_lift (wpAny_rule ⟨rfl, ?_⟩))
      refine wpS_bind (wpS_mono (wpS_forRange (I := fun y c st' => ∃ (out2 : Array Keyed) (ka kb mg2 ac2 bc2 g2 : Nat), c = (none, out2, ka, kb, mg2, ac2, bc2) ∧ st' = sg st g2 ∧ MI C a.toList b.toList out2.toList ka kb ∧ ka + 1 < a.size ∧ kb < b.size ∧ ia + ib + 1 ≤ ka + kb)
        (Q := fun c st' => ∃ g2, st' = sg st g2 ∧ ((∃ (r : Array Keyed), c.1 = some r ∧ Mgd C a.toList b.toList r.toList) ∨ ∃ (out2 : Array Keyed) (ka kb mg2 ac2 bc2 : Nat), c = (none, out2, ka, kb, mg2, ac2, bc2) ∧ MI C a.toList b.toList out2.toList ka kb ∧ ka + 1 < a.size ∧ kb < b.size ∧ ia + ib + 1 ≤ ka + kb)) ?s2 ?e2 ⟨out1, ja, jb, _, _, _, g, rfl, rfl, M1, r1, r2, r3⟩) ?p2)
      case e2 =>
        rintro c st' ⟨out2, ka, kb, mg2, ac2, bc2, g2, rfl, rfl, M2, t1, t2, t3⟩
        exact ⟨g2, rfl, .inr ⟨out2, ka, kb, mg2, ac2, bc2, rfl, M2, t1, t2, t3⟩⟩
      case p2 =>
        rintro ⟨c1, c2⟩ st' ⟨g2, rfl, ⟨r, rfl, Mr⟩ | ⟨out2, ka, kb, mg2, ac2, bc2, e, M2, t1, t2, t3⟩⟩
        · exact wpS_pure ⟨r, g2, rfl, rfl, Mr⟩
        cases e
        dsimp only
        exact wpS_bind (wpS_modify (wpS_pure ⟨out2, ka, kb, _, _, rfl, rfl, M2, t1, t2, by omega⟩))
      case s2 =>
        rintro y c st' _ hy ⟨out2, ka, kb, mg2, ac2, bc2, g2, rfl, rfl, M2, t1, t2, t3⟩
        obtain ⟨pa, ea⟩ : ∃ p, a[ka]? = some p := ⟨_, Array.getElem?_eq_getElem (by omega)⟩
        obtain ⟨pb, eb⟩ : ∃ p, b[kb]? = some p := ⟨_, Array.getElem?_eq_getElem t2⟩
        have Sa : ∀ i, i < a.size - ka → ∃ p, a[ka + i]? = some p ∧ C.S p := fun i hi => ⟨a[ka + i], Array.getElem?_eq_getElem (by omega), T.Sa _ (by simp)⟩
        dsimp only
        by_cases hmg : mg2 > 1
        · rw [if_pos hmg]
          refine wpS_bind (wpS_modify ?_)
          refine wpS_bind (wpS_elem eb ?_)
          refine wpS_bind (galR (hF _) (T.Sb _ (mem_at eb)) (by omega) Sa (fun i j p q hij hj e1 e2 => sorted_at T.sa (by omega) e1 e2) fun m hm c1 c2 => ?_)
          dsimp only
          have M3 : MI C a.toList b.toList (out2 ++ a.extract ka (ka + m)).toList (ka + m) kb := by
            rw [Array.toList_append, ext_k]
            refine M2.pushA m (by simp; omega) T.sa fun x hx y hy => ?_
            obtain ⟨i, hi, e⟩ := at_take hx
            obtain ⟨j, hj⟩ := at_drop hy
            exact le_trans (c1 i x hi e) (sorted_at T.sb (by omega) eb hj)
          by_cases hp1 : m > 0
          · rw [if_pos hp1]
            by_cases z0 : ka + m + 1 = a.size
            · rw [if_pos (by simpa using z0)]
              exact wpS_pure ⟨_, rfl, .inl ⟨_, rfl, doneL _ _ _ M3 z0⟩⟩
            rw [if_neg (by simpa using z0)]
            by_cases z1 : ka + m = a.size
            · rw [if_pos (by simpa using z1)]
              exact wpS_pure ⟨_, rfl, .inl ⟨_, rfl, doneA _ _ _ M3 z1⟩⟩
            rw [if_neg (by simpa using z1)]
            obtain ⟨px, eax⟩ : ∃ p, a[ka + m]? = some p := ⟨_, Array.getElem?_eq_getElem (by omega)⟩
            have hlt := c2 m _ (Nat.le_refl _) (by omega) eax
            refine wpS_bind (wpS_elem eb ?_)
            have M4 := pB (out2 ++ a.extract ka (ka + m)) (ka + m) kb _ _ M3 eax eb (le_of_lt hlt)
            by_cases z : kb + 1 = b.size
            · rw [if_pos (by simpa using z)]
              exact wpS_pure ⟨_, rfl, .inl ⟨_, rfl, doneB _ _ _ M4 z⟩⟩
            rw [if_neg (by simpa using z)]
            refine wpS_bind (wpS_elem eax ?_)
            have Sb : ∀ i, i < b.size - (kb + 1) → ∃ p, b[kb + 1 + i]? = some p ∧ C.S p := fun i hi => ⟨b[kb + 1 + i], Array.getElem?_eq_getElem (by omega), T.Sb _ (by simp)⟩
            refine wpS_bind (galL (hF _) (T.Sa _ (mem_at eax)) (by omega) Sb (fun i j p q hij hj e1 e2 => sorted_at T.sb (by omega) e1 e2) fun m2 hm2 d1 d2 => ?_)
            dsimp only
            have M5 : MI C a.toList b.toList ((out2 ++ a.extract ka (ka + m)).push pb ++ b.extract (kb + 1) (kb + 1 + m2)).toList (ka + m) (kb + 1 + m2) := by
              rw [Array.toList_append, ext_k]
              refine M4.pushB m2 (by simp; omega) T.sb fun x hx y hy => ?_
              obtain ⟨i, hi, e⟩ := at_take hx
              obtain ⟨j, hj⟩ := at_drop hy
              exact le_trans (le_of_lt (d1 i x hi e)) (sorted_at T.sa (by omega) eax hj)
            by_cases hp2 : m2 > 0
            · rw [if_pos hp2]
              by_cases z2 : kb + 1 + m2 = b.size
              · rw [if_pos (by simpa using z2)]
                exact wpS_pure ⟨_, rfl, .inl ⟨_, rfl, doneB _ _ _ M5 z2⟩⟩
              rw [if_neg (by simpa using z2)]
              have hky : kb + 1 + m2 < b.size := by omega
              obtain ⟨py, eby⟩ : ∃ p, b[kb + 1 + m2]? = some p := ⟨_, Array.getElem?_eq_getElem hky⟩
              have hle := d2 m2 _ (Nat.le_refl _) (by omega) eby
              refine wpS_bind (wpS_elem eax ?_)
              have M6 := pA ((out2 ++ a.extract ka (ka + m)).push pb ++ b.extract (kb + 1) (kb + 1 + m2)) (ka + m) (kb + 1 + m2) _ _ M5 eax eby hle
              by_cases z3 : (ka + m) + 1 + 1 = a.size
              · rw [if_pos (by simpa using z3)]
                exact wpS_pure ⟨_, rfl, .inl ⟨_, rfl, doneL _ _ _ M6 z3⟩⟩
              rw [if_neg (by simpa using z3)]
              split
              · exact wpS_pure ⟨_, rfl, .inr ⟨_, _, _, _, _, _, rfl, M6, by omega, hky, by omega⟩⟩
              · exact wpS_pure ⟨_, _, _, _, _, _, _, rfl, rfl, M6, by omega, hky, by omega⟩
            · rw [if_neg hp2]
              have hky : kb + 1 < b.size := by omega
              obtain ⟨py, eby⟩ : ∃ p, b[kb + 1]? = some p := ⟨_, Array.getElem?_eq_getElem hky⟩
              have hle := d2 0 _ (by omega) (by omega) (by rw [Nat.add_zero]; exact eby)
              refine wpS_bind (wpS_elem eax ?_)
              have M6 := pA ((out2 ++ a.extract ka (ka + m)).push pb) (ka + m) (kb + 1) _ _ M4 eax eby hle
              by_cases z3 : (ka + m) + 1 + 1 = a.size
              · rw [if_pos (by simpa using z3)]
                exact wpS_pure ⟨_, rfl, .inl ⟨_, rfl, doneL _ _ _ M6 z3⟩⟩
              rw [if_neg (by simpa using z3)]
              split
              · exact wpS_pure ⟨_, rfl, .inr ⟨_, _, _, _, _, _, rfl, M6, by omega, hky, by omega⟩⟩
              · exact wpS_pure ⟨_, _, _, _, _, _, _, rfl, rfl, M6, by omega, hky, by omega⟩
          · rw [if_neg hp1]
            have eax := ea
            have hlt := c2 0 _ (by omega) (by omega) (by rw [Nat.add_zero]; exact ea)
            refine wpS_bind (wpS_elem eb ?_)
            have M4 := pB out2 ka kb _ _ M2 eax eb (le_of_lt hlt)
            by_cases z : kb + 1 = b.size
            · rw [if_pos (by simpa using z)]
              exact wpS_pure ⟨_, rfl, .inl ⟨_, rfl, doneB _ _ _ M4 z⟩⟩
            rw [if_neg (by simpa using z)]
            refine wpS_bind (wpS_elem eax ?_)
            have Sb : ∀ i, i < b.size - (kb + 1) → ∃ p, b[kb + 1 + i]? = some p ∧ C.S p := fun i hi => ⟨b[kb + 1 + i], Array.getElem?_eq_getElem (by omega), T.Sb _ (by simp)⟩
            refine wpS_bind (galL (hF _) (T.Sa _ (mem_at eax)) (by omega) Sb (fun i j p q hij hj e1 e2 => sorted_at T.sb (by omega) e1 e2) fun m2 hm2 d1 d2 => ?_)
            dsimp only
            have M5 : MI C a.toList b.toList (out2.push pb ++ b.extract (kb + 1) (kb + 1 + m2)).toList ka (kb + 1 + m2) := by
              rw [Array.toList_append, ext_k]
              refine M4.pushB m2 (by simp; omega) T.sb fun x hx y hy => ?_
              obtain ⟨i, hi, e⟩ := at_take hx
              obtain ⟨j, hj⟩ := at_drop hy
              exact le_trans (le_of_lt (d1 i x hi e)) (sorted_at T.sa (by omega) eax hj)
            by_cases hp2 : m2 > 0
            · rw [if_pos hp2]
              by_cases z2 : kb + 1 + m2 = b.size
              · rw [if_pos (by simpa using z2)]
                exact wpS_pure ⟨_, rfl, .inl ⟨_, rfl, doneB _ _ _ M5 z2⟩⟩
              rw [if_neg (by simpa using z2)]
              have hky : kb + 1 + m2 < b.size := by omega
              obtain ⟨py, eby⟩ : ∃ p, b[kb + 1 + m2]? = some p := ⟨_, Array.getElem?_eq_getElem hky⟩
              have hle := d2 m2 _ (Nat.le_refl _) (by omega) eby
              refine wpS_bind (wpS_elem eax ?_)
              have M6 := pA (out2.push pb ++ b.extract (kb + 1) (kb + 1 + m2)) ka (kb + 1 + m2) _ _ M5 eax eby hle
              by_cases z3 : ka + 1 + 1 = a.size
              · rw [if_pos (by simpa using z3)]
                exact wpS_pure ⟨_, rfl, .inl ⟨_, rfl, doneL _ _ _ M6 z3⟩⟩
              rw [if_neg (by simpa using z3)]
              split
              · exact wpS_pure ⟨_, rfl, .inr ⟨_, _, _, _, _, _, rfl, M6, by omega, hky, by omega⟩⟩
              · exact wpS_pure ⟨_, _, _, _, _, _, _, rfl, rfl, M6, by omega, hky, by omega⟩
            · rw [if_neg hp2]
              have hky : kb + 1 < b.size := by omega
              obtain ⟨py, eby⟩ : ∃ p, b[kb + 1]? = some p := ⟨_, Array.getElem?_eq_getElem hky⟩
              have hle := d2 0 _ (by omega) (by omega) (by rw [Nat.add_zero]; exact eby)
              refine wpS_bind (wpS_elem eax ?_)
              have M6 := pA (out2.push pb) ka (kb + 1) _ _ M4 eax eby hle
              by_cases z3 : ka + 1 + 1 = a.size
              · rw [if_pos (by simpa using z3)]
                exact wpS_pure ⟨_, rfl, .inl ⟨_, rfl, doneL _ _ _ M6 z3⟩⟩
              rw [if_neg (by simpa using z3)]
              split
              · exact wpS_pure ⟨_, rfl, .inr ⟨_, _, _, _, _, _, rfl, M6, by omega, hky, by omega⟩⟩
              · exact wpS_pure ⟨_, _, _, _, _, _, _, rfl, rfl, M6, by omega, hky, by omega⟩
        · rw [if_neg hmg]
          refine wpS_bind (wpS_modify ?_)
          refine wpS_bind (wpS_elem eb ?_)
          refine wpS_bind (galR (hF _) (T.Sb _ (mem_at eb)) (by omega) Sa (fun i j p q hij hj e1 e2 => sorted_at T.sa (by omega) e1 e2) fun m hm c1 c2 => ?_)
          dsimp only
          have M3 : MI C a.toList b.toList (out2 ++ a.extract ka (ka + m)).toList (ka + m) kb := by
            rw [Array.toList_append, ext_k]
            refine M2.pushA m (by simp; omega) T.sa fun x hx y hy => ?_
            obtain ⟨i, hi, e⟩ := at_take hx
            obtain ⟨j, hj⟩ := at_drop hy
            exact le_trans (c1 i x hi e) (sorted_at T.sb (by omega) eb hj)
          by_cases hp1 : m > 0
          · rw [if_pos hp1]
            by_cases z0 : ka + m + 1 = a.size
            · rw [if_pos (by simpa using z0)]
              exact wpS_pure ⟨_, rfl, .inl ⟨_, rfl, doneL _ _ _ M3 z0⟩⟩
            rw [if_neg (by simpa using z0)]
            by_cases z1 : ka + m = a.size
            · rw [if_pos (by simpa using z1)]
              exact wpS_pure ⟨_, rfl, .inl ⟨_, rfl, doneA _ _ _ M3 z1⟩⟩
            rw [if_neg (by simpa using z1)]
            obtain ⟨px, eax⟩ : ∃ p, a[ka + m]? = some p := ⟨_, Array.getElem?_eq_getElem (by omega)⟩
            have hlt := c2 m _ (Nat.le_refl _) (by omega) eax
            refine wpS_bind (wpS_elem eb ?_)
            have M4 := pB (out2 ++ a.extract ka (ka + m)) (ka + m) kb _ _ M3 eax eb (le_of_lt hlt)
            by_cases z : kb + 1 = b.size
            · rw [if_pos (by simpa using z)]
              exact wpS_pure ⟨_, rfl, .inl ⟨_, rfl, doneB _ _ _ M4 z⟩⟩
            rw [if_neg (by simpa using z)]
            refine wpS_bind (wpS_elem eax ?_)
            have Sb : ∀ i, i < b.size - (kb + 1) → ∃ p, b[kb + 1 + i]? = some p ∧ C.S p := fun i hi => ⟨b[kb + 1 + i], Array.getElem?_eq_getElem (by omega), T.Sb _ (by simp)⟩
            refine wpS_bind (galL (hF _) (T.Sa _ (mem_at eax)) (by omega) Sb (fun i j p q hij hj e1 e2 => sorted_at T.sb (by omega) e1 e2) fun m2 hm2 d1 d2 => ?_)
            dsimp only
            have M5 : MI C a.toList b.toList ((out2 ++ a.extract ka (ka + m)).push pb ++ b.extract (kb + 1) (kb + 1 + m2)).toList (ka + m) (kb + 1 + m2) := by
              rw [Array.toList_append, ext_k]
              refine M4.pushB m2 (by simp; omega) T.sb fun x hx y hy => ?_
              obtain ⟨i, hi, e⟩ := at_take hx
              obtain ⟨j, hj⟩ := at_drop hy
              exact le_trans (le_of_lt (d1 i x hi e)) (sorted_at T.sa (by omega) eax hj)
            by_cases hp2 : m2 > 0
            · rw [if_pos hp2]
              by_cases z2 : kb + 1 + m2 = b.size
              · rw [if_pos (by simpa using z2)]
                exact wpS_pure ⟨_, rfl, .inl ⟨_, rfl, doneB _ _ _ M5 z2⟩⟩
              rw [if_neg (by simpa using z2)]
              have hky : kb + 1 + m2 < b.size := by omega
              obtain ⟨py, eby⟩ : ∃ p, b[kb + 1 + m2]? = some p := ⟨_, Array.getElem?_eq_getElem hky⟩
              have hle := d2 m2 _ (Nat.le_refl _) (by omega) eby
              refine wpS_bind (wpS_elem eax ?_)
              have M6 := pA ((out2 ++ a.extract ka (ka + m)).push pb ++ b.extract (kb + 1) (kb + 1 + m2)) (ka + m) (kb + 1 + m2) _ _ M5 eax eby hle
              by_cases z3 : (ka + m) + 1 + 1 = a.size
              · rw [if_pos (by simpa using z3)]
                exact wpS_pure ⟨_, rfl, .inl ⟨_, rfl, doneL _ _ _ M6 z3⟩⟩
              rw [if_neg (by simpa using z3)]
              split
              · exact wpS_pure ⟨_, rfl, .inr ⟨_, _, _, _, _, _, rfl, M6, by omega, hky, by omega⟩⟩
              · exact wpS_pure ⟨_, _, _, _, _, _, _, rfl, rfl, M6, by omega, hky, by omega⟩
            · rw [if_neg hp2]
              have hky : kb + 1 < b.size := by omega
              obtain ⟨py, eby⟩ : ∃ p, b[kb + 1]? = some p := ⟨_, Array.getElem?_eq_getElem hky⟩
              have hle := d2 0 _ (by omega) (by omega) (by rw [Nat.add_zero]; exact eby)
              refine wpS_bind (wpS_elem eax ?_)
              have M6 := pA ((out2 ++ a.extract ka (ka + m)).push pb) (ka + m) (kb + 1) _ _ M4 eax eby hle
              by_cases z3 : (ka + m) + 1 + 1 = a.size
              · rw [if_pos (by simpa using z3)]
                exact wpS_pure ⟨_, rfl, .inl ⟨_, rfl, doneL _ _ _ M6 z3⟩⟩
              rw [if_neg (by simpa using z3)]
              split
              · exact wpS_pure ⟨_, rfl, .inr ⟨_, _, _, _, _, _, rfl, M6, by omega, hky, by omega⟩⟩
              · exact wpS_pure ⟨_, _, _, _, _, _, _, rfl, rfl, M6, by omega, hky, by omega⟩
          · rw [if_neg hp1]
            have eax := ea
            have hlt := c2 0 _ (by omega) (by omega) (by rw [Nat.add_zero]; exact ea)
            refine wpS_bind (wpS_elem eb ?_)
            have M4 := pB out2 ka kb _ _ M2 eax eb (le_of_lt hlt)
            by_cases z : kb + 1 = b.size
            · rw [if_pos (by simpa using z)]
              exact wpS_pure ⟨_, rfl, .inl ⟨_, rfl, doneB _ _ _ M4 z⟩⟩
            rw [if_neg (by simpa using z)]
            refine wpS_bind (wpS_elem eax ?_)
            have Sb : ∀ i, i < b.size - (kb + 1) → ∃ p, b[kb + 1 + i]? = some p ∧ C.S p := fun i hi => ⟨b[kb + 1 + i], Array.getElem?_eq_getElem (by omega), T.Sb _ (by simp)⟩
            refine wpS_bind (galL (hF _) (T.Sa _ (mem_at eax)) (by omega) Sb (fun i j p q hij hj e1 e2 => sorted_at T.sb (by omega) e1 e2) fun m2 hm2 d1 d2 => ?_)
            dsimp only
            have M5 : MI C a.toList b.toList (out2.push pb ++ b.extract (kb + 1) (kb + 1 + m2)).toList ka (kb + 1 + m2) := by
              rw [Array.toList_append, ext_k]
              refine M4.pushB m2 (by simp; omega) T.sb fun x hx y hy => ?_
              obtain ⟨i, hi, e⟩ := at_take hx
              obtain ⟨j, hj⟩ := at_drop hy
              exact le_trans (le_of_lt (d1 i x hi e)) (sorted_at T.sa (by omega) eax hj)
            by_cases hp2 : m2 > 0
            · rw [if_pos hp2]
              by_cases z2 : kb + 1 + m2 = b.size
              · rw [if_pos (by simpa using z2)]
                exact wpS_pure ⟨_, rfl, .inl ⟨_, rfl, doneB _ _ _ M5 z2⟩⟩
              rw [if_neg (by simpa using z2)]
              have hky : kb + 1 + m2 < b.size := by omega
              obtain ⟨py, eby⟩ : ∃ p, b[kb + 1 + m2]? = some p := ⟨_, Array.getElem?_eq_getElem hky⟩
              have hle := d2 m2 _ (Nat.le_refl _) (by omega) eby
              refine wpS_bind (wpS_elem eax ?_)
              have M6 := pA (out2.push pb ++ b.extract (kb + 1) (kb + 1 + m2)) ka (kb + 1 + m2) _ _ M5 eax eby hle
              by_cases z3 : ka + 1 + 1 = a.size
              · rw [if_pos (by simpa using z3)]
                exact wpS_pure ⟨_, rfl, .inl ⟨_, rfl, doneL _ _ _ M6 z3⟩⟩
              rw [if_neg (by simpa using z3)]
              split
              · exact wpS_pure ⟨_, rfl, .inr ⟨_, _, _, _, _, _, rfl, M6, by omega, hky, by omega⟩⟩
              · exact wpS_pure ⟨_, _, _, _, _, _, _, rfl, rfl, M6, by omega, hky, by omega⟩
            · rw [if_neg hp2]
              have hky : kb + 1 < b.size := by omega
              obtain ⟨py, eby⟩ : ∃ p, b[kb + 1]? = some p := ⟨_, Array.getElem?_eq_getElem hky⟩
              have hle := d2 0 _ (by omega) (by omega) (by rw [Nat.add_zero]; exact eby)
              refine wpS_bind (wpS_elem eax ?_)
              have M6 := pA (out2.push pb) ka (kb + 1) _ _ M4 eax eby hle
              by_cases z3 : ka + 1 + 1 = a.size
              · rw [if_pos (by simpa using z3)]
                exact wpS_pure ⟨_, rfl, .inl ⟨_, rfl, doneL _ _ _ M6 z3⟩⟩
              rw [if_neg (by simpa using z3)]
              split
              · exact wpS_pure ⟨_, rfl, .inr ⟨_, _, _, _, _, _, rfl, M6, by omega, hky, by omega⟩⟩
              · exact wpS_pure ⟨_, _, _, _, _, _, _, rfl, rfl, M6, by omega, hky, by omega⟩
end
end Tim

set_option Elab.async false
set_option linter.all false
set_option maxRecDepth 100000
set_option maxHeartbeats 1000000
namespace Tim
open PySem PyProof.Rows
section
variable {prog : Program} {w : World} {A : Around} {E : Value → Shared → Prop} {s : Shared}
/-- two sorted rows a, b are being put together from behind: r is what came out -/
structure HI (C : Cmp prog w A E s) (a b r : List Keyed) (na nb : Nat) : Prop where
  la : na ≤ a.length
  lb : nb ≤ b.length
  pm : r.Perm (a.drop na ++ b.drop nb)
  so : r.Pairwise (le C)
  xa : ∀ x ∈ a.take na, ∀ y ∈ r, le C x y
  xb : ∀ x ∈ b.take nb, ∀ y ∈ r, le C x y
section
variable {C : Cmp prog w A E s} {a b r : List Keyed} {na nb : Nat}
theorem take_cut {α : Type} (xs : List α) {m n : Nat} (h : m ≤ n) : xs.take n = xs.take m ++ (xs.take n).drop m := by
  have z := List.take_append_drop m (xs.take n)
  rw [List.take_take, Nat.min_eq_left h] at z
  exact z.symm
theorem drop_cut2 {α : Type} (xs : List α) {m n : Nat} (h : m ≤ n) : xs.drop m = (xs.take n).drop m ++ xs.drop n := by
  have z := congrArg (List.drop m) (List.take_append_drop n xs)
  rw [List.drop_append] at z
  rw [← z]
  by_cases hl : n ≤ xs.length
  · rw [List.length_take, Nat.min_eq_left hl, Nat.sub_eq_zero_of_le h, List.drop_zero]
  · rw [List.drop_of_length_le (by omega : xs.length ≤ n), List.drop_nil]
theorem HI.pushA (h : HI C a b r na nb) (m : Nat) (hm : m ≤ na) (sa : a.Pairwise (le C)) (c : ∀ x ∈ b.take nb, ∀ y ∈ (a.take na).drop m, le C x y) : HI C a b ((a.take na).drop m ++ r) m nb := by
  have sd : (a.take na).Pairwise (le C) := sa.sublist (List.take_sublist _ _)
  rw [take_cut a hm, List.pairwise_append] at sd
  refine ⟨Nat.le_trans hm h.la, h.lb, ?_, ?_, ?_, ?_⟩
  · rw [drop_cut2 a hm, List.append_assoc]
    exact h.pm.append_left _
  · rw [List.pairwise_append]
    exact ⟨sd.2.1, h.so, fun x hx y hy => h.xa x (List.mem_of_mem_drop hx) y hy⟩
  · intro x hx y hy
    rcases List.mem_append.mp hy with hy | hy
    · exact sd.2.2 x hx y hy
    · exact h.xa x (by rw [take_cut a hm]; exact List.mem_append_left _ hx) y hy
  · intro x hx y hy
    rcases List.mem_append.mp hy with hy | hy
    · exact c x hx y hy
    · exact h.xb x hx y hy
theorem HI.pushB (h : HI C a b r na nb) (m : Nat) (hm : m ≤ nb) (sb : b.Pairwise (le C)) (c : ∀ x ∈ a.take na, ∀ y ∈ (b.take nb).drop m, le C x y) : HI C a b ((b.take nb).drop m ++ r) na m := by
  have sd : (b.take nb).Pairwise (le C) := sb.sublist (List.take_sublist _ _)
  rw [take_cut b hm, List.pairwise_append] at sd
  refine ⟨h.la, Nat.le_trans hm h.lb, ?_, ?_, ?_, ?_⟩
  · rw [drop_cut2 b hm]
    refine (h.pm.append_left _).trans ?_
    rw [← List.append_assoc, ← List.append_assoc]
    exact List.perm_append_comm.append_right _
  · rw [List.pairwise_append]
    exact ⟨sd.2.1, h.so, fun x hx y hy => h.xb x (List.mem_of_mem_drop hx) y hy⟩
  · intro x hx y hy
    rcases List.mem_append.mp hy with hy | hy
    · exact c x hx y hy
    · exact h.xa x hx y hy
  · intro x hx y hy
    rcases List.mem_append.mp hy with hy | hy
    · exact sd.2.2 x hx y hy
    · exact h.xb x (by rw [take_cut b hm]; exact List.mem_append_left _ hx) y hy
theorem HI.all (h : HI C a b r na nb) (sa : a.Pairwise (le C)) (sb : b.Pairwise (le C)) (c : ∀ x ∈ a.take na, ∀ y ∈ b.take nb, le C x y) : Mgd C a b (a.take na ++ b.take nb ++ r) := by
  have z := h.pushB 0 (Nat.zero_le _) sb (fun x hx y hy => c x hx y (by rwa [List.drop_zero] at hy))
  have y := z.pushA 0 (Nat.zero_le _) sa (fun x hx _ _ => by rw [List.take_zero] at hx; cases hx)
  rw [List.drop_zero, List.drop_zero, ← List.append_assoc] at y
  exact ⟨by have := y.pm; rwa [List.drop_zero, List.drop_zero] at this, y.so⟩
theorem HI.allB (h : HI C a b r na nb) (sa : a.Pairwise (le C)) (sb : b.Pairwise (le C)) (c : ∀ x ∈ b.take nb, ∀ y ∈ a.take na, le C x y) : Mgd C a b (b.take nb ++ a.take na ++ r) := by
  have z := h.pushA 0 (Nat.zero_le _) sa (fun x hx y hy => c x hx y (by rwa [List.drop_zero] at hy))
  have y := z.pushB 0 (Nat.zero_le _) sb (fun x hx _ _ => by rw [List.take_zero] at hx; cases hx)
  rw [List.drop_zero, List.drop_zero, ← List.append_assoc] at y
  exact ⟨by have := y.pm; rwa [List.drop_zero, List.drop_zero] at this, y.so⟩
end
theorem ext_to (a : Array Keyed) (n : Nat) : (a.extract 0 n).toList = a.toList.take n := by
  rw [Array.toList_extract, List.extract_eq_drop_take]
  simp
theorem ext_mn (a : Array Keyed) (m n : Nat) : (a.extract m n).toList = (a.toList.take n).drop m := by
  rw [Array.toList_extract, List.extract_eq_drop_take, List.drop_take]
theorem one_h {xs : Array Keyed} {n : Nat} {p : Keyed} (e : xs[n]? = some p) : (xs.toList.take (n + 1)).drop n = [p] := by
  rw [List.drop_take, Nat.add_sub_cancel_left, one_k e]
theorem at_pre {xs : Array Keyed} {n : Nat} {y : Keyed} (h : y ∈ xs.toList.take n) : ∃ j, j < n ∧ xs[j]? = some y := by
  obtain ⟨j, h1, h2⟩ := at_take (i := 0) (k := n) (by rwa [List.drop_zero])
  exact ⟨j, h1, by rwa [Nat.zero_add] at h2⟩
theorem at_mid {xs : Array Keyed} {m n : Nat} {y : Keyed} (h : y ∈ (xs.toList.take n).drop m) : ∃ j, m ≤ j ∧ j < n ∧ xs[j]? = some y := by
  rw [List.drop_take] at h
  obtain ⟨j, h1, h2⟩ := at_take h
  exact ⟨m + j, by omega, by omega, h2⟩
theorem Two.high {C : Cmp prog w A E s} {a b : Array Keyed} {a0 b0 aL bL : Keyed} (T : Two C a b a0 b0 aL bL) {y : Keyed} (h : y ∈ a.toList) : le C b0 y := by
  obtain ⟨j, hj⟩ := List.getElem?_of_mem h
  exact le_trans (le_of_lt T.first) (sorted_at T.sa (Nat.zero_le j) T.ea (by simpa using hj))
theorem mhi_ok {C : Cmp prog w A E s} {a b : Array Keyed} {a0 b0 aL bL : Keyed} {st : SortSt} {Q : Array Keyed → SortSt → Prop} (hF : ∀ (g : Nat), C.F (sg st g)) (T : Two C a b a0 b0 aL bL)
    (h : ∀ r g, Mgd C a.toList b.toList r.toList → Q r (sg st g)) : wpS (model prog w) A E s (mhi a b) Q st := by
  have pa := T.na
  have pb := T.nb
  have doneA : ∀ (out : Array Keyed) (na nb : Nat), HI C a.toList b.toList out.toList.reverse na nb → na = 0 → Mgd C a.toList b.toList (a.extract 0 na ++ b.extract 0 nb ++ out.reverse).toList := fun out na nb M e => by
    rw [Array.toList_append, Array.toList_append, ext_to, ext_to, Array.toList_reverse]
    exact M.all T.sa T.sb fun x hx => by rw [e, List.take_zero] at hx; cases hx
  have doneB : ∀ (out : Array Keyed) (na nb : Nat), HI C a.toList b.toList out.toList.reverse na nb → nb = 0 → Mgd C a.toList b.toList (a.extract 0 na ++ b.extract 0 nb ++ out.reverse).toList := fun out na nb M e => by
    rw [Array.toList_append, Array.toList_append, ext_to, ext_to, Array.toList_reverse]
    exact M.all T.sa T.sb fun x _ y hy => by rw [e, List.take_zero] at hy; cases hy
  have done1 : ∀ (out : Array Keyed) (na nb : Nat), HI C a.toList b.toList out.toList.reverse na nb → nb = 1 → Mgd C a.toList b.toList (b.extract 0 nb ++ a.extract 0 na ++ out.reverse).toList := fun out na nb M e => by
    rw [Array.toList_append, Array.toList_append, ext_to, ext_to, Array.toList_reverse]
    refine M.allB T.sa T.sb fun x hx y hy => ?_
    have z := one_h T.eb
    rw [List.drop_zero] at z
    rw [e, z] at hx
    rw [List.mem_singleton.mp hx]
    exact T.high (List.mem_of_mem_take hy)
  have cA : ∀ (out : Array Keyed) (na nb m : Nat), HI C a.toList b.toList out.toList.reverse na nb → m ≤ na → (∀ x ∈ b.toList.take nb, ∀ y ∈ (a.toList.take na).drop m, le C x y) → HI C a.toList b.toList (out ++ (a.extract m na).reverse).toList.reverse m nb := fun out na nb m M hm c => by
    rw [Array.toList_append, Array.toList_reverse, ext_mn, List.reverse_append, List.reverse_reverse]
    exact M.pushA m hm T.sa c
  have cB : ∀ (out : Array Keyed) (na nb m : Nat), HI C a.toList b.toList out.toList.reverse na nb → m ≤ nb → (∀ x ∈ a.toList.take na, ∀ y ∈ (b.toList.take nb).drop m, le C x y) → HI C a.toList b.toList (out ++ (b.extract m nb).reverse).toList.reverse na m := fun out na nb m M hm c => by
    rw [Array.toList_append, Array.toList_reverse, ext_mn, List.reverse_append, List.reverse_reverse]
    exact M.pushB m hm T.sb c
  have pA : ∀ (out : Array Keyed) (na nb : Nat) (p : Keyed), HI C a.toList b.toList out.toList.reverse na nb → 0 < na → a[na - 1]? = some p → (∀ x ∈ b.toList.take nb, le C x p) → HI C a.toList b.toList (out.push p).toList.reverse (na - 1) nb := fun out na nb p M hn e c => by
    rw [Array.toList_push, List.reverse_append]
    have z := one_h e
    rw [Nat.sub_add_cancel hn] at z
    have y := M.pushA (na - 1) (Nat.sub_le _ _) T.sa fun x hx y hy => by
      rw [z] at hy
      rw [List.mem_singleton.mp hy]
      exact c x hx
    rw [z] at y
    exact y
  have pB : ∀ (out : Array Keyed) (na nb : Nat) (p : Keyed), HI C a.toList b.toList out.toList.reverse na nb → 0 < nb → b[nb - 1]? = some p → (∀ x ∈ a.toList.take na, le C x p) → HI C a.toList b.toList (out.push p).toList.reverse na (nb - 1) := fun out na nb p M hn e c => by
    rw [Array.toList_push, List.reverse_append]
    have z := one_h e
    rw [Nat.sub_add_cancel hn] at z
    have y := M.pushB (nb - 1) (Nat.sub_le _ _) T.sb fun x hx y hy => by
      rw [z] at hy
      rw [List.mem_singleton.mp hy]
      exact c x hx
    rw [z] at y
    exact y
  have uA : ∀ (n : Nat) (p q : Keyed), a[n - 1]? = some p → le C p q → ∀ x ∈ a.toList.take n, le C x q := fun n p q e c x hx => by
    obtain ⟨j, hj, ej⟩ := at_pre hx
    exact le_trans (sorted_at T.sa (by omega) ej e) c
  have uB : ∀ (n : Nat) (p q : Keyed), b[n - 1]? = some p → le C p q → ∀ x ∈ b.toList.take n, le C x q := fun n p q e c x hx => by
    obtain ⟨j, hj, ej⟩ := at_pre hx
    exact le_trans (sorted_at T.sb (by omega) ej e) c
  have M0 : HI C a.toList b.toList (#[aL] : Array Keyed).toList.reverse (a.size - 1) b.size := by
    have z : HI C a.toList b.toList (#[] : Array Keyed).toList.reverse a.size b.size := ⟨by simp, by simp, by simp, .nil, (fun x _ y hy => by cases hy), fun x _ y hy => by cases hy⟩
    exact pA #[] a.size b.size aL z pa T.eA fun x hx => T.low (List.mem_of_mem_take hx)
  refine wpS_bind (wpS_lift (wpAny_rule ⟨rfl, ?_⟩))
  dsimp only
  refine wpS_bind (wpS_elem T.eA ?_)
  by_cases h1 : a.size - 1 = 0
  · rw [if_pos (by simpa using h1)]
    have z := doneA _ _ _ M0 h1
    exact wpS_pure (h _ (gallopOf st) (by rw [show b.extract = b.extract 0 b.size from rfl]; exact z))
  rw [if_neg (by simpa using h1)]
  by_cases h2 : b.size = 1
  · rw [if_pos (by simpa using h2)]
    have z := done1 _ _ _ M0 h2
    exact wpS_pure (h _ (gallopOf st) (by rw [show b.extract = b.extract 0 b.size from rfl]; exact z))
  rw [if_neg (by simpa using h2)]
  refine wpS_bind (wpS_get ?_)
  refine wpS_bind (wpS_mono (wpS_forRange (I := fun x c st' => ∃ (out : Array Keyed) (na nb mg g : Nat), c = (none, na, nb, out, mg) ∧ st' = sg st g ∧ HI C a.toList b.toList out.toList.reverse na nb ∧ 0 < na ∧ 1 < nb ∧ x + 1 + na + nb ≤ a.size + b.size)
    (Q := fun c st' => ∃ (r : Array Keyed) (g : Nat), c.1 = some r ∧ st' = sg st g ∧ Mgd C a.toList b.toList r.toList) ?oS ?oE ⟨#[aL], a.size - 1, b.size, _, gallopOf st, rfl, rfl, M0, by omega, by omega, by omega⟩) ?oP)
  case oP =>
    rintro ⟨c1, c2⟩ st' ⟨r, g, rfl, rfl, M⟩
    exact wpS_pure (h r g M)
  case oE =>
    rintro c st' ⟨out, na, nb, mg, g, rfl, rfl, M, q1, q2, q3⟩
    omega
  case oS =>
    rintro x c st' _ hx ⟨out, na, nb, mg, g, rfl, rfl, M, q1, q2, q3⟩
    dsimp only
    refine wpS_bind (wpS_mono (wpS_forRange (I := fun y c st' => ∃ (out1 : Array Keyed) (ja jb ac bc : Nat), c = (none, ja, jb, out1, ac, bc) ∧ st' = sg st g ∧ HI C a.toList b.toList out1.toList.reverse ja jb ∧ 0 < ja ∧ 1 < jb ∧ ja + jb + y ≤ na + nb)
      (Q := fun c st' => st' = sg st g ∧ ((∃ (r : Array Keyed), c.1 = some r ∧ Mgd C a.toList b.toList r.toList) ∨ ∃ (out1 : Array Keyed) (ja jb ac bc : Nat), c = (none, ja, jb, out1, ac, bc) ∧ HI C a.toList b.toList out1.toList.reverse ja jb ∧ 0 < ja ∧ 1 < jb ∧ ja + jb + 1 ≤ na + nb)) ?s1 ?e1 ⟨out, na, nb, 0, 0, rfl, rfl, M, q1, q2, by omega⟩) ?p1)
    case e1 =>
      rintro c st' ⟨out1, ja, jb, ac, bc, rfl, rfl, M1, r1, r2, r3⟩
      exact ⟨rfl, .inr ⟨out1, ja, jb, ac, bc, rfl, M1, r1, r2, by omega⟩⟩
    case s1 =>
      rintro y c st' _ hy ⟨out1, ja, jb, ac, bc, rfl, rfl, M1, r1, r2, r3⟩
      have l1 := M1.la
      have l2 := M1.lb
      rw [Array.length_toList] at l1 l2
      obtain ⟨qa, ea⟩ : ∃ p, a[ja - 1]? = some p := ⟨_, Array.getElem?_eq_getElem (by omega)⟩
      obtain ⟨qb, eb⟩ : ∃ p, b[jb - 1]? = some p := ⟨_, Array.getElem?_eq_getElem (by omega)⟩
      dsimp only
      refine wpS_bind (wpS_elem eb (wpS_bind (wpS_elem ea (wpS_bind (C.ok _ _ _ _ (hF g) (T.Sb _ (mem_at eb)) (T.Sa _ (mem_at ea)) ?_)))))
      dsimp only
      cases e0 : C.O.blt (C.key qb) (C.key qa) with
      | true =>
        rw [if_pos rfl]
        refine wpS_bind (wpS_elem ea ?_)
        have M2 := pA out1 ja jb _ M1 r1 ea (uB jb _ _ eb (le_of_lt e0))
        by_cases z : ja - 1 = 0
        · rw [if_pos (by simpa using z)]
          exact wpS_pure ⟨rfl, .inl ⟨_, rfl, doneA _ _ _ M2 z⟩⟩
        · rw [if_neg (by simpa using z)]
          split
          · exact wpS_pure ⟨rfl, .inr ⟨_, _, _, _, _, rfl, M2, by omega, r2, by omega⟩⟩
          · exact wpS_pure ⟨_, _, _, _, _, rfl, rfl, M2, by omega, r2, by omega⟩
      | false =>
        rw [if_neg Bool.false_ne_true]
        refine wpS_bind (wpS_elem eb ?_)
        have M2 := pB out1 ja jb _ M1 (by omega) eb (uA ja _ _ ea (le_of_not e0))
        by_cases z : jb - 1 = 1
        · rw [if_pos (by simpa using z)]
          exact wpS_pure ⟨rfl, .inl ⟨_, rfl, done1 _ _ _ M2 z⟩⟩
        · rw [if_neg (by simpa using z)]
          split
          · exact wpS_pure ⟨rfl, .inr ⟨_, _, _, _, _, rfl, M2, r1, by omega, by omega⟩⟩
          · exact wpS_pure ⟨_, _, _, _, _, rfl, rfl, M2, r1, by omega, by omega⟩
    case p1 =>
      rintro ⟨c1, c2⟩ st' ⟨rfl, ⟨r, rfl, Mr⟩ | ⟨out1, ja, jb, ac, bc, e, M1, r1, r2, r3⟩⟩
      · exact wpS_pure ⟨r, g, rfl, rfl, Mr⟩
      cases e
      dsimp only
      refine wpS_bind (wpS_lift (wpAny_rule ⟨rfl, ?_⟩))
      refine wpS_bind (wpS_mono (wpS_forRange (I := fun y c st' => ∃ (out2 : Array Keyed) (ka kb mg2 ac2 bc2 g2 : Nat), c = (none, ka, kb, out2, mg2, ac2, bc2) ∧ st' = sg st g2 ∧ HI C a.toList b.toList out2.toList.reverse ka kb ∧ 0 < ka ∧ 1 < kb ∧ ka + kb + 1 ≤ na + nb)
        (Q := fun c st' => ∃ g2, st' = sg st g2 ∧ ((∃ (r : Array Keyed), c.1 = some r ∧ Mgd C a.toList b.toList r.toList) ∨ ∃ (out2 : Array Keyed) (ka kb mg2 ac2 bc2 : Nat), c = (none, ka, kb, out2, mg2, ac2, bc2) ∧ HI C a.toList b.toList out2.toList.reverse ka kb ∧ 0 < ka ∧ 1 < kb ∧ ka + kb + 1 ≤ na + nb)) ?s2 ?e2 ⟨out1, ja, jb, _, _, _, g, rfl, rfl, M1, r1, r2, r3⟩) ?p2)
      case e2 =>
        rintro c st' ⟨out2, ka, kb, mg2, ac2, bc2, g2, rfl, rfl, M2, t1, t2, t3⟩
        exact ⟨g2, rfl, .inr ⟨out2, ka, kb, mg2, ac2, bc2, rfl, M2, t1, t2, t3⟩⟩
      case p2 =>
        rintro ⟨c1, c2⟩ st' ⟨g2, rfl, ⟨r, rfl, Mr⟩ | ⟨out2, ka, kb, mg2, ac2, bc2, e, M2, t1, t2, t3⟩⟩
        · exact wpS_pure ⟨r, g2, rfl, rfl, Mr⟩
        cases e
        dsimp only
        exact wpS_bind (wpS_modify (wpS_pure ⟨out2, ka, kb, _, _, rfl, rfl, M2, t1, t2, by omega⟩))
      case s2 =>
        rintro y c st' _ hy ⟨out2, ka, kb, mg2, ac2, bc2, g2, rfl, rfl, M2, t1, t2, t3⟩
        have l1 := M2.la
        have l2 := M2.lb
        rw [Array.length_toList] at l1 l2
        obtain ⟨qb, eb⟩ : ∃ p, b[kb - 1]? = some p := ⟨_, Array.getElem?_eq_getElem (by omega)⟩
        have Sa : ∀ i, i < ka → ∃ p, a[0 + i]? = some p ∧ C.S p := fun i hi => ⟨a[0 + i], Array.getElem?_eq_getElem (by omega), T.Sa _ (by simp)⟩
        have Sb : ∀ i, i < kb - 1 → ∃ p, b[0 + i]? = some p ∧ C.S p := fun i hi => ⟨b[0 + i], Array.getElem?_eq_getElem (by omega), T.Sb _ (by simp)⟩
        dsimp only
        by_cases hmg : mg2 > 1
        · rw [if_pos hmg]
          refine wpS_bind (wpS_modify ?_)
          refine wpS_bind (wpS_elem eb ?_)
          refine wpS_bind (galR (hF _) (T.Sb _ (mem_at eb)) (by omega) Sa (fun i j p q hij hj e1 e2 => sorted_at T.sa (by omega) e1 e2) fun m hm c1 c2 => ?_)
          dsimp only
          have hlt : ∀ n, n ≤ m → ∀ x ∈ a.toList.take n, le C x qb := fun n hn x hx => by
            obtain ⟨j, hj, ej⟩ := at_pre hx
            exact c1 j x (by omega) (by rw [Nat.zero_add]; exact ej)
          have M3 := cA out2 ka kb m M2 hm (fun x hx y hy => by
            obtain ⟨j, j1, j2, ej⟩ := at_mid hy
            obtain ⟨i, i1, ei⟩ := at_pre hx
            exact le_trans (sorted_at T.sb (by omega) ei eb) (le_of_lt (c2 j y j1 j2 (by rw [Nat.zero_add]; exact ej))))
          by_cases hp1 : ka - m > 0
          · rw [if_pos hp1]
            by_cases z1 : m = 0
            · rw [if_pos (by simpa using z1)]
              exact wpS_pure ⟨_, rfl, .inl ⟨_, rfl, doneA _ _ _ M3 z1⟩⟩
            rw [if_neg (by simpa using z1)]
            have hlt := hlt m (Nat.le_refl _)
            have hkx : 0 < m := by omega
            refine wpS_bind (wpS_elem eb ?_)
            have M4 := pB _ m kb _ M3 (by omega) eb hlt
            by_cases z : kb - 1 = 1
            · rw [if_pos (by simpa using z)]
              exact wpS_pure ⟨_, rfl, .inl ⟨_, rfl, done1 _ _ _ M4 z⟩⟩
            rw [if_neg (by simpa using z)]
            obtain ⟨px, eax⟩ : ∃ p, a[m - 1]? = some p := ⟨_, Array.getElem?_eq_getElem (by omega)⟩
            refine wpS_bind (wpS_elem eax ?_)
            refine wpS_bind (galL (hF _) (T.Sa _ (mem_at eax)) (by omega) Sb (fun i j p q hij hj e1 e2 => sorted_at T.sb (by omega) e1 e2) fun m2 hm2 d1 d2 => ?_)
            dsimp only
            have hle : ∀ n, n ≤ m2 → ∀ x ∈ b.toList.take n, le C x px := fun n hn x hx => by
              obtain ⟨j, hj, ej⟩ := at_pre hx
              exact le_of_lt (d1 j x (by omega) (by rw [Nat.zero_add]; exact ej))
            have M5 := cB _ m (kb - 1) m2 M4 hm2 (fun x hx y hy => by
              obtain ⟨j, j1, j2, ej⟩ := at_mid hy
              obtain ⟨i, i1, ei⟩ := at_pre hx
              exact le_trans (sorted_at T.sa (by omega) ei eax) (d2 j y j1 j2 (by rw [Nat.zero_add]; exact ej)))
            by_cases hp2 : kb - 1 - m2 > 0
            · rw [if_pos hp2]
              by_cases z2 : m2 = 1
              · rw [if_pos (by simpa using z2)]
                exact wpS_pure ⟨_, rfl, .inl ⟨_, rfl, done1 _ _ _ M5 z2⟩⟩
              rw [if_neg (by simpa using z2)]
              by_cases z4 : m2 = 0
              · rw [if_pos (by simpa using z4)]
                exact wpS_pure ⟨_, rfl, .inl ⟨_, rfl, doneB _ _ _ M5 z4⟩⟩
              rw [if_neg (by simpa using z4)]
              have hle := hle m2 (Nat.le_refl _)
              refine wpS_bind (wpS_elem eax ?_)
              have M6 := pA _ m m2 _ M5 hkx eax hle
              by_cases z3 : m - 1 = 0
              · rw [if_pos (by simpa using z3)]
                exact wpS_pure ⟨_, rfl, .inl ⟨_, rfl, doneA _ _ _ M6 z3⟩⟩
              rw [if_neg (by simpa using z3)]
              split
              · exact wpS_pure ⟨_, rfl, .inr ⟨_, _, _, _, _, _, rfl, M6, by omega, by omega, by omega⟩⟩
              · exact wpS_pure ⟨_, _, _, _, _, _, _, rfl, rfl, M6, by omega, by omega, by omega⟩
            · rw [if_neg hp2]
              have hle := hle (kb - 1) (by omega)
              refine wpS_bind (wpS_elem eax ?_)
              have M6 := pA _ m (kb - 1) _ M4 hkx eax hle
              by_cases z3 : m - 1 = 0
              · rw [if_pos (by simpa using z3)]
                exact wpS_pure ⟨_, rfl, .inl ⟨_, rfl, doneA _ _ _ M6 z3⟩⟩
              rw [if_neg (by simpa using z3)]
              split
              · exact wpS_pure ⟨_, rfl, .inr ⟨_, _, _, _, _, _, rfl, M6, by omega, by omega, by omega⟩⟩
              · exact wpS_pure ⟨_, _, _, _, _, _, _, rfl, rfl, M6, by omega, by omega, by omega⟩
          · rw [if_neg hp1]
            have hlt := hlt ka (by omega)
            have hkx := t1
            refine wpS_bind (wpS_elem eb ?_)
            have M4 := pB out2 ka kb _ M2 (by omega) eb hlt
            by_cases z : kb - 1 = 1
            · rw [if_pos (by simpa using z)]
              exact wpS_pure ⟨_, rfl, .inl ⟨_, rfl, done1 _ _ _ M4 z⟩⟩
            rw [if_neg (by simpa using z)]
            obtain ⟨px, eax⟩ : ∃ p, a[ka - 1]? = some p := ⟨_, Array.getElem?_eq_getElem (by omega)⟩
            refine wpS_bind (wpS_elem eax ?_)
            refine wpS_bind (galL (hF _) (T.Sa _ (mem_at eax)) (by omega) Sb (fun i j p q hij hj e1 e2 => sorted_at T.sb (by omega) e1 e2) fun m2 hm2 d1 d2 => ?_)
            dsimp only
            have hle : ∀ n, n ≤ m2 → ∀ x ∈ b.toList.take n, le C x px := fun n hn x hx => by
              obtain ⟨j, hj, ej⟩ := at_pre hx
              exact le_of_lt (d1 j x (by omega) (by rw [Nat.zero_add]; exact ej))
            have M5 := cB _ ka (kb - 1) m2 M4 hm2 (fun x hx y hy => by
              obtain ⟨j, j1, j2, ej⟩ := at_mid hy
              obtain ⟨i, i1, ei⟩ := at_pre hx
              exact le_trans (sorted_at T.sa (by omega) ei eax) (d2 j y j1 j2 (by rw [Nat.zero_add]; exact ej)))
            by_cases hp2 : kb - 1 - m2 > 0
            · rw [if_pos hp2]
              by_cases z2 : m2 = 1
              · rw [if_pos (by simpa using z2)]
                exact wpS_pure ⟨_, rfl, .inl ⟨_, rfl, done1 _ _ _ M5 z2⟩⟩
              rw [if_neg (by simpa using z2)]
              by_cases z4 : m2 = 0
              · rw [if_pos (by simpa using z4)]
                exact wpS_pure ⟨_, rfl, .inl ⟨_, rfl, doneB _ _ _ M5 z4⟩⟩
              rw [if_neg (by simpa using z4)]
              have hle := hle m2 (Nat.le_refl _)
              refine wpS_bind (wpS_elem eax ?_)
              have M6 := pA _ ka m2 _ M5 hkx eax hle
              by_cases z3 : ka - 1 = 0
              · rw [if_pos (by simpa using z3)]
                exact wpS_pure ⟨_, rfl, .inl ⟨_, rfl, doneA _ _ _ M6 z3⟩⟩
              rw [if_neg (by simpa using z3)]
              split
              · exact wpS_pure ⟨_, rfl, .inr ⟨_, _, _, _, _, _, rfl, M6, by omega, by omega, by omega⟩⟩
              · exact wpS_pure ⟨_, _, _, _, _, _, _, rfl, rfl, M6, by omega, by omega, by omega⟩
            · rw [if_neg hp2]
              have hle := hle (kb - 1) (by omega)
              refine wpS_bind (wpS_elem eax ?_)
              have M6 := pA _ ka (kb - 1) _ M4 hkx eax hle
              by_cases z3 : ka - 1 = 0
              · rw [if_pos (by simpa using z3)]
                exact wpS_pure ⟨_, rfl, .inl ⟨_, rfl, doneA _ _ _ M6 z3⟩⟩
              rw [if_neg (by simpa using z3)]
              split
              · exact wpS_pure ⟨_, rfl, .inr ⟨_, _, _, _, _, _, rfl, M6, by omega, by omega, by omega⟩⟩
              · exact wpS_pure ⟨_, _, _, _, _, _, _, rfl, rfl, M6, by omega, by omega, by omega⟩
        · rw [if_neg hmg]
          refine wpS_bind (wpS_modify ?_)
          refine wpS_bind (wpS_elem eb ?_)
          refine wpS_bind (galR (hF _) (T.Sb _ (mem_at eb)) (by omega) Sa (fun i j p q hij hj e1 e2 => sorted_at T.sa (by omega) e1 e2) fun m hm c1 c2 => ?_)
          dsimp only
          have hlt : ∀ n, n ≤ m → ∀ x ∈ a.toList.take n, le C x qb := fun n hn x hx => by
            obtain ⟨j, hj, ej⟩ := at_pre hx
            exact c1 j x (by omega) (by rw [Nat.zero_add]; exact ej)
          have M3 := cA out2 ka kb m M2 hm (fun x hx y hy => by
            obtain ⟨j, j1, j2, ej⟩ := at_mid hy
            obtain ⟨i, i1, ei⟩ := at_pre hx
            exact le_trans (sorted_at T.sb (by omega) ei eb) (le_of_lt (c2 j y j1 j2 (by rw [Nat.zero_add]; exact ej))))
          by_cases hp1 : ka - m > 0
          · rw [if_pos hp1]
            by_cases z1 : m = 0
            · rw [if_pos (by simpa using z1)]
              exact wpS_pure ⟨_, rfl, .inl ⟨_, rfl, doneA _ _ _ M3 z1⟩⟩
            rw [if_neg (by simpa using z1)]
            have hlt := hlt m (Nat.le_refl _)
            have hkx : 0 < m := by omega
            refine wpS_bind (wpS_elem eb ?_)
            have M4 := pB _ m kb _ M3 (by omega) eb hlt
            by_cases z : kb - 1 = 1
            · rw [if_pos (by simpa using z)]
              exact wpS_pure ⟨_, rfl, .inl ⟨_, rfl, done1 _ _ _ M4 z⟩⟩
            rw [if_neg (by simpa using z)]
            obtain ⟨px, eax⟩ : ∃ p, a[m - 1]? = some p := ⟨_, Array.getElem?_eq_getElem (by omega)⟩
            refine wpS_bind (wpS_elem eax ?_)
            refine wpS_bind (galL (hF _) (T.Sa _ (mem_at eax)) (by omega) Sb (fun i j p q hij hj e1 e2 => sorted_at T.sb (by omega) e1 e2) fun m2 hm2 d1 d2 => ?_)
            dsimp only
            have hle : ∀ n, n ≤ m2 → ∀ x ∈ b.toList.take n, le C x px := fun n hn x hx => by
              obtain ⟨j, hj, ej⟩ := at_pre hx
              exact le_of_lt (d1 j x (by omega) (by rw [Nat.zero_add]; exact ej))
            have M5 := cB _ m (kb - 1) m2 M4 hm2 (fun x hx y hy => by
              obtain ⟨j, j1, j2, ej⟩ := at_mid hy
              obtain ⟨i, i1, ei⟩ := at_pre hx
              exact le_trans (sorted_at T.sa (by omega) ei eax) (d2 j y j1 j2 (by rw [Nat.zero_add]; exact ej)))
            by_cases hp2 : kb - 1 - m2 > 0
            · rw [if_pos hp2]
              by_cases z2 : m2 = 1
              · rw [if_pos (by simpa using z2)]
                exact wpS_pure ⟨_, rfl, .inl ⟨_, rfl, done1 _ _ _ M5 z2⟩⟩
              rw [if_neg (by simpa using z2)]
              by_cases z4 : m2 = 0
              · rw [if_pos (by simpa using z4)]
                exact wpS_pure ⟨_, rfl, .inl ⟨_, rfl, doneB _ _ _ M5 z4⟩⟩
              rw [if_neg (by simpa using z4)]
              have hle := hle m2 (Nat.le_refl _)
              refine wpS_bind (wpS_elem eax ?_)
              have M6 := pA _ m m2 _ M5 hkx eax hle
              by_cases z3 : m - 1 = 0
              · rw [if_pos (by simpa using z3)]
                exact wpS_pure ⟨_, rfl, .inl ⟨_, rfl, doneA _ _ _ M6 z3⟩⟩
              rw [if_neg (by simpa using z3)]
              split
              · exact wpS_pure ⟨_, rfl, .inr ⟨_, _, _, _, _, _, rfl, M6, by omega, by omega, by omega⟩⟩
              · exact wpS_pure ⟨_, _, _, _, _, _, _, rfl, rfl, M6, by omega, by omega, by omega⟩
            · rw [if_neg hp2]
              have hle := hle (kb - 1) (by omega)
              refine wpS_bind (wpS_elem eax ?_)
              have M6 := pA _ m (kb - 1) _ M4 hkx eax hle
              by_cases z3 : m - 1 = 0
              · rw [if_pos (by simpa using z3)]
                exact wpS_pure ⟨_, rfl, .inl ⟨_, rfl, doneA _ _ _ M6 z3⟩⟩
              rw [if_neg (by simpa using z3)]
              split
              · exact wpS_pure ⟨_, rfl, .inr ⟨_, _, _, _, _, _, rfl, M6, by omega, by omega, by omega⟩⟩
              · exact wpS_pure ⟨_, _, _, _, _, _, _, rfl, rfl, M6, by omega, by omega, by omega⟩
          · rw [if_neg hp1]
            have hlt := hlt ka (by omega)
            have hkx := t1
            refine wpS_bind (wpS_elem eb ?_)
            have M4 := pB out2 ka kb _ M2 (by omega) eb hlt
            by_cases z : kb - 1 = 1
            · rw [if_pos (by simpa using z)]
              exact wpS_pure ⟨_, rfl, .inl ⟨_, rfl, done1 _ _ _ M4 z⟩⟩
            rw [if_neg (by simpa using z)]
            obtain ⟨px, eax⟩ : ∃ p, a[ka - 1]? = some p := ⟨_, Array.getElem?_eq_getElem (by omega)⟩
            refine wpS_bind (wpS_elem eax ?_)
            refine wpS_bind (galL (hF _) (T.Sa _ (mem_at eax)) (by omega) Sb (fun i j p q hij hj e1 e2 => sorted_at T.sb (by omega) e1 e2) fun m2 hm2 d1 d2 => ?_)
            dsimp only
            have hle : ∀ n, n ≤ m2 → ∀ x ∈ b.toList.take n, le C x px := fun n hn x hx => by
              obtain ⟨j, hj, ej⟩ := at_pre hx
              exact le_of_lt (d1 j x (by omega) (by rw [Nat.zero_add]; exact ej))
            have M5 := cB _ ka (kb - 1) m2 M4 hm2 (fun x hx y hy => by
              obtain ⟨j, j1, j2, ej⟩ := at_mid hy
              obtain ⟨i, i1, ei⟩ := at_pre hx
              exact le_trans (sorted_at T.sa (by omega) ei eax) (d2 j y j1 j2 (by rw [Nat.zero_add]; exact ej)))
            by_cases hp2 : kb - 1 - m2 > 0
            · rw [if_pos hp2]
              by_cases z2 : m2 = 1
              · rw [if_pos (by simpa using z2)]
                exact wpS_pure ⟨_, rfl, .inl ⟨_, rfl, done1 _ _ _ M5 z2⟩⟩
              rw [if_neg (by simpa using z2)]
              by_cases z4 : m2 = 0
              · rw [if_pos (by simpa using z4)]
                exact wpS_pure ⟨_, rfl, .inl ⟨_, rfl, doneB _ _ _ M5 z4⟩⟩
              rw [if_neg (by simpa using z4)]
              have hle := hle m2 (Nat.le_refl _)
              refine wpS_bind (wpS_elem eax ?_)
              have M6 := pA _ ka m2 _ M5 hkx eax hle
              by_cases z3 : ka - 1 = 0
              · rw [if_pos (by simpa using z3)]
                exact wpS_pure ⟨_, rfl, .inl ⟨_, rfl, doneA _ _ _ M6 z3⟩⟩
              rw [if_neg (by simpa using z3)]
              split
              · exact wpS_pure ⟨_, rfl, .inr ⟨_, _, _, _, _, _, rfl, M6, by omega, by omega, by omega⟩⟩
              · exact wpS_pure ⟨_, _, _, _, _, _, _, rfl, rfl, M6, by omega, by omega, by omega⟩
            · rw [if_neg hp2]
              have hle := hle (kb - 1) (by omega)
              refine wpS_bind (wpS_elem eax ?_)
              have M6 := pA _ ka (kb - 1) _ M4 hkx eax hle
              by_cases z3 : ka - 1 = 0
              · rw [if_pos (by simpa using z3)]
                exact wpS_pure ⟨_, rfl, .inl ⟨_, rfl, doneA _ _ _ M6 z3⟩⟩
              rw [if_neg (by simpa using z3)]
              split
              · exact wpS_pure ⟨_, rfl, .inr ⟨_, _, _, _, _, _, rfl, M6, by omega, by omega, by omega⟩⟩
              · exact wpS_pure ⟨_, _, _, _, _, _, _, rfl, rfl, M6, by omega, by omega, by omega⟩
end
end Tim

set_option Elab.async false
set_option linter.all false
set_option maxRecDepth 100000
set_option maxHeartbeats 1000000
namespace Tim
open PySem PyProof.Rows
/-- a row laid into an array from a place on -/
theorem lay_in : ∀ (ms : List Keyed) (k lo : Nat) (P X R : List Keyed) (xs : Array Keyed), xs.toList = P ++ X ++ R → X.length = ms.length → lo + k = P.length →
    ((ms.zipIdx k).foldl (fun a p => a.setIfInBounds (lo + p.2) p.1) xs).toList = P ++ ms ++ R
  | [], _, _, P, X, R, xs, e, hl, _ => by
    obtain rfl : X = [] := List.length_eq_zero_iff.mp hl
    exact e
  | m :: ms, k, lo, P, X, R, xs, e, hl, hp => by
    match X, hl with
    | x :: X, hl =>
      rw [List.zipIdx_cons, List.foldl_cons]
      have z := lay_in ms (k + 1) lo (P ++ [m]) X R (xs.setIfInBounds (lo + k) m) (by
        rw [Array.toList_setIfInBounds, e, hp]
        simp) (by simpa using hl) (by rw [List.length_append]; simp; omega)
      rw [z]
      simp
section
variable {prog : Program} {w : World} {A : Around} {E : Value → Shared → Prop} {s : Shared}
theorem seg {P X R : List Keyed} {xs : Array Keyed} (e : xs.toList = P ++ X ++ R) {lo j : Nat} (hlo : lo = P.length) (hj : j < X.length) : xs[lo + j]? = X[j]? := by
  have : xs[lo + j]? = xs.toList[lo + j]? := by simp
  rw [this, e, List.append_assoc, hlo, List.getElem?_append_right (by omega), List.getElem?_append_left (by omega), Nat.add_sub_cancel_left]
theorem le_mem {C : Cmp prog w A E s} {X : List Keyed} (so : X.Pairwise (le C)) {i j : Nat} {p q : Keyed} (hij : i ≤ j) (e1 : X[i]? = some p) (e2 : X[j]? = some q) : le C p q :=
  sorted_at (xs := X.toArray) (by simpa using so) hij (by simpa using e1) (by simpa using e2)
theorem glued {C : Cmp prog w A E s} {X Y r : List Keyed} {k m : Nat} (sX : X.Pairwise (le C)) (sY : Y.Pairwise (le C)) (M : Mgd C (X.drop k) (Y.take m) r) (h1 : ∀ x ∈ X.take k, ∀ y ∈ Y, le C x y) (h2 : ∀ x ∈ X, ∀ y ∈ Y.drop m, le C x y) :
    (X.take k ++ r ++ Y.drop m).Perm (X ++ Y) ∧ (X.take k ++ r ++ Y.drop m).Pairwise (le C) := by
  have x1 := sX
  rw [← List.take_append_drop k X, List.pairwise_append] at x1
  have y1 := sY
  rw [← List.take_append_drop m Y, List.pairwise_append] at y1
  refine ⟨?_, ?_⟩
  · have z := (M.pm.append_left (X.take k)).append_right (Y.drop m)
    rw [← List.append_assoc, List.take_append_drop, List.append_assoc X, List.take_append_drop] at z
    exact z
  · rw [List.pairwise_append, List.pairwise_append]
    refine ⟨⟨x1.1, M.so, fun x hx y hy => ?_⟩, y1.2.1, fun x hx y hy => ?_⟩
    · rcases List.mem_append.mp (M.pm.mem_iff.mp hy) with z | z
      · exact x1.2.2 x hx y z
      · exact h1 x hx y (List.mem_of_mem_take z)
    · rcases List.mem_append.mp hx with hx | hx
      · exact h2 x (List.mem_of_mem_take hx) y hy
      · rcases List.mem_append.mp (M.pm.mem_iff.mp hx) with z | z
        · exact h2 x (List.mem_of_mem_drop z) y hy
        · exact y1.2.2 x z y hy
theorem wpS_set {st st' : SortSt} {Q : PUnit → SortSt → Prop} (h : Q ⟨⟩ st') : wpS (model prog w) A E s (set st' : StateT SortSt Sem PUnit) Q st := by
  unfold wpS
  rw [StateT.run_set]
  exact wpAny_pure ⟨rfl, h⟩
/-- rows of runs: sorted each, end to end -/
theorem mat_ok {C : Cmp prog w A E s} {st : SortSt} {i sa na pw sb nb pw' : Nat} {P X Y R : List Keyed} {Q : Bool → SortSt → Prop} (hF : ∀ (p : Array (Nat × Nat × Nat)) (g : Nat), C.F (SortSt.mk' (kindOf st) (arrOf st) p g (failedOf st))) (hf : failedOf st = none)
    (e1 : (pendingOf st)[i]? = some (sa, na, pw)) (e2 : (pendingOf st)[i + 1]? = some (sb, nb, pw')) (hl : (arrOf st).toList = P ++ X ++ Y ++ R) (hS : ∀ p ∈ (arrOf st).toList, C.S p)
    (hsa : sa = P.length) (hna : na = X.length) (hsb : sb = sa + na) (hnb : nb = Y.length) (nX : 0 < na) (nY : 0 < nb) (sX : X.Pairwise (le C)) (sY : Y.Pairwise (le C))
    (h : ∀ (xs : Array Keyed) (Z : List Keyed) (g : Nat), xs.toList = P ++ Z ++ R → Z.Perm (X ++ Y) → Z.Pairwise (le C) → Q true (SortSt.mk' (kindOf st) xs (((pendingOf st).setIfInBounds i (sa, na + nb, pw)).eraseIdxIfInBounds (i + 1)) g (failedOf st))) :
    wpS (model prog w) A E s (mergeAt' i) Q st := by
  have hl1 : (arrOf st).toList = P ++ X ++ (Y ++ R) := by rw [hl, List.append_assoc]
  have hl2 : (arrOf st).toList = (P ++ X) ++ Y ++ R := hl
  have hsb2 : sb = (P ++ X).length := by rw [List.length_append]; omega
  have aX : ∀ j, j < na → (arrOf st)[sa + j]? = X[j]? := fun j hj => seg hl1 hsa (by omega)
  have aY : ∀ j, j < nb → (arrOf st)[sb + j]? = Y[j]? := fun j hj => seg hl2 hsb2 (by omega)
  have SX : ∀ j, j < na → ∃ p, (arrOf st)[sa + j]? = some p ∧ C.S p := fun j hj => by
    have e := aX j hj
    rw [List.getElem?_eq_getElem (by omega)] at e
    exact ⟨_, e, hS _ (mem_at e)⟩
  have SY : ∀ j, j < nb → ∃ p, (arrOf st)[sb + j]? = some p ∧ C.S p := fun j hj => by
    have e := aY j hj
    rw [List.getElem?_eq_getElem (by omega)] at e
    exact ⟨_, e, hS _ (mem_at e)⟩
  have oX : ∀ i j p q, i ≤ j → j < na → (arrOf st)[sa + i]? = some p → (arrOf st)[sa + j]? = some q → le C p q := fun i j p q hij hj f1 f2 => le_mem sX hij (by rw [← aX i (by omega)]; exact f1) (by rw [← aX j hj]; exact f2)
  have oY : ∀ i j p q, i ≤ j → j < nb → (arrOf st)[sb + i]? = some p → (arrOf st)[sb + j]? = some q → le C p q := fun i j p q hij hj f1 f2 => le_mem sY hij (by rw [← aY i (by omega)]; exact f1) (by rw [← aY j hj]; exact f2)
  obtain ⟨y0, ey0, Sy0⟩ := SY 0 nY
  obtain ⟨xL, exL, SxL⟩ := SX (na - 1) (by omega)
  rw [Nat.add_zero] at ey0
  have iX : ∀ x ∈ X, ∃ j, j < na ∧ (arrOf st)[sa + j]? = some x ∧ X[j]? = some x := fun x hx => by
    obtain ⟨j, hj⟩ := List.getElem?_of_mem hx
    have := (List.getElem?_eq_some_iff.mp hj).1
    exact ⟨j, by omega, by rw [aX j (by omega)]; exact hj, hj⟩
  have iY : ∀ x ∈ Y, ∃ j, j < nb ∧ (arrOf st)[sb + j]? = some x ∧ Y[j]? = some x := fun x hx => by
    obtain ⟨j, hj⟩ := List.getElem?_of_mem hx
    have := (List.getElem?_eq_some_iff.mp hj).1
    exact ⟨j, by omega, by rw [aY j (by omega)]; exact hj, hj⟩
  have lowY : ∀ y ∈ Y, le C y0 y := fun y hy => by
    obtain ⟨j, j1, j2, j3⟩ := iY y hy
    exact oY 0 j y0 y (Nat.zero_le _) j1 (by rw [Nat.add_zero]; exact ey0) j2
  have topX : ∀ x ∈ X, le C x xL := fun x hx => by
    obtain ⟨j, j1, j2, j3⟩ := iX x hx
    exact oX j (na - 1) x xL (by omega) (by omega) j2 exL
  have flat : (∀ x ∈ X, ∀ y ∈ Y, le C x y) → (X ++ Y).Pairwise (le C) := fun c => List.pairwise_append.mpr ⟨sX, sY, c⟩
  refine wpS_bind (wpS_get ?_)
  dsimp only
  erw [e1, e2]
  dsimp only
  refine wpS_bind (wpS_set ?_)
  refine wpS_bind (wpS_elem ey0 ?_)
  refine wpS_bind (galR (hF _ _) Sy0 nX SX oX fun k hk c1 c2 => ?_)
  dsimp only
  by_cases z1 : na - k = 0
  · rw [if_pos (by simpa using z1)]
    refine wpS_pure (h (arrOf st) (X ++ Y) (gallopOf st) (by rw [hl, List.append_assoc P]) (.refl _) (flat fun x hx y hy => ?_))
    obtain ⟨j, j1, j2, j3⟩ := iX x hx
    exact le_trans (c1 j x (by omega) j2) (lowY y hy)
  rw [if_neg (by simpa using z1)]
  refine wpS_bind (wpS_elem (p := xL) (by rw [show sa + k + (na - k) - 1 = sa + (na - 1) by omega]; exact exL) ?_)
  refine wpS_bind (galL (hF _ _) SxL (by omega) SY oY fun m hm d1 d2 => ?_)
  dsimp only
  by_cases z2 : m = 0
  · rw [if_pos (by simpa using z2)]
    refine wpS_pure (h (arrOf st) (X ++ Y) (gallopOf st) (by rw [hl, List.append_assoc P]) (.refl _) (flat fun x hx y hy => ?_))
    obtain ⟨j, j1, j2, j3⟩ := iY y hy
    exact le_trans (topX x hx) (d2 j y (by omega) j1 j2)
  rw [if_neg (by simpa using z2)]
  have ea : ((arrOf st).extract (sa + k) sb).toList = X.drop k := by
    rw [ext_mn, hl1, hsb, hsa, hna, List.take_append_of_le_length (by rw [List.length_append]; omega), List.take_of_length_le (by rw [List.length_append]; omega), List.drop_append, List.drop_of_length_le (by omega), Nat.add_sub_cancel_left, List.nil_append]
  have eb : ((arrOf st).extract sb (sb + m)).toList = Y.take m := by
    rw [ext_k, hl2, hsb2, List.append_assoc, List.drop_left, List.take_append_of_le_length (by omega)]
  have sza : ((arrOf st).extract (sa + k) sb).size = na - k := by rw [← Array.length_toList, ea, List.length_drop]; omega
  have szb : ((arrOf st).extract sb (sb + m)).size = m := by rw [← Array.length_toList, eb, List.length_take]; omega
  have ga : ∀ j, ((arrOf st).extract (sa + k) sb)[j]? = X[k + j]? := fun j => by rw [← Array.getElem?_toList, ea, List.getElem?_drop]
  have gb : ∀ j, j < m → ((arrOf st).extract sb (sb + m))[j]? = Y[j]? := fun j hj => by rw [← Array.getElem?_toList, eb, List.getElem?_take_of_lt hj]
  obtain ⟨xk, exk, Sxk⟩ := SX k (by omega)
  obtain ⟨ym, eym, Sym⟩ := SY (m - 1) (by omega)
  have T : Two C ((arrOf st).extract (sa + k) sb) ((arrOf st).extract sb (sb + m)) xk y0 xL ym := by
    refine ⟨fun p hp => ?_, fun p hp => ?_, ?_, ?_, ?_, ?_, ?_, ?_, c2 k xk (Nat.le_refl _) (by omega) exk, d1 (m - 1) ym (by omega) eym⟩
    · rw [ea] at hp
      exact hS p (by rw [hl]; simp [List.mem_of_mem_drop hp])
    · rw [eb] at hp
      exact hS p (by rw [hl]; simp [List.mem_of_mem_take hp])
    · rw [ea]; exact sX.sublist (List.drop_sublist _ _)
    · rw [eb]; exact sY.sublist (List.take_sublist _ _)
    · rw [ga, Nat.add_zero, ← aX k (by omega)]; exact exk
    · rw [gb 0 (by omega), ← aY 0 nY, Nat.add_zero]; exact ey0
    · rw [sza, ga, show k + (na - k - 1) = na - 1 by omega, ← aX (na - 1) (by omega)]; exact exL
    · rw [szb, gb (m - 1) (by omega), ← aY (m - 1) (by omega)]; exact eym
  have fin : ∀ (r : Array Keyed) (g : Nat), Mgd C ((arrOf st).extract (sa + k) sb).toList ((arrOf st).extract sb (sb + m)).toList r.toList →
      Q true (SortSt.mk' (kindOf st) (List.foldl (fun a x => a.setIfInBounds (sa + k + x.2) x.1) (arrOf st) r.toList.zipIdx) (((pendingOf st).setIfInBounds i (sa, na + nb, pw)).eraseIdxIfInBounds (i + 1)) g (failedOf st)) := fun r g M => by
    rw [ea, eb] at M
    obtain ⟨g1, g2⟩ := glued sX sY M (fun x hx y hy => by
      obtain ⟨j, j1, j2⟩ := at_pre (xs := X.toArray) (n := k) (y := x) (by simpa using hx)
      have j3 : X[j]? = some x := by simpa using j2
      exact le_trans (c1 j x j1 (by rw [aX j (by omega)]; exact j3)) (lowY y hy)) (fun x hx y hy => by
      obtain ⟨j, j2⟩ := at_drop (xs := Y.toArray) (i := m) (y := y) (by simpa using hy)
      have j3 : Y[m + j]? = some y := by simpa using j2
      have := (List.getElem?_eq_some_iff.mp j3).1
      exact le_trans (topX x hx) (d2 (m + j) y (by omega) (by omega) (by rw [aY (m + j) (by omega)]; exact j3)))
    refine h _ _ g ?_ g1 g2
    have z := lay_in r.toList 0 (sa + k) (P ++ X.take k) (X.drop k ++ Y.take m) (Y.drop m ++ R) (arrOf st) (by
      rw [hl]
      have u1 := List.take_append_drop k X
      have u2 := List.take_append_drop m Y
      conv => lhs; rw [← u1, ← u2]
      simp only [List.append_assoc]) (by have := M.pm.length_eq; exact this.symm) (by rw [List.length_append, List.length_take]; omega)
    rw [z]
    simp only [List.append_assoc]
  by_cases z3 : na - k ≤ m
  · rw [if_pos z3]
    refine wpS_bind (mlo_ok (fun g => hF _ g) T fun r g M => ?_)
    refine wpS_bind (wpS_modify (wpS_bind (wpS_get (wpS_pure ?_))))
    have key : ∀ b : Bool, b = true → Q b _ := fun b e => by
      rw [e]
      exact fin r g M
    exact key (failedOf st).isNone (by rw [hf]; rfl)
  · rw [if_neg z3]
    refine wpS_bind (mhi_ok (fun g => hF _ g) T fun r g M => ?_)
    refine wpS_bind (wpS_modify (wpS_bind (wpS_get (wpS_pure ?_))))
    have key : ∀ b : Bool, b = true → Q b _ := fun b e => by
      rw [e]
      exact fin r g M
    exact key (failedOf st).isNone (by rw [hf]; rfl)
end
end Tim

set_option Elab.async false
set_option linter.all false
set_option maxRecDepth 100000
set_option maxHeartbeats 1000000
namespace Tim
open PySem PyProof.Rows
section
variable {prog : Program} {w : World} {A : Around} {E : Value → Shared → Prop} {s : Shared}
theorem ltAt_ok {C : Cmp prog w A E s} {st : SortSt} {i j : Nat} {p q : Keyed} {Q : Option Bool → SortSt → Prop} (hF : C.F st) (e1 : (arrOf st)[i]? = some p) (e2 : (arrOf st)[j]? = some q) (Sp : C.S p) (Sq : C.S q)
    (h : Q (some (C.O.blt (C.key p) (C.key q))) st) : wpS (model prog w) A E s (ltAt' i j) Q st := by
  refine wpS_bind (wpS_get ?_)
  exact wpS_bind (wpS_elem e1 (wpS_bind (wpS_elem e2 (C.ok st p q Q hF Sp Sq h))))
theorem bub_list {P V R : List Keyed} {x : Keyed} {xs : Array Keyed} (e : xs.toList = P ++ (V ++ [x]) ++ R) {src d : Nat} (hs : src = P.length + V.length) (hd : d = V.length) : (bubble xs src d).toList = P ++ (x :: V) ++ R := by
  have hlen : xs.size = P.length + (V.length + 1) + R.length := by rw [← Array.length_toList, e]; simp; omega
  have g : ∀ n, xs[n]? = (P ++ (V ++ [x]) ++ R)[n]? := fun n => by rw [← Array.getElem?_toList, e]
  refine List.ext_getElem? fun n => ?_
  rw [Array.getElem?_toList, getElem?_bubble (by omega) d (by omega) n, g, g, g, show src - d = P.length by omega]
  simp only [List.getElem?_append, List.length_append, List.length_cons, List.length_nil, List.getElem?_cons, List.getElem?_nil]
  repeat' split
  all_goals first | rfl | (exfalso; omega) | (congr 1; omega)
/-- of a row of n things the first ok are sorted: then all are -/
theorem bin_ok {C : Cmp prog w A E s} {st : SortSt} {lo n k0 : Nat} {P X R : List Keyed} {Q : Bool → SortSt → Prop} (hF : ∀ (xs : Array Keyed), C.F (setArr st xs)) (hl : (arrOf st).toList = P ++ X ++ R) (hlo : lo = P.length) (hn : n = X.length) (hk : k0 ≤ n)
    (hS : ∀ p ∈ X, C.S p) (so : (X.take k0).Pairwise (le C)) (h : ∀ (xs : Array Keyed) (Z : List Keyed), xs.toList = P ++ Z ++ R → Z.Perm X → Z.Pairwise (le C) → Q true (setArr st xs)) : wpS (model prog w) A E s (binarySort' lo n k0) Q st := by
  refine wpS_bind (wpS_mono (wpS_forRange (I := fun k c st' => c = (none, ()) ∧ ∃ (xs : Array Keyed) (Z : List Keyed), st' = setArr st xs ∧ xs.toList = P ++ Z ++ R ∧ Z.Perm X ∧ (Z.take k).Pairwise (le C))
    (Q := fun c st' => c = (none, ()) ∧ ∃ (xs : Array Keyed) (Z : List Keyed), st' = setArr st xs ∧ xs.toList = P ++ Z ++ R ∧ Z.Perm X ∧ Z.Pairwise (le C)) ?s ?e ⟨rfl, arrOf st, X, rfl, hl, .refl _, ?_⟩) ?p)
  case p =>
    rintro c st' ⟨rfl, xs, Z, rfl, e, pm, sz⟩
    exact wpS_pure (h xs Z e pm sz)
  case e =>
    rintro c st' ⟨rfl, xs, Z, rfl, e, pm, sz⟩
    have := pm.length_eq
    rw [List.take_of_length_le (by omega)] at sz
    exact ⟨rfl, xs, Z, rfl, e, pm, sz⟩
  case s =>
    rintro k c st' hk1 hkn ⟨rfl, xs, Z, rfl, e, pm, sz⟩
    have hzl := pm.length_eq
    have aZ : ∀ j, j < n → ∃ p, xs[lo + j]? = some p ∧ Z[j]? = some p ∧ C.S p := fun j hj => by
      have hj2 : j < Z.length := by omega
      have f : xs[lo + j]? = Z[j]? := seg e hlo hj2
      rw [List.getElem?_eq_getElem hj2] at f
      exact ⟨_, f, List.getElem?_eq_getElem hj2, hS _ (pm.mem_iff.mp (List.getElem_mem hj2))⟩
    obtain ⟨x, ex, ezx, Sx⟩ := aZ k hkn
    have szk : ∀ i j p q, i ≤ j → j < k → Z[i]? = some p → Z[j]? = some q → le C p q := fun i j p q hij hj f1 f2 => le_mem sz hij (by rw [List.getElem?_take_of_lt (by omega)]; exact f1) (by rw [List.getElem?_take_of_lt hj]; exact f2)
    refine wpS_bind (wpS_mono (wpS_forRange (I := fun y c st' => st' = setArr st xs ∧ ∃ l r, c = (none, l, r) ∧ l ≤ r ∧ r ≤ k ∧ r - l ≤ k - y ∧ (∀ i p, i < l → Z[i]? = some p → le C p x) ∧ (∀ i p, r ≤ i → i < k → Z[i]? = some p → le C x p))
      (Q := fun c st' => st' = setArr st xs ∧ ∃ l r, c = (none, l, r) ∧ l ≤ k ∧ (∀ i p, i < l → Z[i]? = some p → le C p x) ∧ (∀ i p, l ≤ i → i < k → Z[i]? = some p → le C x p)) ?s1 ?e1 ⟨rfl, 0, k, rfl, Nat.zero_le _, Nat.le_refl _, by omega, (fun i p z => by omega), (fun i p z1 z2 => by omega)⟩) ?p1)
    case e1 =>
      rintro c st' ⟨rfl, l, r, rfl, h1, h2, h3, h4, h5⟩
      have : l = r := by omega
      subst this
      exact ⟨rfl, l, l, rfl, h2, h4, h5⟩
    case s1 =>
      rintro y c st' _ hy ⟨rfl, l, r, rfl, h1, h2, h3, h4, h5⟩
      dsimp only
      by_cases hge : l ≥ r
      · rw [if_pos hge]
        have : l = r := by omega
        subst this
        exact wpS_pure ⟨rfl, l, l, rfl, h2, h4, h5⟩
      · rw [if_neg hge]
        obtain ⟨pm', em, ezm, Sm⟩ := aZ ((l + r) / 2) (by omega)
        refine wpS_bind (ltAt_ok (hF xs) ex em Sx Sm ?_)
        dsimp only
        cases e0 : C.O.blt (C.key x) (C.key pm') with
        | true => exact wpS_pure ⟨rfl, l, _, rfl, by omega, by omega, by omega, h4, fun i p i1 i2 f => le_trans (le_of_lt e0) (szk _ i _ p i1 i2 ezm f)⟩
        | false => exact wpS_pure ⟨rfl, _, r, rfl, by omega, h2, by omega, (fun i p i1 f => le_trans (szk i _ p _ (by omega) (by omega) f ezm) (le_of_not e0)), h5⟩
    case p1 =>
      rintro c st' ⟨rfl, l, r, rfl, h1, h4, h5⟩
      have hkZ : k < Z.length := by omega
      have zx : Z[k] = x := by rw [List.getElem?_eq_getElem hkZ] at ezx; exact Option.some.inj ezx
      have cut : Z = Z.take l ++ ((Z.take k).drop l ++ [x]) ++ Z.drop (k + 1) := by
        have u := List.take_append_drop k Z
        rw [List.drop_eq_getElem_cons hkZ, zx, take_cut Z h1] at u
        conv => lhs; rw [← u]
        simp only [List.append_assoc, List.cons_append, List.nil_append]
      have lv : ((Z.take k).drop l).length = k - l := by rw [List.length_drop, List.length_take]; omega
      have ll : (Z.take l).length = l := by rw [List.length_take]; omega
      refine wpS_bind (wpS_modify (wpS_pure ⟨rfl, _, Z.take l ++ (x :: (Z.take k).drop l) ++ Z.drop (k + 1), rfl, ?_, ?_, ?_⟩))
      · have z := bub_list (xs := xs) (P := P ++ Z.take l) (V := (Z.take k).drop l) (R := Z.drop (k + 1) ++ R) (x := x) (by
          rw [e]
          conv => lhs; rw [cut]
          simp only [List.append_assoc]) (src := lo + k) (d := lo + k - (lo + l)) (by rw [List.length_append, ll, lv]; omega) (by rw [lv]; omega)
        refine Eq.trans z ?_
        simp only [List.append_assoc]
      · refine List.Perm.trans ?_ pm
        conv => rhs; rw [cut]
        refine List.Perm.append_right _ (List.Perm.append_left _ ?_)
        exact (List.perm_append_comm (l₁ := [x]) (l₂ := (Z.take k).drop l))
      · rw [List.take_append_of_le_length (by rw [List.length_append, ll, List.length_cons, lv]; omega), List.take_of_length_le (by rw [List.length_append, ll, List.length_cons, lv]; omega)]
        have s1 := sz
        rw [take_cut Z h1, List.pairwise_append] at s1
        have vx : ∀ y ∈ (Z.take k).drop l, le C x y := fun y hy => by
          obtain ⟨j, j1, j2, j3⟩ := at_mid (xs := Z.toArray) (m := l) (n := k) (y := y) (by simpa using hy)
          exact h5 j y j1 j2 (by simpa using j3)
        rw [List.pairwise_append, List.pairwise_cons]
        refine ⟨s1.1, ⟨vx, s1.2.1⟩, fun p hp y hy => ?_⟩
        rcases List.mem_cons.mp hy with rfl | hy
        · obtain ⟨j, j1, j2⟩ := at_pre (xs := Z.toArray) (n := l) (y := p) (by simpa using hp)
          exact h4 j p j1 (by simpa using j2)
        · exact s1.2.2 p hp y hy
  · by_cases hz : k0 = 0
    · subst hz
      match X with
      | [] => simp
      | y :: Y => simp
    · rw [show max k0 1 = k0 by omega]
      exact so
end
end Tim

set_option Elab.async false
set_option linter.all false
set_option maxRecDepth 100000
set_option maxHeartbeats 1000000
namespace Tim
open PySem PyProof.Rows
section
variable {prog : Program} {w : World} {A : Around} {E : Value → Shared → Prop} {s : Shared}
theorem mir_list {P V R : List Keyed} {xs : Array Keyed} (e : xs.toList = P ++ V ++ R) {i j : Nat} (hi : i = P.length) (hj : j = P.length + V.length) : (mirror xs i j ((j - i) / 2)).toList = P ++ V.reverse ++ R := by
  have hlen : xs.size = P.length + V.length + R.length := by rw [← Array.length_toList, e]; simp; omega
  have g : ∀ n, xs[n]? = (P ++ V ++ R)[n]? := fun n => by rw [← Array.getElem?_toList, e]
  refine List.ext_getElem? fun n => ?_
  rw [Array.getElem?_toList, getElem?_mirror_all (by omega) n, g, g]
  by_cases h1 : i ≤ n ∧ n < j
  · rw [if_pos h1]
    simp only [List.getElem?_append, List.length_append, List.length_reverse]
    rw [if_pos (by omega), if_neg (by omega), if_pos (by omega), if_neg (by omega), List.getElem?_reverse (by omega)]
    congr 1
    omega
  · rw [if_neg h1]
    simp only [List.getElem?_append, List.length_append, List.length_reverse]
    repeat' split
    all_goals first | rfl | (exfalso; omega) | (congr 1; omega)
/-- keys that fall -/
def Fal (C : Cmp prog w A E s) (Z : List Keyed) (x : Nat) : Prop := ∀ i j p q, i ≤ j → j < x → Z[i]? = some p → Z[j]? = some q → le C q p
def Alk (C : Cmp prog w A E s) (Z : List Keyed) (lo hi : Nat) : Prop := ∀ i j p q, lo ≤ i → i < hi → lo ≤ j → j < hi → Z[i]? = some p → Z[j]? = some q → le C p q
section
variable {C : Cmp prog w A E s} {Z : List Keyed}
/-- a stretch of like things turned round -/
def rnd (Z : List Keyed) (lo hi : Nat) : List Keyed := Z.take lo ++ ((Z.take hi).drop lo).reverse ++ Z.drop hi
theorem rnd_cut (Z : List Keyed) {lo hi : Nat} (h : lo ≤ hi) : Z = Z.take lo ++ (Z.take hi).drop lo ++ Z.drop hi := by
  have u := List.take_append_drop hi Z
  rw [take_cut Z h] at u
  exact u.symm
theorem rnd_perm (Z : List Keyed) {lo hi : Nat} (h : lo ≤ hi) : (rnd Z lo hi).Perm Z := by
  have u := rnd_cut Z h
  conv => rhs; rw [u]
  exact List.Perm.append_right _ (List.Perm.append_left _ (List.reverse_perm _))
theorem rnd_at {lo hi : Nat} (h : lo ≤ hi) (hh : hi ≤ Z.length) (n : Nat) : (rnd Z lo hi)[n]? = if lo ≤ n ∧ n < hi then Z[lo + hi - 1 - n]? else Z[n]? := by
  unfold rnd
  have l1 : (Z.take lo).length = lo := by rw [List.length_take]; omega
  have l2 : ((Z.take hi).drop lo).length = hi - lo := by rw [List.length_drop, List.length_take]; omega
  simp only [List.getElem?_append, List.length_append, List.length_reverse, l1, l2]
  by_cases h1 : lo ≤ n ∧ n < hi
  · rw [if_pos h1, if_pos (by omega), if_neg (by omega), List.getElem?_reverse (by omega), l2, List.getElem?_drop, List.getElem?_take_of_lt (by omega)]
    congr 1
    omega
  · rw [if_neg h1]
    by_cases h2 : n < lo
    · rw [if_pos (by omega), if_pos h2, List.getElem?_take_of_lt h2]
    · rw [if_neg (by omega), List.getElem?_drop]
      congr 1
      omega
/-- alike at each place -/
theorem rnd_like {lo hi : Nat} (h : lo ≤ hi) (hh : hi ≤ Z.length) (al : Alk C Z lo hi) {n : Nat} {p : Keyed} (e : (rnd Z lo hi)[n]? = some p) : ∃ q, Z[n]? = some q ∧ le C p q ∧ le C q p := by
  rw [rnd_at h hh] at e
  split at e
  · rename_i h1
    have hn : n < Z.length := by omega
    exact ⟨_, List.getElem?_eq_getElem hn, al _ _ _ _ (by omega) (by omega) h1.1 h1.2 e (List.getElem?_eq_getElem hn), al _ _ _ _ h1.1 h1.2 (by omega) (by omega) (List.getElem?_eq_getElem hn) e⟩
  · exact ⟨p, e, KeyOrd.kle_refl _, KeyOrd.kle_refl _⟩
theorem Fal.turned {lo hi x : Nat} (f : Fal C Z x) (h : lo ≤ hi) (hh : hi ≤ Z.length) (al : Alk C Z lo hi) : Fal C (rnd Z lo hi) x := fun i j p q hij hj e1 e2 => by
  obtain ⟨p', a1, a2, a3⟩ := rnd_like h hh al e1
  obtain ⟨q', b1, b2, b3⟩ := rnd_like h hh al e2
  exact le_trans b2 (le_trans (f i j p' q' hij hj a1 b1) a3)
theorem Fal.more {x : Nat} (f : Fal C Z x) (h0 : 0 < x) {p q : Keyed} (e1 : Z[x]? = some p) (e2 : Z[x - 1]? = some q) (c : le C p q) : Fal C Z (x + 1) := fun i j u v hij hj f1 f2 => by
  by_cases hj2 : j < x
  · exact f i j u v hij hj2 f1 f2
  · have : j = x := by omega
    subst this
    rw [e1] at f2
    cases f2
    by_cases hi2 : i < j
    · exact le_trans c (f i (j - 1) u q (by omega) (by omega) f1 e2)
    · have : i = j := by omega
      subst this
      rw [e1] at f1
      cases f1
      exact KeyOrd.kle_refl _
theorem Fal.turn {x : Nat} (f : Fal C Z x) (hx : x ≤ Z.length) : ((rnd Z 0 x).take x).Pairwise (le C) := by
  have e : (rnd Z 0 x).take x = (Z.take x).reverse := by
    unfold rnd
    rw [List.take_zero, List.nil_append, List.drop_zero, List.take_append_of_le_length (by rw [List.length_reverse, List.length_take]; omega), List.take_of_length_le (by rw [List.length_reverse, List.length_take]; omega)]
  rw [e, List.pairwise_reverse, List.pairwise_iff_getElem]
  intro i j hi hj hij
  rw [List.length_take] at hi hj
  exact f i j _ _ (by omega) (by omega) (by rw [← List.getElem?_take_of_lt (show i < x by omega)]; exact List.getElem?_eq_getElem _) (by rw [← List.getElem?_take_of_lt (show j < x by omega)]; exact List.getElem?_eq_getElem _)
theorem up_more {x : Nat} (so : (Z.take x).Pairwise (le C)) (h0 : 0 < x) {p q : Keyed} (e1 : Z[x]? = some p) (e2 : Z[x - 1]? = some q) (c : le C q p) : (Z.take (x + 1)).Pairwise (le C) := by
  rw [List.take_succ, e1, List.pairwise_append]
  refine ⟨so, by simp, fun u hu v hv => ?_⟩
  have hv' : v = p := by simpa using hv
  subst hv'
  obtain ⟨j, j1, j2⟩ := at_pre (xs := Z.toArray) (n := x) (y := u) (by simpa using hu)
  have j3 : Z[j]? = some u := by simpa using j2
  exact le_trans (le_mem so (i := j) (j := x - 1) (by omega) (by rw [List.getElem?_take_of_lt j1]; exact j3) (by rw [List.getElem?_take_of_lt (by omega)]; exact e2)) c
end
theorem mir_rnd {P Z R : List Keyed} {xs : Array Keyed} (e : xs.toList = P ++ Z ++ R) {i j lo a b : Nat} (hlo : lo = P.length) (hi : i = lo + a) (hj : j = lo + b) (hab : a ≤ b) (hb : b ≤ Z.length) : (mirror xs i j ((j - i) / 2)).toList = P ++ rnd Z a b ++ R := by
  have z := mir_list (xs := xs) (P := P ++ Z.take a) (V := (Z.take b).drop a) (R := Z.drop b ++ R) (by
    rw [e]
    conv => lhs; rw [rnd_cut Z hab]
    simp only [List.append_assoc]) (i := i) (j := j) (by rw [List.length_append, List.length_take]; omega) (by rw [List.length_append, List.length_take, List.length_drop, List.length_take]; omega)
  rw [z]
  unfold rnd
  simp only [List.append_assoc]
end
end Tim

set_option Elab.async false
set_option linter.all false
set_option maxRecDepth 100000
set_option maxHeartbeats 1000000
namespace Tim
open PySem PyProof.Rows
section
variable {prog : Program} {w : World} {A : Around} {E : Value → Shared → Prop} {s : Shared}
theorem cnt_ok {C : Cmp prog w A E s} {st : SortSt} {lo n : Nat} {P X R : List Keyed} {Q : Option Nat → SortSt → Prop} (hF : ∀ (xs : Array Keyed), C.F (setArr st xs)) (hl : (arrOf st).toList = P ++ X ++ R) (hlo : lo = P.length) (hn : n = X.length) (h1 : 1 ≤ n)
    (hS : ∀ p ∈ X, C.S p) (h : ∀ (m : Nat) (xs : Array Keyed) (Z : List Keyed), 1 ≤ m → m ≤ n → xs.toList = P ++ Z ++ R → Z.Perm X → (Z.take m).Pairwise (le C) → Q (some m) (setArr st xs)) : wpS (model prog w) A E s (countRun' lo n) Q st := by
  have at_ : ∀ (xs : Array Keyed) (Z : List Keyed) (j : Nat), xs.toList = P ++ Z ++ R → Z.Perm X → j < n → ∃ p, xs[lo + j]? = some p ∧ Z[j]? = some p ∧ C.S p := fun xs Z j e pm hj => by
    have hj2 : j < Z.length := by have := pm.length_eq; omega
    have f : xs[lo + j]? = Z[j]? := seg e hlo hj2
    rw [List.getElem?_eq_getElem hj2] at f
    exact ⟨_, f, List.getElem?_eq_getElem hj2, hS _ (pm.mem_iff.mp (List.getElem_mem hj2))⟩
  refine wpS_bind (wpS_mono (wpS_forRange (I := fun x c st' => st' = st ∧ c = (none, x) ∧ (X.take x).Pairwise (le C))
    (Q := fun c st' => st' = st ∧ ∃ m, c = (none, m) ∧ 1 ≤ m ∧ m ≤ n ∧ (X.take m).Pairwise (le C) ∧ (m = n ∨ ∃ p q, X[m]? = some p ∧ X[m - 1]? = some q ∧ C.O.blt (C.key p) (C.key q) = true)) ?oS ?oE ⟨rfl, rfl, ?oI⟩) ?oP)
  case oI =>
    match X with
    | [] => simp
    | y :: Y => simp
  case oE =>
    rintro c st' ⟨rfl, rfl, sx⟩
    exact ⟨rfl, _, rfl, by omega, by omega, sx, .inl (by omega)⟩
  case oS =>
    rintro x c st' hx1 hx2 ⟨rfl, rfl, sx⟩
    obtain ⟨p, e1, e2, Sp⟩ := at_ _ X x hl (.refl _) hx2
    obtain ⟨q, f1, f2, Sq⟩ := at_ _ X (x - 1) hl (.refl _) (by omega)
    dsimp only
    refine wpS_bind (ltAt_ok (hF (arrOf st')) e1 (by rw [show lo + x - 1 = lo + (x - 1) by omega]; exact f1) Sp Sq ?_)
    dsimp only
    cases e0 : C.O.blt (C.key p) (C.key q) with
    | true => exact wpS_pure ⟨rfl, x, rfl, hx1, by omega, sx, .inr ⟨p, q, e2, f2, e0⟩⟩
    | false => exact wpS_pure ⟨rfl, rfl, up_more sx (by omega) e2 f2 (le_of_not e0)⟩
  case oP =>
    rintro c st' ⟨rfl, m, rfl, m1, m2, sx, hb⟩
    dsimp only
    by_cases z1 : m = n
    · rw [if_pos (by simpa using z1)]
      exact wpS_pure (h m (arrOf st') X m1 m2 hl (.refl _) sx)
    rw [if_neg (by simpa using z1)]
    obtain ⟨pm, pm1, epm, epm1, hlt⟩ := hb.resolve_left z1
    rename SortSt => st
    by_cases hm : m > 1
    · rw [if_pos hm]
      obtain ⟨p0, g1, g2, Sp0⟩ := at_ _ X 0 hl (.refl _) (by omega)
      obtain ⟨pl, k1, k2, Spl⟩ := at_ _ X (m - 1) hl (.refl _) (by omega)
      rw [Nat.add_zero] at g1
      refine wpS_bind (ltAt_ok (hF (arrOf st)) g1 (by rw [show lo + m - 1 = lo + (m - 1) by omega]; exact k1) Sp0 Spl ?_)
      dsimp only
      cases e0 : C.O.blt (C.key p0) (C.key pl) with
      | true => exact wpS_pure (h m (arrOf st) X m1 m2 hl (.refl _) sx)
      | false =>
        rw [if_neg Bool.false_ne_true]
        have up : ∀ i j p q, i ≤ j → j < m → X[i]? = some p → X[j]? = some q → le C p q := fun i j p q hij hj f1 f2 => le_mem sx hij (by rw [List.getElem?_take_of_lt (by omega)]; exact f1) (by rw [List.getElem?_take_of_lt hj]; exact f2)
        have al0 : Alk C X 0 m := fun i j p q _ i2 _ j2 f1 f2 => le_trans (up i (m - 1) p pl (by omega) (by omega) f1 k2) (le_trans (le_of_not e0) (up 0 j p0 q (Nat.zero_le _) j2 g2 f2))
        have fX : Fal C X m := fun i j p q hij hj f1 f2 => al0 j i q p (Nat.zero_le _) hj (Nat.zero_le _) (by omega) f2 f1
        have fZ := (fX.more (by omega) epm epm1 (le_of_lt hlt)).turned (lo := 0) (hi := m) (Nat.zero_le _) (by omega) al0
        have eZ := mir_rnd (i := lo) (j := lo + m) hl hlo (a := 0) (b := m) (by omega) rfl (Nat.zero_le _) (by omega)
        have pZ := rnd_perm X (lo := 0) (hi := m) (Nat.zero_le _)
        refine wpS_bind (wpS_modify ?_)
        refine wpS_bind (wpS_lift (wpAny_rule ⟨rfl, ?_⟩))
        refine wpS_bind (wpS_mono (wpS_forRange (I := fun x c st' => ∃ (xs : Array Keyed) (Z : List Keyed) (k : Nat), st' = setArr st xs ∧ c = (none, x, k) ∧ xs.toList = P ++ Z ++ R ∧ Z.Perm X ∧ Fal C Z x ∧ k + 1 ≤ x ∧ Alk C Z (x - (k + 1)) x)
          (Q := fun c st' => ∃ (xs : Array Keyed) (Z : List Keyed) (x k : Nat), st' = setArr st xs ∧ c = (none, x, k) ∧ m + 1 ≤ x ∧ x ≤ n ∧ xs.toList = P ++ Z ++ R ∧ Z.Perm X ∧ Fal C Z x ∧ k + 1 ≤ x ∧ Alk C Z (x - (k + 1)) x) (fun x c st' hx1 hx2 hI => ?_) (fun c st' hI => ?_) ⟨_, _, 0, rfl, rfl, eZ, pZ, fZ, by omega, fun i j p q i1 i2 j1 j2 f1 f2 => by
            have : i = j := by omega
            subst this
            rw [f1] at f2
            cases f2
            exact KeyOrd.kle_refl _⟩) fun c st' hI => ?_)
        · obtain ⟨xs2, Z2, k, rfl, rfl, e2', pm2, f2', k1, al⟩ := hI
          have hz2 := pm2.length_eq
          obtain ⟨p, e1, e2, Sp⟩ := at_ _ Z2 x e2' pm2 hx2
          obtain ⟨q, f1, f2, Sq⟩ := at_ _ Z2 (x - 1) e2' pm2 (by omega)
          dsimp only
          refine wpS_bind (ltAt_ok (hF xs2) e1 (by rw [show lo + x - 1 = lo + (x - 1) by omega]; exact f1) Sp Sq ?_)
          dsimp only
          have one : ∀ (W : List Keyed), Alk C W (x + 1 - (0 + 1)) (x + 1) := fun W i j p q i1 i2 j1 j2 f1 f2 => by
            have : i = j := by omega
            subst this
            rw [f1] at f2
            cases f2
            exact KeyOrd.kle_refl _
          cases e0 : C.O.blt (C.key p) (C.key q) with
          | true =>
            rw [if_pos rfl]
            by_cases hk : k > 0
            · rw [if_pos hk]
              refine wpS_bind (wpS_modify (wpS_pure ⟨_, rnd Z2 (x - (k + 1)) x, 0, rfl, rfl, mir_rnd e2' hlo (by omega) rfl (by omega) (by omega), (rnd_perm _ (by omega)).trans pm2, (f2'.more (by omega) e2 f2 (le_of_lt e0)).turned (by omega) (by omega) al, by omega, one _⟩))
            · rw [if_neg hk]
              exact wpS_pure ⟨xs2, Z2, 0, rfl, rfl, e2', pm2, f2'.more (by omega) e2 f2 (le_of_lt e0), by omega, one _⟩
          | false =>
            rw [if_neg Bool.false_ne_true]
            refine wpS_bind (ltAt_ok (hF xs2) (by rw [show lo + x - 1 = lo + (x - 1) by omega]; exact f1) e1 Sq Sp ?_)
            dsimp only
            cases e0' : C.O.blt (C.key q) (C.key p) with
            | true => exact wpS_pure ⟨xs2, Z2, x, k, rfl, rfl, by omega, by omega, e2', pm2, f2', k1, al⟩
            | false =>
              refine wpS_pure ⟨xs2, Z2, k + 1, rfl, rfl, e2', pm2, f2'.more (by omega) e2 f2 (le_of_not e0'), by omega, fun i j u v i1 i2 j1 j2 g1 g2 => ?_⟩
              have toq : ∀ i u, x - (k + 1) ≤ i → i < x + 1 → Z2[i]? = some u → le C u q ∧ le C q u := fun i u i1 i2 g => by
                by_cases hi : i < x
                · exact ⟨al i (x - 1) u q i1 hi (by omega) (by omega) g f2, al (x - 1) i q u (by omega) (by omega) i1 hi f2 g⟩
                · have : i = x := by omega
                  subst this
                  rw [e2] at g
                  cases g
                  exact ⟨le_of_not e0', le_of_not e0⟩
              exact le_trans (toq i u (by omega) i2 g1).1 (toq j v (by omega) j2 g2).2
        · obtain ⟨xs2, Z2, k, rfl, rfl, e2', pm2, f2', k1, al⟩ := hI
          exact ⟨xs2, Z2, _, k, rfl, rfl, by omega, by omega, e2', pm2, f2', k1, al⟩
        · obtain ⟨xs2, Z2, x, k, rfl, rfl, x1, x2, e2', pm2, f2', k1, al⟩ := hI
          have hz2 := pm2.length_eq
          dsimp only
          by_cases hk : k > 0
          · rw [if_pos hk]
            refine wpS_bind (wpS_modify (wpS_bind (wpS_modify ?_)))
            have eA := mir_rnd (i := lo + x - (k + 1)) (j := lo + x) e2' hlo (a := x - (k + 1)) (b := x) (by omega) rfl (by omega) (by omega)
            have pA := (rnd_perm Z2 (lo := x - (k + 1)) (hi := x) (by omega)).trans pm2
            have fA := f2'.turned (lo := x - (k + 1)) (hi := x) (by omega) (by omega) al
            have hzA := pA.length_eq
            have eB := mir_rnd (i := lo) (j := lo + x) eA hlo (a := 0) (b := x) (by omega) rfl (by omega) (by omega)
            have pB := (rnd_perm (rnd Z2 (x - (k + 1)) x) (lo := 0) (hi := x) (by omega)).trans pA
            have sB := fA.turn (by omega)
            refine wpS_bind (wpS_mono (wpS_forRange (I := fun y c st' => ∃ (xs : Array Keyed) (Z : List Keyed), st' = setArr st xs ∧ c = (none, y) ∧ xs.toList = P ++ Z ++ R ∧ Z.Perm X ∧ (Z.take y).Pairwise (le C))
              (Q := fun c st' => ∃ (xs : Array Keyed) (Z : List Keyed) (y : Nat), st' = setArr st xs ∧ c = (none, y) ∧ 1 ≤ y ∧ y ≤ n ∧ xs.toList = P ++ Z ++ R ∧ Z.Perm X ∧ (Z.take y).Pairwise (le C)) (fun y c st' hy1 hy2 hI => ?_) (fun c st' hI => ?_) ⟨_, _, rfl, rfl, eB, pB, sB⟩) fun c st' hI => ?_)
            · obtain ⟨xs3, Z3, rfl, rfl, e3, pm3, s3⟩ := hI
              obtain ⟨p, e1, e2, Sp⟩ := at_ _ Z3 y e3 pm3 hy2
              obtain ⟨q, f1, f2, Sq⟩ := at_ _ Z3 (y - 1) e3 pm3 (by omega)
              dsimp only
              refine wpS_bind (ltAt_ok (hF xs3) e1 (by rw [show lo + y - 1 = lo + (y - 1) by omega]; exact f1) Sp Sq ?_)
              dsimp only
              cases e0 : C.O.blt (C.key p) (C.key q) with
              | true => exact wpS_pure ⟨xs3, Z3, y, rfl, rfl, by omega, by omega, e3, pm3, s3⟩
              | false => exact wpS_pure ⟨xs3, Z3, rfl, rfl, e3, pm3, up_more s3 (by omega) e2 f2 (le_of_not e0)⟩
            · obtain ⟨xs3, Z3, rfl, rfl, e3, pm3, s3⟩ := hI
              exact ⟨xs3, Z3, _, rfl, rfl, by omega, by omega, e3, pm3, s3⟩
            · obtain ⟨xs3, Z3, y, rfl, rfl, y1, y2, e3, pm3, s3⟩ := hI
              exact wpS_pure (h y xs3 Z3 y1 y2 e3 pm3 s3)
          · rw [if_neg hk]
            refine wpS_bind (wpS_modify ?_)
            have eB := mir_rnd (i := lo) (j := lo + x) e2' hlo (a := 0) (b := x) (by omega) rfl (by omega) (by omega)
            have pB := (rnd_perm Z2 (lo := 0) (hi := x) (by omega)).trans pm2
            have sB := f2'.turn (by omega)
            refine wpS_bind (wpS_mono (wpS_forRange (I := fun y c st' => ∃ (xs : Array Keyed) (Z : List Keyed), st' = setArr st xs ∧ c = (none, y) ∧ xs.toList = P ++ Z ++ R ∧ Z.Perm X ∧ (Z.take y).Pairwise (le C))
              (Q := fun c st' => ∃ (xs : Array Keyed) (Z : List Keyed) (y : Nat), st' = setArr st xs ∧ c = (none, y) ∧ 1 ≤ y ∧ y ≤ n ∧ xs.toList = P ++ Z ++ R ∧ Z.Perm X ∧ (Z.take y).Pairwise (le C)) (fun y c st' hy1 hy2 hI => ?_) (fun c st' hI => ?_) ⟨_, _, rfl, rfl, eB, pB, sB⟩) fun c st' hI => ?_)
            · obtain ⟨xs3, Z3, rfl, rfl, e3, pm3, s3⟩ := hI
              obtain ⟨p, e1, e2, Sp⟩ := at_ _ Z3 y e3 pm3 hy2
              obtain ⟨q, f1, f2, Sq⟩ := at_ _ Z3 (y - 1) e3 pm3 (by omega)
              dsimp only
              refine wpS_bind (ltAt_ok (hF xs3) e1 (by rw [show lo + y - 1 = lo + (y - 1) by omega]; exact f1) Sp Sq ?_)
              dsimp only
              cases e0 : C.O.blt (C.key p) (C.key q) with
              | true => exact wpS_pure ⟨xs3, Z3, y, rfl, rfl, by omega, by omega, e3, pm3, s3⟩
              | false => exact wpS_pure ⟨xs3, Z3, rfl, rfl, e3, pm3, up_more s3 (by omega) e2 f2 (le_of_not e0)⟩
            · obtain ⟨xs3, Z3, rfl, rfl, e3, pm3, s3⟩ := hI
              exact ⟨xs3, Z3, _, rfl, rfl, by omega, by omega, e3, pm3, s3⟩
            · obtain ⟨xs3, Z3, y, rfl, rfl, y1, y2, e3, pm3, s3⟩ := hI
              exact wpS_pure (h y xs3 Z3 y1 y2 e3 pm3 s3)
    · rw [if_neg hm]
      have hm1 : m = 1 := by omega
      have fX : Fal C X m := fun i j p q hij hj f1 f2 => by
        have : i = j := by omega
        subst this
        rw [f1] at f2
        cases f2
        exact KeyOrd.kle_refl _
      have fZ := fX.more (by omega) epm epm1 (le_of_lt hlt)
      refine wpS_bind (wpS_lift (wpAny_rule ⟨rfl, ?_⟩))
      refine wpS_bind (wpS_mono (wpS_forRange (I := fun x c st' => ∃ (xs : Array Keyed) (Z : List Keyed) (k : Nat), st' = setArr st xs ∧ c = (none, x, k) ∧ xs.toList = P ++ Z ++ R ∧ Z.Perm X ∧ Fal C Z x ∧ k + 1 ≤ x ∧ Alk C Z (x - (k + 1)) x)
        (Q := fun c st' => ∃ (xs : Array Keyed) (Z : List Keyed) (x k : Nat), st' = setArr st xs ∧ c = (none, x, k) ∧ m + 1 ≤ x ∧ x ≤ n ∧ xs.toList = P ++ Z ++ R ∧ Z.Perm X ∧ Fal C Z x ∧ k + 1 ≤ x ∧ Alk C Z (x - (k + 1)) x) (fun x c st' hx1 hx2 hI => ?_) (fun c st' hI => ?_) ⟨(arrOf st), X, 0, rfl, rfl, hl, (.refl _), fZ, by omega, fun i j p q i1 i2 j1 j2 f1 f2 => by
          have : i = j := by omega
          subst this
          rw [f1] at f2
          cases f2
          exact KeyOrd.kle_refl _⟩) fun c st' hI => ?_)
      · obtain ⟨xs2, Z2, k, rfl, rfl, e2', pm2, f2', k1, al⟩ := hI
        have hz2 := pm2.length_eq
        obtain ⟨p, e1, e2, Sp⟩ := at_ _ Z2 x e2' pm2 hx2
        obtain ⟨q, f1, f2, Sq⟩ := at_ _ Z2 (x - 1) e2' pm2 (by omega)
        dsimp only
        refine wpS_bind (ltAt_ok (hF xs2) e1 (by rw [show lo + x - 1 = lo + (x - 1) by omega]; exact f1) Sp Sq ?_)
        dsimp only
        have one : ∀ (W : List Keyed), Alk C W (x + 1 - (0 + 1)) (x + 1) := fun W i j p q i1 i2 j1 j2 f1 f2 => by
          have : i = j := by omega
          subst this
          rw [f1] at f2
          cases f2
          exact KeyOrd.kle_refl _
        cases e0 : C.O.blt (C.key p) (C.key q) with
        | true =>
          rw [if_pos rfl]
          by_cases hk : k > 0
          · rw [if_pos hk]
            refine wpS_bind (wpS_modify (wpS_pure ⟨_, rnd Z2 (x - (k + 1)) x, 0, rfl, rfl, mir_rnd e2' hlo (by omega) rfl (by omega) (by omega), (rnd_perm _ (by omega)).trans pm2, (f2'.more (by omega) e2 f2 (le_of_lt e0)).turned (by omega) (by omega) al, by omega, one _⟩))
          · rw [if_neg hk]
            exact wpS_pure ⟨xs2, Z2, 0, rfl, rfl, e2', pm2, f2'.more (by omega) e2 f2 (le_of_lt e0), by omega, one _⟩
        | false =>
          rw [if_neg Bool.false_ne_true]
          refine wpS_bind (ltAt_ok (hF xs2) (by rw [show lo + x - 1 = lo + (x - 1) by omega]; exact f1) e1 Sq Sp ?_)
          dsimp only
          cases e0' : C.O.blt (C.key q) (C.key p) with
          | true => exact wpS_pure ⟨xs2, Z2, x, k, rfl, rfl, by omega, by omega, e2', pm2, f2', k1, al⟩
          | false =>
            refine wpS_pure ⟨xs2, Z2, k + 1, rfl, rfl, e2', pm2, f2'.more (by omega) e2 f2 (le_of_not e0'), by omega, fun i j u v i1 i2 j1 j2 g1 g2 => ?_⟩
            have toq : ∀ i u, x - (k + 1) ≤ i → i < x + 1 → Z2[i]? = some u → le C u q ∧ le C q u := fun i u i1 i2 g => by
              by_cases hi : i < x
              · exact ⟨al i (x - 1) u q i1 hi (by omega) (by omega) g f2, al (x - 1) i q u (by omega) (by omega) i1 hi f2 g⟩
              · have : i = x := by omega
                subst this
                rw [e2] at g
                cases g
                exact ⟨le_of_not e0', le_of_not e0⟩
            exact le_trans (toq i u (by omega) i2 g1).1 (toq j v (by omega) j2 g2).2
      · obtain ⟨xs2, Z2, k, rfl, rfl, e2', pm2, f2', k1, al⟩ := hI
        exact ⟨xs2, Z2, _, k, rfl, rfl, by omega, by omega, e2', pm2, f2', k1, al⟩
      · obtain ⟨xs2, Z2, x, k, rfl, rfl, x1, x2, e2', pm2, f2', k1, al⟩ := hI
        have hz2 := pm2.length_eq
        dsimp only
        by_cases hk : k > 0
        · rw [if_pos hk]
          refine wpS_bind (wpS_modify (wpS_bind (wpS_modify ?_)))
          have eA := mir_rnd (i := lo + x - (k + 1)) (j := lo + x) e2' hlo (a := x - (k + 1)) (b := x) (by omega) rfl (by omega) (by omega)
          have pA := (rnd_perm Z2 (lo := x - (k + 1)) (hi := x) (by omega)).trans pm2
          have fA := f2'.turned (lo := x - (k + 1)) (hi := x) (by omega) (by omega) al
          have hzA := pA.length_eq
          have eB := mir_rnd (i := lo) (j := lo + x) eA hlo (a := 0) (b := x) (by omega) rfl (by omega) (by omega)
          have pB := (rnd_perm (rnd Z2 (x - (k + 1)) x) (lo := 0) (hi := x) (by omega)).trans pA
          have sB := fA.turn (by omega)
          refine wpS_bind (wpS_mono (wpS_forRange (I := fun y c st' => ∃ (xs : Array Keyed) (Z : List Keyed), st' = setArr st xs ∧ c = (none, y) ∧ xs.toList = P ++ Z ++ R ∧ Z.Perm X ∧ (Z.take y).Pairwise (le C))
            (Q := fun c st' => ∃ (xs : Array Keyed) (Z : List Keyed) (y : Nat), st' = setArr st xs ∧ c = (none, y) ∧ 1 ≤ y ∧ y ≤ n ∧ xs.toList = P ++ Z ++ R ∧ Z.Perm X ∧ (Z.take y).Pairwise (le C)) (fun y c st' hy1 hy2 hI => ?_) (fun c st' hI => ?_) ⟨_, _, rfl, rfl, eB, pB, sB⟩) fun c st' hI => ?_)
          · obtain ⟨xs3, Z3, rfl, rfl, e3, pm3, s3⟩ := hI
            obtain ⟨p, e1, e2, Sp⟩ := at_ _ Z3 y e3 pm3 hy2
            obtain ⟨q, f1, f2, Sq⟩ := at_ _ Z3 (y - 1) e3 pm3 (by omega)
            dsimp only
            refine wpS_bind (ltAt_ok (hF xs3) e1 (by rw [show lo + y - 1 = lo + (y - 1) by omega]; exact f1) Sp Sq ?_)
            dsimp only
            cases e0 : C.O.blt (C.key p) (C.key q) with
            | true => exact wpS_pure ⟨xs3, Z3, y, rfl, rfl, by omega, by omega, e3, pm3, s3⟩
            | false => exact wpS_pure ⟨xs3, Z3, rfl, rfl, e3, pm3, up_more s3 (by omega) e2 f2 (le_of_not e0)⟩
          · obtain ⟨xs3, Z3, rfl, rfl, e3, pm3, s3⟩ := hI
            exact ⟨xs3, Z3, _, rfl, rfl, by omega, by omega, e3, pm3, s3⟩
          · obtain ⟨xs3, Z3, y, rfl, rfl, y1, y2, e3, pm3, s3⟩ := hI
            exact wpS_pure (h y xs3 Z3 y1 y2 e3 pm3 s3)
        · rw [if_neg hk]
          refine wpS_bind (wpS_modify ?_)
          have eB := mir_rnd (i := lo) (j := lo + x) e2' hlo (a := 0) (b := x) (by omega) rfl (by omega) (by omega)
          have pB := (rnd_perm Z2 (lo := 0) (hi := x) (by omega)).trans pm2
          have sB := f2'.turn (by omega)
          refine wpS_bind (wpS_mono (wpS_forRange (I := fun y c st' => ∃ (xs : Array Keyed) (Z : List Keyed), st' = setArr st xs ∧ c = (none, y) ∧ xs.toList = P ++ Z ++ R ∧ Z.Perm X ∧ (Z.take y).Pairwise (le C))
            (Q := fun c st' => ∃ (xs : Array Keyed) (Z : List Keyed) (y : Nat), st' = setArr st xs ∧ c = (none, y) ∧ 1 ≤ y ∧ y ≤ n ∧ xs.toList = P ++ Z ++ R ∧ Z.Perm X ∧ (Z.take y).Pairwise (le C)) (fun y c st' hy1 hy2 hI => ?_) (fun c st' hI => ?_) ⟨_, _, rfl, rfl, eB, pB, sB⟩) fun c st' hI => ?_)
          · obtain ⟨xs3, Z3, rfl, rfl, e3, pm3, s3⟩ := hI
            obtain ⟨p, e1, e2, Sp⟩ := at_ _ Z3 y e3 pm3 hy2
            obtain ⟨q, f1, f2, Sq⟩ := at_ _ Z3 (y - 1) e3 pm3 (by omega)
            dsimp only
            refine wpS_bind (ltAt_ok (hF xs3) e1 (by rw [show lo + y - 1 = lo + (y - 1) by omega]; exact f1) Sp Sq ?_)
            dsimp only
            cases e0 : C.O.blt (C.key p) (C.key q) with
            | true => exact wpS_pure ⟨xs3, Z3, y, rfl, rfl, by omega, by omega, e3, pm3, s3⟩
            | false => exact wpS_pure ⟨xs3, Z3, rfl, rfl, e3, pm3, up_more s3 (by omega) e2 f2 (le_of_not e0)⟩
          · obtain ⟨xs3, Z3, rfl, rfl, e3, pm3, s3⟩ := hI
            exact ⟨xs3, Z3, _, rfl, rfl, by omega, by omega, e3, pm3, s3⟩
          · obtain ⟨xs3, Z3, y, rfl, rfl, y1, y2, e3, pm3, s3⟩ := hI
            exact wpS_pure (h y xs3 Z3 y1 y2 e3 pm3 s3)
end
end Tim

set_option Elab.async false
set_option linter.all false
set_option maxRecDepth 100000
set_option maxHeartbeats 1000000
namespace Tim
open PySem PyProof.Rows
section
variable {prog : Program} {w : World} {A : Around} {E : Value → Shared → Prop} {s : Shared}
/-- the pending runs: sorted rows, end to end, from the place lo on -/
inductive Runs (C : Cmp prog w A E s) : Nat → List (Nat × Nat × Nat) → List (List Keyed) → Prop
  | nil (lo : Nat) : Runs C lo [] []
  | cons {lo n pw : Nat} {X : List Keyed} {ps : List (Nat × Nat × Nat)} {Xs : List (List Keyed)} : n = X.length → 0 < n → X.Pairwise (le C) → Runs C (lo + n) ps Xs → Runs C lo ((lo, n, pw) :: ps) (X :: Xs)
variable {C : Cmp prog w A E s}
theorem Runs.len {lo : Nat} {ps : List (Nat × Nat × Nat)} {Xs : List (List Keyed)} (h : Runs C lo ps Xs) : ps.length = Xs.length := by
  induction h with
  | nil => rfl
  | cons _ _ _ _ ih => rw [List.length_cons, List.length_cons, ih]
theorem Runs.snoc {lo : Nat} {ps : List (Nat × Nat × Nat)} {Xs : List (List Keyed)} (h : Runs C lo ps Xs) {X : List Keyed} {at_ n pw : Nat} (ha : at_ = lo + Xs.flatten.length) (hn : n = X.length) (h0 : 0 < n) (so : X.Pairwise (le C)) : Runs C lo (ps ++ [(at_, n, pw)]) (Xs ++ [X]) := by
  induction h with
  | nil lo =>
    simp only [List.flatten_nil, List.length_nil, Nat.add_zero] at ha
    subst ha
    exact .cons hn h0 so (.nil _)
  | cons a b c _ ih =>
    refine .cons a b c (ih ?_)
    rw [ha, List.flatten_cons, List.length_append]
    omega
theorem Runs.power {lo : Nat} {ps : List (Nat × Nat × Nat)} {Xs : List (List Keyed)} (h : Runs C lo ps Xs) (pw : Nat) : ∀ j, Runs C lo (ps.modify j fun x => (x.1, x.2.1, pw)) Xs := by
  induction h with
  | nil lo => intro j; cases j <;> exact .nil _
  | cons a b c t ih =>
    intro j
    cases j with
    | zero => exact .cons a b c t
    | succ j => exact .cons a b c (ih j)
/-- two neighbours are put together -/
theorem Runs.pair {lo : Nat} {ps : List (Nat × Nat × Nat)} {Xs : List (List Keyed)} (h : Runs C lo ps Xs) : ∀ {i : Nat} {a b : Nat × Nat × Nat}, ps[i]? = some a → ps[i + 1]? = some b → ∃ (L : List (List Keyed)) (X Y : List Keyed) (M : List (List Keyed)), Xs = L ++ X :: Y :: M ∧ a.1 = lo + L.flatten.length ∧ a.2.1 = X.length ∧ b.1 = a.1 + a.2.1 ∧ b.2.1 = Y.length ∧ 0 < a.2.1 ∧ 0 < b.2.1 ∧ X.Pairwise (le C) ∧ Y.Pairwise (le C) ∧
    ∀ Z : List Keyed, Z.length = X.length + Y.length → Z.Pairwise (le C) → Runs C lo ((ps.set i (a.1, a.2.1 + b.2.1, a.2.2)).eraseIdx (i + 1)) (L ++ Z :: M) := by
  induction h with
  | nil lo => intro i a b e _; simp at e
  | @cons lo n pw X ps Xs hn h0 so t ih =>
    intro i a b e1 e2
    cases i with
    | zero =>
      cases t with
      | nil _ => simp at e2
      | @cons _ n2 pw2 Y ps2 Xs2 hn2 h02 so2 t2 =>
        simp at e1 e2
        subst e1 e2
        refine ⟨[], X, Y, Xs2, rfl, by simp, hn, rfl, hn2, h0, h02, so, so2, fun Z hz sz => ?_⟩
        refine .cons (by dsimp only; omega) (by dsimp only; omega) sz ?_
        have : lo + (n + n2) = lo + n + n2 := by omega
        dsimp only
        rw [this]
        exact t2
    | succ i =>
      obtain ⟨L, X', Y', M, r1, r2, r3, r4, r5, r6, r7, r8, r9, r10⟩ := ih (i := i) (a := a) (b := b) (by simpa using e1) (by simpa using e2)
      subst r1
      refine ⟨X :: L, X', Y', M, rfl, by rw [r2, List.flatten_cons, List.length_append]; omega, r3, r4, r5, r6, r7, r8, r9, fun Z hz sz => ?_⟩
      exact .cons hn h0 so (r10 Z hz sz)
/-- the sort under way: runs in front, the rest behind -/
structure SR (C : Cmp prog w A E s) (kd : SortKind) (X0 : List Keyed) (rest : List Keyed) (k : Nat) (st : SortSt) : Prop where
  kd : kindOf st = kd
  fl : failedOf st = none
  pm : (arrOf st).toList.Perm X0
  rn : ∃ Xs, Runs C 0 (pendingOf st).toList Xs ∧ (arrOf st).toList = Xs.flatten ++ rest
  sz : (pendingOf st).size = k
theorem mrg_ok {kd : SortKind} {X0 rest : List Keyed} {k i : Nat} {st : SortSt} {Q : Bool → SortSt → Prop} (hF : ∀ (xs : Array Keyed) (p : Array (Nat × Nat × Nat)) (g : Nat), C.F (SortSt.mk' kd xs p g none)) (hS : ∀ p ∈ X0, C.S p) (S : SR C kd X0 rest k st) (hi : i + 1 < k)
    (h : ∀ st', SR C kd X0 rest (k - 1) st' → Q true st') : wpS (model prog w) A E s (mergeAt' i) Q st := by
  obtain ⟨hkd, hfl, hpm, ⟨Xs, hR, hl⟩, hsz⟩ := S
  have g1 : i < (pendingOf st).size := by omega
  have g2 : i + 1 < (pendingOf st).size := by omega
  have e1 : (pendingOf st)[i]? = some (pendingOf st)[i] := Array.getElem?_eq_getElem g1
  have e2 : (pendingOf st)[i + 1]? = some (pendingOf st)[i + 1] := Array.getElem?_eq_getElem g2
  obtain ⟨L, X, Y, M, rfl, q1, q2, q3, q4, q5, q6, q7, q8, q9⟩ := hR.pair (i := i) (by rw [Array.getElem?_toList]; exact e1) (by rw [Array.getElem?_toList]; exact e2)
  rw [Nat.zero_add] at q1
  refine mat_ok (P := L.flatten) (X := X) (Y := Y) (R := M.flatten ++ rest) (sa := (pendingOf st)[i].1) (na := (pendingOf st)[i].2.1) (pw := (pendingOf st)[i].2.2) (sb := (pendingOf st)[i + 1].1) (nb := (pendingOf st)[i + 1].2.1) (pw' := (pendingOf st)[i + 1].2.2)
    (fun p g => by rw [hkd, hfl]; exact hF _ p g) hfl e1 e2 (by rw [hl]; simp) (fun p hp => hS p (hpm.mem_iff.mp hp)) q1 q2 q3 q4 q5 q6 q7 q8 fun xs Z g ex pz sz => h _ ⟨hkd, hfl, ?_, ⟨L ++ Z :: M, ?_, ?_⟩, ?_⟩
  · show xs.toList.Perm X0
    refine List.Perm.trans ?_ hpm
    rw [ex, hl]
    simp only [List.flatten_append, List.flatten_cons, List.append_assoc]
    refine List.Perm.append_left _ ?_
    rw [← List.append_assoc X Y]
    exact pz.append_right _
  · show Runs C 0 ((Array.eraseIdxIfInBounds _ _).toList) _
    have hlen : i + 1 < ((pendingOf st).setIfInBounds i ((pendingOf st)[i].1, (pendingOf st)[i].2.1 + (pendingOf st)[i + 1].2.1, (pendingOf st)[i].2.2)).size := by rw [Array.size_setIfInBounds]; exact g2
    have z := q9 Z (by have := pz.length_eq; rw [List.length_append] at this; exact this) sz
    have e : (((pendingOf st).setIfInBounds i ((pendingOf st)[i].1, (pendingOf st)[i].2.1 + (pendingOf st)[i + 1].2.1, (pendingOf st)[i].2.2)).eraseIdxIfInBounds (i + 1)).toList = ((pendingOf st).toList.set i ((pendingOf st)[i].1, (pendingOf st)[i].2.1 + (pendingOf st)[i + 1].2.1, (pendingOf st)[i].2.2)).eraseIdx (i + 1) := by
      rw [Array.toList_eraseIdxIfInBounds, Array.toList_setIfInBounds]
    rw [e]
    exact z
  · show xs.toList = _
    rw [ex]
    simp
  · show (Array.eraseIdxIfInBounds _ _).size = k - 1
    rw [← Array.length_toList, Array.toList_eraseIdxIfInBounds, List.length_eraseIdx, Array.length_toList, Array.size_setIfInBounds, if_pos g2, hsz]
end
end Tim

set_option Elab.async false
set_option linter.all false
set_option maxRecDepth 100000
set_option maxHeartbeats 1000000
namespace Tim
open PySem PyProof.Rows
section
variable {prog : Program} {w : World} {A : Around} {E : Value → Shared → Prop} {s : Shared} {C : Cmp prog w A E s}
theorem wpS_ite {α : Type} {c : Prop} [Decidable c] {x y : StateT SortSt Sem α} {Q : α → SortSt → Prop} {st : SortSt} (h1 : c → wpS (model prog w) A E s x Q st) (h2 : ¬ c → wpS (model prog w) A E s y Q st) : wpS (model prog w) A E s (if c then x else y) Q st := by
  by_cases h : c
  · rw [if_pos h]; exact h1 h
  · rw [if_neg h]; exact h2 h
theorem SR.one {kd : SortKind} {X0 : List Keyed} {k : Nat} {st : SortSt} (S : SR C kd X0 [] k st) (hk : k ≤ 1) : (arrOf st).toList.Pairwise (le C) := by
  obtain ⟨Xs, hR, hl⟩ := S.rn
  have hlen := hR.len
  rw [Array.length_toList, S.sz] at hlen
  rw [hl, List.append_nil]
  clear hl
  generalize (pendingOf st).toList = ps at hR
  cases hR with
  | nil => simp
  | cons a b c t =>
    cases t with
    | nil => simpa using c
    | cons _ _ _ _ => simp only [List.length_cons] at hlen; omega
theorem SR.push {kd : SortKind} {X0 U V : List Keyed} {k lo n : Nat} {st : SortSt} (S : SR C kd X0 (U ++ V) k st) (hlo : lo + (U ++ V).length = X0.length) (hn : n = U.length) (h0 : 0 < n) (so : U.Pairwise (le C)) : SR C kd X0 V (k + 1) (setPending st ((pendingOf st).push (lo, n, 0))) := by
  obtain ⟨hkd, hfl, hpm, ⟨Xs, hR, hl⟩, hsz⟩ := S
  have hlen := hpm.length_eq
  rw [hl, List.length_append] at hlen
  refine ⟨hkd, hfl, hpm, ⟨Xs ++ [U], ?_, ?_⟩, ?_⟩
  · show Runs C 0 (((pendingOf st).push (lo, n, 0)).toList) _
    rw [Array.toList_push]
    exact hR.snoc (by omega) hn h0 so
  · show (arrOf st).toList = _
    rw [hl]
    simp
  · show ((pendingOf st).push (lo, n, 0)).size = k + 1
    rw [Array.size_push, hsz]
theorem SR.pow {kd : SortKind} {X0 R : List Keyed} {k j pw : Nat} {st : SortSt} (S : SR C kd X0 R k st) : SR C kd X0 R k (setPending st ((pendingOf st).modify j fun x => (x.1, x.2.1, pw))) := by
  obtain ⟨hkd, hfl, hpm, ⟨Xs, hR, hl⟩, hsz⟩ := S
  refine ⟨hkd, hfl, hpm, ⟨Xs, ?_, hl⟩, ?_⟩
  · show Runs C 0 (((pendingOf st).modify j fun x => (x.1, x.2.1, pw)).toList) _
    rw [Array.toList_modify]
    exact hR.power pw j
  · show ((pendingOf st).modify j fun x => (x.1, x.2.1, pw)).size = k
    rw [Array.size_modify, hsz]
theorem srt_ok {st : SortSt} {Q : Unit → SortSt → Prop} (hF : ∀ (xs : Array Keyed) (p : Array (Nat × Nat × Nat)) (g : Nat), C.F (SortSt.mk' (kindOf st) xs p g none)) (hf : failedOf st = none) (hp : pendingOf st = #[]) (hS : ∀ p ∈ (arrOf st).toList, C.S p)
    (h : ∀ st', (arrOf st').toList.Perm (arrOf st).toList → (arrOf st').toList.Pairwise (le C) → failedOf st' = none → Q () st') : wpS (model prog w) A E s sortRuns' Q st := by
  refine wpS_bind (wpS_get ?_)
  dsimp only
  refine wpS_bind (wpS_mono (wpS_forRange (I := fun x c st' => ∃ (lo k : Nat) (rest : List Keyed), c = (none, lo) ∧ SR C (kindOf st) (arrOf st).toList rest k st' ∧ lo + rest.length = (arrOf st).size ∧ x ≤ lo ∧ k ≤ lo)
    (Q := fun c st' => ∃ (lo k : Nat), c = (none, lo) ∧ SR C (kindOf st) (arrOf st).toList [] k st' ∧ k ≤ (arrOf st).size) ?oS ?oE ⟨0, 0, (arrOf st).toList, rfl, ⟨rfl, hf, .refl _, ⟨[], by rw [hp]; exact .nil _, rfl⟩, by rw [hp]; rfl⟩, by simp, Nat.le_refl _, Nat.le_refl _⟩) ?oP)
  case oE =>
    rintro c st' ⟨lo, k, rest, rfl, S, q1, q2, q3⟩
    have q2' : max 0 (arrOf st).size ≤ lo := q2
    have : rest = [] := List.length_eq_zero_iff.mp (by omega)
    subst this
    exact ⟨lo, k, rfl, S, by have : ([] : List Keyed).length = 0 := rfl; omega⟩
  case oP =>
    rintro c st' ⟨lo, k, rfl, S, q1⟩
    dsimp only
    refine wpS_bind (wpS_mono (wpS_forRange (I := fun x c st' => c = (none, ()) ∧ ∃ k, SR C (kindOf st) (arrOf st).toList [] k st' ∧ (k + x ≤ (arrOf st).size ∨ k ≤ 1))
      (Q := fun c st' => c = (none, ()) ∧ ∃ k, SR C (kindOf st) (arrOf st).toList [] k st' ∧ k ≤ 1) ?fS ?fE ⟨rfl, k, S, .inl (by omega)⟩) ?fP)
    case fP =>
      rintro c st' ⟨rfl, k, S, q⟩
      exact wpS_pure (h st' S.pm (S.one q) S.fl)
    case fE =>
      rintro c st' ⟨rfl, k, S, q⟩
      have q' : k + max 0 (arrOf st).size ≤ (arrOf st).size ∨ k ≤ 1 := q
      exact ⟨rfl, k, S, by omega⟩
    case fS =>
      rintro x c st' _ hx ⟨rfl, k, S, q⟩
      refine wpS_bind (wpS_get ?_)
      refine wpS_ite (fun hc => wpS_pure ⟨rfl, k, S, ?_⟩) fun hc => ?_
      · have hsz := S.sz
        have hc' : (pendingOf st').size ≤ 1 := hc
        omega
      · have hsz := S.sz
        have hc' : ¬ (pendingOf st').size ≤ 1 := hc
        refine wpS_bind (mrg_ok hF hS S ?_ fun st2 S2 => ?_)
        · have key : ∀ (b : Bool) (n : Nat), n = k → (if b = true then n - 2 - 1 else n - 2) + 1 < k := fun b n hn => by
            cases b
            · rw [if_neg Bool.false_ne_true]; omega
            · rw [if_pos rfl]; omega
          exact key _ _ hsz
        · exact wpS_pure ⟨rfl, k - 1, S2, by omega⟩
  case oS =>
    rintro x c st' _ hx ⟨lo, k, rest, rfl, S, q1, q2, q3⟩
    dsimp only
    refine wpS_ite (fun hc => ?_) fun hc => ?_
    · have hc' : lo ≥ (arrOf st).size := hc
      have : rest = [] := List.length_eq_zero_iff.mp (by omega)
      subst this
      exact wpS_pure ⟨lo, k, rfl, S, by omega⟩
    have hc' : ¬ lo ≥ (arrOf st).size := hc
    obtain ⟨hkd, hfl, hpm, ⟨Xs, hR, hl⟩, hsz⟩ := S
    have hz0 : (arrOf st).toList.length = (arrOf st).size := Array.length_toList
    have hlen := hpm.length_eq
    rw [hl, List.length_append, hz0] at hlen
    have hFs : ∀ xs, C.F (setArr st' xs) := fun xs => by
      show C.F (SortSt.mk' (kindOf st') xs (pendingOf st') (gallopOf st') (failedOf st'))
      rw [hkd, hfl]
      exact hF xs _ _
    have hSr : ∀ p ∈ rest, C.S p := fun p hp' => hS p (hpm.mem_iff.mp (by rw [hl]; exact List.mem_append_right _ hp'))
    refine wpS_bind (cnt_ok (C := C) (P := Xs.flatten) (X := rest) (R := []) hFs (by rw [hl, List.append_nil]) (show lo = Xs.flatten.length by omega) (show (arrOf st).size - lo = rest.length by omega) (show 1 ≤ (arrOf st).size - lo by omega) hSr fun m xs Z m1 m2 ex pz sz => ?_)
    have m2' : m ≤ (arrOf st).size - lo := m2
    have hzl := pz.length_eq
    have hpx : ∀ W : List Keyed, W.Perm Z → (Xs.flatten ++ W).Perm (arrOf st).toList := fun W hW => (((hW.trans pz).append_left Xs.flatten).trans (by rw [hl])).trans hpm
    rw [List.append_nil] at ex
    dsimp only
    refine wpS_ite (fun hm => ?_) (fun hm => ?_)
    · have hm' : m < minRun' (arrOf st).size (arrOf st).size 0 := hm
      refine wpS_bind (wpS_lift (wpAny_rule ⟨rfl, ?_⟩))
      refine wpS_bind (bin_ok (C := C) (st := setArr st' xs) (n := (min ((arrOf st).size - lo) (minRun' (arrOf st).size (arrOf st).size 0))) (P := Xs.flatten) (X := Z.take (min ((arrOf st).size - lo) (minRun' (arrOf st).size (arrOf st).size 0))) (R := Z.drop (min ((arrOf st).size - lo) (minRun' (arrOf st).size (arrOf st).size 0))) (fun ys => hFs ys) (by show xs.toList = _; rw [ex, List.append_assoc, List.take_append_drop]) (show lo = Xs.flatten.length by omega) (by rw [List.length_take]; omega) (by omega) (fun p hp' => hSr p (pz.mem_iff.mp (List.mem_of_mem_take hp'))) (by rw [List.take_take, Nat.min_eq_left (by omega)]; exact sz) fun ys U ey pu su => ?_)
      refine wpS_ite (fun hb => absurd hb (by decide)) fun _ => ?_
      have hul := pu.length_eq
      rw [List.length_take] at hul
      have S1 : SR C (kindOf st) (arrOf st).toList (U ++ Z.drop (min ((arrOf st).size - lo) (minRun' (arrOf st).size (arrOf st).size 0))) k (setArr st' ys) := ⟨hkd, hfl, by
        show ys.toList.Perm _
        rw [ey, List.append_assoc]
        refine hpx _ ?_
        conv => rhs; rw [← List.take_append_drop (min ((arrOf st).size - lo) (minRun' (arrOf st).size (arrOf st).size 0)) Z]
        exact pu.append_right _, ⟨Xs, hR, by show ys.toList = _; rw [ey, List.append_assoc]⟩, hsz⟩
      have hUl : (min ((arrOf st).size - lo) (minRun' (arrOf st).size (arrOf st).size 0)) = U.length := by omega
      have hU0 : 0 < (min ((arrOf st).size - lo) (minRun' (arrOf st).size (arrOf st).size 0)) := by omega
      have hUs := su
      have hz1 : (U ++ Z.drop (min ((arrOf st).size - lo) (minRun' (arrOf st).size (arrOf st).size 0))).length = rest.length := by rw [List.length_append, List.length_drop]; omega
      have hrest : (Z.drop (min ((arrOf st).size - lo) (minRun' (arrOf st).size (arrOf st).size 0))).length + (min ((arrOf st).size - lo) (minRun' (arrOf st).size (arrOf st).size 0)) = rest.length := by rw [List.length_drop]; omega
      refine wpS_bind (wpS_get ?_)
      cases hb : (pendingOf st').back? with
      | none =>
        dsimp only
        exact wpS_bind (wpS_modify (wpS_pure ⟨lo + (min ((arrOf st).size - lo) (minRun' (arrOf st).size (arrOf st).size 0)), k + 1, (Z.drop (min ((arrOf st).size - lo) (minRun' (arrOf st).size (arrOf st).size 0))), rfl, S1.push (by rw [hz1]; omega) hUl hU0 hUs, by omega, by omega, by omega⟩))
      | some bk =>
        obtain ⟨s1, n1, p1⟩ := bk
        dsimp only
        refine wpS_bind (wpS_mono (wpS_forRange (I := fun y c st2 => c = (none, ()) ∧ ∃ k2, SR C (kindOf st) (arrOf st).toList (U ++ (Z.drop (min ((arrOf st).size - lo) (minRun' (arrOf st).size (arrOf st).size 0)))) k2 st2 ∧ k2 ≤ k) (Q := fun c st2 => c = (none, ()) ∧ ∃ k2, SR C (kindOf st) (arrOf st).toList (U ++ (Z.drop (min ((arrOf st).size - lo) (minRun' (arrOf st).size (arrOf st).size 0)))) k2 st2 ∧ k2 ≤ k) (fun y c st2 _ hy hI => ?_) (fun c st2 hI => hI) ⟨rfl, k, S1, Nat.le_refl _⟩) fun c st2 hI => ?_)
        · obtain ⟨rfl, k2, S2, hk2⟩ := hI
          have hs2 := S2.sz
          refine wpS_bind (wpS_get ?_)
          by_cases hg : (pendingOf st2).size > 1
          · obtain ⟨⟨o1, o2, o3⟩, eo⟩ : ∃ o, (if (pendingOf st2).size > 1 then (pendingOf st2)[(pendingOf st2).size - 2]? else none) = some o := by
              rw [if_pos hg]
              exact ⟨_, Array.getElem?_eq_getElem (by omega)⟩
            erw [eo]
            dsimp only
            refine wpS_ite (fun _ => wpS_pure ⟨rfl, k2, S2, hk2⟩) fun _ => ?_
            refine wpS_bind (mrg_ok hF hS S2 (show (pendingOf st2).size - 2 + 1 < k2 by omega) fun st3 S3 => ?_)
            exact wpS_pure ⟨rfl, k2 - 1, S3, by omega⟩
          · have eo : (if (pendingOf st2).size > 1 then (pendingOf st2)[(pendingOf st2).size - 2]? else none) = none := if_neg hg
            erw [eo]
            exact wpS_pure ⟨rfl, k2, S2, hk2⟩
        · obtain ⟨rfl, k2, S2, hk2⟩ := hI
          dsimp only
          exact wpS_bind (wpS_modify (wpS_bind (wpS_modify (wpS_pure ⟨lo + (min ((arrOf st).size - lo) (minRun' (arrOf st).size (arrOf st).size 0)), k2 + 1, (Z.drop (min ((arrOf st).size - lo) (minRun' (arrOf st).size (arrOf st).size 0))), rfl, S2.pow.push (by rw [hz1]; omega) hUl hU0 hUs, by omega, by omega, by omega⟩))))
    · have S1 : SR C (kindOf st) (arrOf st).toList (Z.take m ++ Z.drop m) k (setArr st' xs) := ⟨hkd, hfl, by
        show xs.toList.Perm _
        rw [ex]
        exact hpx _ (.refl _), ⟨Xs, hR, by show xs.toList = _; rw [ex, List.take_append_drop]⟩, hsz⟩
      have hUl : m = (Z.take m).length := by rw [List.length_take]; omega
      have hU0 : 0 < m := by omega
      have hUs := sz
      have hz1 : (Z.take m ++ Z.drop m).length = rest.length := by rw [List.take_append_drop]; omega
      have hrest : (Z.drop m).length + m = rest.length := by rw [List.length_drop]; omega
      refine wpS_bind (wpS_get ?_)
      cases hb : (pendingOf st').back? with
      | none =>
        dsimp only
        exact wpS_bind (wpS_modify (wpS_pure ⟨lo + m, k + 1, (Z.drop m), rfl, S1.push (by rw [hz1]; omega) hUl hU0 hUs, by omega, by omega, by omega⟩))
      | some bk =>
        obtain ⟨s1, n1, p1⟩ := bk
        dsimp only
        refine wpS_bind (wpS_mono (wpS_forRange (I := fun y c st2 => c = (none, ()) ∧ ∃ k2, SR C (kindOf st) (arrOf st).toList ((Z.take m) ++ (Z.drop m)) k2 st2 ∧ k2 ≤ k) (Q := fun c st2 => c = (none, ()) ∧ ∃ k2, SR C (kindOf st) (arrOf st).toList ((Z.take m) ++ (Z.drop m)) k2 st2 ∧ k2 ≤ k) (fun y c st2 _ hy hI => ?_) (fun c st2 hI => hI) ⟨rfl, k, S1, Nat.le_refl _⟩) fun c st2 hI => ?_)
        · obtain ⟨rfl, k2, S2, hk2⟩ := hI
          have hs2 := S2.sz
          refine wpS_bind (wpS_get ?_)
          by_cases hg : (pendingOf st2).size > 1
          · obtain ⟨⟨o1, o2, o3⟩, eo⟩ : ∃ o, (if (pendingOf st2).size > 1 then (pendingOf st2)[(pendingOf st2).size - 2]? else none) = some o := by
              rw [if_pos hg]
              exact ⟨_, Array.getElem?_eq_getElem (by omega)⟩
            erw [eo]
            dsimp only
            refine wpS_ite (fun _ => wpS_pure ⟨rfl, k2, S2, hk2⟩) fun _ => ?_
            refine wpS_bind (mrg_ok hF hS S2 (show (pendingOf st2).size - 2 + 1 < k2 by omega) fun st3 S3 => ?_)
            exact wpS_pure ⟨rfl, k2 - 1, S3, by omega⟩
          · have eo : (if (pendingOf st2).size > 1 then (pendingOf st2)[(pendingOf st2).size - 2]? else none) = none := if_neg hg
            erw [eo]
            exact wpS_pure ⟨rfl, k2, S2, hk2⟩
        · obtain ⟨rfl, k2, S2, hk2⟩ := hI
          dsimp only
          exact wpS_bind (wpS_modify (wpS_bind (wpS_modify (wpS_pure ⟨lo + m, k2 + 1, (Z.drop m), rfl, S2.pow.push (by rw [hz1]; omega) hUl hU0 hUs, by omega, by omega, by omega⟩))))
end
end Tim

set_option Elab.async false
set_option linter.all false
set_option maxRecDepth 100000
set_option maxHeartbeats 1000000
namespace Tim
open PySem PyProof.Rows
section
variable {prog : Program} {w : World} {A : Around} {E : Value → Shared → Prop} {s : Shared}
theorem lt_int {st : SortSt} {x y : Keyed} {a b : Int} {t u : Tok} {Q : Option Bool → SortSt → Prop} (hk : kindOf st = oneType') (ex : x.1 = .int a t) (ey : y.1 = .int b u) (h : Q (some (decide (a < b))) st) : wpS (model prog w) A E s (lt' x y) Q st := by
  rw [lt'_eq]
  refine wpS_bind (wpS_get ?_)
  rw [hk, keyLt'_oneType, ex, ey]
  exact wpS_bind (wpS_lift (wpAny_attempt (oneLt_int ⟨rfl, wpS_pure h⟩)))
end
end Tim

set_option Elab.async false
set_option linter.all false
set_option maxRecDepth 100000
set_option maxHeartbeats 1000000
namespace Tim
open PySem PyProof.Rows
section
variable {prog : Program} {w : World} {A : Around} {E : Value → Shared → Prop} {s : Shared}
/-- pairs of whole numbers, the first one first -/
def pairOrd : KeyOrd where
  α := Int × Int
  blt a b := decide (a.1 < b.1 ∨ (a.1 = b.1 ∧ a.2 < b.2))
  irrefl a := by simp
  trans a b c h1 h2 := by simp at h1 h2 ⊢; omega
  negTrans a b c h := by simp at h ⊢; omega
  total a b h1 h2 := by
    obtain ⟨a1, a2⟩ := a
    obtain ⟨b1, b2⟩ := b
    simp at h1 h2 ⊢
    omega
/-- the value is a pair of whole numbers -/
def IsPr (h : Heap) (v : Value) (p : Int × Int) : Prop := ∃ a t u, v = .ref a ∧ IsTup h a #[.int p.1 t, .int p.2 u]
def prOf (h : Heap) (v : Value) : Int × Int := match v with
  | .ref a => match h.get? a with
    | some o => match o.data with
      | .seq its _ => (numOf (its.getD 0 .none), numOf (its.getD 1 .none))
      | _ => (0, 0)
    | none => (0, 0)
  | _ => (0, 0)
theorem IsPr.eq {h : Heap} {v : Value} {p : Int × Int} (x : IsPr h v p) : prOf h v = p := by
  obtain ⟨a, t, u, rfl, o, ho, hc, n, hd⟩ := x
  unfold prOf
  dsimp only
  rw [ho]
  dsimp only
  rw [hd]
  rfl
theorem lt_pair {st : SortSt} {x y : Keyed} {a b : Int × Int} {Q : Option Bool → SortSt → Prop} (hk : kindOf st = tuples' true) (ex : IsPr s.heap x.1 a) (ey : IsPr s.heap y.1 b) (h : Q (some (decide (a.1 < b.1 ∨ (a.1 = b.1 ∧ a.2 < b.2)))) st) :
    wpS (model prog w) A E s (lt' x y) Q st := by
  obtain ⟨ax, t, u, e1, ox, ho, hc, n, hd⟩ := ex
  obtain ⟨ay, t', u', e2, oy, ho', hc', n', hd'⟩ := ey
  rw [lt'_eq]
  refine wpS_bind (wpS_get ?_)
  rw [hk, e1, e2]
  refine wpS_bind (wpS_lift (wpAny_attempt (PySem.W.kat_lt ho hd ho' hd' ?_)))
  refine PySem.W.kat_cons (wpAny_eqBool_int (PySem.W.kat_go (fun e => PySem.W.kat_yes (PySem.W.kat_cons (wpAny_eqBool_int (PySem.W.kat_go (fun e' => PySem.W.kat_yes (PySem.W.kat_nil ?_)) fun e' => PySem.W.kat_no (PySem.W.kat_one _ _ (PyProof.Rows.lt_int ?_)))))) fun e => PySem.W.kat_no (oneLt_int ?_)))
  · refine ⟨rfl, wpS_pure ?_⟩
    have z1 : a.1 = b.1 := by simpa using e
    have z2 : a.2 = b.2 := by simpa using e'
    have z : decide (a.1 < b.1 ∨ (a.1 = b.1 ∧ a.2 < b.2)) = false := by simp [z1, z2]
    rw [z] at h
    exact h
  · have z1 : a.1 = b.1 := by simpa using e
    have z : decide (a.1 < b.1 ∨ (a.1 = b.1 ∧ a.2 < b.2)) = decide (a.2 < b.2) := by simp [z1]
    rw [z] at h
    exact ⟨rfl, wpS_pure h⟩
  · have z1 : ¬ a.1 = b.1 := by simpa using e
    have z : decide (a.1 < b.1 ∨ (a.1 = b.1 ∧ a.2 < b.2)) = decide (a.1 < b.1) := by simp [z1]
    rw [z] at h
    exact ⟨rfl, wpS_pure h⟩
/-- things whose keys are pairs of whole numbers -/
def prCmp (prog : Program) (w : World) (A : Around) (E : Value → Shared → Prop) (s : Shared) : Cmp prog w A E s where
  O := pairOrd
  key p := prOf s.heap p.1
  S p := ∃ q, IsPr s.heap p.1 q
  F st := kindOf st = tuples' true
  ok st p q Q hF hp hq h := by
    obtain ⟨a, ea⟩ := hp
    obtain ⟨b, eb⟩ := hq
    refine lt_pair hF ea eb ?_
    rw [ea.eq, eb.eq] at h
    exact h
def leP (a b : Int × Int) : Prop := a.1 < b.1 ∨ (a.1 = b.1 ∧ a.2 ≤ b.2)
theorem srt_pair {st : SortSt} {Q : Unit → SortSt → Prop} (hk : kindOf st = tuples' true) (hf : failedOf st = none) (hp : pendingOf st = #[]) (hS : ∀ p ∈ (arrOf st).toList, ∃ q, IsPr s.heap p.1 q)
    (h : ∀ st', (arrOf st').toList.Perm (arrOf st).toList → (arrOf st').toList.Pairwise (fun p q => leP (prOf s.heap p.1) (prOf s.heap q.1)) → failedOf st' = none → Q () st') : wpS (model prog w) A E s sortRuns' Q st := by
  refine srt_ok (C := prCmp prog w A E s) (fun xs p g => hk) hf hp hS fun st' h1 h2 h3 => h st' h1 (h2.imp fun {p q} hpq => ?_) h3
  have z : decide ((prOf s.heap q.1).1 < (prOf s.heap p.1).1 ∨ ((prOf s.heap q.1).1 = (prOf s.heap p.1).1 ∧ (prOf s.heap q.1).2 < (prOf s.heap p.1).2)) = false := hpq
  simp at z
  unfold leP
  omega
end
end Tim

set_option Elab.async false
set_option linter.all false
set_option maxRecDepth 100000
set_option maxHeartbeats 1000000
namespace L2
open PySem PySem.Spec PyProof.Rows
theorem Paired.snoc {α β : Type} {F : α → β → Prop} {a : α} {b : β} (r : F a b) : ∀ {l₁ : List α} {l₂ : List β}, Paired F l₁ l₂ → Paired F (l₁ ++ [a]) (l₂ ++ [b])
  | _, _, .nil => .cons r .nil
  | _, _, .cons q t => .cons q (Paired.snoc r t)
theorem Paired.ofPerm {α β : Type} {F : α → β → Prop} {qs ps : List β} (h : qs.Perm ps) : ∀ {xs : List α}, Paired F xs ps → ∃ ys, ys.Perm xs ∧ Paired F ys qs := by
  induction h with
  | nil => intro xs r; exact ⟨xs, .refl _, r⟩
  | cons x _ ih =>
    intro xs r
    cases r with
    | cons a t =>
      obtain ⟨ys, h1, h2⟩ := ih t
      exact ⟨_, h1.cons _, .cons a h2⟩
  | swap x y l =>
    intro xs r
    cases r with
    | cons a t =>
      cases t with
      | cons b t' => exact ⟨_, .swap _ _ _, .cons b (.cons a t')⟩
  | trans _ _ ih1 ih2 =>
    intro xs r
    obtain ⟨ys, h1, h2⟩ := ih2 r
    obtain ⟨zs, h3, h4⟩ := ih1 h2
    exact ⟨zs, h3.trans h1, h4⟩
theorem Paired.inl {α β : Type} {F : α → β → Prop} {x : α} : ∀ {xs : List α} {ys : List β}, Paired F xs ys → x ∈ xs → ∃ y, y ∈ ys ∧ F x y
  | _, _, .nil, h => by cases h
  | _, _, .cons r t, h => by
    rcases List.mem_cons.mp h with e | h
    · subst e; exact ⟨_, List.mem_cons_self, r⟩
    · obtain ⟨y, h1, h2⟩ := Paired.inl t h
      exact ⟨y, List.mem_cons_of_mem _ h1, h2⟩
theorem Paired.inr {α β : Type} {F : α → β → Prop} {y : β} : ∀ {xs : List α} {ys : List β}, Paired F xs ys → y ∈ ys → ∃ x, x ∈ xs ∧ F x y
  | _, _, .nil, h => by cases h
  | _, _, .cons r t, h => by
    rcases List.mem_cons.mp h with e | h
    · subst e; exact ⟨_, List.mem_cons_self, r⟩
    · obtain ⟨y, h1, h2⟩ := Paired.inr t h
      exact ⟨y, List.mem_cons_of_mem _ h1, h2⟩
theorem Paired.ord {α β : Type} {F : α → β → Prop} {R : β → β → Prop} {R' : α → α → Prop} (h : ∀ a a' b b', F a b → F a' b' → R b b' → R' a a') : ∀ {xs : List α} {ys : List β}, Paired F xs ys → ys.Pairwise R → xs.Pairwise R'
  | _, _, .nil, _ => .nil
  | _, _, .cons r t, p => by
    obtain ⟨p1, p2⟩ := List.pairwise_cons.mp p
    refine List.pairwise_cons.mpr ⟨fun a' ha => ?_, Paired.ord h t p2⟩
    obtain ⟨y, hy, q⟩ := Paired.inl t ha
    exact h _ _ _ _ r q (p1 y hy)
theorem Paired.snds {α β γ : Type} {F : α → γ → Prop} : ∀ {xs : List α} {ps : List (β × γ)}, Paired (fun a (p : β × γ) => F a p.2) xs ps → Paired F xs (ps.map (·.2))
  | _, _, .nil => .nil
  | _, _, .cons r t => .cons r (Paired.snds t)
theorem Paired.zip2 {α β γ : Type} {F : α → β → Prop} {G : α → γ → Prop} : ∀ {xs : List α} {ys : List β} {zs : List γ}, Paired F xs ys → Paired G xs zs → Paired (fun a (p : β × γ) => F a p.1 ∧ G a p.2) xs (ys.zip zs)
  | _, _, _, .nil, .nil => .nil
  | _, _, _, .cons r t, .cons r' t' => .cons ⟨r, r'⟩ (Paired.zip2 t t')
section
variable {P : Program} {w : World} {H H' : Hp} {h h1 h2 : Heap} {a : Addr} {o : HO} {fs : List Addr}
theorem HOk.turn (x : HOk P w H h) (n : H a = none) (k : ∀ b ob, b ≠ a → h.get? b = some ob → h1.get? b = some ob) : HOk P w H h1 := fun b u e =>
  (x b u e).stay (fun c v hc q => k c v (by
    rintro rfl
    rcases hc with z | z
    · subst z; rw [n] at e; cases e
    · rw [n] at z; cases z) q) (fun _ q => q) fun _ _ q => q
theorem HOk.track (x : HOk P w H h) (n : H a = none) (new : ObjOk P w (upd H a o) h a o) : HOk P w (upd H a o) h := fun b u e => by
  by_cases hb : b = a
  · subst hb; rw [upd_same] at e; cases e; exact new
  · rw [upd_ne hb] at e
    exact (x b u e).stay (fun c v _ q => q) (fun c q => by rw [upd_ne (ne_of_none q n)]; exact q) fun c xs q => by rw [upd_ne (ne_of_none q n)]; exact q
theorem Un.turn (u : Un fs [] H H' h h1) (n : h.get? a = none) (k : ∀ b ob, b ≠ a → h1.get? b = some ob → h2.get? b = some ob) : Un fs [] H H' h h2 := by
  have ne : ∀ b ob, h.get? b = some ob → b ≠ a := fun b ob e z => by rw [z, n] at e; cases e
  refine ⟨fun b ob e q hb hx => k b ob (ne b ob e) (u.keep b ob e q hb hx), fun b ob e q hb hx => ?_, u.free, fun b ob e hx => ?_, u.tups, u.frzs, u.tbls⟩
  · obtain ⟨sl, z⟩ := u.slot b ob e q hb hx
    exact ⟨sl, k b _ (ne b ob e) z⟩
  · obtain ⟨o', z⟩ := u.there b ob e hx
    exact ⟨o', k b _ (ne b ob e) z⟩
theorem Un.track (u : Un fs [] H H' h h1) (n : h.get? a = none) (n' : H' a = none) : Un fs [] H (upd H' a o) h h1 := by
  have ne : ∀ b ob, h.get? b = some ob → b ≠ a := fun b ob e z => by rw [z, n] at e; cases e
  refine ⟨u.keep, u.slot, fun b ob e q hx => by rw [upd_ne (ne b ob e)]; exact u.free b ob e q hx, u.there, fun b xs e => ?_, fun b ob v e => ?_, fun b ps e => ?_⟩
  · have z := u.tups b xs e
    rw [upd_ne (ne_of_none z n')]
    exact z
  · have z := u.frzs b ob v e
    rw [upd_ne (ne_of_none z n')]
    exact z
  · obtain ⟨more, z⟩ := u.tbls b ps e
    exact ⟨more, by rw [upd_ne (ne_of_none z n')]; exact z⟩
end
/-- the value is the key of x -/
def KeyIs (H : Hp) (kf : V → Int × Int) (x : V) (v : Value) : Prop := ∃ p, v = .ref p ∧ H p = some (.tup [.int (kf x).1, .int (kf x).2])
theorem KeyIs.pr {X : Cx} {H : Hp} {s : Shared} {kf : V → Int × Int} {x : V} {v : Value} (I : HOk X.prog X.w H s.heap) (k : KeyIs H kf x v) : Tim.IsPr s.heap v (kf x) := by
  obtain ⟨p, rfl, e⟩ := k
  obtain ⟨z, its, r, o, ho, hc, n, hd⟩ := I p _ e
  cases r with
  | cons r1 t =>
    cases t with
    | cons r2 t =>
      cases t
      obtain ⟨t1, rfl⟩ := r1
      obtain ⟨t2, rfl⟩ := r2
      exact ⟨p, t1, t2, rfl, o, ho, hc, n, hd⟩
/-- the state while the keys are made -/
structure LI (X : Cx) (H : Hp) (sB : Shared) (D kS : Addr) (e1 : Nat) (J : Hp → Prop) (kf : V → Int × Int) (xs : List V) (Hi : Hp) (kA : Array Value) (e : Nat) (s' : Shared) : Prop where
  os : s'.os = sB.os
  bare : AllBare s'.gens
  un : Un (frs X.stack) [] H Hi sB.heap s'.heap
  hok : HOk X.prog X.w Hi s'.heap
  gk : s'.heap.get? kS = some (seqObj "list" kA e)
  nk : Hi kS = none
  gD : s'.heap.get? D = some (seqObj "list" #[] e1)
  nD : Hi D = none
  j : J Hi
  keys : Paired (KeyIs Hi kf) xs kA.toList
/-- the token of a pair's first number -/
def tokOf (h : Heap) (v : Value) : Tok := match v with
  | .ref a => match h.get? a with
    | some o => match o.data with
      | .seq its _ => (match its.getD 0 .none with | .int _ t => t | _ => 0)
      | _ => 0
    | none => 0
  | _ => 0
theorem tups_of {h : Heap} : ∀ {vs : List Value}, (∀ v ∈ vs, ∃ q, Tim.IsPr h v q) → PySem.W.KatTups h vs (vs.map fun v => (Value.int (Tim.prOf h v).1 (tokOf h v)))
  | [], _ => .nil
  | v :: vs, hv => by
    obtain ⟨q, pr⟩ := hv v List.mem_cons_self
    have e := pr.eq
    obtain ⟨a, t, u, rfl, o, ho, hc, n, hd⟩ := pr
    refine PySem.W.KatTups.cons ho hc hd ?_ (tups_of fun v h' => hv v (List.mem_cons_of_mem _ h'))
    show _ = some (Value.int (Tim.prOf h (.ref a)).1 (tokOf h (.ref a)))
    rw [e]
    have et : tokOf h (.ref a) = t := by
      unfold tokOf
      dsimp only
      rw [ho]
      dsimp only
      rw [hd]
      rfl
    rw [et]
    rfl
section
variable {X : Cx} {pins : List (Addr × Obj)} {σ : St} {H : Hp} {sB s : Shared} {D kS : Addr} {e1 e : Nat} {J : Hp → Prop} {kf : V → Int × Int} {xs : List V} {its : List Value} {A : Around} {E : Value → Shared → Prop} {f : Value} {Hi : Hp} {kA : Array Value} {P : PySem.Fin → Shared → Prop}
theorem LI.inv (I : Inv X pins σ H sB) (l : LI X H sB D kS e1 J kf xs Hi kA e s) : Inv X pins σ Hi s := I.call' l.os l.un l.hok l.bare fun b hb => absurd hb (by simp)
/-- what is wanted behind the sort -/
abbrev SrkEnd (X : Cx) (H : Hp) (sB : Shared) (D : Addr) (J : Hp → Prop) (kf : V → Int × Int) (xs : List V) (P : PySem.Fin → Shared → Prop) : Prop :=
  ∀ (s' : Shared) (H' : Hp) (ys : List V), s'.os = sB.os → AllBare s'.gens → Un (frs X.stack) [] H (upd H' D (.lst ys)) sB.heap s'.heap → HOk X.prog X.w (upd H' D (.lst ys)) s'.heap → J H' → ys.Perm xs →
    ys.Pairwise (fun x y => Tim.leP (kf x) (kf y)) → H' D = none → P (.done (.ret .none)) s'
theorem srk_tail {st : SortSt} (l : LI X H sB D kS e1 J kf xs Hi kA e s) (hka : kS ≠ D) (nk : sB.heap.get? kS = none) (nD : sB.heap.get? D = none) (rv : Vals xs its) (hz : xs.length ≤ sizeLine)
    (hp : (arrOf st).toList.Perm (kA.toList.zip its)) (hs : (arrOf st).toList.Pairwise fun p q => Tim.leP (Tim.prOf s.heap p.1) (Tim.prOf s.heap q.1)) (hf : failedOf st = none) (h : SrkEnd X H sB D J kf xs P) :
    wpAny (model X.prog X.w) A (ksk_tail D false e1 (.ref kS) st) P E s := by
  have kl := l.keys.length
  have vl := rv.length
  have pr : Paired (fun x (p : Value × Value) => Tim.prOf s.heap p.1 = kf x ∧ RelV x p.2) xs (kA.toList.zip its) := Paired.zip2 (L2.Paired.mapP l.keys fun x v k => (KeyIs.pr (X := X) l.hok k).eq) rv
  obtain ⟨ys, y1, y2⟩ := Paired.ofPerm hp pr
  have y3 : ys.Pairwise (fun x y => Tim.leP (kf x) (kf y)) := Paired.ord (fun a a' b b' f1 f2 r => by rw [f1.1, f2.1] at r; exact r) y2 hs
  have y4 : Vals ys ((arrOf st).toList.map (·.2)) := Paired.snds (F := RelV) (L2.Paired.mapP y2 fun _ _ z => z.2)
  have hsz : (arrOf st).size = ys.length := by
    have := y2.length
    simpa using this.symm
  have yl := y1.length_eq
  have ks : xs.length = kA.size := by simpa using kl
  have s1 := Heap.SameBut.update s.heap kS (Obj.mapSeq fun _ => (#[] : Array Value))
  have na1 : (s.heap.update kS (Obj.mapSeq fun _ => (#[] : Array Value))).get? D = some (seqObj "list" #[] e1) := (s1.2 D hka.symm).trans l.gD
  have s2 := Heap.SameBut.update (s.heap.update kS (Obj.mapSeq fun _ => (#[] : Array Value))) D (Obj.mapSeq fun _ => (arrOf st).map (·.2))
  obtain ⟨c2, hc2⟩ : ∃ c2, ((s.heap.update kS (Obj.mapSeq fun _ => (#[] : Array Value))).update D (Obj.mapSeq fun _ => (arrOf st).map (·.2))).get? D = some (seqObj "list" ((arrOf st).map (·.2)) c2) :=
    ⟨_, get?_update_seq na1 fun _ => (arrOf st).map (·.2)⟩
  unfold ksk_tail
  try dsimp only
  refine wpAny_bind (listUpdate_at l.gk rfl ?_ (by omega) (Nat.zero_le _))
  refine wpAny_bind (wpAny_letGo ?_)
  refine wpAny_bind (seqEpoch_at na1 rfl ?_)
  refine wpAny_bind (listUpdate_at na1 rfl ?_ (Nat.zero_le _) (by
    show ((arrOf st).map (·.2)).size ≤ sizeLine + 1
    rw [Array.size_map]; omega))
  rw [hf]
  simp only [bne_self_eq_false, Bool.false_eq_true, if_false]
  have ok2 : HOk X.prog X.w Hi ((s.heap.update kS (Obj.mapSeq fun _ => (#[] : Array Value))).update D (Obj.mapSeq fun _ => (arrOf st).map (·.2))) :=
    (l.hok.turn l.nk fun b ob hb q => (s1.2 b hb).trans q).turn l.nD fun b ob hb q => (s2.2 b hb).trans q
  have un2 : Un (frs X.stack) [] H Hi sB.heap ((s.heap.update kS (Obj.mapSeq fun _ => (#[] : Array Value))).update D (Obj.mapSeq fun _ => (arrOf st).map (·.2))) :=
    (l.un.turn nk fun b ob hb q => (s1.2 b hb).trans q).turn nD fun b ob hb q => (s2.2 b hb).trans q
  refine wpAny_pure (h _ Hi ys l.os l.bare (un2.track nD l.nD) (ok2.track l.nD ⟨by omega, _, c2, y4, ?_⟩) l.j y1 y3 l.nD)
  have ea : ((arrOf st).map (·.2)) = ((arrOf st).toList.map (·.2)).toArray := by
    apply Array.toList_inj.mp
    simp
  rw [← ea]
  exact hc2
theorem srk_end (I : Inv X pins σ H sB) (l : LI X H sB D kS e1 J kf xs Hi kA e s) (hka : kS ≠ D) (nk : sB.heap.get? kS = none) (nD : sB.heap.get? D = none) (rv : Vals xs its) (hz : xs.length ≤ sizeLine) (h : SrkEnd X H sB D J kf xs P) :
    wpAny (model X.prog X.w) A (ksk_end D false its.toArray e1 (.ref kS) kA) P E s := by
  have kl := l.keys.length
  have vl := rv.length
  have ks : xs.length = kA.size := by simpa using kl
  have ez : (kA.zip its.toArray).toList = kA.toList.zip its := ksk_zip kA its
  have prs : ∀ v ∈ kA.toList, ∃ q, Tim.IsPr s.heap v q := fun v hv => by
    obtain ⟨x, _, k⟩ := Paired.inr l.keys hv
    exact ⟨_, KeyIs.pr (X := X) l.hok k⟩
  unfold ksk_end
  try dsimp only
  simp only [Bool.false_eq_true, if_false]
  by_cases h2 : its.toArray.size < 2
  · rw [if_pos h2, if_pos h2]
    refine wpAny_bind (wpAny_pure ?_)
    rw [StateT.run_pure]
    refine wpAny_bind (wpAny_pure ?_)
    try dsimp only
    refine srk_tail (st := SortSt.mk' general' (kA.zip its.toArray) #[] 7 none) l hka nk nD rv hz (by show (kA.zip its.toArray).toList.Perm _; rw [ez]) ?_ rfl h
    show (kA.zip its.toArray).toList.Pairwise _
    rw [ez]
    rw [List.size_toArray] at h2
    have hl : (kA.toList.zip its).length < 2 := by rw [List.length_zip]; omega
    match kA.toList.zip its, hl with
    | [], _ => exact .nil
    | [p], _ => exact List.pairwise_singleton _ _
    | p :: q :: r, hl => simp at hl; omega
  · rw [if_neg h2, if_neg h2]
    rw [List.size_toArray] at h2
    have ekA : kA = kA.toList.toArray := by simp
    have hpos : 0 < kA.toList.length := by rw [Array.length_toList]; omega
    have kk : wpAny (model X.prog X.w) A (keyKind' kA.toList.toArray) (fun kd s' => kd = tuples' true ∧ s' = s) E s := by
      refine PySem.W.kat_kind (T := .type "int") (fs := kA.toList.map fun v => (Value.int (Tim.prOf s.heap v).1 (tokOf s.heap v))) ?_ (by rw [List.length_map]; exact hpos) ?_ rfl ⟨rfl, rfl⟩
      · exact tups_of prs
      · intro v hv
        obtain ⟨u, _, rfl⟩ := List.mem_map.mp hv
        exact .now
    rw [← ekA] at kk
    refine wpAny_bind (wpAny_mono kk (fun kd s' hk => ?_) fun _ _ z => z)
    obtain ⟨rfl, rfl⟩ := hk
    refine wpAny_bind (wpAny_mono (Tim.srt_pair (st := SortSt.mk' (tuples' true) (kA.zip its.toArray) #[] 7 none)
      (Q := fun _ st' => (arrOf st').toList.Perm (kA.zip its.toArray).toList ∧ (arrOf st').toList.Pairwise (fun p q => Tim.leP (Tim.prOf s'.heap p.1) (Tim.prOf s'.heap q.1)) ∧ failedOf st' = none)
      rfl rfl rfl (fun p hp => ?_) fun st' a1 a2 a3 => ⟨a1, a2, a3⟩) ?_ fun _ _ z => z)
    · have hp' : p ∈ (kA.zip its.toArray).toList := hp
      rw [ez] at hp'
      obtain ⟨p1, p2⟩ := p
      exact prs _ (List.of_mem_zip hp').1
    · rintro ⟨⟨⟩, st'⟩ s2 ⟨rfl, hp, hs, hf⟩
      try dsimp only
      rw [ez] at hp
      exact srk_tail l hka nk nD rv hz hp hs hf h
/-- one key is made -/
abbrev SrkRun (X : Cx) (pins : List (Addr × Obj)) (σ : St) (A : Around) (f : Value) (J : Hp → Prop) (kf : V → Int × Int) (xs : List V) : Prop :=
  ∀ (s' : Shared) (H' : Hp) (x : V) (v : Value), x ∈ xs → RelV x v → Inv X pins σ H' s' → J H' →
    wpAny (model X.prog X.w) A (call f [v]) (CE X.stack X.prog X.w H' s' fun u H2 => (∃ p, u = .ref p ∧ H2 p = some (.tup [.int (kf x).1, .int (kf x).2])) ∧ J H2) (fun _ _ => False) s'
theorem srk_rest (I : Inv X pins σ H sB) (l : LI X H sB D kS e1 J kf [] H #[] 0 s) (hka : kS ≠ D) (nk : sB.heap.get? kS = none) (nD : sB.heap.get? D = none) (rv : Vals xs its) (hz : xs.length ≤ sizeLine) (run : SrkRun X pins σ A f J kf xs) (h : SrkEnd X H sB D J kf xs P) :
    wpAny (model X.prog X.w) A (ksk_rest D f false its.toArray e1 (.ref kS)) P E s := by
  have vl := rv.length
  have nofr : ∀ b, sB.heap.get? b = none → b ∉ frs X.stack := fun b hb z => by
    obtain ⟨_, o, ho, _⟩ := I.stack.mem z
    rw [hb] at ho; cases ho
  unfold ksk_rest
  refine wpAny_bind (wpAny_rule ?_)
  first
    | rw [List.forIn_toArray]
    | (rw [← Array.forIn_toList]; simp only [List.toList_toArray])
    | rw [← Array.forIn_toList]
  refine wpAny_bind (ksk_fold (fun i s' => ∃ Hi kA e, LI X H sB D kS e1 J kf (xs.take i) Hi kA e s') its 0 s ⟨H, #[], 0, by simpa using l⟩ ?step ?done)
  case step =>
    rintro j v s' hv ⟨Hi, kA, e, l'⟩
    simp only [Nat.zero_add] at l' ⊢
    have hj : j < its.length := (List.getElem?_eq_some_iff.mp hv).1
    obtain ⟨x, hx⟩ : ∃ x, xs[j]? = some x := ⟨_, List.getElem?_eq_getElem (by omega)⟩
    obtain ⟨v', hv', rx⟩ := rv.get hx
    rw [hv] at hv'
    cases hv'
    have kz : kA.size ≤ its.length := by
      have h1 : (xs.take j).length = kA.size := by simpa using l'.keys.length
      rw [List.length_take] at h1
      omega
    refine wpAny_bind (wpAny_attempt (wpAny_mono (run s' Hi x v (List.mem_of_getElem? hx) rx (l'.inv I) l'.j) (fun u s2 hc => ?_) fun _ _ z => z.elim))
    obtain ⟨y, H2, os2, bare2, un2, hok2, ry, ⟨p, rfl, hp⟩, j2⟩ := hc
    cases ry
    try dsimp only
    have gk2 := un2.keep kS _ l'.gk l'.nk (nofr kS nk) (by simp)
    have gD2 := un2.keep D _ l'.gD l'.nD (nofr D nD) (by simp)
    have nk2 := un2.free kS _ l'.gk l'.nk (by simp)
    have nD2 := un2.free D _ l'.gD l'.nD (by simp)
    have s1 := Heap.SameBut.update s2.heap kS (Obj.mapSeq (·.push (.ref p)))
    obtain ⟨c2, hc2⟩ : ∃ c2, (s2.heap.update kS (Obj.mapSeq (·.push (.ref p)))).get? kS = some (seqObj "list" (kA.push (.ref p)) c2) := ⟨_, get?_update_seq gk2 (·.push (.ref p))⟩
    have ek : xs.take (j + 1) = xs.take j ++ [x] := by rw [List.take_add_one, hx]; simp
    have ea : (kA.push (Value.ref p)).toList = kA.toList ++ [Value.ref p] := by simp
    refine wpAny_bind (listUpdate_at gk2 rfl ?_ (by omega) (Nat.le_trans (Nat.le_of_eq (Array.size_push ..)) (by omega)))
    refine wpAny_pure ⟨rfl, H2, kA.push (.ref p), c2, os2.trans l'.os, bare2, (l'.un.trans un2).turn nk fun b ob hb q => (s1.2 b hb).trans q, hok2.turn nk2 fun b ob hb q => (s1.2 b hb).trans q, hc2, nk2, (s1.2 D hka.symm).trans gD2, nD2, j2, ?_⟩
    rw [ea, ek]
    exact Paired.snoc ⟨p, rfl, hp⟩ (L2.Paired.mapP l'.keys fun a b ⟨q, e1, e2⟩ => ⟨q, e1, un2.tups q _ e2⟩)
  case done =>
    rintro s' ⟨Hi, kA, e, l'⟩
    have e3 : xs.take (0 + its.length) = xs := List.take_of_length_le (by omega)
    rw [e3] at l'
    try dsimp only
    refine wpAny_bind (listItems_at l'.gk rfl ?_)
    exact srk_end I l' hka nk nD rv hz h
theorem srk_tree {n : Nat} (I : Inv X pins σ H sB) (os : s.os = sB.os) (bare : AllBare s.gens) (un : Un (frs X.stack) [] H H sB.heap s.heap) (hok : HOk X.prog X.w H s.heap) (ho : s.heap.get? D = some (seqObj "list" its.toArray n)) (nD : sB.heap.get? D = none) (HD : H D = none)
    (hle : sB.heap.objs.size ≤ s.heap.objs.size) (j : J H) (rv : Vals xs its) (hz : xs.length ≤ sizeLine) (run : SrkRun X pins σ A f J kf xs) (h : SrkEnd X H sB D J kf xs P) : wpAny (model X.prog X.w) A (ksk_tree D f false) P E s := by
  have vl := rv.length
  have hD : D < s.heap.objs.size := Heap.lt_size ho
  have s1 := Heap.SameBut.update s.heap D (Obj.mapSeq fun _ => (#[] : Array Value))
  obtain ⟨e1, ho1⟩ : ∃ e1, (s.heap.update D (Obj.mapSeq fun _ => (#[] : Array Value))).get? D = some (seqObj "list" #[] e1) := ⟨_, get?_update_seq ho fun _ => #[]⟩
  have hkS : ((s.heap.update D (Obj.mapSeq fun _ => (#[] : Array Value))).push (seqObj "tuple" its.toArray 0)).objs.size = s.heap.objs.size + 1 := by rw [size_push', Heap.size_update]
  unfold ksk_tree
  refine wpAny_bind (listItems_at ho rfl ?_)
  refine wpAny_bind (listUpdate_at ho rfl ?_ (by rw [List.size_toArray]; omega) (Nat.zero_le _))
  refine wpAny_bind (seqEpoch_at ho1 rfl ?_)
  refine wpAny_bind (wpAny_newTuple ?_ (by show its.length ≤ _; omega))
  refine wpAny_bind (wpAny_newList ?_ (Nat.zero_le _))
  refine wpAny_holding ?_
  have kp : ∀ b ob, (s.heap.update D (Obj.mapSeq fun _ => (#[] : Array Value))).get? b = some ob → (((s.heap.update D (Obj.mapSeq fun _ => (#[] : Array Value))).push (seqObj "tuple" its.toArray 0)).push (seqObj "list" #[] 0)).get? b = some ob :=
    fun b ob q => Heap.get?_push_of_some _ (Heap.get?_push_of_some _ q)
  have kp2 : ∀ b ob, b ≠ D → s.heap.get? b = some ob → (((s.heap.update D (Obj.mapSeq fun _ => (#[] : Array Value))).push (seqObj "tuple" its.toArray 0)).push (seqObj "list" #[] 0)).get? b = some ob := fun b ob hb q => kp b ob ((s1.2 b hb).trans q)
  have hne : ((s.heap.update D (Obj.mapSeq fun _ => (#[] : Array Value))).push (seqObj "tuple" its.toArray 0)).objs.size ≠ D := by rw [hkS]; exact Nat.ne_of_gt (Nat.lt_succ_of_lt hD)
  refine srk_rest (s := { s with heap := ((s.heap.update D (Obj.mapSeq fun _ => (#[] : Array Value))).push (seqObj "tuple" its.toArray 0)).push (seqObj "list" #[] 0) }) (kS := ((s.heap.update D (Obj.mapSeq fun _ => (#[] : Array Value))).push (seqObj "tuple" its.toArray 0)).objs.size)
    I ⟨os, bare, un.turn nD kp2, hok.turn HD kp2, Heap.get?_push_size _ rfl, ?_, kp D _ ho1, HD, j, .nil⟩ hne ?_ nD rv hz run h
  · exact I.hok.fresh (by rw [hkS]; omega)
  · exact Heap.get?_none_of_le (by rw [hkS]; omega)
end
section
variable {X : Cx} {pins : List (Addr × Obj)} {σ : St} {H : Hp} {s : Shared} {l : Addr} {J : Hp → Prop} {kf : V → Int × Int} {xs : List V} {f : Addr} {Q : VK}
theorem srk_sorted (I : Inv X pins σ H s) (hl : SqL X.K H l xs) (j : J H) (run : SrkRun X pins σ X.A.in1.in1 (.ref f) J kf xs)
    (h : ∀ H' ys D, J H' → ys.Perm xs → ys.Pairwise (fun x y => Tim.leP (kf x) (kf y)) → H' D = none → Q (.ref D) (upd H' D (.lst ys))) :
    wpAny (model X.prog X.w) X.A (call (.builtin "sorted") [.ref l] [(Str.ofString "key", .ref f)]) (EP X pins σ Q) X.xe s := by
  obtain ⟨its, rv, pl, hz⟩ := I.list hl
  have vl := rv.length
  refine call_function_entry_kw kind_sorted plain_sorted entry_sorted (ksk_s1 _ _) ?_
  unfold Builtin.«sorted»
  refine wpAny_bind (m := checkCount "sorted" 1 1 _) (wpAny_pure ?_)
  refine wpAny_bind (collect_list pl.isList ?_ (by omega))
  refine wpAny_bind (wpAny_newList ?_ (by omega))
  have hsz : ((s.heap.push (seqObj "list" #[] 0)).update s.heap.objs.size (Obj.mapSeq (· ++ its.toArray))).objs.size = s.heap.objs.size + 1 := by
    rw [Heap.size_update, size_push']
  have hoL : (((s.heap.push (seqObj "list" #[] 0)).update s.heap.objs.size (Obj.mapSeq (· ++ its.toArray))).push (seqObj "list" its.toArray 0)).get? (s.heap.objs.size + 1) = some (seqObj "list" its.toArray 0) := by
    rw [← hsz]; exact Heap.get?_push_size _ rfl
  have keep : ∀ b o, s.heap.get? b = some o → (((s.heap.push (seqObj "list" #[] 0)).update s.heap.objs.size (Obj.mapSeq (· ++ its.toArray))).push (seqObj "list" its.toArray 0)).get? b = some o := fun b o q => by
    have hlt : b < s.heap.objs.size := Heap.lt_size q
    rw [Heap.get?_push_ne _ _ _ (by rw [hsz]; exact Nat.ne_of_lt (Nat.lt_succ_of_lt hlt)), Heap.get?_update_ne _ _ _ _ (Nat.ne_of_lt hlt), Heap.get?_push_ne _ _ _ (Nat.ne_of_lt hlt)]
    exact q
  show wpAny _ _ _ _ _ { s with heap := ((s.heap.push (seqObj "list" #[] 0)).update s.heap.objs.size (Obj.mapSeq (· ++ its.toArray))).push (seqObj "list" its.toArray 0) }
  rw [hsz]
  refine wpAny_bind (wpAny_holding (wpAny_call_entry_kw slot_list_sort ⟨_, hoL, rfl⟩ entry_list_sort ?body (ksk_l1 _ _)))
  case body =>
    have ht' := ksk_t1 f (s.heap.objs.size + 1)
    show wpAny (model X.prog X.w) X.A.in1.in1 (Builtin.«list.sort» ⟨[.ref (s.heap.objs.size + 1)], [(Str.ofString "key", .ref f)]⟩) _ _ _
    rw [ht']
    refine srk_tree (sB := s) (s := { s with heap := ((s.heap.push (seqObj "list" #[] 0)).update s.heap.objs.size (Obj.mapSeq (· ++ its.toArray))).push (seqObj "list" its.toArray 0) })
      I rfl I.bare (Un.kept keep) (I.hok.kept keep) hoL (Heap.get?_none_of_le (Nat.le_succ _)) (I.hok.fresh (Nat.le_succ _)) (by rw [size_push', hsz]; omega) j rv hz run fun s' H' ys os bare un hok j' y1 y2 hD => ⟨_, rfl, ?_⟩
    refine wpAny_pure ⟨_, rfl, .ref (s.heap.objs.size + 1), upd H' (s.heap.objs.size + 1) (.lst ys), I.call' os un hok bare fun b hb => absurd hb (by simp), rfl, h H' ys _ j' y1 y2 hD⟩
end
def tSortK (K : PySem.W.Frag) (sp : Sp) (te : TE) : TE := fun σ H Q => te σ H fun x H1 => ∃ (l : Addr) (xs : List V) (kf : V → Int × Int) (J : Hp → Prop), x = .ref l ∧ SqL K H1 l xs ∧ J H1 ∧
  (∀ H' x, x ∈ xs → J H' → sp [x] H' (fun v H2 => (∃ p, v = .ref p ∧ H2 p = some (.tup [.int (kf x).1, .int (kf x).2])) ∧ J H2) E0) ∧
  ∀ H' ys D, J H' → ys.Perm xs → ys.Pairwise (fun x y => Tim.leP (kf x) (kf y)) → H' D = none → Q (.ref D) (upd H' D (.lst ys))
end L2

set_option Elab.async false
set_option linter.all false
set_option maxRecDepth 100000
set_option maxHeartbeats 1000000
namespace L2
open PySem PySem.Spec PyProof.Rows
theorem pe_sortedK {X : Cx} {e : Expr} {te : TE} {g : Str} {ps : List Str} {k : Nat} {sp : Sp} {p pos q kpos : Pos} (C : Cal X.prog X.w X.K X.mg X.base g ps k sp) (hr : Room (k + 2) X.A) (hg : Gl X "sorted") (hm : X.mg "sorted" = none) (hgg : Gl X g) (he : PE X e te)
    (hs : starEach [e] X.env = [(false, eval e X.env)] := by rfl) (hdb : (g == ("__debug__" : Str)) = false := by decide) : PE X (.Call (.Name "sorted" p) [e] [⟨some "key", .Name g q, kpos⟩] pos) (tSortK X.K sp te) := by
  obtain ⟨f, fd, F, b, hk, hmg⟩ := C.ex
  intro pins s σ H Q I h
  refine wpAny_Call_Name_kw (ld_blt I hg hm PyProof.Rows.boot_sorted ?_)
  refine callWith_kw ?_ (by rw [hs]; rfl) (by rw [hs]; rfl)
  refine thn ((pa_cons he pa_nil hs) pos pins s σ H (fun vs H1 => match vs with
    | [x] => ∃ (l : Addr) (xs : List V) (kf : V → Int × Int) (J : Hp → Prop), x = .ref l ∧ SqL X.K H1 l xs ∧ J H1 ∧
      (∀ H' x, x ∈ xs → J H' → sp [x] H' (fun v H2 => (∃ p, v = .ref p ∧ H2 p = some (.tup [.int (kf x).1, .int (kf x).2])) ∧ J H2) E0) ∧
      ∀ H' ys D, J H' → ys.Perm xs → ys.Pairwise (fun x y => Tim.leP (kf x) (kf y)) → H' D = none → Q (.ref D) (upd H' D (.lst ys))
    | _ => False) I h) fun us s1 ⟨vs, H1, I1, r, q1⟩ => ?_
  have hkw : PK X [⟨some "key", .Name g q, kpos⟩] (tCons (tC (.ref f)) tNil) := pk_cons (pe_glob hgg hmg rfl hdb) pk_nil
  refine thn (hkw pos pins s1 σ H1 (fun zs H2 => zs = [.ref f] ∧ H2 = H1) I1 ⟨rfl, rfl⟩) fun ws s2 ⟨zs, H2, I2, rz, ez, eH⟩ => ?_
  subst ez eH
  cases vs with
  | nil => exact q1.elim
  | cons x vs =>
    cases vs with
    | cons y vs => exact q1.elim
    | nil =>
      cases r with
      | cons rx t =>
        cases t
        cases rz with
        | cons rf t =>
          cases t
          cases rf
          obtain ⟨l, xs, kf, J, rfl, hl, j, step, done⟩ := q1
          cases rx
          have run : SrkRun X pins σ X.A.in1.in1 (.ref f) J kf xs := fun s' H' x v hx rx I' hj => by
            have st := step H' x hx hj
            have hl' : ([v] ++ [] : List Value).length = ps.length := by
              have z := F.len _ _ _ _ st
              exact z
            refine wpAny_call (codeAny_mono (F.run X.A.in1.in1 X.stack s' H' ⟨[v], []⟩ [v] [x] _ E0 hr.in1.in1 I'.env0.in1.in1 (b s' [v] I'.kIn hl') (.cons rx .nil) st) fun r s2 hq => ?_)
            cases r with
            | error e => exact hq.elim
            | ok fl =>
              cases fl with
              | ret u => exact hq
              | next => exact hq.elim
              | brk => exact hq.elim
              | cont => exact hq.elim
          exact srk_sorted I2 hl j run done
end L2

set_option Elab.async false
set_option linter.all false
set_option maxRecDepth 100000
set_option maxHeartbeats 4000000
namespace My
open PySem L2
def plN (n : Nat) (k : Nat) : List Nat := (List.range k).filter fun i => n.testBit i
/-- the places of a set below 2 ^ 40 -/
def pl (n : Int) : List Int := (plN n.toNat 40).map fun i : Nat => (i : Int)
theorem plN_stop {n k m : Nat} (h : ∀ i, k ≤ i → n.testBit i = false) (hk : k ≤ m) : plN n k = plN n m := by
  unfold plN
  obtain ⟨d, rfl⟩ : ∃ d, m = k + d := ⟨m - k, by omega⟩
  rw [List.range_add, List.filter_append]
  have : (List.map (fun x => k + x) (List.range d)).filter (fun i => n.testBit i) = [] := by
    rw [List.filter_eq_nil_iff]
    intro a ha
    obtain ⟨b, _, rfl⟩ := List.mem_map.mp ha
    rw [h _ (by omega)]; decide
  rw [this, List.append_nil]
theorem plN_succ (n k : Nat) : plN n (k + 1) = plN n k ++ if n.testBit k then [k] else [] := by
  unfold plN
  rw [List.range_succ, List.filter_append]
  congr 1
  by_cases h : n.testBit k <;> simp [h]
theorem mem_plN {n k i : Nat} : i ∈ plN n k ↔ i < k ∧ n.testBit i = true := by simp [plN]
theorem plN_len (n k : Nat) : (plN n k).length ≤ k := by
  have := List.length_filter_le (fun i => n.testBit i) (List.range k)
  simpa [plN] using this
theorem lt40 {n : Int} (h0 : 0 ≤ n) (h : n < 2 ^ 40) : n.toNat < 2 ^ 40 := by
  have e : (2 : Int) ^ 40 = 1099511627776 := by decide
  have e' : (2 : Nat) ^ 40 = 1099511627776 := by decide
  omega
theorem bit_lt {n i : Nat} (h : n < 2 ^ 40) (hb : n.testBit i = true) : i < 40 := by
  refine Nat.lt_of_not_le fun hi => ?_
  have : n < 2 ^ i := Nat.lt_of_lt_of_le h (Nat.pow_le_pow_right (by decide) hi)
  rw [Nat.testBit_lt_two_pow this] at hb
  cases hb
theorem mem_pl {n : Int} {i : Nat} (h0 : 0 ≤ n) (h : n < 2 ^ 40) : (i : Int) ∈ pl n ↔ n.toNat.testBit i = true := by
  unfold pl
  rw [List.mem_map]
  constructor
  · rintro ⟨j, hj, e⟩
    have : j = i := by omega
    subst this
    exact (mem_plN.mp hj).2
  · intro hb
    exact ⟨i, mem_plN.mpr ⟨bit_lt (lt40 h0 h) hb, hb⟩, rfl⟩
theorem pl_in {n p : Int} (h : p ∈ pl n) : 0 ≤ p ∧ p < 40 := by
  obtain ⟨j, hj, rfl⟩ := List.mem_map.mp h
  have := (mem_plN.mp hj).1
  omega
/-- n is the number of the places ps -/
def IsNum (ps : List Int) (n : Int) : Prop := 0 ≤ n ∧ ∀ i : Nat, n.toNat.testBit i = true ↔ (i : Int) ∈ ps
theorem IsNum.one {ps : List Int} {n m : Int} (h : IsNum ps n) (h' : IsNum ps m) : n = m := by
  have e : n.toNat = m.toNat := by
    refine Nat.eq_of_testBit_eq fun i => ?_
    have a := h.2 i
    have b := h'.2 i
    cases q : n.toNat.testBit i <;> cases q' : m.toNat.testBit i <;> simp_all
  have := h.1
  have := h'.1
  omega
theorem IsNum.lt {ps : List Int} {n : Int} (h : IsNum ps n) (hp : ∀ p ∈ ps, p < 40) : n < 2 ^ 40 := by
  have : n.toNat < 2 ^ 40 := Nat.lt_pow_two_of_testBit _ fun i hi => by
    cases q : n.toNat.testBit i with
    | false => rfl
    | true =>
      have := hp _ ((h.2 i).mp q)
      omega
  have e : (2 : Int) ^ 40 = 1099511627776 := by decide
  have e' : (2 : Nat) ^ 40 = 1099511627776 := by decide
  omega
theorem or_is {x y : Int} (hx : 0 ≤ x) (hy : 0 ≤ y) : Builtin.bitOr x y = ((x.toNat ||| y.toNat : Nat) : Int) := by
  rw [PyProof.Rows.bitOr_and, PyProof.Rows.bitAnd_pp hx hy]
  have e := PyProof.Rows.nat_or_add_and x.toNat y.toNat
  omega
theorem IsNum.snoc {ps : List Int} {n p : Int} (h : IsNum ps n) (hp : 0 ≤ p) : IsNum (ps ++ [p]) (Builtin.bitOr n (1 * 2 ^ p.toNat)) := by
  have hn := h.1
  have e : (1 * 2 ^ p.toNat : Int) = ((2 ^ p.toNat : Nat) : Int) := by simp
  have h2 : (0 : Int) ≤ 1 * 2 ^ p.toNat := by rw [e]; exact Int.natCast_nonneg _
  rw [or_is hn h2, e]
  refine ⟨Int.natCast_nonneg _, fun i => ?_⟩
  simp only [Int.toNat_natCast, Nat.testBit_or, Bool.or_eq_true, List.mem_append, List.mem_singleton, Nat.testBit_two_pow, decide_eq_true_eq]
  rw [h.2 i]
  constructor
  · rintro (z | z)
    · exact .inl z
    · exact .inr (by omega)
  · rintro (z | z)
    · exact .inl z
    · exact .inr (by omega)
/-- the sum of the powers of the places below k -/
structure NumTo (ps : List Int) (k : Nat) (a : Int) : Prop where
  nn : 0 ≤ a
  lt : a < 2 ^ k
  bit : ∀ i : Nat, a.toNat.testBit i = true ↔ i < k ∧ (i : Int) ∈ ps
theorem NumTo.zero (ps : List Int) : NumTo ps 0 0 := ⟨Int.le_refl 0, by decide, fun i => by simp⟩
theorem pow_cast (k : Nat) : ((2 ^ k : Nat) : Int) = (2 : Int) ^ k := by simp
theorem NumTo.no {ps : List Int} {k : Nat} {a : Int} (h : NumTo ps k a) (hp : ¬ (k : Int) ∈ ps) : NumTo ps (k + 1) a := by
  have hl := h.lt
  have e := pow_cast k
  refine ⟨h.nn, ?_, fun i => ?_⟩
  · have : (2 : Int) ^ (k + 1) = 2 ^ k * 2 := Int.pow_succ 2 k
    have : 0 < 2 ^ k := Nat.two_pow_pos k
    omega
  · rw [h.bit i]
    constructor
    · rintro ⟨z, zp⟩
      exact ⟨by omega, zp⟩
    · rintro ⟨z, zp⟩
      refine ⟨?_, zp⟩
      have : i ≠ k := fun q => hp (q ▸ zp)
      omega
theorem NumTo.is {ps : List Int} {a : Int} (h : NumTo ps 40 a) (hp : ∀ p ∈ ps, p < 40) : IsNum ps a := ⟨h.nn, fun i => by
  rw [h.bit i]
  constructor
  · exact fun z => z.2
  · intro z
    have := hp _ z
    exact ⟨by omega, z⟩⟩
/-- a set covers one place -/
theorem cov_bit {n : Int} (h : 0 ≤ n) (i : Nat) : decide (Builtin.bitAnd n (1 * 2 ^ i) = 1 * 2 ^ i) = n.toNat.testBit i := by
  have e : (1 * 2 ^ i : Int) = ((2 ^ i : Nat) : Int) := by simp
  have hi : (n.toNat &&& 2 ^ i = 2 ^ i) ↔ n.toNat.testBit i = true := by
    constructor
    · intro z
      have := congrArg (fun x => x.testBit i) z
      simpa [Nat.testBit_and, Nat.testBit_two_pow] using this
    · intro z
      refine Nat.eq_of_testBit_eq fun j => ?_
      rw [Nat.testBit_and, Nat.testBit_two_pow]
      by_cases q : i = j
      · subst q; simp [z]
      · simp [q]
  rw [e, PyProof.Rows.bitAnd_pp h (Int.natCast_nonneg _), Int.toNat_natCast, Bool.eq_iff_iff, decide_eq_true_eq, ← hi]
  omega
theorem half_bit (n k : Nat) : (n / 2 ^ k % 2 = 1) ↔ n.testBit k = true := by
  rw [Nat.testBit_eq_decide_div_mod_eq]
  simp
theorem half_next (n k : Nat) : n / 2 ^ k / 2 = n / 2 ^ (k + 1) := by rw [Nat.div_div_eq_div_mul, Nat.pow_succ]
theorem bits_le {n : Int} (h0 : 0 ≤ n) (h : n < 2 ^ 40) : Builtin.Int.intBits n ≤ 40 ∧ ∀ i, Builtin.Int.intBits n ≤ i → n.toNat.testBit i = false := by
  have e : n.natAbs = n.toNat := by omega
  constructor
  · unfold Builtin.Int.intBits
    split
    · exact Nat.zero_le _
    · rename_i hz
      have hz' : n.toNat ≠ 0 := fun q => hz (by simp; omega)
      have : n.toNat.log2 < 40 := (Nat.log2_lt hz').mpr (lt40 h0 h)
      rw [e]
      omega
  · intro i hi
    refine Nat.testBit_lt_two_pow ?_
    unfold Builtin.Int.intBits at hi
    split at hi
    · rename_i hz
      have : n = 0 := by simpa using hz
      subst this
      exact Nat.two_pow_pos i
    · rename_i hz
      rw [e] at hi
      exact Nat.lt_of_lt_of_le (Nat.lt_log2_self) (Nat.pow_le_pow_right (by decide) hi)
end My

set_option Elab.async false
set_option linter.all false
set_option maxRecDepth 100000
set_option maxHeartbeats 1000000
namespace My
open PySem L2
def ri (D : Nat) (f : Nat → Int) : List Int := (List.range D).map f
theorem ri_len (D : Nat) (f : Nat → Int) : (ri D f).length = D := by unfold ri; simp
theorem ri_get {D : Nat} {f : Nat → Int} {d : Nat} (h : d < D) : (ri D f)[d]? = some (f d) := by unfold ri; simp [h]
theorem ri_congr {D : Nat} {f g : Nat → Int} (h : ∀ d, d < D → f d = g d) : ri D f = ri D g := List.map_congr_left fun d hd => h d (List.mem_range.mp hd)
theorem ri_set (D : Nat) (f : Nat → Int) (d : Nat) (v : Int) : (ri D f).set d v = ri D fun x => if x = d then v else f x := by
  refine List.ext_getElem? fun i => ?_
  rw [List.getElem?_set]
  by_cases hi : i < D
  · rw [ri_get hi (f := fun x => if x = d then v else f x), ri_get hi (f := f)]
    by_cases e : d = i
    · subst e
      rw [if_pos rfl, if_pos (by rw [ri_len]; exact hi), if_pos rfl]
    · have e' : ¬ i = d := fun z => e z.symm
      rw [if_neg e, if_neg e']
  · rw [List.getElem?_eq_none (l := ri D fun x => if x = d then v else f x) (by rw [ri_len]; omega)]
    by_cases e : d = i
    · subst e
      rw [if_pos rfl, if_neg (by rw [ri_len]; exact hi)]
    · rw [if_neg e, List.getElem?_eq_none (by rw [ri_len]; omega)]
def tg (n D : Nat) (g : Nat → Nat → Int) : List (List Int) := (List.range n).map fun j => ri D (g j)
theorem tg_len (n D : Nat) (g : Nat → Nat → Int) : (tg n D g).length = n := by unfold tg; simp
theorem tg_get {n D : Nat} {g : Nat → Nat → Int} {j : Nat} (h : j < n) : (tg n D g)[j]? = some (ri D (g j)) := by unfold tg; simp [h]
theorem tg_congr {n D : Nat} {g f : Nat → Nat → Int} (h : ∀ j, j < n → ∀ d, d < D → g j d = f j d) : tg n D g = tg n D f := List.map_congr_left fun j hj => ri_congr (h j (List.mem_range.mp hj))
def put (g : Nat → Nat → Int) (j d : Nat) (v : Int) : Nat → Nat → Int := fun x y => if x = j ∧ y = d then v else g x y
theorem tg_put (n D : Nat) (g : Nat → Nat → Int) (j d : Nat) (v : Int) : (tg n D g).set j ((ri D (g j)).set d v) = tg n D (put g j d v) := by
  refine List.ext_getElem? fun i => ?_
  rw [List.getElem?_set, ri_set]
  by_cases hi : i < n
  · rw [tg_get hi (g := put g j d v), tg_get hi (g := g)]
    by_cases e : j = i
    · subst e
      rw [if_pos rfl, if_pos (by rw [tg_len]; exact hi)]
      refine congrArg some (ri_congr fun x _ => ?_)
      unfold put
      by_cases e : x = d <;> simp [e]
    · rw [if_neg e]
      refine congrArg some (ri_congr fun x _ => ?_)
      unfold put
      have e' : ¬ (i = j ∧ x = d) := fun z => e z.1.symm
      rw [if_neg e']
  · rw [List.getElem?_eq_none (l := tg n D (put g j d v)) (by rw [tg_len]; omega)]
    by_cases e : j = i
    · subst e
      rw [if_pos rfl, if_neg (by rw [tg_len]; exact hi)]
    · rw [if_neg e, List.getElem?_eq_none (by rw [tg_len]; omega)]
theorem tg_of {n D : Nat} {rows : List (List Int)} (h : rows.length = n) (hl : ∀ r ∈ rows, r.length = D) : rows = tg n D (val rows) := by
  subst h
  refine List.ext_getElem? fun i => ?_
  by_cases hi : i < rows.length
  · rw [tg_get hi, List.getElem?_eq_getElem hi]
    have hd := hl _ (List.getElem_mem hi)
    refine congrArg some (List.ext_getElem? fun d => ?_)
    by_cases hh : d < D
    · rw [ri_get hh, val_of (List.getElem?_eq_getElem hi) (by omega)]
      exact List.getElem?_eq_getElem (by omega)
    · rw [List.getElem?_eq_none (by omega), List.getElem?_eq_none (by rw [ri_len]; omega)]
  · rw [List.getElem?_eq_none (by omega), List.getElem?_eq_none (by rw [tg_len]; omega)]
structure Tb (H : Hp) (r : Addr) (us : List V) (n D : Nat) (g : Nat → Nat → Int) : Prop where
  at_ : H r = some (.lst us)
  rs : Rows H us (tg n D g)
  nd : us.Nodup
section
variable {H H' : Hp} {r t : Addr} {us : List V} {n D : Nat} {g f : Nat → Nat → Int} {j d : Nat}
theorem Tb.len (T : Tb H r us n D g) : us.length = n := by rw [T.rs.len, tg_len]
theorem Tb.mono (T : Tb H r us n D g) (h : Same H H') : Tb H' r us n D g := ⟨h _ _ T.at_, T.rs.mono h, T.nd⟩
theorem Tb.congr (T : Tb H r us n D g) (h : ∀ j, j < n → ∀ d, d < D → g j d = f j d) : Tb H r us n D f := ⟨T.at_, by rw [← tg_congr h]; exact T.rs, T.nd⟩
theorem Tb.row (T : Tb H r us n D g) (hj : j < n) : ∃ t, us[j]? = some (.ref t) ∧ H t = some (.lst ((ri D (g j)).map V.int)) := T.rs.get (tg_get hj)
theorem rv_get (hd : d < D) {q : Nat → Int} : ((ri D q).map V.int)[d]? = some (.int (q d)) := by rw [List.getElem?_map, ri_get hd]; rfl
theorem Tb.at' (T : Tb H r us n D g) {v : V} (e : us[j]? = some v) : ∃ t, v = .ref t ∧ H t = some (.lst ((ri D (g j)).map V.int)) := by
  have hj : j < n := by rw [← T.len]; exact (List.getElem?_eq_some_iff.mp e).1
  obtain ⟨t, h1, h2⟩ := T.row hj
  rw [e] at h1
  cases h1
  exact ⟨t, rfl, h2⟩
theorem Tb.put (T : Tb H r us n D g) (e : us[j]? = some (.ref t)) (d : Nat) (v : Int) : Tb (upd H t (.lst (((ri D (g j)).map V.int).set d (.int v)))) r us n D (put g j d v) := by
  have nr := T.rs.nor T.at_
  have ne : r ≠ t := fun z => nr (by rw [z]; exact List.mem_of_getElem? e)
  have hr : ((ri D (g j)).map V.int).set d (.int v) = ((ri D (g j)).set d v).map V.int := by rw [List.map_set]
  rw [hr]
  refine ⟨by rw [upd_ne ne]; exact T.at_, ?_, T.nd⟩
  rw [← tg_put]
  exact T.rs.put T.nd e
end
def df (g f : Nat → Nat → Int) (h d : Nat) : Bool := !decide (g h d = f h d)
def rowC (g f : Nat → Nat → Int) (h j : Nat) : List (Int × Int) := ((List.range j).filter fun d => df g f h d).map fun d : Nat => ((h : Int), (d : Int))
def hmj (g f : Nat → Nat → Int) (D i : Nat) : List (Int × Int) := (List.range i).flatMap fun h => rowC g f h D
def dayC (g f : Nat → Nat → Int) (d j : Nat) : List (Int × Int) := ((List.range j).filter fun h => df g f h d).map fun h : Nat => ((h : Int), (d : Int))
def dm (g f : Nat → Nat → Int) (n i : Nat) : List (Int × Int) := (List.range i).flatMap fun d => dayC g f d n
section
variable {g f : Nat → Nat → Int}
theorem rowC_zero (h : Nat) : rowC g f h 0 = [] := rfl
theorem rowC_succ (h j : Nat) : rowC g f h (j + 1) = rowC g f h j ++ if df g f h j = true then [((h : Int), (j : Int))] else [] := by
  unfold rowC
  rw [List.range_succ, List.filter_append, List.map_append]
  by_cases e : df g f h j = true <;> simp [e]
theorem dayC_succ (d j : Nat) : dayC g f d (j + 1) = dayC g f d j ++ if df g f j d = true then [((j : Int), (d : Int))] else [] := by
  unfold dayC
  rw [List.range_succ, List.filter_append, List.map_append]
  by_cases e : df g f j d = true <;> simp [e]
theorem hmj_succ (D i : Nat) : hmj g f D (i + 1) = hmj g f D i ++ rowC g f i D := by unfold hmj; rw [List.range_succ, List.flatMap_append]; simp
theorem dm_succ (n i : Nat) : dm g f n (i + 1) = dm g f n i ++ dayC g f i n := by unfold dm; rw [List.range_succ, List.flatMap_append]; simp
theorem rowC_len (h j : Nat) : (rowC g f h j).length ≤ j := by
  unfold rowC
  rw [List.length_map]
  have := List.length_filter_le (fun d => df g f h d) (List.range j)
  rwa [List.length_range] at this
theorem dayC_len (d j : Nat) : (dayC g f d j).length ≤ j := by
  unfold dayC
  rw [List.length_map]
  have := List.length_filter_le (fun h => df g f h d) (List.range j)
  rwa [List.length_range] at this
theorem hmj_len (D i : Nat) : (hmj g f D i).length ≤ i * D := by
  induction i with
  | zero => simp [hmj]
  | succ i ih =>
    rw [hmj_succ, List.length_append]
    have := rowC_len (g := g) (f := f) i D
    rw [Nat.succ_mul]
    omega
theorem dm_len (n i : Nat) : (dm g f n i).length ≤ i * n := by
  induction i with
  | zero => simp [dm]
  | succ i ih =>
    rw [dm_succ, List.length_append]
    have := dayC_len (g := g) (f := f) i n
    rw [Nat.succ_mul]
    omega
theorem mem_rowC {h j : Nat} {q : Int × Int} : q ∈ rowC g f h j ↔ ∃ d : Nat, d < j ∧ df g f h d = true ∧ q = ((h : Int), (d : Int)) := by
  unfold rowC
  rw [List.mem_map]
  constructor
  · rintro ⟨d, hd, rfl⟩
    obtain ⟨h1, h2⟩ := List.mem_filter.mp hd
    exact ⟨d, List.mem_range.mp h1, h2, rfl⟩
  · rintro ⟨d, h1, h2, rfl⟩
    exact ⟨d, List.mem_filter.mpr ⟨List.mem_range.mpr h1, h2⟩, rfl⟩
theorem mem_dayC {d j : Nat} {q : Int × Int} : q ∈ dayC g f d j ↔ ∃ h : Nat, h < j ∧ df g f h d = true ∧ q = ((h : Int), (d : Int)) := by
  unfold dayC
  rw [List.mem_map]
  constructor
  · rintro ⟨h, hd, rfl⟩
    obtain ⟨h1, h2⟩ := List.mem_filter.mp hd
    exact ⟨h, List.mem_range.mp h1, h2, rfl⟩
  · rintro ⟨h, h1, h2, rfl⟩
    exact ⟨h, List.mem_filter.mpr ⟨List.mem_range.mpr h1, h2⟩, rfl⟩
theorem mem_hmj {D i : Nat} {q : Int × Int} : q ∈ hmj g f D i ↔ ∃ h d : Nat, h < i ∧ d < D ∧ df g f h d = true ∧ q = ((h : Int), (d : Int)) := by
  unfold hmj
  rw [List.mem_flatMap]
  constructor
  · rintro ⟨h, hh, hq⟩
    obtain ⟨d, h1, h2, rfl⟩ := mem_rowC.mp hq
    exact ⟨h, d, List.mem_range.mp hh, h1, h2, rfl⟩
  · rintro ⟨h, d, h0, h1, h2, rfl⟩
    exact ⟨h, List.mem_range.mpr h0, mem_rowC.mpr ⟨d, h1, h2, rfl⟩⟩
theorem mem_dm {n i : Nat} {q : Int × Int} : q ∈ dm g f n i ↔ ∃ h d : Nat, h < n ∧ d < i ∧ df g f h d = true ∧ q = ((h : Int), (d : Int)) := by
  unfold dm
  rw [List.mem_flatMap]
  constructor
  · rintro ⟨d, hh, hq⟩
    obtain ⟨h, h1, h2, rfl⟩ := mem_dayC.mp hq
    exact ⟨h, d, h1, List.mem_range.mp hh, h2, rfl⟩
  · rintro ⟨h, d, h0, h1, h2, rfl⟩
    exact ⟨d, List.mem_range.mpr h1, mem_dayC.mpr ⟨h, h0, h2, rfl⟩⟩
def byDay (p q : Int × Int) : Prop := p.2 < q.2 ∨ (p.2 = q.2 ∧ p.1 < q.1)
def byHand (p q : Int × Int) : Prop := p.1 < q.1 ∨ (p.1 = q.1 ∧ p.2 < q.2)
theorem range_ord (j : Nat) : (List.range j).Pairwise (· < ·) := List.pairwise_lt_range
theorem dm_ord (n i : Nat) : (dm g f n i).Pairwise byDay := by
  unfold dm
  rw [List.pairwise_flatMap]
  refine ⟨fun d _ => ?_, (range_ord i).imp fun {a b} h x hx y hy => ?_⟩
  · unfold dayC
    rw [List.pairwise_map]
    refine ((range_ord n).filter _).imp fun {a b} h => .inr ⟨rfl, ?_⟩
    show (a : Int) < b
    omega
  · obtain ⟨_, _, _, rfl⟩ := mem_dayC.mp hx
    obtain ⟨_, _, _, rfl⟩ := mem_dayC.mp hy
    refine .inl ?_
    show (a : Int) < b
    omega
theorem hmj_ord (D i : Nat) : (hmj g f D i).Pairwise byHand := by
  unfold hmj
  rw [List.pairwise_flatMap]
  refine ⟨fun d _ => ?_, (range_ord i).imp fun {a b} h x hx y hy => ?_⟩
  · unfold rowC
    rw [List.pairwise_map]
    refine ((range_ord D).filter _).imp fun {a b} h => .inr ⟨rfl, ?_⟩
    show (a : Int) < b
    omega
  · obtain ⟨_, _, _, rfl⟩ := mem_rowC.mp hx
    obtain ⟨_, _, _, rfl⟩ := mem_rowC.mp hy
    refine .inl ?_
    show (a : Int) < b
    omega
theorem hmj_nodup (D i : Nat) : (hmj g f D i).Nodup := (hmj_ord D i).imp fun {p q} h e => by
  subst e
  unfold byHand at h
  omega
theorem sorted_ext {α : Type} {R : α → α → Prop} (as : ∀ a b, R a b → R b a → False) : ∀ {l₁ l₂ : List α}, l₁.Pairwise R → l₂.Pairwise R → (∀ x, x ∈ l₁ ↔ x ∈ l₂) → l₁ = l₂
  | [], [], _, _, _ => rfl
  | [], b :: t, _, _, h => absurd ((h b).mpr List.mem_cons_self) (by simp)
  | a :: t, [], _, _, h => absurd ((h a).mp List.mem_cons_self) (by simp)
  | a :: t₁, b :: t₂, p₁, p₂, h => by
    obtain ⟨q1, q2⟩ := List.pairwise_cons.mp p₁
    obtain ⟨q3, q4⟩ := List.pairwise_cons.mp p₂
    have e : a = b := by
      rcases List.mem_cons.mp ((h a).mp List.mem_cons_self) with z | z
      · exact z
      · rcases List.mem_cons.mp ((h b).mpr List.mem_cons_self) with y | y
        · exact y.symm
        · exact (as a b (q1 b y) (q3 a z)).elim
    subst e
    rw [sorted_ext as q2 q4 fun x => ?_]
    constructor
    · intro hx
      rcases List.mem_cons.mp ((h x).mp (List.mem_cons_of_mem _ hx)) with z | z
      · subst z; exact (as _ _ (q1 _ hx) (q1 _ hx)).elim
      · exact z
    · intro hx
      rcases List.mem_cons.mp ((h x).mpr (List.mem_cons_of_mem _ hx)) with z | z
      · subst z; exact (as _ _ (q3 _ hx) (q3 _ hx)).elim
      · exact z
/-- sorted by day, then by hand: just the law's order -/
theorem hmj_sorted {n D : Nat} {qs : List (Int × Int)} (hp : qs.Perm (hmj g f D n)) (ho : qs.Pairwise fun p q => Tim.leP (p.2, p.1) (q.2, q.1)) : qs = dm g f n D := by
  have nd : qs.Nodup := hp.nodup_iff.mpr (hmj_nodup D n)
  refine sorted_ext (R := byDay) (fun a b h1 h2 => by unfold byDay at h1 h2; omega) ?_ (dm_ord n D) fun x => ?_
  · refine (ho.and nd).imp fun {p q} h => ?_
    obtain ⟨h1, h2⟩ := h
    obtain ⟨p1, p2⟩ := p
    obtain ⟨q1, q2⟩ := q
    have h1' : p2 < q2 ∨ (p2 = q2 ∧ p1 ≤ q1) := h1
    have h2' : ¬ (p1 = q1 ∧ p2 = q2) := fun z => h2 (by rw [z.1, z.2])
    show p2 < q2 ∨ (p2 = q2 ∧ p1 < q1)
    omega
  · rw [hp.mem_iff, mem_hmj, mem_dm]
end
def cellOf (H : Hp) (v : V) : Int × Int := match v with
  | .ref t => (match H t with
    | some (.tup [.int a, .int b]) => (a, b)
    | _ => (0, 0))
  | _ => (0, 0)
theorem CellV.eq {H : Hp} {v : V} {q : Int × Int} (h : CellV H v q) : cellOf H v = q := by
  obtain ⟨t, rfl, e⟩ := h
  unfold cellOf
  dsimp only
  rw [e]
theorem cells_map {H : Hp} : ∀ {ts : List V} {qs : List (Int × Int)}, Cells H ts qs → ts.map (cellOf H) = qs
  | _, _, .nil => rfl
  | _, _, .cons a r => by rw [List.map_cons, CellV.eq a, cells_map r]
theorem cells_in {H : Hp} {ts : List V} {qs : List (Int × Int)} (h : Cells H ts qs) : ∀ {ys : List V}, (∀ y ∈ ys, y ∈ ts) → Cells H ys (ys.map (cellOf H))
  | [], _ => .nil
  | y :: ys, hy => by
    obtain ⟨q, _, c⟩ := L2.Paired.inl h (hy y List.mem_cons_self)
    exact .cons (by rw [CellV.eq c]; exact c) (cells_in h fun z hz => hy z (List.mem_cons_of_mem _ hz))
/-- a sorted list of cells -/
theorem cells_sorted {H : Hp} {g f : Nat → Nat → Int} {n D : Nat} {ts ys : List V} (h : Cells H ts (hmj g f D n)) (hp : ys.Perm ts) (ho : ys.Pairwise fun x y => Tim.leP ((cellOf H x).2, (cellOf H x).1) ((cellOf H y).2, (cellOf H y).1)) : Cells H ys (dm g f n D) := by
  have c := cells_in h fun y hy => hp.mem_iff.mp hy
  have e : ys.map (cellOf H) = dm g f n D := by
    refine hmj_sorted ?_ ?_
    · have z := hp.map (cellOf H)
      rw [cells_map h] at z
      exact z
    · rw [List.pairwise_map]
      exact ho
  rw [e] at c
  exact c
def exG (g : Nat → Nat → Int) (h o : Nat) (S : Nat → Bool) : Nat → Nat → Int := fun j d => if S d = true then (if j = o then g h d else if j = h then g o d else g j d) else g j d
theorem exG_none (g : Nat → Nat → Int) (h o : Nat) {S : Nat → Bool} (hS : ∀ d, S d = false) : exG g h o S = g := by
  funext j d
  unfold exG
  rw [hS d]
  rfl
/-- one day more -/
theorem exG_put (g : Nat → Nat → Int) (h o d : Nat) {S S' : Nat → Bool} (hS : ∀ x, S' x = (S x || decide (x = d))) : put (put (exG g h o S) h d (g o d)) o d (g h d) = exG g h o S' := by
  funext j x
  unfold put exG
  rw [hS x]
  by_cases e : x = d
  · subst e
    by_cases e1 : j = o
    · subst e1; simp
    · by_cases e2 : j = h
      · subst e2; simp [e1]
      · simp [e1, e2]
  · simp [e]
theorem exG_twice (g : Nat → Nat → Int) (h o : Nat) (S : Nat → Bool) : exG (exG g h o S) o h S = g := by
  funext j d
  unfold exG
  by_cases e : S d = true
  · simp only [e, if_true]
    by_cases e1 : j = h
    · subst e1
      by_cases e2 : o = j
      · subst e2; simp
      · simp [e2]
    · by_cases e2 : j = o
      · subst e2
        simp [e1]
        exact fun z => absurd z.symm e1
      · simp [e1, e2]
  · simp [e]
theorem exG_congr {g : Nat → Nat → Int} {h o : Nat} {S S' : Nat → Bool} {d : Nat} (e : S d = S' d) (j : Nat) : exG g h o S j d = exG g h o S' j d := by unfold exG; rw [e]
theorem same_kept {H0 H1 H2 : Hp} {F : List V} (gg : Same H0 H1) (fr : ∀ t, V.ref t ∈ F → H0 t = none) (off : ∀ c o, H1 c = some o → V.ref c ∉ F → H2 c = some o) : Same H0 H2 := fun c o e =>
  off c o (gg c o e) fun z => by rw [fr c z] at e; cases e
theorem den_tw {K : PySem.W.Frag} {H : Hp} {n : Nat} {a x y : Addr} {d e : DV} (h : H a = some (.lst [.ref x, .ref y])) (dx : Den K H n (.ref x) d) (dy : Den K H n (.ref y) e) : Den K H (n + 1) (.ref a) (.lst [d, e]) := ⟨_, SqL.of h, .cons dx (.cons dy .nil)⟩
/-- the law's two tables, and what it hands in -/
structure Al (K : PySem.W.Frag) (H : Hp) (a : Addr) (ns : List Int) (p p2 pa pb ph : Addr) (us us2 usa usb : List V) (n D : Nat) (g f : Nat → Nat → Int) : Prop where
  hS : SqL K H a (ns.map V.int)
  t1 : Tb H p us n D g
  t2 : Tb H p2 us2 n D f
  ta : Tb H pa usa n D g
  tb : Tb H pb usb n D f
  hh : H ph = some (.lst [.ref pa, .ref pb])
section
variable {K : PySem.W.Frag} {H H' : Hp} {a : Addr} {ns : List Int} {p p2 pa pb ph : Addr} {us us2 usa usb : List V} {n D : Nat} {g f : Nat → Nat → Int}
theorem Al.mono (A : Al K H a ns p p2 pa pb ph us us2 usa usb n D g f) (s : Same H H') : Al K H' a ns p p2 pa pb ph us us2 usa usb n D g f := ⟨s.seq A.hS, A.t1.mono s, A.t2.mono s, A.ta.mono s, A.tb.mono s, s _ _ A.hh⟩
theorem Al.den (A : Al K H a ns p p2 pa pb ph us us2 usa usb n D g f) : Den K H 3 (.ref ph) (.lst [tD (tg n D g), tD (tg n D f)]) := den_tw A.hh (den_rows (SqL.of A.ta.at_) A.ta.rs) (den_rows (SqL.of A.tb.at_) A.tb.rs)
theorem Al.den2 (A : Al K H a ns p p2 pa pb ph us us2 usa usb n D g f) {q : Addr} (hq : H q = some (.lst [.ref p, .ref p2])) : Den K H 3 (.ref q) (.lst [tD (tg n D g), tD (tg n D f)]) := den_tw hq (den_rows (SqL.of A.t1.at_) A.t1.rs) (den_rows (SqL.of A.t2.at_) A.t2.rs)
end
theorem exS_put (g : Nat → Nat → Int) (h o i M : Nat) (hb : M.testBit i = true) : put (put (exG g h o fun d => decide (d < i) && M.testBit d) h i (g o i)) o i (g h i) = exG g h o fun d => decide (d < i + 1) && M.testBit d := by
  refine exG_put g h o i fun x => ?_
  by_cases e : x = i
  · subst e
    simp [hb]
  · have : decide (x < i + 1) = decide (x < i) := decide_eq_decide.mpr (by omega)
    simp [e, this]
theorem exS_skip (g : Nat → Nat → Int) (h o i M : Nat) (hb : ¬ M.testBit i = true) : (exG g h o fun d => decide (d < i + 1) && M.testBit d) = exG g h o fun d => decide (d < i) && M.testBit d := by
  funext j d
  refine exG_congr ?_ j
  by_cases e : d = i
  · subst e
    have : M.testBit d = false := by simpa using hb
    simp [this]
  · have : decide (d < i + 1) = decide (d < i) := decide_eq_decide.mpr (by omega)
    rw [this]
theorem mod_nat (c : Int) {n : Nat} (h : 0 < n) : ∃ k : Nat, c % (n : Int) = (k : Int) ∧ k < n :=
  ⟨(c % (n : Int)).toNat, by have := Int.emod_nonneg c (b := (n : Int)) (by omega); omega, by have := Int.emod_lt_of_pos c (b := (n : Int)) (by omega); have := Int.emod_nonneg c (b := (n : Int)) (by omega); omega⟩
theorem ixN_k {n k : Nat} (h : k < n) : ixN n (k : Int) = some k := by
  unfold ixN
  rw [if_pos (by omega), if_pos (by omega)]
  rfl
theorem cut_any (ns : List Int) (lo hi : Option Int) : ∃ ms : List Int, cutV (ns.map V.int) lo hi = ms.map V.int := by
  unfold cutV
  rw [← List.map_drop, ← List.map_take]
  exact ⟨_, rfl⟩
end My

set_option Elab.async false
set_option linter.all false
set_option maxRecDepth 100000
set_option maxHeartbeats 4000000
namespace My
open PySem L2
def top (i : Nat) : Stmt := PySem.Challenge.pw_rotaward_k17_changed_and_exchanged.main.body.getD i (.Pass ⟨0, 0, 0, 0⟩)
abbrev s_members : Stmt := top 1
abbrev s_covers : Stmt := top 2
abbrev s_copied : Stmt := top 4
abbrev s_changed : Stmt := top 5
abbrev s_day_first : Stmt := top 6
abbrev s_exchanged : Stmt := top 7
abbrev s__law_draw : Stmt := top 9
abbrev s__law_whole : Stmt := top 10
abbrev s__law_cells : Stmt := top 11
abbrev s__law_rows : Stmt := top 12
abbrev s__law_differ : Stmt := top 13
abbrev s__law_exchanged : Stmt := top 14
abbrev s__law_second : Stmt := top 15
abbrev s_law : Stmt := top 16
structure Txt (mg : Str → Option Value) : Prop where
  bool : mg "bool" = none
  enumerate : mg "enumerate" = none
  int : mg "int" = none
  isinstance : mg "isinstance" = none
  len : mg "len" = none
  list : mg "list" = none
  range : mg "range" = none
  sorted : mg "sorted" = none
  tuple : mg "tuple" = none
section
variable {P : Program} {w : World} {K : PySem.W.Frag} {mg : Str → Option Value} {base : Heap}
local macro_rules | `(tactic| walk_at "rd") => `(tactic| try simp only [tSeq, tRet, tRetN, tIfS, tNext, tDrop, tOp, tUn, tVar, tC, rI0, rI, rU, rEq, rNe, L2.start, tAsg, gName, tTest, tB, tCB, tCons, tNil, rIxL, rIxT, tNot, tAnd, tOr, tNotV, tAndV, tOrV, tCall, rIsi, iRng1, iRng2, tFor, tWhile, tChain, tIf, tTup, tLst, tComp, tBlk, compSt, tTrue, Cx.comp, List.replicate_one, List.replicate_zero, Option.getD_some, tBM, tBM0, rLen, rListOf, rTupL, tRaise, tCallX, tDropX, tSetX, tTry0, tTryA, Ends.gone, rIsx, rExc, vO, tFld, tMeth, tMake, sFld, iEnL, iEnT, gTup, gCons, gNil, gSub, rSetL, rCat, rInsert, tSl, tNoPart, tPart, rSlL, rAppend, rClear, iList, iTup, cxOf, Cx.nox, Cx.wish, List.map_cons, List.map_nil, List.length_cons, List.length_nil, Nat.reduceAdd, Nat.reduceSub, List.reduceReplicate, List.cons_append, List.nil_append, List.append_nil, List.getElem?_cons_zero, List.getElem?_cons_succ, List.set_cons_zero, List.set_cons_succ, Option.some.injEq, V.int.injEq, V.bl.injEq, V.ref.injEq, V.str.injEq, V.ty.injEq, List.cons.injEq, and_true, true_and, and_assoc, exists_eq_left, exists_eq_left', exists_eq_right, exists_eq, exists_eq', exists_and_left, exists_const, decide_eq_true_eq, scal_ii, scal_bb, scal_ss, tEqI', Bool.not_eq_true', Bool.not_eq_true, decide_eq_false_iff_not, if_true, if_false, Bool.false_eq_true, reduceIte, tyN_int, tyN_bl, tyN_str, tyN_ref, okT_int, okT_bool, okT_str, okT_list, okT_tuple, subN_ii, subN_ib, subN_bb, subN_bi, subN_ss, subN_ll, subN_tt, Bool.not_true, Bool.not_false, not_true_eq_false, Bool.true_eq_false, tSortK])
def sp_copied (_ : PySem.W.Frag)  : Sp := fun vs H Q _ => ∃ (r : Addr) (us : List V) (rows : List (List Int)), vs = [.ref r] ∧ H r = some (.lst us) ∧ Rows H us rows ∧ rows.length ≤ 900 ∧ ∀ r' us' H', Same H H' → H r' = none → H' r' = some (.lst us') → Rows H' us' rows → us'.Nodup → (∀ t, V.ref t ∈ us' → t ≠ r' ∧ H t = none) → Q (.ref r') H'
theorem sc_copied : FnScope ["rota"] ["rota"] (defScope s_copied) := ⟨rfl, rfl, rfl, by decide +kernel, rfl, by decide +kernel, by decide +kernel⟩
theorem ok_copied {f : Addr} {fd : FuncData} (F : Fun K "copied" "copied" s_copied f fd) (T : Txt mg)  : FnOk P w K mg base CX0 1 f fd ["rota"] (sp_copied K) := by
  refine F.ok sc_copied (fun vs H Q E h => ?_) (fun cdv A outer s H vs Q E hr h => ?_)
  · obtain ⟨r, us, rows, rfl, _⟩ := h
    rfl
  · obtain ⟨r, us, rows, rfl, hr1, hR, hl, q⟩ := h
    refine ⟨_, (pss_one (ps_ret (pe_comp (own := ["row"]) (fnames := []) (fr := []) (N' := ["row"]) ⟨rfl, rfl, rfl, rfl, rfl, rfl, rfl⟩ rfl (pi_list (pv 0)) (fun s0 H0 fp0 C0 => ⟨(pg_name (i := 0) (by show (["row"] : List Str).Nodup; decide +kernel) rfl (Or.inl rfl)), pts_nil, (pe_callTy (call_listK (K := K) rfl) (by rfl) T.list PyProof.Rows.boot_list (pa_cons (pv 0) pa_nil))⟩)))), ?_⟩
    have hul := hR.len
    walk_at "rd"
    refine ⟨⟨_, SqL.of hr1⟩, fun D hD => for_listW (xs := us) (fun i σ H' => CopyI H D rows i H' ∧ ∃ v1, σ = [v1]) ⟨CopyI.start hD, none, rfl⟩ (fun i σ H' _ hh => SqL.of (hh.1.same _ _ hr1)) ?_ ?_⟩
    · rintro i v σ H' hx ⟨hc, v1, rfl⟩
      obtain ⟨row, hrow, t', rfl, ht'⟩ := hR.at' hx
      have hi : i < us.length := (List.getElem?_eq_some_iff.mp hx).1
      walk_at "rd"
      exact ⟨_, .inl (SqL.of (hc.same _ _ ht')), fun l hl => hc.step hD hrow hl (by omega)⟩
    · rintro σ H5 ⟨hc, v1, rfl⟩
      obtain ⟨us', g5, e5, hR5, nd5, fr5⟩ := hc.done hul
      exact q D us' H5 g5 hD e5 hR5 nd5 fr5
def sp_covers (_ : PySem.W.Frag)  : Sp := fun vs H Q _ => ∃ (n : Int) (i : Nat), vs = [.int n, .int (1 * 2 ^ i)] ∧ 0 ≤ n ∧ Q (.bl (n.toNat.testBit i)) H
theorem sc_covers : FnScope ["have", "need"] ["have", "need"] (defScope s_covers) := ⟨rfl, rfl, rfl, by decide +kernel, rfl, by decide +kernel, by decide +kernel⟩
theorem ok_covers {f : Addr} {fd : FuncData} (F : Fun K "covers" "covers" s_covers f fd) (T : Txt mg)  : FnOk P w K mg base CX0 1 f fd ["have", "need"] (sp_covers K) := by
  refine F.ok sc_covers (fun vs H Q E h => ?_) (fun cdv A outer s H vs Q E hr h => ?_)
  · obtain ⟨n, i, rfl, _⟩ := h
    rfl
  · obtain ⟨n, i, rfl, n0, q⟩ := h
    refine ⟨_, (pss_one (ps_ret (pe_cmpR op_eq (pe_op op_and (pv 0) (pv 1)) (pv 1) (nomark _)))), ?_⟩
    walk_at "rd"
    rw [cov_bit n0]
    exact q
def sp_members (_ : PySem.W.Frag)  : Sp := fun vs H Q _ => ∃ n : Int, vs = [.int n] ∧ 0 ≤ n ∧ n < 2 ^ 40 ∧ ∀ r H', New H H' r ((pl n).map V.int) → Q (.ref r) H'
theorem sc_members : FnScope ["number"] ["number"] (defScope s_members) := ⟨rfl, rfl, rfl, by decide +kernel, rfl, by decide +kernel, by decide +kernel⟩
theorem ok_members {f : Addr} {fd : FuncData} (F : Fun K "members" "members" s_members f fd) (T : Txt mg) (C_covers : Cal P w K mg base "covers" ["have", "need"] 1 (sp_covers K)) : FnOk P w K mg base CX0 2 f fd ["number"] (sp_members K) := by
  refine F.ok sc_members (fun vs H Q E h => ?_) (fun cdv A outer s H vs Q E hr h => ?_)
  · obtain ⟨n, rfl, _⟩ := h
    rfl
  · obtain ⟨n, rfl, n0, n1, q⟩ := h
    refine ⟨_, (pss_one (ps_ret (pe_comp (own := ["place"]) (fnames := ["number"]) (fr := [0]) (N' := ["place", "number"]) ⟨rfl, rfl, rfl, rfl, rfl, rfl, rfl⟩ rfl (pi_range1 rfl T.range (pa_cons (pe_bm0 PySem.F.plainAttrs_int PySem.F.slot_int_bit_length PySem.F.type_int_bit_length mt_bitlen (pv 0)) pa_nil)) (fun s0 H0 fp0 C0 => ⟨(pg_name (i := 0) (by show (["place", "number"] : List Str).Nodup; decide +kernel) rfl (Or.inl rfl)), (pts_one (pt_val (pe_cal C_covers (hr.mono (by decide)) rfl (pa_cons (pv 1) (pa_cons (pe_op op_shl pe_int (pv 0)) pa_nil))))), (pv 0)⟩)))), ?_⟩
    walk_at "rd"
    obtain ⟨b1, b2⟩ := bits_le n0 n1
    refine ⟨rfl, by omega, by omega, fun D hD => for_rangeW (fun i σ H' => (∃ v, σ = [v, some (.int n)]) ∧ H' = upd H D (.lst (((plN n.toNat i).map fun j : Nat => (j : Int)).map V.int))) ⟨⟨none, rfl⟩, rfl⟩ ?_ ?_⟩
    · rintro i σ H' hi ⟨⟨v, rfl⟩, rfl⟩
      walk_at "rd"
      have et : (0 + (i : Int)).toNat = i := by omega
      rw [et]
      refine ⟨⟨by omega, by omega, by decide⟩, n, i, rfl, n0, ?_⟩
      walk_at "rd"
      have hs := plN_succ n.toNat i
      split
      · rename_i hb
        rw [if_pos hb] at hs
        have hl := plN_len n.toNat i
        refine ⟨_, upd_same, by simp only [List.length_map]; exact small1000 (by omega), ?_⟩
        rw [upd_upd, hs]
        simp
      · rename_i hb
        rw [if_neg hb, List.append_nil] at hs
        rw [hs]
    · rintro σ H' ⟨_, rfl⟩
      refine q D _ ⟨same_new hD _, hD, ?_⟩
      rw [upd_same, Int.toNat_natCast, plN_stop b2 b1]
      rfl
end
end My

set_option Elab.async false
set_option linter.all false
set_option maxRecDepth 100000
set_option maxHeartbeats 4000000
namespace My
open PySem L2
section
variable {P : Program} {w : World} {K : PySem.W.Frag} {mg : Str → Option Value} {base : Heap}
local macro_rules | `(tactic| walk_at "rd") => `(tactic| try simp only [tSeq, tRet, tRetN, tIfS, tNext, tDrop, tOp, tUn, tVar, tC, rI0, rI, rU, rEq, rNe, L2.start, tAsg, gName, tTest, tB, tCB, tCons, tNil, rIxL, rIxT, tNot, tAnd, tOr, tNotV, tAndV, tOrV, tCall, rIsi, iRng1, iRng2, tFor, tWhile, tChain, tIf, tTup, tLst, tComp, tBlk, compSt, tTrue, Cx.comp, List.replicate_one, List.replicate_zero, Option.getD_some, tBM, tBM0, rLen, rListOf, rTupL, tRaise, tCallX, tDropX, tSetX, tTry0, tTryA, Ends.gone, rIsx, rExc, vO, tFld, tMeth, tMake, sFld, iEnL, iEnT, gTup, gCons, gNil, gSub, rSetL, rCat, rInsert, tSl, tNoPart, tPart, rSlL, rAppend, rClear, iList, iTup, cxOf, Cx.nox, Cx.wish, List.map_cons, List.map_nil, List.length_cons, List.length_nil, Nat.reduceAdd, Nat.reduceSub, List.reduceReplicate, List.cons_append, List.nil_append, List.append_nil, List.getElem?_cons_zero, List.getElem?_cons_succ, List.set_cons_zero, List.set_cons_succ, Option.some.injEq, V.int.injEq, V.bl.injEq, V.ref.injEq, V.str.injEq, V.ty.injEq, List.cons.injEq, and_true, true_and, and_assoc, exists_eq_left, exists_eq_left', exists_eq_right, exists_eq, exists_eq', exists_and_left, exists_const, decide_eq_true_eq, scal_ii, scal_bb, scal_ss, tEqI', Bool.not_eq_true', Bool.not_eq_true, decide_eq_false_iff_not, if_true, if_false, Bool.false_eq_true, reduceIte, tyN_int, tyN_bl, tyN_str, tyN_ref, okT_int, okT_bool, okT_str, okT_list, okT_tuple, subN_ii, subN_ib, subN_bb, subN_bi, subN_ss, subN_ll, subN_tt, Bool.not_true, Bool.not_false, not_true_eq_false, Bool.true_eq_false, tSortK])
def sp_exchanged (K : PySem.W.Frag)  : Sp := fun vs H Q _ => ∃ (r : Addr) (us : List V) (n D : Nat) (g : Nat → Nat → Int) (h o : Nat) (N : Int), vs = [.ref r, .int h, .int o, .int N] ∧ Tb H r us n D g ∧ h < n ∧ o < n ∧ n ≤ 8 ∧ 0 ≤ N ∧ N < 2 ^ 40 ∧
  ∀ r' us' H', Same H H' → H r' = none → Tb H' r' us' n D (exG g h o fun d => N.toNat.testBit d) → (∀ t, V.ref t ∈ us' → t ≠ r' ∧ H t = none) → Q (.ref r') H'
theorem sc_exchanged : FnScope ["rota", "hand", "other", "days", "mixed", "day"] ["rota", "hand", "other", "days"] (defScope s_exchanged) := ⟨rfl, rfl, rfl, by decide +kernel, rfl, by decide +kernel, by decide +kernel⟩
theorem ok_exchanged {f : Addr} {fd : FuncData} (F : Fun K "exchanged" "exchanged" s_exchanged f fd) (T : Txt mg) (C_copied : Cal P w K mg base "copied" ["rota"] 1 (sp_copied K)) (C_members : Cal P w K mg base "members" ["number"] 2 (sp_members K)) : FnOk P w K mg base CX0 3 f fd ["rota", "hand", "other", "days"] (sp_exchanged K) := by
  refine F.ok sc_exchanged (fun vs H Q E h => ?_) (fun cdv A outer s H vs Q E hr h => ?_)
  · obtain ⟨r, us, n, D, g, h, o, N, rfl, _⟩ := h
    rfl
  · obtain ⟨r, us, n, D, g, h, o, N, rfl, TR, hh, ho, n8, N0, N1, q⟩ := h
    refine ⟨_, (pss_cons (ps_set (i := 4) sc_exchanged.nd rfl (Or.inl rfl) (pe_cal C_copied (hr.mono (by decide)) rfl (pa_cons (pv 0) pa_nil)))
    (pss_cons (ps_for PassesOwn.never rfl (pi_list (pe_cal C_members (hr.mono (by decide)) rfl (pa_cons (pv 3) pa_nil))) (pg_name (i := 5) sc_exchanged.nd rfl (Or.inl rfl))
      (pss_one (ps_if (pt_cmpR op_lt (pv 5) (pe_callB (call_lenK (K := K) rfl) (by rfl) T.len PySem.boot_len (pa_cons (pe_ix ix_list (pv 0) (pv 1) (fun _ _ => rfl)) pa_nil)) (nomark _)) (pss_cons (ps_asg (pe_ix ix_list (pe_ix ix_list (pv 0) (pv 2) (fun _ _ => rfl)) (pv 5) (fun _ _ => rfl)) (pg_sub (pe_ix ix_list (pv 4) (pv 1) (fun _ _ => rfl)) (pv 5) set_list))
          (pss_one (ps_asg (pe_ix ix_list (pe_ix ix_list (pv 0) (pv 1) (fun _ _ => rfl)) (pv 5) (fun _ _ => rfl)) (pg_sub (pe_ix ix_list (pv 4) (pv 2) (fun _ _ => rfl)) (pv 5) set_list)))) pss_nil)))
    (pss_one (ps_ret (pv 4))))), ?_⟩
    have hul := TR.len
    refine seq_of fun U1 u1 => ?_
    walk_at "rd"
    refine ⟨r, us, tg n D g, rfl, TR.at_, TR.rs, by rw [tg_len]; omega, fun m us' H1 g1 hm1 em hR nd fr => ?_⟩
    rw [u1]; clear u1
    refine seq_of fun U1 u1 => for_of fun B1 b1 => ?_
    walk_at "rd"
    refine ⟨N, rfl, N0, N1, fun l H2 nw => ?_⟩
    obtain ⟨g2, hl1, el⟩ := nw
    have TM : Tb H2 m us' n D g := ⟨g2 _ _ em, hR.mono g2, nd⟩
    have gH := g1.trans g2
    obtain ⟨th, ah, wh⟩ := TR.row hh
    obtain ⟨to, ao, wo⟩ := TR.row ho
    have nl : ∀ t, V.ref t ∈ us' → l ≠ t := fun t ht z => by
      obtain ⟨row, e⟩ := hR.tracked ht
      rw [← z, hl1] at e
      cases e
    walk_at "rd"
    refine ⟨⟨_, SqL.of el⟩, for_listW (xs := (pl N).map V.int) (fun i σ H' => ∃ (v5 : Option V), Same H H' ∧ H' l = some (.lst ((pl N).map V.int)) ∧ Tb H' m us' n D (exG g h o fun d => decide ((d : Int) ∈ (pl N).take i)) ∧ σ = [some (.ref r), some (.int h), some (.int o), some (.int N), some (.ref m), v5]) ⟨none, gH, el, by rw [exG_none g h o (by intro d; simp)]; exact TM, rfl⟩ (fun i σ H' _ ⟨_, _, e, _⟩ => SqL.of e) ?_ ?_⟩
    · rintro i x σ H' hx ⟨v5, gg, e, T, rfl⟩
      rw [List.getElem?_map] at hx
      obtain ⟨dd, hd, rfl⟩ := Option.map_eq_some_iff.mp hx
      have hin := pl_in (List.mem_of_getElem? hd)
      obtain ⟨d, rfl⟩ : ∃ d : Nat, dd = (d : Int) := ⟨dd.toNat, by omega⟩
      have hS : ∀ x : Nat, decide ((x : Int) ∈ (pl N).take (i + 1)) = (decide ((x : Int) ∈ (pl N).take i) || decide (x = d)) := fun x => by
        rw [List.take_add_one, hd]
        simp [Int.ofNat_inj]
      rw [b1]
      walk_at "rd"
      refine ⟨_, SqL.of (gg _ _ TR.at_), _, atI_nat ah, th, rfl, _, .inl (SqL.of (gg _ _ wh)), ?_⟩
      rw [List.length_map, ri_len]
      split
      · rename_i hlt
        have hdD : d < D := by omega
        obtain ⟨tm, am, wm⟩ := T.row hh
        have mm := List.mem_of_getElem? am
        refine ⟨_, SqL.of (gg _ _ TR.at_), _, atI_nat ao, to, rfl, _, SqL.of (gg _ _ wo), .int (g o d), atI_nat (rv_get hdD), _, SqL.of T.at_, _, atI_nat am, tm, rfl, _, wm, d, ?_, ?_⟩
        · rw [List.length_map, ri_len]
          unfold ixN
          rw [if_pos (by omega), if_pos (by omega)]
          rfl
        have T1 := T.put am d (g o d)
        have G1 := same_upd (fr tm mm).2 gg (.lst (((ri D (exG g h o (fun d => decide ((d : Int) ∈ (pl N).take i)) h)).map V.int).set d (.int (g o d))))
        have e1 : upd H' tm (.lst (((ri D (exG g h o (fun d => decide ((d : Int) ∈ (pl N).take i)) h)).map V.int).set d (.int (g o d)))) l = some (.lst ((pl N).map V.int)) := by rw [upd_ne (nl tm mm)]; exact e
        obtain ⟨tn, an, wn⟩ := T1.row ho
        have mn := List.mem_of_getElem? an
        refine ⟨_, SqL.of (G1 _ _ TR.at_), _, atI_nat ah, th, rfl, _, SqL.of (G1 _ _ wh), .int (g h d), atI_nat (rv_get hdD), _, SqL.of T1.at_, _, atI_nat an, tn, rfl, _, wn, d, ?_, ?_⟩
        · rw [List.length_map, ri_len]
          unfold ixN
          rw [if_pos (by omega), if_pos (by omega)]
          rfl
        have T2 := T1.put an d (g h d)
        rw [exG_put g h o d hS] at T2
        exact ⟨same_upd (fr tn mn).2 G1 _, by rw [upd_ne (nl tn mn)]; exact e1, T2⟩
      · rename_i hge
        refine ⟨gg, e, T.congr fun j hj x hx => exG_congr ?_ j⟩
        rw [hS x]
        have : x ≠ d := by omega
        simp [this]
    rintro σ H' ⟨v5, gg, e, T, rfl⟩
    rw [u1]; clear u1
    walk_at "rd"
    refine q m us' H' gg hm1 (T.congr fun j hj x hx => exG_congr ?_ j) fr
    rw [List.length_map, List.take_length]
    have := mem_pl (i := x) N0 N1
    by_cases z : N.toNat.testBit x = true
    · rw [decide_eq_true (this.mpr z), z]
    · have z' : ¬ (x : Int) ∈ pl N := fun y => z (this.mp y)
      rw [decide_eq_false z']
      simpa using z
def sp_day_first (K : PySem.W.Frag)  : Sp := fun vs H Q _ => ∃ (t : Addr) (a b : Int), vs = [.ref t] ∧ H t = some (.tup [.int a, .int b]) ∧ ∀ p, H p = none → Q (.ref p) (upd H p (.tup [.int b, .int a]))
theorem sc_day_first : FnScope ["cell"] ["cell"] (defScope s_day_first) := ⟨rfl, rfl, rfl, by decide +kernel, rfl, by decide +kernel, by decide +kernel⟩
theorem ok_day_first {f : Addr} {fd : FuncData} (F : Fun K "day_first" "day_first" s_day_first f fd) (T : Txt mg)  : FnOk P w K mg base CX0 1 f fd ["cell"] (sp_day_first K) := by
  refine F.ok sc_day_first (fun vs H Q E h => ?_) (fun cdv A outer s H vs Q E hr h => ?_)
  · obtain ⟨t, a, b, rfl, _⟩ := h
    rfl
  · obtain ⟨t, a, b, rfl, ht, q⟩ := h
    refine ⟨_, (pss_one (ps_ret (pe_tup (pa_cons (pe_ix ix_tup (pv 0) pe_int (fun _ _ => rfl)) (pa_cons (pe_ix ix_tup (pv 0) pe_int (fun _ _ => rfl)) pa_nil))))), ?_⟩
    walk_at "rd"
    refine ⟨_, SqT.of ht, .int b, rfl, _, SqT.of ht, .int a, rfl, by decide, fun p hp => q p hp⟩
end
end My

set_option Elab.async false
set_option linter.all false
set_option maxRecDepth 100000
set_option maxHeartbeats 4000000
namespace My
open PySem L2
section
variable {P : Program} {w : World} {K : PySem.W.Frag} {mg : Str → Option Value} {base : Heap}
local macro_rules | `(tactic| walk_at "rd") => `(tactic| try simp only [tSeq, tRet, tRetN, tIfS, tNext, tDrop, tOp, tUn, tVar, tC, rI0, rI, rU, rEq, rNe, L2.start, tAsg, gName, tTest, tB, tCB, tCons, tNil, rIxL, rIxT, tNot, tAnd, tOr, tNotV, tAndV, tOrV, tCall, rIsi, iRng1, iRng2, tFor, tWhile, tChain, tIf, tTup, tLst, tComp, tBlk, compSt, tTrue, Cx.comp, List.replicate_one, List.replicate_zero, Option.getD_some, tBM, tBM0, rLen, rListOf, rTupL, tRaise, tCallX, tDropX, tSetX, tTry0, tTryA, Ends.gone, rIsx, rExc, vO, tFld, tMeth, tMake, sFld, iEnL, iEnT, gTup, gCons, gNil, gSub, rSetL, rCat, rInsert, tSl, tNoPart, tPart, rSlL, rAppend, rClear, iList, iTup, cxOf, Cx.nox, Cx.wish, List.map_cons, List.map_nil, List.length_cons, List.length_nil, Nat.reduceAdd, Nat.reduceSub, List.reduceReplicate, List.cons_append, List.nil_append, List.append_nil, List.getElem?_cons_zero, List.getElem?_cons_succ, List.set_cons_zero, List.set_cons_succ, Option.some.injEq, V.int.injEq, V.bl.injEq, V.ref.injEq, V.str.injEq, V.ty.injEq, List.cons.injEq, and_true, true_and, and_assoc, exists_eq_left, exists_eq_left', exists_eq_right, exists_eq, exists_eq', exists_and_left, exists_const, decide_eq_true_eq, scal_ii, scal_bb, scal_ss, tEqI', Bool.not_eq_true', Bool.not_eq_true, decide_eq_false_iff_not, if_true, if_false, Bool.false_eq_true, reduceIte, tyN_int, tyN_bl, tyN_str, tyN_ref, okT_int, okT_bool, okT_str, okT_list, okT_tuple, subN_ii, subN_ib, subN_bb, subN_bi, subN_ss, subN_ll, subN_tt, Bool.not_true, Bool.not_false, not_true_eq_false, Bool.true_eq_false, tSortK])
def sp_changed (K : PySem.W.Frag)  : Sp := fun vs H Q _ => ∃ (r o : Addr) (us ws : List V) (n D : Nat) (g f : Nat → Nat → Int), vs = [.ref r, .ref o] ∧ Tb H r us n D g ∧ Tb H o ws n D f ∧ n ≤ 8 ∧ D ≤ 40 ∧ ∀ p ts H', Same H H' → H p = none → H' p = some (.lst ts) → Cells H' ts (dm g f n D) → Q (.ref p) H'
theorem sc_changed : FnScope ["rota", "other", "told", "hand", "row", "day", "value"] ["rota", "other"] (defScope s_changed) := ⟨rfl, rfl, rfl, by decide +kernel, rfl, by decide +kernel, by decide +kernel⟩
theorem ok_changed {f : Addr} {fd : FuncData} (F : Fun K "changed" "changed" s_changed f fd) (T : Txt mg) (C_day_first : Cal P w K mg base "day_first" ["cell"] 1 (sp_day_first K)) : FnOk P w K mg base CX0 4 f fd ["rota", "other"] (sp_changed K) := by
  refine F.ok sc_changed (fun vs H Q E h => ?_) (fun cdv A outer s H vs Q E hr h => ?_)
  · obtain ⟨r, o, us, ws, n, D, g, f, rfl, _⟩ := h
    rfl
  · obtain ⟨r, o, us, ws, n, D, g, f, rfl, TR, TO, n8, D40, q⟩ := h
    refine ⟨_, (pss_cons (ps_set (i := 2) sc_changed.nd rfl (Or.inl rfl) (pe_lst pa_nil))
    (pss_cons (ps_for PassesOwn.never rfl (pi_enum_list rfl T.enumerate (pv 0)) (pg_tup (n := 2) rfl (pgs_cons (pg_name (i := 3) sc_changed.nd rfl (Or.inl rfl)) (pgs_cons (pg_name (i := 4) sc_changed.nd rfl (Or.inl rfl)) pgs_nil)))
      (pss_one (ps_for PassesOwn.never rfl (pi_enum_list rfl T.enumerate (pv 4)) (pg_tup (n := 2) rfl (pgs_cons (pg_name (i := 5) sc_changed.nd rfl (Or.inl rfl)) (pgs_cons (pg_name (i := 6) sc_changed.nd rfl (Or.inl rfl)) pgs_nil)))
          (pss_one (ps_if (pt_cmpR op_ne (pv 6) (pe_ix ix_list (pe_ix ix_list (pv 1) (pv 3) (fun _ _ => rfl)) (pv 5) (fun _ _ => rfl)) (nomark _)) (pss_one (ps_expr (pe_bm PySem.F.plainAttrs_list PySem.F.slot_list_append PySem.F.type_list_append mt_append (pv 2) (pa_cons (pe_tup (pa_cons (pv 3) (pa_cons (pv 5) pa_nil))) pa_nil)))) pss_nil)))))
    (pss_one (ps_ret (pe_sortedK C_day_first (hr.mono (by decide)) rfl T.sorted rfl (pv 2)))))), ?_⟩
    have hul := TR.len
    refine seq_of fun U1 u1 => ?_
    walk_at "rd"
    refine ⟨Nat.zero_le _, fun p hp => ?_⟩
    have g0 := same_new hp (.lst [])
    rw [u1]; clear u1
    refine seq_of fun U1 u1 => for_of fun B1 b1 => ?_
    walk_at "rd"
    refine ⟨⟨_, SqL.of (g0 _ _ TR.at_)⟩, for_enumW (xs := us) (fun i σ H' => ∃ (ts : List V) (v3 v4 v5 v6 : Option V), Same H H' ∧ H' p = some (.lst ts) ∧ Cells H' ts (hmj g f D i) ∧ σ = [some (.ref r), some (.ref o), some (.ref p), v3, v4, v5, v6]) ⟨[], none, none, none, none, g0, upd_same, .nil, rfl⟩ (fun i σ H' _ ⟨_, _, _, _, _, g, _⟩ => SqL.of (g _ _ TR.at_)) ?_ ?_⟩
    · rintro i v σ H' tt hx ⟨ts, v3, v4, v5, v6, gg, e, hC, rfl⟩ htt
      have hi : i < n := by rw [← hul]; exact (List.getElem?_eq_some_iff.mp hx).1
      obtain ⟨t, rfl, ht⟩ := TR.at' hx
      obtain ⟨t2, ht2, hw2⟩ := TO.row hi
      have gt := same_new htt (.tup [.int (i : Int), .ref t])
      have gA := gg.trans gt
      rw [Nat.zero_add]
      walk_at "rd"
      refine ⟨_, SqT.of upd_same, rfl, _, _, rfl, _, _, rfl, rfl, ?_⟩
      rw [b1]
      refine for_of fun B2 b2 => ?_
      walk_at "rd"
      refine ⟨⟨_, SqL.of (gA _ _ ht)⟩, for_enumW (xs := (ri D (g i)).map V.int) (fun j σ H2 => ∃ (ts : List V) (v5 v6 : Option V), Same H H2 ∧ H2 p = some (.lst ts) ∧ Cells H2 ts (hmj g f D i ++ rowC g f i j) ∧ σ = [some (.ref r), some (.ref o), some (.ref p), some (.int i), some (.ref t), v5, v6]) ⟨ts, v5, v6, gA, gt _ _ e, by rw [rowC_zero, List.append_nil]; exact hC.mono gt, rfl⟩ (fun j σ H2 _ ⟨_, _, _, g, _⟩ => SqL.of (g _ _ ht)) ?_ ?_⟩
      · rintro j v σ H2 t3 hx3 ⟨ts, v5, v6, g2, e2, hC2, rfl⟩ ht3
        have hj : j < D := by have := (List.getElem?_eq_some_iff.mp hx3).1; rw [List.length_map, ri_len] at this; exact this
        rw [rv_get hj] at hx3
        cases hx3
        have g3 := same_new ht3 (.tup [.int (j : Int), .int (g i j)])
        have gB := g2.trans g3
        have hlen := hC2.len
        rw [List.length_append] at hlen
        have l1 := hmj_len (g := g) (f := f) D i
        have l2 := rowC_len (g := g) (f := f) i j
        have l3 : i * D ≤ 8 * 40 := Nat.mul_le_mul (by omega) D40
        rw [Nat.zero_add]
        walk_at "rd"
        refine ⟨_, SqT.of upd_same, rfl, _, _, rfl, _, _, rfl, rfl, ?_⟩
        rw [b2]
        walk_at "rd"
        refine ⟨_, SqL.of (gB _ _ TO.at_), _, atI_nat ht2, t2, rfl, _, SqL.of (gB _ _ hw2), .int (f i j), atI_nat (rv_get hj), rfl, ?_⟩
        rw [rowC_succ]
        walk_at "rd"
        split
        · rename_i hd
          have ed : df g f i j = true := by unfold df; simpa using hd
          rw [if_pos ed]
          refine ⟨.inl ⟨rfl, _, SqL.of (g3 _ _ e2)⟩, by decide, fun tc hc => ?_⟩
          have gc := same_new hc (.tup [.int (i : Int), .int (j : Int)])
          refine ⟨_, gc _ _ (g3 _ _ e2), small1000 (by omega), same_upd hp (gB.trans gc) _, _, upd_same, ?_⟩
          rw [← List.append_assoc]
          exact Cells.off (Cells.snoc (hC2.mono (g3.trans gc)) ⟨tc, rfl, upd_same⟩) fun xs z => by rw [gc _ _ (g3 _ _ e2)] at z; cases z
        · rename_i hd
          have ed : ¬ df g f i j = true := by unfold df; simpa using hd
          rw [if_neg ed, List.append_nil]
          exact ⟨gB, ts, g3 _ _ e2, hC2.mono g3⟩
      · rintro σ H2 ⟨ts, v5, v6, g2, e2, hC2, rfl⟩
        rw [List.length_map, ri_len] at hC2
        rw [hmj_succ]
        exact ⟨g2, ts, e2, hC2, _, _, _, _, rfl⟩
    rintro σ H1 ⟨ts, v3, v4, v5, v6, g1, e1, hC, rfl⟩
    rw [hul] at hC
    rw [u1]; clear u1
    walk_at "rd"
    refine ⟨ts, SqL.of e1, fun v => ((cellOf H1 v).2, (cellOf H1 v).1), fun H' => Same H1 H', fun _ _ h => h, fun H' x hx gg => ?_, fun H' ys Dd gg y1 y2 hD => ?_⟩
    · obtain ⟨c, _, tc, rfl, hc⟩ := L2.Paired.inl hC hx
      have ec : cellOf H1 (.ref tc) = c := CellV.eq ⟨tc, rfl, hc⟩
      refine ⟨tc, c.1, c.2, rfl, gg _ _ hc, fun pp hpp => ⟨⟨pp, rfl, ?_⟩, gg.trans (same_new hpp _)⟩⟩
      dsimp only
      rw [ec]
      exact upd_same
    · exact q Dd ys _ (g1.trans (gg.trans (same_new hD _))) ((g1.trans gg).free hD) upd_same ((cells_sorted hC y1 y2).mono (gg.trans (same_new hD _)))
def sp__law_draw (K : PySem.W.Frag)  : Sp := fun vs H Q _ => ∃ (a : Addr) (ns : List Int) (k m : Int), vs = [.ref a, .int k, .int m] ∧ SqL K H a (ns.map V.int) ∧ ns.length ≤ 63 ∧ 0 ≤ k ∧ 0 < m ∧ ∀ v : Int, 0 ≤ v → v < m → Q (.int v) H
theorem sc__law_draw : FnScope ["_law_script", "_law_k", "_law_many", "_law_number"] ["_law_script", "_law_k", "_law_many"] (defScope s__law_draw) := ⟨rfl, rfl, rfl, by decide +kernel, rfl, by decide +kernel, by decide +kernel⟩
theorem ok__law_draw {f : Addr} {fd : FuncData} (F : Fun K "_law_draw" "_law_draw" s__law_draw f fd) (T : Txt mg)  : FnOk P w K mg base CX0 1 f fd ["_law_script", "_law_k", "_law_many"] (sp__law_draw K) := by
  refine F.ok sc__law_draw (fun vs H Q E h => ?_) (fun cdv A outer s H vs Q E hr h => ?_)
  · obtain ⟨a, ns, k, m, rfl, _⟩ := h
    rfl
  · obtain ⟨a, ns, k, m, rfl, hS, hl, k0, m0, q⟩ := h
    have hlen : ((List.map V.int ns).length : Int) = ns.length := by simp
    refine ⟨_, (pss_cons (ps_if (pt_cmpR op_lt (pv 1) (pe_callB (call_lenK (K := K) rfl) (by rfl) T.len PySem.boot_len (pa_cons (pv 0) pa_nil)) (nomark _)) (pss_one (ps_ret (pe_op op_mod (pe_ix ix_list (pv 0) (pv 1) (fun _ _ => rfl)) (pv 2)))) pss_nil)
    (pss_cons (ps_set (i := 3) sc__law_draw.nd rfl (Or.inl rfl) (pe_op op_add (pe_op op_mul (pv 1) pe_int) pe_int))
    (pss_cons (ps_if (pt_cmpR op_gt (pe_callB (call_lenK (K := K) rfl) (by rfl) T.len PySem.boot_len (pa_cons (pv 0) pa_nil)) pe_int (nomark _)) (pss_one (ps_set (i := 3) sc__law_draw.nd rfl (Or.inl rfl) (pe_op op_add (pe_op op_mul (pe_op op_mod (pe_ix ix_list (pv 0) (pe_op op_mod (pe_op op_mul (pv 1) pe_int) (pe_callB (call_lenK (K := K) rfl) (by rfl) T.len PySem.boot_len (pa_cons (pv 0) pa_nil))) (fun _ _ => rfl)) pe_int) pe_int) (pe_op op_mul (pv 1) pe_int)))) pss_nil)
    (pss_cons (ps_set (i := 3) sc__law_draw.nd rfl (Or.inl rfl) (pe_op op_mod (pv 3) pe_int))
    (pss_one (ps_ret (pe_op op_mod (pe_op op_mod (pe_op op_mul (pv 3) (pv 3)) pe_int) (pv 2)))))))), ?_⟩
    walk_at "rd"
    refine ⟨_, .inl hS, ?_⟩
    rw [hlen]
    split
    · rename_i hk
      obtain ⟨v, hv⟩ := item_of k0 hk
      exact ⟨_, hS, _, hv, v, rfl, m0, q _ (Int.emod_nonneg _ (by omega)) (Int.emod_lt_of_pos _ m0)⟩
    · refine ⟨.inr ⟨by decide, by decide⟩, _, .inl hS, ?_⟩
      rw [hlen]
      split
      · rename_i hp
        obtain ⟨v, hv⟩ := item_of (ns := ns) (k := k * 7 % ns.length) (Int.emod_nonneg _ (by omega)) (Int.emod_lt_of_pos _ hp)
        refine ⟨.inr ⟨by decide, by decide⟩, _, .inl hS, by omega, _, hS, _, by rw [hlen]; exact hv, v, rfl, by decide, .inr ⟨by decide, by decide⟩, .inr ⟨by decide, by decide⟩, by decide, .inl ⟨by omega, by omega⟩, by decide, m0, ?_⟩
        exact q _ (Int.emod_nonneg _ (by omega)) (Int.emod_lt_of_pos _ m0)
      · refine ⟨by decide, .inl ⟨by omega, by omega⟩, by decide, m0, ?_⟩
        exact q _ (Int.emod_nonneg _ (by omega)) (Int.emod_lt_of_pos _ m0)
theorem use_draw {K : PySem.W.Frag}  {H : Hp} {Q : VK} {E : XK} {a : Addr} {ns : List Int} {k m : Int} (hS : SqL K H a (ns.map V.int)) (hl : ns.length ≤ 63) (k0 : 0 ≤ k) (m0 : 0 < m)
    (q : ∀ v : Int, 0 ≤ v → v < m → Q (.int v) H) : sp__law_draw K  [.ref a, .int k, .int m] H Q E := ⟨a, ns, k, m, rfl, hS, hl, k0, m0, q⟩
end
end My

set_option Elab.async false
set_option linter.all false
set_option maxRecDepth 100000
set_option maxHeartbeats 4000000
namespace My
open PySem L2
section
variable {P : Program} {w : World} {K : PySem.W.Frag} {mg : Str → Option Value} {base : Heap}
local macro_rules | `(tactic| walk_at "rd") => `(tactic| try simp only [tSeq, tRet, tRetN, tIfS, tNext, tDrop, tOp, tUn, tVar, tC, rI0, rI, rU, rEq, rNe, L2.start, tAsg, gName, tTest, tB, tCB, tCons, tNil, rIxL, rIxT, tNot, tAnd, tOr, tNotV, tAndV, tOrV, tCall, rIsi, iRng1, iRng2, tFor, tWhile, tChain, tIf, tTup, tLst, tComp, tBlk, compSt, tTrue, Cx.comp, List.replicate_one, List.replicate_zero, Option.getD_some, tBM, tBM0, rLen, rListOf, rTupL, tRaise, tCallX, tDropX, tSetX, tTry0, tTryA, Ends.gone, rIsx, rExc, vO, tFld, tMeth, tMake, sFld, iEnL, iEnT, gTup, gCons, gNil, gSub, rSetL, rCat, rInsert, tSl, tNoPart, tPart, rSlL, rAppend, rClear, iList, iTup, cxOf, Cx.nox, Cx.wish, List.map_cons, List.map_nil, List.length_cons, List.length_nil, Nat.reduceAdd, Nat.reduceSub, List.reduceReplicate, List.cons_append, List.nil_append, List.append_nil, List.getElem?_cons_zero, List.getElem?_cons_succ, List.set_cons_zero, List.set_cons_succ, Option.some.injEq, V.int.injEq, V.bl.injEq, V.ref.injEq, V.str.injEq, V.ty.injEq, List.cons.injEq, and_true, true_and, and_assoc, exists_eq_left, exists_eq_left', exists_eq_right, exists_eq, exists_eq', exists_and_left, exists_const, decide_eq_true_eq, scal_ii, scal_bb, scal_ss, tEqI', Bool.not_eq_true', Bool.not_eq_true, decide_eq_false_iff_not, if_true, if_false, Bool.false_eq_true, reduceIte, tyN_int, tyN_bl, tyN_str, tyN_ref, okT_int, okT_bool, okT_str, okT_list, okT_tuple, subN_ii, subN_ib, subN_bb, subN_bi, subN_ss, subN_ll, subN_tt, Bool.not_true, Bool.not_false, not_true_eq_false, Bool.true_eq_false, tSortK])
def sp__law_second (K : PySem.W.Frag)  : Sp := fun vs H Q _ => ∃ (a r : Addr) (ns : List Int) (us : List V) (n D : Nat) (g : Nat → Nat → Int), vs = [.ref a, .ref r] ∧ SqL K H a (ns.map V.int) ∧ ns.length ≤ 63 ∧ Tb H r us n D g ∧ 1 ≤ n ∧ n ≤ 8 ∧ 1 ≤ D ∧ D ≤ 40 ∧
  ∀ r' us' f H', Same H H' → H r' = none → Tb H' r' us' n D f → Q (.ref r') H'
theorem sc__law_second : FnScope ["_law_script", "_law_one", "_law_two", "_law_cell", "_law_number", "_law_row", "_law_hand", "_law_day"] ["_law_script", "_law_one"] (defScope s__law_second) := ⟨rfl, rfl, rfl, by decide +kernel, rfl, by decide +kernel, by decide +kernel⟩
theorem ok__law_second {f : Addr} {fd : FuncData} (F : Fun K "_law_second" "_law_second" s__law_second f fd) (T : Txt mg) (C__law_draw : Cal P w K mg base "_law_draw" ["_law_script", "_law_k", "_law_many"] 1 (sp__law_draw K)) : FnOk P w K mg base CX0 2 f fd ["_law_script", "_law_one"] (sp__law_second K) := by
  refine F.ok sc__law_second (fun vs H Q E h => ?_) (fun cdv A outer s H vs Q E hr h => ?_)
  · obtain ⟨a, r, ns, us, n, D, g, rfl, _⟩ := h
    rfl
  · obtain ⟨a, r, ns, us, n, D, g, rfl, hS, hl, TR, n1, n8, D1, D40, q⟩ := h
    refine ⟨_, (pss_cons (ps_comp (i := 2) sc__law_second.nd rfl rfl (own := ["_law_row"]) (fnames := []) (fr := []) (N' := ["_law_row"]) ⟨rfl, rfl, rfl, rfl, rfl, rfl, rfl⟩ rfl (pi_list (pv 1)) (fun s0 H0 fp0 C0 => ⟨(pg_name (i := 0) (by show (["_law_row"] : List Str).Nodup; decide +kernel) rfl (Or.inl rfl)), pts_nil, (pe_callTy (call_listK (K := K) rfl) (by rfl) T.list PyProof.Rows.boot_list (pa_cons (pv 0) pa_nil))⟩))
    (pss_cons (ps_for PassesOwn.never rfl (pi_list (pe_slice sl_list (pv 0) (po_some pe_int) (po_some pe_int))) (pg_name (i := 3) sc__law_second.nd rfl (Or.inl rfl))
      (pss_cons (ps_set (i := 4) sc__law_second.nd rfl (Or.inl rfl) (pe_op op_mod (pv 3) pe_int))
        (pss_cons (ps_set (i := 5) sc__law_second.nd rfl (Or.inl rfl) (pe_ix ix_list (pv 2) (pe_op op_mod (pv 4) (pe_callB (call_lenK (K := K) rfl) (by rfl) T.len PySem.boot_len (pa_cons (pv 2) pa_nil))) (fun _ _ => rfl)))
        (pss_one (ps_asg (pe_op op_mod (pe_op op_fdiv (pv 4) pe_int) pe_int) (pg_sub (pv 5) (pe_op op_mod (pe_op op_fdiv (pv 4) pe_int) (pe_callB (call_lenK (K := K) rfl) (by rfl) T.len PySem.boot_len (pa_cons (pv 5) pa_nil))) set_list))))))
    (pss_cut (ps_if (pt_cmpR op_eq (pe_cal C__law_draw (hr.mono (by decide)) rfl (pa_cons (pv 0) (pa_cons pe_int (pa_cons pe_int pa_nil)))) pe_int (nomark _)) (pss_one (ps_for PassesOwn.never rfl (pi_range1 rfl T.range (pa_cons (pe_callB (call_lenK (K := K) rfl) (by rfl) T.len PySem.boot_len (pa_cons (pv 2) pa_nil)) pa_nil)) (pg_name (i := 6) sc__law_second.nd rfl (Or.inl rfl))
        (pss_one (ps_for PassesOwn.never rfl (pi_range1 rfl T.range (pa_cons (pe_callB (call_lenK (K := K) rfl) (by rfl) T.len PySem.boot_len (pa_cons (pe_ix ix_list (pv 2) (pv 6) (fun _ _ => rfl)) pa_nil)) pa_nil)) (pg_name (i := 7) sc__law_second.nd rfl (Or.inl rfl))
            (pss_one (ps_asg (pe_cal C__law_draw (hr.mono (by decide)) rfl (pa_cons (pv 0) (pa_cons (pe_op op_add (pe_op op_add pe_int (pe_op op_mul pe_int (pv 7))) (pv 6)) (pa_cons pe_int pa_nil)))) (pg_sub (pe_ix ix_list (pv 2) (pv 6) (fun _ _ => rfl)) (pv 7) set_list))))))) pss_nil)
    (pss_one (ps_ret (pv 2)))))), ?_⟩
    have hul := TR.len
    refine seq_of fun U1 u1 => ?_
    walk_at "rd"
    refine ⟨⟨_, SqL.of TR.at_⟩, fun m hm1 => for_listW (xs := us) (fun i σ H' => CopyI H m (tg n D g) i H' ∧ ∃ v1, σ = [v1]) ⟨CopyI.start hm1, none, rfl⟩ (fun i σ H' _ hh => SqL.of (hh.1.same _ _ TR.at_)) ?_ ?_⟩
    · rintro i v σ H' hx ⟨hc, v1, rfl⟩
      obtain ⟨row, hrow, t', rfl, ht'⟩ := TR.rs.at' hx
      have hi : i < us.length := (List.getElem?_eq_some_iff.mp hx).1
      walk_at "rd"
      exact ⟨_, .inl (SqL.of (hc.same _ _ ht')), fun l hl => hc.step hm1 hrow hl (by omega)⟩
    rintro σ H1 ⟨hc, v1, rfl⟩
    obtain ⟨us', g1, em, hR, nd, fr⟩ := hc.done TR.rs.len
    have TM : Tb H1 m us' n D g := ⟨em, hR, nd⟩
    walk_at "rd"
    rw [u1]; clear u1
    refine seq_of fun U1 u1 => for_of fun B1 b1 => ?_
    walk_at "rd"
    refine ⟨_, g1.seq hS, fun l hl1 => ?_⟩
    have nl : ∀ t, V.ref t ∈ us' → l ≠ t := fun t ht z => by
      obtain ⟨row, e⟩ := hR.tracked ht
      rw [← z, hl1] at e
      cases e
    obtain ⟨ms, ems⟩ := cut_any ns (some 4) (some 62)
    rw [ems]
    have g2 := same_new hl1 (.lst (ms.map V.int))
    refine ⟨⟨_, SqL.of upd_same⟩, for_listW (xs := ms.map V.int) (fun i σ H' => ∃ (f : Nat → Nat → Int) (v3 v4 v5 : Option V), Same H H' ∧ H' l = some (.lst (ms.map V.int)) ∧ Tb H' m us' n D f ∧ σ = [some (.ref a), some (.ref r), some (.ref m), v3, v4, v5, none, none]) ⟨g, none, none, none, g1.trans g2, upd_same, TM.mono g2, rfl⟩ (fun i σ H' _ ⟨_, _, _, _, _, e, _⟩ => SqL.of e) ?_ ?_⟩
    · rintro i x σ H' hx ⟨f, v3, v4, v5, gg, e, T, rfl⟩
      rw [List.getElem?_map] at hx
      obtain ⟨c, hc, rfl⟩ := Option.map_eq_some_iff.mp hx
      have hml := T.len
      rw [b1]
      refine seq_of fun U2 u2 => ?_
      walk_at "rd"
      refine ⟨by decide, ?_⟩
      rw [u2]; clear u2
      refine seq_of fun U2 u2 => ?_
      walk_at "rd"
      refine ⟨_, .inl (SqL.of T.at_), by omega, ?_⟩
      rw [hml]
      obtain ⟨k, hk, hk2⟩ := mod_nat (c % 1000003) (n := n) (by omega)
      rw [hk]
      obtain ⟨tm, am, wm⟩ := T.row hk2
      have mm := List.mem_of_getElem? am
      refine ⟨_, SqL.of T.at_, _, atI_nat am, ?_⟩
      rw [u2]; clear u2
      walk_at "rd"
      refine ⟨⟨by decide, by decide⟩, by decide, ⟨by decide, by decide⟩, _, .inl (SqL.of wm), ?_⟩
      rw [List.length_map, ri_len]
      obtain ⟨j, hj, hj2⟩ := mod_nat (c % 1000003 / 11) (n := D) (by omega)
      rw [hj]
      refine ⟨by omega, _, wm, j, ixN_k (by rw [List.length_map, ri_len]; exact hj2), ?_⟩
      refine ⟨same_upd (fr tm mm).2 gg _, by rw [upd_ne (nl tm mm)]; exact e, _, T.put am j _⟩
    rintro σ H2 ⟨f, v3, v4, v5, gg, e, T, rfl⟩
    rw [u1]; clear u1
    refine cut_of (fun σ H' => ∃ (f : Nat → Nat → Int) (v3 v4 v5 v6 v7 : Option V), Same H H' ∧ Tb H' m us' n D f ∧ σ = [some (.ref a), some (.ref r), some (.ref m), v3, v4, v5, v6, v7]) ?_ ?_
    · walk_at "rd"
      refine ⟨a, ns, _, _, rfl, gg.seq hS, hl, by decide, by decide, fun c c0 c1 => ?_⟩
      walk_at "rd"
      split
      · refine ⟨_, .inl (SqL.of T.at_), ?_⟩
        rw [T.len]
        refine ⟨by omega, by omega, for_rangeW (fun i σ H' => ∃ (f : Nat → Nat → Int) (v6 v7 : Option V), Same H H' ∧ Tb H' m us' n D f ∧ σ = [some (.ref a), some (.ref r), some (.ref m), v3, v4, v5, v6, v7]) ⟨f, none, none, gg, T, rfl⟩ ?_ ?_⟩
        · rintro i σ H' hi ⟨f, v6, v7, gg, T, rfl⟩
          rw [show (0 + (i : Int)) = i by omega]
          have hi' : i < n := by omega
          obtain ⟨tm, am, wm⟩ := T.row hi'
          walk_at "rd"
          refine ⟨_, SqL.of T.at_, _, atI_nat am, tm, rfl, _, .inl (SqL.of wm), ?_⟩
          rw [List.length_map, ri_len]
          refine ⟨by omega, by omega, for_rangeW (fun j σ H' => ∃ (f : Nat → Nat → Int) (v7 : Option V), Same H H' ∧ Tb H' m us' n D f ∧ σ = [some (.ref a), some (.ref r), some (.ref m), v3, v4, v5, some (.int i), v7]) ⟨f, v7, gg, T, rfl⟩ ?_ ?_⟩
          · rintro j σ H' hj ⟨f, v7, gg, T, rfl⟩
            rw [show (0 + (j : Int)) = j by omega]
            have hj' : j < D := by omega
            obtain ⟨tn, an, wn⟩ := T.row hi'
            have mn := List.mem_of_getElem? an
            walk_at "rd"
            refine ⟨.inl ⟨by decide, by decide⟩, a, ns, _, _, rfl, gg.seq hS, hl, by omega, by decide, fun v w0 w1 => ?_⟩
            walk_at "rd"
            refine ⟨_, SqL.of T.at_, _, atI_nat an, tn, rfl, _, wn, j, ixN_k (by rw [List.length_map, ri_len]; exact hj'), ?_⟩
            exact ⟨same_upd (fr tn mn).2 gg _, _, T.put an j v⟩
          · rintro σ H' ⟨f, v7, gg, T, rfl⟩
            exact ⟨gg, f, T, _, _, rfl⟩
        · rintro σ H' ⟨f, v6, v7, gg, T, rfl⟩
          exact ⟨gg, f, T, _, _, _, _, _, rfl⟩
      · exact ⟨gg, f, T⟩
    rintro σ H' ⟨f, v3, v4, v5, v6, v7, gg, T, rfl⟩
    walk_at "rd"
    exact q m us' f H' gg hm1 T
end
end My

set_option Elab.async false
set_option linter.all false
set_option maxRecDepth 100000
set_option maxHeartbeats 4000000
namespace My
open PySem L2
section
variable {P : Program} {w : World} {K : PySem.W.Frag} {mg : Str → Option Value} {base : Heap}
local macro_rules | `(tactic| walk_at "rd") => `(tactic| try simp only [tSeq, tRet, tRetN, tIfS, tNext, tDrop, tOp, tUn, tVar, tC, rI0, rI, rU, rEq, rNe, L2.start, tAsg, gName, tTest, tB, tCB, tCons, tNil, rIxL, rIxT, tNot, tAnd, tOr, tNotV, tAndV, tOrV, tCall, rIsi, iRng1, iRng2, tFor, tWhile, tChain, tIf, tTup, tLst, tComp, tBlk, compSt, tTrue, Cx.comp, List.replicate_one, List.replicate_zero, Option.getD_some, tBM, tBM0, rLen, rListOf, rTupL, tRaise, tCallX, tDropX, tSetX, tTry0, tTryA, Ends.gone, rIsx, rExc, vO, tFld, tMeth, tMake, sFld, iEnL, iEnT, gTup, gCons, gNil, gSub, rSetL, rCat, rInsert, tSl, tNoPart, tPart, rSlL, rAppend, rClear, iList, iTup, cxOf, Cx.nox, Cx.wish, List.map_cons, List.map_nil, List.length_cons, List.length_nil, Nat.reduceAdd, Nat.reduceSub, List.reduceReplicate, List.cons_append, List.nil_append, List.append_nil, List.getElem?_cons_zero, List.getElem?_cons_succ, List.set_cons_zero, List.set_cons_succ, Option.some.injEq, V.int.injEq, V.bl.injEq, V.ref.injEq, V.str.injEq, V.ty.injEq, List.cons.injEq, and_true, true_and, and_assoc, exists_eq_left, exists_eq_left', exists_eq_right, exists_eq, exists_eq', exists_and_left, exists_const, decide_eq_true_eq, scal_ii, scal_bb, scal_ss, tEqI', Bool.not_eq_true', Bool.not_eq_true, decide_eq_false_iff_not, if_true, if_false, Bool.false_eq_true, reduceIte, tyN_int, tyN_bl, tyN_str, tyN_ref, okT_int, okT_bool, okT_str, okT_list, okT_tuple, subN_ii, subN_ib, subN_bb, subN_bi, subN_ss, subN_ll, subN_tt, Bool.not_true, Bool.not_false, not_true_eq_false, Bool.true_eq_false, tSortK])
def sp__law_exchanged (K : PySem.W.Frag)  : Sp := fun vs H Q _ => ∃ (r : Addr) (us : List V) (n D : Nat) (g : Nat → Nat → Int) (h o M : Nat), vs = [.ref r, .int h, .int o, .int M] ∧ Tb H r us n D g ∧ h < n ∧ o < n ∧ n ≤ 8 ∧ D ≤ 40 ∧
  ∀ r' us' H', Same H H' → H r' = none → Tb H' r' us' n D (exG g h o fun d => M.testBit d) → Q (.ref r') H'
theorem sc__law_exchanged : FnScope ["_law_rota", "_law_hand", "_law_other", "_law_number", "_law_due", "_law_day"] ["_law_rota", "_law_hand", "_law_other", "_law_number"] (defScope s__law_exchanged) := ⟨rfl, rfl, rfl, by decide +kernel, rfl, by decide +kernel, by decide +kernel⟩
theorem ok__law_exchanged {f : Addr} {fd : FuncData} (F : Fun K "_law_exchanged" "_law_exchanged" s__law_exchanged f fd) (T : Txt mg)  : FnOk P w K mg base CX0 1 f fd ["_law_rota", "_law_hand", "_law_other", "_law_number"] (sp__law_exchanged K) := by
  refine F.ok sc__law_exchanged (fun vs H Q E h => ?_) (fun cdv A outer s H vs Q E hr h => ?_)
  · obtain ⟨r, us, n, D, g, h, o, M, rfl, _⟩ := h
    rfl
  · obtain ⟨r, us, n, D, g, h, o, M, rfl, TR, hh, ho, n8, D40, q⟩ := h
    refine ⟨_, (pss_cons (ps_comp (i := 4) sc__law_exchanged.nd rfl rfl (own := ["_law_row"]) (fnames := []) (fr := []) (N' := ["_law_row"]) ⟨rfl, rfl, rfl, rfl, rfl, rfl, rfl⟩ rfl (pi_list (pv 0)) (fun s0 H0 fp0 C0 => ⟨(pg_name (i := 0) (by show (["_law_row"] : List Str).Nodup; decide +kernel) rfl (Or.inl rfl)), pts_nil, (pe_callTy (call_listK (K := K) rfl) (by rfl) T.list PyProof.Rows.boot_list (pa_cons (pv 0) pa_nil))⟩))
    (pss_cons (ps_for PassesOwn.never rfl (pi_range1 rfl T.range (pa_cons (pe_callB (call_lenK (K := K) rfl) (by rfl) T.len PySem.boot_len (pa_cons (pe_ix ix_list (pv 0) pe_int (fun _ _ => rfl)) pa_nil)) pa_nil)) (pg_name (i := 5) sc__law_exchanged.nd rfl (Or.inl rfl))
      (pss_cons (ps_if (pt_cmpR op_eq (pe_op op_mod (pv 3) pe_int) pe_int (nomark _)) (pss_cons (ps_asg (pe_ix ix_list (pe_ix ix_list (pv 0) (pv 2) (fun _ _ => rfl)) (pv 5) (fun _ _ => rfl)) (pg_sub (pe_ix ix_list (pv 4) (pv 1) (fun _ _ => rfl)) (pv 5) set_list))
          (pss_one (ps_asg (pe_ix ix_list (pe_ix ix_list (pv 0) (pv 1) (fun _ _ => rfl)) (pv 5) (fun _ _ => rfl)) (pg_sub (pe_ix ix_list (pv 4) (pv 2) (fun _ _ => rfl)) (pv 5) set_list)))) pss_nil)
        (pss_one (ps_set (i := 3) sc__law_exchanged.nd rfl (Or.inl rfl) (pe_op op_fdiv (pv 3) pe_int)))))
    (pss_one (ps_ret (pv 4))))), ?_⟩
    have hul := TR.len
    obtain ⟨tz, az, wz⟩ := TR.row (show 0 < n by omega)
    obtain ⟨th, ah, wh⟩ := TR.row hh
    obtain ⟨to, ao, wo⟩ := TR.row ho
    refine seq_of fun U1 u1 => ?_
    walk_at "rd"
    refine ⟨⟨_, SqL.of TR.at_⟩, fun m hm1 => for_listW (xs := us) (fun i σ H' => CopyI H m (tg n D g) i H' ∧ ∃ v1, σ = [v1]) ⟨CopyI.start hm1, none, rfl⟩ (fun i σ H' _ hh => SqL.of (hh.1.same _ _ TR.at_)) ?_ ?_⟩
    · rintro i v σ H' hx ⟨hc, v1, rfl⟩
      obtain ⟨row, hrow, t', rfl, ht'⟩ := TR.rs.at' hx
      have hi : i < us.length := (List.getElem?_eq_some_iff.mp hx).1
      walk_at "rd"
      exact ⟨_, .inl (SqL.of (hc.same _ _ ht')), fun l hl => hc.step hm1 hrow hl (by omega)⟩
    rintro σ H1 ⟨hc, v1, rfl⟩
    obtain ⟨us', g1, em, hR, nd, fr⟩ := hc.done TR.rs.len
    have TM : Tb H1 m us' n D g := ⟨em, hR, nd⟩
    walk_at "rd"
    rw [u1]; clear u1
    refine seq_of fun U1 u1 => for_of fun B1 b1 => ?_
    walk_at "rd"
    refine ⟨_, SqL.of (g1 _ _ TR.at_), _, atI_nat (j := 0) az, tz, rfl, _, .inl (SqL.of (g1 _ _ wz)), ?_⟩
    rw [List.length_map, ri_len]
    refine ⟨by omega, by omega, for_rangeW (fun i σ H' => ∃ (v5 : Option V), Same H H' ∧ Tb H' m us' n D (exG g h o fun d => decide (d < i) && M.testBit d) ∧ σ = [some (.ref r), some (.int h), some (.int o), some (.int ((M / 2 ^ i : Nat) : Int)), some (.ref m), v5]) ⟨none, g1, by rw [exG_none g h o (by intro d; simp)]; exact TM, by simp⟩ ?_ ?_⟩
    · rintro i σ H' hi ⟨v5, gg, T, rfl⟩
      rw [show (0 + (i : Int)) = i by omega]
      have hdD : i < D := by omega
      have hbit := half_bit M i
      have ebit : decide (((M / 2 ^ i : Nat) : Int) % 2 = 1) = decide (M / 2 ^ i % 2 = 1) := decide_eq_decide.mpr (by omega)
      have enx : ((M / 2 ^ i : Nat) : Int) / 2 = ((M / 2 ^ (i + 1) : Nat) : Int) := by rw [← half_next]; omega
      rw [b1]
      refine seq_of fun U2 u2 => ?_
      walk_at "rd"
      refine ⟨by decide, ?_⟩
      split
      · rename_i hb
        have hb' : M.testBit i = true := hbit.mp (by omega)
        obtain ⟨tm, am, wm⟩ := T.row hh
        have mm := List.mem_of_getElem? am
        refine ⟨_, SqL.of (gg _ _ TR.at_), _, atI_nat ao, to, rfl, _, SqL.of (gg _ _ wo), .int (g o i), atI_nat (rv_get hdD), _, SqL.of T.at_, _, atI_nat am, tm, rfl, _, wm, i, ?_, ?_⟩
        · rw [List.length_map, ri_len]
          unfold ixN
          rw [if_pos (by omega), if_pos (by omega)]
          rfl
        have T1 := T.put am i (g o i)
        have G1 := same_upd (fr tm mm).2 gg (.lst (((ri D (exG g h o (fun d => decide (d < i) && M.testBit d) h)).map V.int).set i (.int (g o i))))
        obtain ⟨tn, an, wn⟩ := T1.row ho
        have mn := List.mem_of_getElem? an
        refine ⟨_, SqL.of (G1 _ _ TR.at_), _, atI_nat ah, th, rfl, _, SqL.of (G1 _ _ wh), .int (g h i), atI_nat (rv_get hdD), _, SqL.of T1.at_, _, atI_nat an, tn, rfl, _, wn, i, ?_, ?_⟩
        · rw [List.length_map, ri_len]
          unfold ixN
          rw [if_pos (by omega), if_pos (by omega)]
          rfl
        have T2 := T1.put an i (g h i)
        rw [exS_put g h o i M hb'] at T2
        rw [u2]; clear u2
        walk_at "rd"
        refine ⟨⟨by decide, by decide⟩, same_upd (fr tn mn).2 G1 _, T2, ?_⟩
        rw [enx]
      · rename_i hb
        have hb' : ¬ M.testBit i = true := fun z => hb (by have := hbit.mpr z; omega)
        rw [u2]; clear u2
        walk_at "rd"
        refine ⟨⟨by decide, by decide⟩, gg, by rw [exS_skip g h o i M hb']; exact T, ?_⟩
        rw [enx]
    rintro σ H' ⟨v5, gg, T, rfl⟩
    rw [u1]; clear u1
    walk_at "rd"
    refine q m us' H' gg hm1 (T.congr fun j hj x hx => exG_congr ?_ j)
    have : decide (x < ((D : Int)).toNat) = true := by simpa using hx
    rw [this, Bool.true_and]
def sp__law_whole (_ : PySem.W.Frag)  : Sp := fun vs H Q _ => ∃ i : Int, vs = [.int i] ∧ Q (.bl true) H
theorem sc__law_whole : FnScope ["_law_found"] ["_law_found"] (defScope s__law_whole) := ⟨rfl, rfl, rfl, by decide +kernel, rfl, by decide +kernel, by decide +kernel⟩
theorem ok__law_whole {f : Addr} {fd : FuncData} (F : Fun K "_law_whole" "_law_whole" s__law_whole f fd) (T : Txt mg)  : FnOk P w K mg base CX0 1 f fd ["_law_found"] (sp__law_whole K) := by
  refine F.ok sc__law_whole (fun vs H Q E h => ?_) (fun cdv A outer s H vs Q E hr h => ?_)
  · obtain ⟨i, rfl, _⟩ := h
    rfl
  · obtain ⟨i, rfl, q⟩ := h
    refine ⟨_, (pss_one (ps_ret (pe_and (pe_callB call_isi (by rfl) T.isinstance PyProof.Rows.boot_isinstance (pa_cons (pv 0) (pa_cons (pe_bltn (v := .ty "int") rfl T.int PyProof.Rows.boot_int rfl) pa_nil))) (pe_one (pe_not (pe_callB call_isi (by rfl) T.isinstance PyProof.Rows.boot_isinstance (pa_cons (pv 0) (pa_cons (pe_bltn (v := .ty "bool") rfl T.bool PyProof.Rows.boot_bool rfl) pa_nil)))))))), ?_⟩
    walk_at "rd"
    exact q
end
end My

set_option Elab.async false
set_option linter.all false
set_option maxRecDepth 100000
set_option maxHeartbeats 4000000
namespace My
open PySem L2
section
variable {P : Program} {w : World} {K : PySem.W.Frag} {mg : Str → Option Value} {base : Heap}
local macro_rules | `(tactic| walk_at "rd") => `(tactic| try simp only [tSeq, tRet, tRetN, tIfS, tNext, tDrop, tOp, tUn, tVar, tC, rI0, rI, rU, rEq, rNe, L2.start, tAsg, gName, tTest, tB, tCB, tCons, tNil, rIxL, rIxT, tNot, tAnd, tOr, tNotV, tAndV, tOrV, tCall, rIsi, iRng1, iRng2, tFor, tWhile, tChain, tIf, tTup, tLst, tComp, tBlk, compSt, tTrue, Cx.comp, List.replicate_one, List.replicate_zero, Option.getD_some, tBM, tBM0, rLen, rListOf, rTupL, tRaise, tCallX, tDropX, tSetX, tTry0, tTryA, Ends.gone, rIsx, rExc, vO, tFld, tMeth, tMake, sFld, iEnL, iEnT, gTup, gCons, gNil, gSub, rSetL, rCat, rInsert, tSl, tNoPart, tPart, rSlL, rAppend, rClear, iList, iTup, cxOf, Cx.nox, Cx.wish, List.map_cons, List.map_nil, List.length_cons, List.length_nil, Nat.reduceAdd, Nat.reduceSub, List.reduceReplicate, List.cons_append, List.nil_append, List.append_nil, List.getElem?_cons_zero, List.getElem?_cons_succ, List.set_cons_zero, List.set_cons_succ, Option.some.injEq, V.int.injEq, V.bl.injEq, V.ref.injEq, V.str.injEq, V.ty.injEq, List.cons.injEq, and_true, true_and, and_assoc, exists_eq_left, exists_eq_left', exists_eq_right, exists_eq, exists_eq', exists_and_left, exists_const, decide_eq_true_eq, scal_ii, scal_bb, scal_ss, tEqI', Bool.not_eq_true', Bool.not_eq_true, decide_eq_false_iff_not, if_true, if_false, Bool.false_eq_true, reduceIte, tyN_int, tyN_bl, tyN_str, tyN_ref, okT_int, okT_bool, okT_str, okT_list, okT_tuple, subN_ii, subN_ib, subN_bb, subN_bi, subN_ss, subN_ll, subN_tt, Bool.not_true, Bool.not_false, not_true_eq_false, Bool.true_eq_false, tSortK])
def sp__law_cells (K : PySem.W.Frag)  : Sp := fun vs H Q _ => ∃ (a b : Addr) (ts us : List V) (qs : List (Int × Int)), vs = [.ref a, .ref b] ∧ H a = some (.lst ts) ∧ Cells H ts qs ∧ H b = some (.lst us) ∧ Cells H us qs ∧ Q (.bl true) H
theorem sc__law_cells : FnScope ["_law_found", "_law_due", "_law_one"] ["_law_found", "_law_due"] (defScope s__law_cells) := ⟨rfl, rfl, rfl, by decide +kernel, rfl, by decide +kernel, by decide +kernel⟩
theorem ok__law_cells {f : Addr} {fd : FuncData} (F : Fun K "_law_cells" "_law_cells" s__law_cells f fd) (T : Txt mg) (C__law_whole : Cal P w K mg base "_law_whole" ["_law_found"] 1 (sp__law_whole K)) : FnOk P w K mg base CX0 2 f fd ["_law_found", "_law_due"] (sp__law_cells K) := by
  refine F.ok sc__law_cells (fun vs H Q E h => ?_) (fun cdv A outer s H vs Q E hr h => ?_)
  · obtain ⟨a, b, ts, us, qs, rfl, _⟩ := h
    rfl
  · obtain ⟨a, b, ts, us, qs, rfl, hA, cA, hB, cB, q⟩ := h
    refine ⟨_, (pss_cons (ps_if (PW.pt (pw_or (pt_not (pt_val (pe_callB call_isi (by rfl) T.isinstance PyProof.Rows.boot_isinstance (pa_cons (pv 0) (pa_cons (pe_bltn (v := .ty "list") rfl T.list PyProof.Rows.boot_list rfl) pa_nil))))) (pw_or1 (pt_cmpR (op_neD 1 hr) (pv 0) (pv 1) (nomark _))))) (pss_one (ps_ret pe_bl)) pss_nil)
    (pss_cons (ps_for PassesOwn.never rfl (pi_list (pv 0)) (pg_name (i := 2) sc__law_cells.nd rfl (Or.inl rfl))
      (pss_one (ps_if (PW.pt (pw_or (pt_not (pt_val (pe_callB call_isi (by rfl) T.isinstance PyProof.Rows.boot_isinstance (pa_cons (pv 2) (pa_cons (pe_bltn (v := .ty "tuple") rfl T.tuple PyProof.Rows.boot_tuple rfl) pa_nil))))) (pw_or (pt_not (pt_val (pe_cal C__law_whole (hr.mono (by decide)) rfl (pa_cons (pe_ix ix_tup (pv 2) pe_int (fun _ _ => rfl)) pa_nil)))) (pw_or1 (pt_not (pt_val (pe_cal C__law_whole (hr.mono (by decide)) rfl (pa_cons (pe_ix ix_tup (pv 2) pe_int (fun _ _ => rfl)) pa_nil)))))))) (pss_one (ps_ret pe_bl)) pss_nil)))
    (pss_one (ps_ret pe_bl)))), ?_⟩
    have dA := den_cells (K := K) (n := 0) (SqL.of hA) cA
    have dB := den_cells (K := K) (n := 0) (SqL.of hB) cB
    refine seq_of fun U1 u1 => ?_
    walk_at "rd"
    refine ⟨"list", .inl ⟨rfl, _, hA⟩, ?_⟩
    try simp only [tSeq, tRet, tRetN, tIfS, tNext, tDrop, tOp, tUn, tVar, tC, rI0, rI, rU, rEq, rNe, L2.start, tAsg, gName, tTest, tB, tCB, tCons, tNil, rIxL, rIxT, tNot, tAnd, tOr, tNotV, tAndV, tOrV, tCall, rIsi, iRng1, iRng2, tFor, tWhile, tChain, tIf, tTup, tLst, tComp, tBlk, compSt, tTrue, Cx.comp, List.replicate_one, List.replicate_zero, Option.getD_some, tBM, tBM0, rLen, rListOf, rTupL, tRaise, tCallX, tDropX, tSetX, tTry0, tTryA, Ends.gone, rIsx, rExc, vO, tFld, tMeth, tMake, sFld, iEnL, iEnT, gTup, gCons, gNil, gSub, rSetL, rCat, rInsert, tSl, tNoPart, tPart, rSlL, rAppend, rClear, iList, iTup, cxOf, Cx.nox, Cx.wish, List.map_cons, List.map_nil, List.length_cons, List.length_nil, Nat.reduceAdd, Nat.reduceSub, List.reduceReplicate, List.cons_append, List.nil_append, List.append_nil, List.getElem?_cons_zero, List.getElem?_cons_succ, List.set_cons_zero, List.set_cons_succ, Option.some.injEq, V.int.injEq, V.bl.injEq, V.ref.injEq, V.str.injEq, V.ty.injEq, List.cons.injEq, and_true, true_and, and_assoc, exists_eq_left, exists_eq_left', exists_eq_right, exists_eq, exists_eq', exists_and_left, exists_const, decide_eq_true_eq, scal_ii, scal_bb, scal_ss, tEqI', Bool.not_eq_true', Bool.not_eq_true, decide_eq_false_iff_not, if_true, if_false, Bool.false_eq_true, reduceIte, tyN_int, tyN_bl, tyN_str, tyN_ref, okT_int, okT_bool, okT_str, okT_list, okT_tuple, subN_ii, subN_ib, subN_bb, subN_bi, subN_ss, subN_ll, subN_tt, Bool.not_true, Bool.not_false, not_true_eq_false, Bool.true_eq_false, tSortK, rNeD]
    refine ⟨_, dA, _, dB, like_den _ _ _ dA, ?_⟩
    rw [eqD_same]
    walk_at "rd"
    rw [u1]; clear u1
    refine seq_of fun U1 u1 => for_of fun B1 b1 => ?_
    walk_at "rd"
    refine ⟨⟨_, SqL.of hA⟩, for_listW (xs := ts) (fun i σ H' => H' = H ∧ ∃ v, σ = [some (.ref a), some (.ref b), v]) ⟨rfl, none, rfl⟩ (fun i σ H' _ hh => hh.1 ▸ SqL.of hA) ?_ ?_⟩
    · rintro i x σ H' hx ⟨rfl, v, rfl⟩
      obtain ⟨c, hc, t, rfl, ht⟩ := cA.get' hx
      rw [b1]
      walk_at "rd"
      refine ⟨"tuple", .inr ⟨rfl, _, ht⟩, ?_⟩
      walk_at "rd"
      refine ⟨_, SqT.of ht, .int c.1, rfl, ⟨c.1, rfl, ?_⟩⟩
      walk_at "rd"
      refine ⟨_, SqT.of ht, .int c.2, rfl, ⟨c.2, rfl, ?_⟩⟩
      walk_at "rd"
    rintro σ H' ⟨rfl, v, rfl⟩
    rw [u1]; clear u1
    walk_at "rd"
    exact q
end
end My

set_option Elab.async false
set_option linter.all false
set_option maxRecDepth 100000
set_option maxHeartbeats 4000000
namespace My
open PySem L2
section
variable {P : Program} {w : World} {K : PySem.W.Frag} {mg : Str → Option Value} {base : Heap}
local macro_rules | `(tactic| walk_at "rd") => `(tactic| try simp only [tSeq, tRet, tRetN, tIfS, tNext, tDrop, tOp, tUn, tVar, tC, rI0, rI, rU, rEq, rNe, L2.start, tAsg, gName, tTest, tB, tCB, tCons, tNil, rIxL, rIxT, tNot, tAnd, tOr, tNotV, tAndV, tOrV, tCall, rIsi, iRng1, iRng2, tFor, tWhile, tChain, tIf, tTup, tLst, tComp, tBlk, compSt, tTrue, Cx.comp, List.replicate_one, List.replicate_zero, Option.getD_some, tBM, tBM0, rLen, rListOf, rTupL, tRaise, tCallX, tDropX, tSetX, tTry0, tTryA, Ends.gone, rIsx, rExc, vO, tFld, tMeth, tMake, sFld, iEnL, iEnT, gTup, gCons, gNil, gSub, rSetL, rCat, rInsert, tSl, tNoPart, tPart, rSlL, rAppend, rClear, iList, iTup, cxOf, Cx.nox, Cx.wish, List.map_cons, List.map_nil, List.length_cons, List.length_nil, Nat.reduceAdd, Nat.reduceSub, List.reduceReplicate, List.cons_append, List.nil_append, List.append_nil, List.getElem?_cons_zero, List.getElem?_cons_succ, List.set_cons_zero, List.set_cons_succ, Option.some.injEq, V.int.injEq, V.bl.injEq, V.ref.injEq, V.str.injEq, V.ty.injEq, List.cons.injEq, and_true, true_and, and_assoc, exists_eq_left, exists_eq_left', exists_eq_right, exists_eq, exists_eq', exists_and_left, exists_const, decide_eq_true_eq, scal_ii, scal_bb, scal_ss, tEqI', Bool.not_eq_true', Bool.not_eq_true, decide_eq_false_iff_not, if_true, if_false, Bool.false_eq_true, reduceIte, tyN_int, tyN_bl, tyN_str, tyN_ref, okT_int, okT_bool, okT_str, okT_list, okT_tuple, subN_ii, subN_ib, subN_bb, subN_bi, subN_ss, subN_ll, subN_tt, Bool.not_true, Bool.not_false, not_true_eq_false, Bool.true_eq_false, tSortK])
def sp__law_rows (K : PySem.W.Frag)  : Sp := fun vs H Q _ => ∃ (a b : Addr) (ts us : List V) (rows : List (List Int)), vs = [.ref a, .ref b] ∧ H a = some (.lst ts) ∧ Rows H ts rows ∧ H b = some (.lst us) ∧ Rows H us rows ∧ ∀ H', Same H H' → Q (.bl true) H'
theorem sc__law_rows : FnScope ["_law_found", "_law_due", "_law_row"] ["_law_found", "_law_due"] (defScope s__law_rows) := ⟨rfl, rfl, rfl, by decide +kernel, rfl, by decide +kernel, by decide +kernel⟩
theorem ok__law_rows {f : Addr} {fd : FuncData} (F : Fun K "_law_rows" "_law_rows" s__law_rows f fd) (T : Txt mg) (C__law_whole : Cal P w K mg base "_law_whole" ["_law_found"] 1 (sp__law_whole K)) : FnOk P w K mg base CX0 2 f fd ["_law_found", "_law_due"] (sp__law_rows K) := by
  refine F.ok sc__law_rows (fun vs H Q E h => ?_) (fun cdv A outer s H vs Q E hr h => ?_)
  · obtain ⟨a, b, ts, us, rows, rfl, _⟩ := h
    rfl
  · obtain ⟨a, b, ts, us, rows, rfl, hA, cA, hB, cB, q⟩ := h
    refine ⟨_, (pss_cons (ps_if (PW.pt (pw_or (pt_not (pt_val (pe_callB call_isi (by rfl) T.isinstance PyProof.Rows.boot_isinstance (pa_cons (pv 0) (pa_cons (pe_bltn (v := .ty "list") rfl T.list PyProof.Rows.boot_list rfl) pa_nil))))) (pw_or1 (pt_cmpR (op_neD 1 hr) (pv 0) (pv 1) (nomark _))))) (pss_one (ps_ret pe_bl)) pss_nil)
    (pss_cons (ps_for PassesOwn.never rfl (pi_list (pv 0)) (pg_name (i := 2) sc__law_rows.nd rfl (Or.inl rfl))
      (pss_one (ps_if (PW.pt (pw_or (pt_not (pt_val (pe_callB call_isi (by rfl) T.isinstance PyProof.Rows.boot_isinstance (pa_cons (pv 2) (pa_cons (pe_bltn (v := .ty "list") rfl T.list PyProof.Rows.boot_list rfl) pa_nil))))) (pw_or1 (pt_cmpR op_gt (pe_callB (call_lenK (K := K) rfl) (by rfl) T.len PySem.boot_len (pa_cons (pe_comp (own := ["_law_one"]) (fnames := []) (fr := []) (N' := ["_law_one"]) ⟨rfl, rfl, rfl, rfl, rfl, rfl, rfl⟩ rfl (pi_list (pv 2)) (fun s0 H0 fp0 C0 => ⟨(pg_name (i := 0) (by show (["_law_one"] : List Str).Nodup; decide +kernel) rfl (Or.inl rfl)), (pts_one (pt_not (pt_val (pe_cal C__law_whole (hr.mono (by decide)) rfl (pa_cons (pv 0) pa_nil))))), (pv 0)⟩)) pa_nil)) pe_int (nomark _))))) (pss_one (ps_ret pe_bl)) pss_nil)))
    (pss_one (ps_ret pe_bl)))), ?_⟩
    have dA := den_rows (K := K) (n := 0) (SqL.of hA) cA
    have dB := den_rows (K := K) (n := 0) (SqL.of hB) cB
    refine seq_of fun U1 u1 => ?_
    walk_at "rd"
    refine ⟨"list", .inl ⟨rfl, _, hA⟩, ?_⟩
    try simp only [tSeq, tRet, tRetN, tIfS, tNext, tDrop, tOp, tUn, tVar, tC, rI0, rI, rU, rEq, rNe, L2.start, tAsg, gName, tTest, tB, tCB, tCons, tNil, rIxL, rIxT, tNot, tAnd, tOr, tNotV, tAndV, tOrV, tCall, rIsi, iRng1, iRng2, tFor, tWhile, tChain, tIf, tTup, tLst, tComp, tBlk, compSt, tTrue, Cx.comp, List.replicate_one, List.replicate_zero, Option.getD_some, tBM, tBM0, rLen, rListOf, rTupL, tRaise, tCallX, tDropX, tSetX, tTry0, tTryA, Ends.gone, rIsx, rExc, vO, tFld, tMeth, tMake, sFld, iEnL, iEnT, gTup, gCons, gNil, gSub, rSetL, rCat, rInsert, tSl, tNoPart, tPart, rSlL, rAppend, rClear, iList, iTup, cxOf, Cx.nox, Cx.wish, List.map_cons, List.map_nil, List.length_cons, List.length_nil, Nat.reduceAdd, Nat.reduceSub, List.reduceReplicate, List.cons_append, List.nil_append, List.append_nil, List.getElem?_cons_zero, List.getElem?_cons_succ, List.set_cons_zero, List.set_cons_succ, Option.some.injEq, V.int.injEq, V.bl.injEq, V.ref.injEq, V.str.injEq, V.ty.injEq, List.cons.injEq, and_true, true_and, and_assoc, exists_eq_left, exists_eq_left', exists_eq_right, exists_eq, exists_eq', exists_and_left, exists_const, decide_eq_true_eq, scal_ii, scal_bb, scal_ss, tEqI', Bool.not_eq_true', Bool.not_eq_true, decide_eq_false_iff_not, if_true, if_false, Bool.false_eq_true, reduceIte, tyN_int, tyN_bl, tyN_str, tyN_ref, okT_int, okT_bool, okT_str, okT_list, okT_tuple, subN_ii, subN_ib, subN_bb, subN_bi, subN_ss, subN_ll, subN_tt, Bool.not_true, Bool.not_false, not_true_eq_false, Bool.true_eq_false, tSortK, rNeD]
    refine ⟨_, dA, _, dB, like_den _ _ _ dA, ?_⟩
    rw [eqD_same]
    walk_at "rd"
    rw [u1]; clear u1
    refine seq_of fun U1 u1 => for_of fun B1 b1 => ?_
    walk_at "rd"
    refine ⟨⟨_, SqL.of hA⟩, for_listW (xs := ts) (fun i σ H' => Same H H' ∧ ∃ v, σ = [some (.ref a), some (.ref b), v]) ⟨fun _ _ h => h, none, rfl⟩ (fun i σ H' _ hh => SqL.of (hh.1 _ _ hA)) ?_ ?_⟩
    · rintro i x σ H' hx ⟨gg, v, rfl⟩
      obtain ⟨row, hrow, t, rfl, ht⟩ := cA.at' hx
      rw [b1]
      walk_at "rd"
      refine ⟨"list", .inl ⟨rfl, _, gg _ _ ht⟩, ?_⟩
      walk_at "rd"
      refine ⟨⟨_, SqL.of (gg _ _ ht)⟩, fun L hL => for_listW (xs := row.map V.int) (fun j σ H2 => Same H' H2 ∧ H2 L = some (.lst []) ∧ ∃ v, σ = [v]) ⟨same_new hL _, upd_same, none, rfl⟩ (fun j σ H2 _ hh => SqL.of ((gg.trans hh.1) _ _ ht)) ?_ ?_⟩
      · rintro j y σ H2 hy ⟨g2, e2, v, rfl⟩
        rw [List.getElem?_map] at hy
        obtain ⟨n, _, rfl⟩ := Option.map_eq_some_iff.mp hy
        walk_at "rd"
        refine ⟨n, rfl, ?_⟩
        walk_at "rd"
        exact ⟨g2, e2⟩
      · rintro σ H2 ⟨g2, e2, v, rfl⟩
        walk_at "rd"
        refine ⟨_, .inl (SqL.of e2), ?_⟩
        walk_at "rd"
        exact gg.trans g2
    rintro σ H' ⟨gg, v, rfl⟩
    rw [u1]; clear u1
    walk_at "rd"
    exact q H' gg
end
end My

set_option Elab.async false
set_option linter.all false
set_option maxRecDepth 100000
set_option maxHeartbeats 4000000
namespace My
open PySem L2
section
variable {P : Program} {w : World} {K : PySem.W.Frag} {mg : Str → Option Value} {base : Heap}
local macro_rules | `(tactic| walk_at "rd") => `(tactic| try simp only [tSeq, tRet, tRetN, tIfS, tNext, tDrop, tOp, tUn, tVar, tC, rI0, rI, rU, rEq, rNe, L2.start, tAsg, gName, tTest, tB, tCB, tCons, tNil, rIxL, rIxT, tNot, tAnd, tOr, tNotV, tAndV, tOrV, tCall, rIsi, iRng1, iRng2, tFor, tWhile, tChain, tIf, tTup, tLst, tComp, tBlk, compSt, tTrue, Cx.comp, List.replicate_one, List.replicate_zero, Option.getD_some, tBM, tBM0, rLen, rListOf, rTupL, tRaise, tCallX, tDropX, tSetX, tTry0, tTryA, Ends.gone, rIsx, rExc, vO, tFld, tMeth, tMake, sFld, iEnL, iEnT, gTup, gCons, gNil, gSub, rSetL, rCat, rInsert, tSl, tNoPart, tPart, rSlL, rAppend, rClear, iList, iTup, cxOf, Cx.nox, Cx.wish, List.map_cons, List.map_nil, List.length_cons, List.length_nil, Nat.reduceAdd, Nat.reduceSub, List.reduceReplicate, List.cons_append, List.nil_append, List.append_nil, List.getElem?_cons_zero, List.getElem?_cons_succ, List.set_cons_zero, List.set_cons_succ, Option.some.injEq, V.int.injEq, V.bl.injEq, V.ref.injEq, V.str.injEq, V.ty.injEq, List.cons.injEq, and_true, true_and, and_assoc, exists_eq_left, exists_eq_left', exists_eq_right, exists_eq, exists_eq', exists_and_left, exists_const, decide_eq_true_eq, scal_ii, scal_bb, scal_ss, tEqI', Bool.not_eq_true', Bool.not_eq_true, decide_eq_false_iff_not, if_true, if_false, Bool.false_eq_true, reduceIte, tyN_int, tyN_bl, tyN_str, tyN_ref, okT_int, okT_bool, okT_str, okT_list, okT_tuple, subN_ii, subN_ib, subN_bb, subN_bi, subN_ss, subN_ll, subN_tt, Bool.not_true, Bool.not_false, not_true_eq_false, Bool.true_eq_false, tSortK])
def sp__law_differ (K : PySem.W.Frag)  : Sp := fun vs H Q _ => ∃ (r o : Addr) (us ws : List V) (n D : Nat) (g f : Nat → Nat → Int), vs = [.ref r, .ref o] ∧ Tb H r us n D g ∧ Tb H o ws n D f ∧ 1 ≤ n ∧ n ≤ 8 ∧ D ≤ 40 ∧ ∀ p ts H', Same H H' → H p = none → H' p = some (.lst ts) → Cells H' ts (dm g f n D) → Q (.ref p) H'
theorem sc__law_differ : FnScope ["_law_one", "_law_two", "_law_found", "_law_day", "_law_hand"] ["_law_one", "_law_two"] (defScope s__law_differ) := ⟨rfl, rfl, rfl, by decide +kernel, rfl, by decide +kernel, by decide +kernel⟩
theorem ok__law_differ {f : Addr} {fd : FuncData} (F : Fun K "_law_differ" "_law_differ" s__law_differ f fd) (T : Txt mg)  : FnOk P w K mg base CX0 1 f fd ["_law_one", "_law_two"] (sp__law_differ K) := by
  refine F.ok sc__law_differ (fun vs H Q E h => ?_) (fun cdv A outer s H vs Q E hr h => ?_)
  · obtain ⟨r, o, us, ws, n, D, g, f, rfl, _⟩ := h
    rfl
  · obtain ⟨r, o, us, ws, n, D, g, f, rfl, TR, TO, n1, n8, D40, q⟩ := h
    refine ⟨_, (pss_cons (ps_set (i := 2) sc__law_differ.nd rfl (Or.inl rfl) (pe_lst pa_nil))
    (pss_cons (ps_for PassesOwn.never rfl (pi_range1 rfl T.range (pa_cons (pe_callB (call_lenK (K := K) rfl) (by rfl) T.len PySem.boot_len (pa_cons (pe_ix ix_list (pv 0) pe_int (fun _ _ => rfl)) pa_nil)) pa_nil)) (pg_name (i := 3) sc__law_differ.nd rfl (Or.inl rfl))
      (pss_one (ps_for PassesOwn.never rfl (pi_range1 rfl T.range (pa_cons (pe_callB (call_lenK (K := K) rfl) (by rfl) T.len PySem.boot_len (pa_cons (pv 0) pa_nil)) pa_nil)) (pg_name (i := 4) sc__law_differ.nd rfl (Or.inl rfl))
          (pss_one (ps_if (pt_cmpR op_ne (pe_ix ix_list (pe_ix ix_list (pv 0) (pv 4) (fun _ _ => rfl)) (pv 3) (fun _ _ => rfl)) (pe_ix ix_list (pe_ix ix_list (pv 1) (pv 4) (fun _ _ => rfl)) (pv 3) (fun _ _ => rfl)) (nomark _)) (pss_one (ps_expr (pe_bm PySem.F.plainAttrs_list PySem.F.slot_list_append PySem.F.type_list_append mt_append (pv 2) (pa_cons (pe_tup (pa_cons (pv 4) (pa_cons (pv 3) pa_nil))) pa_nil)))) pss_nil)))))
    (pss_one (ps_ret (pv 2))))), ?_⟩
    have hul := TR.len
    obtain ⟨tz, az, wz⟩ := TR.row (show 0 < n by omega)
    refine seq_of fun U1 u1 => ?_
    walk_at "rd"
    refine ⟨Nat.zero_le _, fun p hp => ?_⟩
    have g0 := same_new hp (.lst [])
    rw [u1]; clear u1
    refine seq_of fun U1 u1 => for_of fun B1 b1 => ?_
    walk_at "rd"
    refine ⟨_, SqL.of (g0 _ _ TR.at_), _, atI_nat (j := 0) az, tz, rfl, _, .inl (SqL.of (g0 _ _ wz)), ?_⟩
    rw [List.length_map, ri_len]
    refine ⟨by omega, by omega, for_rangeW (fun i σ H' => ∃ (ts : List V) (v3 v4 : Option V), Same H H' ∧ H' p = some (.lst ts) ∧ Cells H' ts (dm g f n i) ∧ σ = [some (.ref r), some (.ref o), some (.ref p), v3, v4]) ⟨[], none, none, g0, upd_same, .nil, rfl⟩ ?_ ?_⟩
    · rintro i σ H' hi ⟨ts, v3, v4, gg, e, hC, rfl⟩
      rw [show (0 + (i : Int)) = i by omega]
      have hi' : i < D := by omega
      rw [b1]
      refine for_of fun B2 b2 => ?_
      walk_at "rd"
      refine ⟨_, .inl (SqL.of (gg _ _ TR.at_)), ?_⟩
      rw [hul]
      refine ⟨by omega, by omega, for_rangeW (fun j σ H2 => ∃ (ts : List V) (v4 : Option V), Same H H2 ∧ H2 p = some (.lst ts) ∧ Cells H2 ts (dm g f n i ++ dayC g f i j) ∧ σ = [some (.ref r), some (.ref o), some (.ref p), some (.int i), v4]) ⟨ts, v4, gg, e, by rw [show dayC g f i 0 = [] from rfl, List.append_nil]; exact hC, rfl⟩ ?_ ?_⟩
      · rintro j σ H2 hj ⟨ts, v4, g2, e2, hC2, rfl⟩
        rw [show (0 + (j : Int)) = j by omega]
        have hj' : j < n := by omega
        obtain ⟨t1, a1, w1⟩ := TR.row hj'
        obtain ⟨t2, a2, w2⟩ := TO.row hj'
        have hlen := hC2.len
        rw [List.length_append] at hlen
        have l1 := dm_len (g := g) (f := f) n i
        have l2 := dayC_len (g := g) (f := f) i j
        have l3 : i * n ≤ 40 * 8 := Nat.mul_le_mul (by omega) n8
        rw [b2]
        walk_at "rd"
        refine ⟨_, SqL.of (g2 _ _ TR.at_), _, atI_nat a1, t1, rfl, _, SqL.of (g2 _ _ w1), .int (g j i), atI_nat (rv_get hi'), _, SqL.of (g2 _ _ TO.at_), _, atI_nat a2, t2, rfl, _, SqL.of (g2 _ _ w2), .int (f j i), atI_nat (rv_get hi'), rfl, ?_⟩
        rw [dayC_succ]
        walk_at "rd"
        split
        · rename_i hd
          have ed : df g f j i = true := by unfold df; simpa using hd
          rw [if_pos ed]
          refine ⟨.inl ⟨rfl, _, SqL.of e2⟩, by decide, fun tc hc => ?_⟩
          have gc := same_new hc (.tup [.int (j : Int), .int (i : Int)])
          refine ⟨_, gc _ _ e2, small1000 (by omega), same_upd hp (g2.trans gc) _, _, upd_same, ?_⟩
          rw [← List.append_assoc]
          exact Cells.off (Cells.snoc (hC2.mono gc) ⟨tc, rfl, upd_same⟩) fun xs z => by rw [gc _ _ e2] at z; cases z
        · rename_i hd
          have ed : ¬ df g f j i = true := by unfold df; simpa using hd
          rw [if_neg ed, List.append_nil]
          exact ⟨g2, ts, e2, hC2⟩
      · rintro σ H2 ⟨ts, v4, g2, e2, hC2, rfl⟩
        rw [dm_succ]
        exact ⟨g2, ts, e2, hC2, _, _, rfl⟩
    rintro σ H1 ⟨ts, v3, v4, g1, e1, hC, rfl⟩
    rw [u1]; clear u1
    walk_at "rd"
    exact q p ts H1 g1 hp e1 hC
end
end My

set_option Elab.async false
set_option linter.all false
set_option maxRecDepth 100000
set_option maxHeartbeats 4000000
namespace My
open PySem L2
section
variable {P : Program} {w : World} {K : PySem.W.Frag} {mg : Str → Option Value} {base : Heap}
local macro_rules | `(tactic| walk_at "rd") => `(tactic| try simp only [tSeq, tRet, tRetN, tIfS, tNext, tDrop, tOp, tUn, tVar, tC, rI0, rI, rU, rEq, rNe, L2.start, tAsg, gName, tTest, tB, tCB, tCons, tNil, rIxL, rIxT, tNot, tAnd, tOr, tNotV, tAndV, tOrV, tCall, rIsi, iRng1, iRng2, tFor, tWhile, tChain, tIf, tTup, tLst, tComp, tBlk, compSt, tTrue, Cx.comp, List.replicate_one, List.replicate_zero, Option.getD_some, tBM, tBM0, rLen, rListOf, rTupL, tRaise, tCallX, tDropX, tSetX, tTry0, tTryA, Ends.gone, rIsx, rExc, vO, tFld, tMeth, tMake, sFld, iEnL, iEnT, gTup, gCons, gNil, gSub, rSetL, rCat, rInsert, tSl, tNoPart, tPart, rSlL, rAppend, rClear, iList, iTup, cxOf, Cx.nox, Cx.wish, List.map_cons, List.map_nil, List.length_cons, List.length_nil, Nat.reduceAdd, Nat.reduceSub, List.reduceReplicate, List.cons_append, List.nil_append, List.append_nil, List.getElem?_cons_zero, List.getElem?_cons_succ, List.set_cons_zero, List.set_cons_succ, Option.some.injEq, V.int.injEq, V.bl.injEq, V.ref.injEq, V.str.injEq, V.ty.injEq, List.cons.injEq, and_true, true_and, and_assoc, exists_eq_left, exists_eq_left', exists_eq_right, exists_eq, exists_eq', exists_and_left, exists_const, decide_eq_true_eq, scal_ii, scal_bb, scal_ss, tEqI', Bool.not_eq_true', Bool.not_eq_true, decide_eq_false_iff_not, if_true, if_false, Bool.false_eq_true, reduceIte, tyN_int, tyN_bl, tyN_str, tyN_ref, okT_int, okT_bool, okT_str, okT_list, okT_tuple, subN_ii, subN_ib, subN_bb, subN_bi, subN_ss, subN_ll, subN_tt, Bool.not_true, Bool.not_false, not_true_eq_false, Bool.true_eq_false, tSortK])
def sp_law (K : PySem.W.Frag) : Sp := fun vs H Q _ => ∃ (a : Addr) (ns : List Int), vs = [.ref a] ∧ SqL K H a (ns.map V.int) ∧ ns.length ≤ 63 ∧ ∀ H', Q (.bl true) H'
theorem sc_law : FnScope ["_law_script", "_law_many", "_law_days", "_law_one", "_law_hand", "_law_two", "_law_handed", "_law_other", "_law_some", "_law_found", "_law_due", "_law_row"] ["_law_script"] (defScope s_law) := ⟨rfl, rfl, rfl, by decide +kernel, rfl, by decide +kernel, by decide +kernel⟩
theorem ok_law {f : Addr} {fd : FuncData} (F : Fun K "law" "law" s_law f fd) (T : Txt mg) (C__law_draw : Cal P w K mg base "_law_draw" ["_law_script", "_law_k", "_law_many"] 1 (sp__law_draw K)) (C__law_second : Cal P w K mg base "_law_second" ["_law_script", "_law_one"] 2 (sp__law_second K)) (C_exchanged : Cal P w K mg base "exchanged" ["rota", "hand", "other", "days"] 3 (sp_exchanged K)) (C__law_exchanged : Cal P w K mg base "_law_exchanged" ["_law_rota", "_law_hand", "_law_other", "_law_number"] 1 (sp__law_exchanged K)) (C__law_cells : Cal P w K mg base "_law_cells" ["_law_found", "_law_due"] 2 (sp__law_cells K)) (C__law_rows : Cal P w K mg base "_law_rows" ["_law_found", "_law_due"] 2 (sp__law_rows K)) (C_changed : Cal P w K mg base "changed" ["rota", "other"] 4 (sp_changed K)) (C__law_differ : Cal P w K mg base "_law_differ" ["_law_one", "_law_two"] 1 (sp__law_differ K)) : FnOk P w K mg base CX0 5 f fd ["_law_script"] (sp_law K) := by
  refine F.ok sc_law (fun vs H Q E h => ?_) (fun cdv A outer s H vs Q E hr h => ?_)
  · obtain ⟨a, ns, rfl, _⟩ := h
    rfl
  · obtain ⟨a, ns, rfl, hS, hl, q⟩ := h
    refine ⟨_, (pss_cons (ps_set (i := 1) sc_law.nd rfl (Or.inl rfl) (pe_cal C__law_draw (hr.mono (by decide)) rfl (pa_cons (pv 0) (pa_cons pe_int (pa_cons pe_int pa_nil)))))
    (pss_cons (ps_set (i := 2) sc_law.nd rfl (Or.inl rfl) (pe_op op_add pe_int (pe_cal C__law_draw (hr.mono (by decide)) rfl (pa_cons (pv 0) (pa_cons pe_int (pa_cons pe_int pa_nil))))))
    (pss_cons (ps_if (pt_cmpR op_eq (pv 1) pe_int (nomark _)) (pss_one (ps_ret (pe_cal C__law_cells (hr.mono (by decide)) rfl (pa_cons (pe_cal C_changed (hr.mono (by decide)) rfl (pa_cons (pe_lst pa_nil) (pa_cons (pe_lst pa_nil) pa_nil))) (pa_cons (pe_lst pa_nil) pa_nil))))) pss_nil)
    (pss_cons (ps_set (i := 3) sc_law.nd rfl (Or.inl rfl) (pe_lst pa_nil))
    (pss_cons (ps_for PassesOwn.never rfl (pi_range1 rfl T.range (pa_cons (pv 1) pa_nil)) (pg_name (i := 4) sc_law.nd rfl (Or.inr rfl))
      (pss_one (ps_expr (pe_bm PySem.F.plainAttrs_list PySem.F.slot_list_append PySem.F.type_list_append mt_append (pv 3) (pa_cons (pe_comp (own := ["_law_day"]) (fnames := ["_law_script", "_law_hand"]) (fr := [0, 4]) (N' := ["_law_day", "_law_script", "_law_hand"]) ⟨rfl, rfl, rfl, rfl, rfl, rfl, rfl⟩ rfl (pi_range1 rfl T.range (pa_cons (pv 2) pa_nil)) (fun s0 H0 fp0 C0 => ⟨(pg_name (i := 0) (by show (["_law_day", "_law_script", "_law_hand"] : List Str).Nodup; decide +kernel) rfl (Or.inl rfl)), pts_nil, (pe_cal C__law_draw (hr.mono (by decide)) rfl (pa_cons (pv 1) (pa_cons (pe_op op_add (pe_op op_add pe_int (pe_op op_mul pe_int (pv 0))) (pv 2)) (pa_cons pe_int pa_nil))))⟩)) pa_nil)))))
    (pss_cons (ps_set (i := 5) sc_law.nd rfl (Or.inl rfl) (pe_cal C__law_second (hr.mono (by decide)) rfl (pa_cons (pv 0) (pa_cons (pv 3) pa_nil))))
    (pss_cons (ps_set (i := 6) sc_law.nd rfl (Or.inl rfl) (pe_lst (pa_cons (pe_comp (own := ["_law_row"]) (fnames := []) (fr := []) (N' := ["_law_row"]) ⟨rfl, rfl, rfl, rfl, rfl, rfl, rfl⟩ rfl (pi_list (pv 3)) (fun s0 H0 fp0 C0 => ⟨(pg_name (i := 0) (by show (["_law_row"] : List Str).Nodup; decide +kernel) rfl (Or.inl rfl)), pts_nil, (pe_callTy (call_listK (K := K) rfl) (by rfl) T.list PyProof.Rows.boot_list (pa_cons (pv 0) pa_nil))⟩)) (pa_cons (pe_comp (own := ["_law_row"]) (fnames := []) (fr := []) (N' := ["_law_row"]) ⟨rfl, rfl, rfl, rfl, rfl, rfl, rfl⟩ rfl (pi_list (pv 5)) (fun s0 H0 fp0 C0 => ⟨(pg_name (i := 0) (by show (["_law_row"] : List Str).Nodup; decide +kernel) rfl (Or.inl rfl)), pts_nil, (pe_callTy (call_listK (K := K) rfl) (by rfl) T.list PyProof.Rows.boot_list (pa_cons (pv 0) pa_nil))⟩)) pa_nil))))
    (pss_cons (ps_if (pt_not (pt_val (pe_cal C__law_cells (hr.mono (by decide)) rfl (pa_cons (pe_cal C_changed (hr.mono (by decide)) rfl (pa_cons (pe_ix ix_list (pv 6) pe_int (fun _ _ => rfl)) (pa_cons (pe_ix ix_list (pv 6) pe_int (fun _ _ => rfl)) pa_nil))) (pa_cons (pe_cal C__law_differ (hr.mono (by decide)) rfl (pa_cons (pv 3) (pa_cons (pv 5) pa_nil))) pa_nil))))) (pss_one (ps_ret pe_bl)) pss_nil)
    (pss_cons (ps_set (i := 4) sc_law.nd rfl (Or.inr rfl) (pe_op op_mod (pe_cal C__law_draw (hr.mono (by decide)) rfl (pa_cons (pv 0) (pa_cons pe_int (pa_cons pe_int pa_nil)))) (pv 1)))
    (pss_cons (ps_set (i := 7) sc_law.nd rfl (Or.inl rfl) (pe_op op_mod (pe_op op_fdiv (pe_cal C__law_draw (hr.mono (by decide)) rfl (pa_cons (pv 0) (pa_cons pe_int (pa_cons pe_int pa_nil)))) pe_int) (pv 1)))
    (pss_cons (ps_set (i := 8) sc_law.nd rfl (Or.inl rfl) (pe_cal C__law_draw (hr.mono (by decide)) rfl (pa_cons (pv 0) (pa_cons pe_int (pa_cons (pe_op op_pow pe_int pe_int) pa_nil)))))
    (pss_cut (ps_if (pt_cmpR op_eq (pe_op op_mod (pv 8) pe_int) pe_int (nomark _)) (pss_one (ps_set (i := 8) sc_law.nd rfl (Or.inl rfl) (pe_op op_mod (pe_op op_fdiv (pv 8) pe_int) (pe_op op_pow pe_int pe_int)))) pss_nil)
    (pss_cons (ps_set (i := 9) sc_law.nd rfl (Or.inl rfl) (pe_cal C_exchanged (hr.mono (by decide)) rfl (pa_cons (pe_ix ix_list (pv 6) pe_int (fun _ _ => rfl)) (pa_cons (pv 4) (pa_cons (pv 7) (pa_cons (pv 8) pa_nil))))))
    (pss_cons (ps_set (i := 10) sc_law.nd rfl (Or.inl rfl) (pe_cal C__law_exchanged (hr.mono (by decide)) rfl (pa_cons (pv 3) (pa_cons (pv 4) (pa_cons (pv 7) (pa_cons (pv 8) pa_nil))))))
    (pss_cons (ps_if (PW.pt (pw_or (pt_not (pt_val (pe_cal C__law_rows (hr.mono (by decide)) rfl (pa_cons (pv 9) (pa_cons (pv 10) pa_nil))))) (pw_or1 (pt_cmpR (op_neD 2 hr) (pv 6) (pe_lst (pa_cons (pv 3) (pa_cons (pv 5) pa_nil))) (nomark _))))) (pss_one (ps_ret pe_bl)) pss_nil)
    (pss_cons (ps_if (pt_not (pt_val (pe_cal C__law_cells (hr.mono (by decide)) rfl (pa_cons (pe_cal C_changed (hr.mono (by decide)) rfl (pa_cons (pv 9) (pa_cons (pe_ix ix_list (pv 6) pe_int (fun _ _ => rfl)) pa_nil))) (pa_cons (pe_cal C__law_differ (hr.mono (by decide)) rfl (pa_cons (pv 10) (pa_cons (pv 3) pa_nil))) pa_nil))))) (pss_one (ps_ret pe_bl)) pss_nil)
    (pss_cons (ps_if (PW.pt (pw_or (pt_not (pt_val (pe_cal C__law_rows (hr.mono (by decide)) rfl (pa_cons (pe_cal C_exchanged (hr.mono (by decide)) rfl (pa_cons (pv 9) (pa_cons (pv 7) (pa_cons (pv 4) (pa_cons (pv 8) pa_nil))))) (pa_cons (pv 3) pa_nil))))) (pw_or1 (pt_cmpR (op_neD 1 hr) (pv 9) (pv 10) (nomark _))))) (pss_one (ps_ret pe_bl)) pss_nil)
    (pss_cons (ps_for PassesOwn.never rfl (pi_list (pv 9)) (pg_name (i := 11) sc_law.nd rfl (Or.inl rfl))
      (pss_one (ps_expr (pe_bm0 PySem.F.plainAttrs_list PySem.F.slot_list_clear PySem.F.type_list_clear mt_clear (pv 11)))))
    (pss_cons (ps_set (i := 9) sc_law.nd rfl (Or.inl rfl) (pe_cal C_exchanged (hr.mono (by decide)) rfl (pa_cons (pe_ix ix_list (pv 6) pe_int (fun _ _ => rfl)) (pa_cons (pv 4) (pa_cons (pv 7) (pa_cons (pv 8) pa_nil))))))
    (pss_one (ps_ret (pe_and (pe_cmpR (op_eqD 2 hr) (pv 6) (pe_lst (pa_cons (pv 3) (pa_cons (pv 5) pa_nil))) (nomark _)) (pe_one (pe_cal C__law_rows (hr.mono (by decide)) rfl (pa_cons (pv 9) (pa_cons (pe_cal C__law_exchanged (hr.mono (by decide)) rfl (pa_cons (pv 5) (pa_cons (pv 4) (pa_cons (pv 7) (pa_cons (pv 8) pa_nil))))) pa_nil)))))))))))))))))))))))))), ?_⟩
    refine seq_of fun U1 u1 => ?_
    walk_at "rd"
    refine ⟨a, ns, _, _, rfl, hS, hl, by decide, by decide, fun many m0 m1 => ?_⟩
    obtain ⟨n, rfl⟩ : ∃ n : Nat, many = (n : Int) := ⟨many.toNat, by omega⟩
    rw [u1]; clear u1
    refine seq_of fun U1 u1 => ?_
    walk_at "rd"
    refine ⟨a, ns, _, _, rfl, hS, hl, by decide, by decide, fun days d0 d1 => ?_⟩
    obtain ⟨D, hD⟩ : ∃ D : Nat, 1 + days = (D : Int) := ⟨(1 + days).toNat, by omega⟩
    walk_at "rd"
    rw [hD]
    rw [u1]; clear u1
    refine seq_of fun U1 u1 => ?_
    walk_at "rd"
    split
    · refine ⟨Nat.zero_le _, fun p1 hp1 => ⟨Nat.zero_le _, fun p2 hp2 => ?_⟩⟩
      have e1 : upd (upd H p1 (.lst [])) p2 (.lst []) p1 = some (.lst []) := same_new hp2 _ _ _ upd_same
      refine ⟨p1, p2, [], [], 0, 0, fun _ _ => 0, fun _ _ => 0, rfl, ⟨e1, .nil, List.nodup_nil⟩, ⟨upd_same, .nil, List.nodup_nil⟩, by decide, by decide, fun p ts H' gg hp e hC => ?_⟩
      refine ⟨Nat.zero_le _, fun p3 hp3 => ?_⟩
      have g3 := same_new hp3 (.lst [])
      refine ⟨p, p3, ts, [], [], rfl, g3 _ _ e, hC.mono g3, upd_same, .nil, q _⟩
    rename_i hn0
    have n1 : 1 ≤ n := by omega
    have n8 : n ≤ 8 := by omega
    have D1 : 1 ≤ D := by omega
    have D40 : D ≤ 40 := by omega
    rw [u1]; clear u1
    refine seq_of fun U1 u1 => ?_
    walk_at "rd"
    refine ⟨Nat.zero_le _, fun p hp => ?_⟩
    have g0 := same_new hp (.lst [])
    rw [u1]; clear u1
    refine seq_of fun U1 u1 => for_of fun B1 b1 => ?_
    walk_at "rd"
    refine ⟨by omega, by omega, for_rangeW (fun i σ H' => ∃ (us : List V) (rows : List (List Int)) (v4 : Option V), Same H H' ∧ H' p = some (.lst us) ∧ Rows H' us rows ∧ us.Nodup ∧ (∀ t, V.ref t ∈ us → t ≠ p) ∧ (∀ row ∈ rows, row.length = D) ∧ rows.length = i ∧ σ = [some (.ref a), some (.int n), some (.int D), some (.ref p), v4, none, none, none, none, none, none, none]) ⟨[], [], none, g0, upd_same, .nil, List.nodup_nil, (fun t z => by cases z), (fun r z => by cases z), rfl, rfl⟩ ?_ ?_⟩
    · rintro i σ H' hi ⟨us, rows, v4, g, e, hR, nd, fr, hrl, hrn, rfl⟩
      rw [show (0 + (i : Int)) = i by omega]
      have hul := hR.len
      rw [b1]
      walk_at "rd"
      refine ⟨.inl ⟨rfl, _, SqL.of e⟩, by omega, by omega, fun L hL => for_rangeW (fun j σ H2 => ∃ (row : List Int) (v0 : Option V), H2 = upd H' L (.lst (row.map V.int)) ∧ row.length = j ∧ σ = [v0, some (.ref a), some (.int i)]) ⟨[], none, rfl, rfl, rfl⟩ ?_ ?_⟩
      · rintro j σ H2 hj ⟨row, v0, rfl, hrow, rfl⟩
        rw [show (0 + (j : Int)) = j by omega]
        walk_at "rd"
        refine ⟨.inl ⟨by decide, by decide⟩, a, ns, _, _, rfl, (g.trans (same_new hL _)).seq hS, hl, by omega, by decide, fun c c0 c1 => ?_⟩
        walk_at "rd"
        refine ⟨_, upd_same, small1000 (by rw [List.length_map]; omega), row ++ [c], ?_, by rw [List.length_append, hrow]; rfl⟩
        rw [upd_upd, List.map_append]
        rfl
      · rintro σ H2 ⟨row, v0, rfl, hrow, rfl⟩
        have gL := same_new hL (.lst (row.map V.int))
        have hLu : V.ref L ∉ us := hR.notin hL
        walk_at "rd"
        refine ⟨us, gL _ _ e, small1000 (by omega), same_upd hp (g.trans gL) _, us ++ [.ref L], upd_same, rows ++ [row], ?_, ?_, fun t ht => ?_, fun r hr => ?_, by rw [List.length_append, hrn]; rfl⟩
        · refine Rows.off (Rows.snoc (hR.mono gL) ⟨L, rfl, upd_same⟩) fun z => ?_
          rcases List.mem_append.mp z with z | z
          · exact fr p z rfl
          · exact ne_of_none e hL (V.ref.inj (List.mem_singleton.mp z))
        · rw [List.nodup_append]
          refine ⟨nd, by simp, fun x hx y hy => ?_⟩
          rw [List.mem_singleton.mp hy]
          exact fun h => hLu (h ▸ hx)
        · rcases List.mem_append.mp ht with z | z
          · exact fr t z
          · rw [V.ref.inj (List.mem_singleton.mp z)]
            exact (ne_of_none e hL).symm
        · rcases List.mem_append.mp hr with z | z
          · exact hrl r z
          · rw [List.mem_singleton.mp z]
            omega
    rintro σ H1 ⟨us, rows, v4, g1, e1, hR1, nd1, fr1, hrl, hrn, rfl⟩
    have er : rows = tg n D (val rows) := tg_of (by omega) hrl
    obtain ⟨gr, egr⟩ : ∃ gr, gr = val rows := ⟨_, rfl⟩
    rw [← egr] at er
    have T1 : Tb H1 p us n D gr := ⟨e1, by rw [← er]; exact hR1, nd1⟩
    clear er egr hrl hrn fr1 hR1 nd1 e1
    rw [u1]; clear u1
    refine seq_of fun U1 u1 => ?_
    walk_at "rd"
    refine ⟨a, p, ns, us, n, D, gr, rfl, g1.seq hS, hl, T1, n1, n8, D1, D40, fun p2 us2 fr H2 g2 hp2 T2 => ?_⟩
    have gS := g1.trans g2
    have T1 := T1.mono g2
    clear g1 g0
    rw [u1]; clear u1
    refine seq_of fun U1 u1 => ?_
    walk_at "rd"
    refine ⟨⟨_, SqL.of T1.at_⟩, fun pa hpa => for_listW (xs := us) (fun i σ H' => CopyI H2 pa (tg n D gr) i H' ∧ ∃ v1, σ = [v1]) ⟨CopyI.start hpa, none, rfl⟩ (fun i σ H' _ hh => SqL.of (hh.1.same _ _ T1.at_)) ?_ ?_⟩
    · rintro i v σ H' hx ⟨hc, v1, rfl⟩
      obtain ⟨row, hrow, t', rfl, ht'⟩ := T1.rs.at' hx
      have hi : i < us.length := (List.getElem?_eq_some_iff.mp hx).1
      have hul := T1.len
      walk_at "rd"
      exact ⟨_, .inl (SqL.of (hc.same _ _ ht')), fun l hl => hc.step hpa hrow hl (by omega)⟩
    rintro σ H3 ⟨hc, v1, rfl⟩
    obtain ⟨usa, g3, ea, hRa, nda, fra⟩ := hc.done T1.rs.len
    have TA : Tb H3 pa usa n D gr := ⟨ea, hRa, nda⟩
    have T2 := T2.mono g3
    clear hc ea hRa nda fra
    walk_at "rd"
    refine ⟨⟨_, SqL.of T2.at_⟩, fun pb hpb => for_listW (xs := us2) (fun i σ H' => CopyI H3 pb (tg n D fr) i H' ∧ ∃ v1, σ = [v1]) ⟨CopyI.start hpb, none, rfl⟩ (fun i σ H' _ hh => SqL.of (hh.1.same _ _ T2.at_)) ?_ ?_⟩
    · rintro i v σ H' hx ⟨hc, v1, rfl⟩
      obtain ⟨row, hrow, t', rfl, ht'⟩ := T2.rs.at' hx
      have hi : i < us2.length := (List.getElem?_eq_some_iff.mp hx).1
      have hul := T2.len
      walk_at "rd"
      exact ⟨_, .inl (SqL.of (hc.same _ _ ht')), fun l hl => hc.step hpb hrow hl (by omega)⟩
    rintro σ H4 ⟨hc, v2, rfl⟩
    obtain ⟨usb, g4, eb, hRb, ndb, frb⟩ := hc.done T2.rs.len
    have TB : Tb H4 pb usb n D fr := ⟨eb, hRb, ndb⟩
    clear hc eb hRb ndb frb
    walk_at "rd"
    refine ⟨by decide, fun ph hph => ?_⟩
    have g5 := same_new hph (.lst [.ref pa, .ref pb])
    obtain ⟨H5, e5⟩ : ∃ H5, H5 = upd H4 ph (.lst [.ref pa, .ref pb]) := ⟨_, rfl⟩
    have g45 : Same H4 H5 := by rw [e5]; exact g5
    have A5 : Al K H5 a ns p p2 pa pb ph us us2 usa usb n D gr fr := ⟨(gS.trans (g3.trans (g4.trans g45))).seq hS, T1.mono (g3.trans (g4.trans g45)), T2.mono (g4.trans g45), TA.mono (g4.trans g45), TB.mono g45, by rw [e5]; exact upd_same⟩
    rw [← e5]
    clear e5 g5 g45 g4 g3 gS T1 T2 TA TB hph hpa hpb hp hp2
    rw [u1]; clear u1
    refine seq_of fun U1 u1 => ?_
    walk_at "rd"
    refine ⟨_, SqL.of A5.hh, .ref pa, rfl, _, SqL.of A5.hh, .ref pb, rfl, pa, pb, usa, usb, n, D, gr, fr, rfl, A5.ta, A5.tb, n8, D40, fun c1 ts1 H6 g6 hc1 ec1 C1 => ?_⟩
    walk_at "rd"
    refine ⟨p, p2, us, us2, n, D, gr, fr, rfl, A5.t1.mono g6, A5.t2.mono g6, n1, n8, D40, fun c2 ts2 H7 g7 hc2 ec2 C2 => ?_⟩
    refine ⟨c1, c2, ts1, ts2, _, rfl, g7 _ _ ec1, C1.mono g7, ec2, C2, ?_⟩
    walk_at "rd"
    have A7 := A5.mono (g6.trans g7)
    clear A5 g6 g7 C1 C2 ec1 ec2 hc1 hc2
    rw [u1]; clear u1
    refine seq_of fun U1 u1 => ?_
    walk_at "rd"
    refine ⟨a, ns, _, _, rfl, A7.hS, hl, by decide, by decide, fun c3 _ _ => ?_⟩
    walk_at "rd"
    refine ⟨by omega, ?_⟩
    obtain ⟨h, eh, hh⟩ := mod_nat c3 (n := n) (by omega)
    rw [eh]
    rw [u1]; clear u1
    refine seq_of fun U1 u1 => ?_
    walk_at "rd"
    refine ⟨a, ns, _, _, rfl, A7.hS, hl, by decide, by decide, fun c4 _ _ => ?_⟩
    walk_at "rd"
    refine ⟨⟨by decide, by decide⟩, by omega, ?_⟩
    obtain ⟨o, eo, ho⟩ := mod_nat (c4 / 8) (n := n) (by omega)
    rw [eo]
    rw [u1]; clear u1
    refine seq_of fun U1 u1 => ?_
    walk_at "rd"
    refine ⟨⟨by decide, by decide, by decide⟩, a, ns, _, _, rfl, A7.hS, hl, by decide, by decide, fun c5 w0 w1 => ?_⟩
    rw [u1]; clear u1
    refine cut_of (fun σ H' => H' = H7 ∧ ∃ M : Nat, (M : Int) < 2 ^ 40 ∧ σ = [some (.ref a), some (.int n), some (.int D), some (.ref p), some (.int h), some (.ref p2), some (.ref ph), some (.int o), some (.int M), none, none, none]) ?_ ?_
    · have w1' : c5 < 2 ^ 40 := w1
      walk_at "rd"
      refine ⟨by decide, ?_⟩
      split
      · refine ⟨⟨by decide, by decide⟩, ⟨by decide, by decide, by decide⟩, by decide, (c5 / 2 % 2 ^ 32).toNat, by omega, ?_⟩
        rw [show (2 : Int) ^ Int.toNat 32 = 2 ^ 32 from rfl, Int.toNat_of_nonneg (by omega)]
      · exact ⟨c5.toNat, by omega, by rw [Int.toNat_of_nonneg (by omega)]⟩
    rintro σ H' ⟨rfl, M, hM, rfl⟩
    refine seq_of fun U1 u1 => ?_
    walk_at "rd"
    refine ⟨_, SqL.of A7.hh, .ref pa, rfl, pa, usa, n, D, gr, h, o, M, rfl, A7.ta, hh, ho, n8, by omega, hM, fun pf usf H8 g8 hpf TF frF => ?_⟩
    rw [Int.toNat_natCast] at TF
    have A8 := A7.mono g8
    rw [u1]; clear u1
    refine seq_of fun U1 u1 => ?_
    walk_at "rd"
    refine ⟨p, us, n, D, gr, h, o, M, rfl, A8.t1, hh, ho, n8, D40, fun pd usd H9 g9 hpd TD => ?_⟩
    have A9 := A8.mono g9
    have TF9 := TF.mono g9
    rw [u1]; clear u1
    refine seq_of fun U1 u1 => ?_
    walk_at "rd"
    refine ⟨pf, pd, usf, usd, _, rfl, TF9.at_, TF9.rs, TD.at_, TD.rs, fun H10 g10 => ?_⟩
    walk_at "rd"
    refine ⟨by decide, fun q3 hq3 => ?_⟩
    have g11 := same_new hq3 (.lst [.ref p, .ref p2])
    have A11 := A9.mono (g10.trans g11)
    try simp only [tSeq, tRet, tRetN, tIfS, tNext, tDrop, tOp, tUn, tVar, tC, rI0, rI, rU, rEq, rNe, L2.start, tAsg, gName, tTest, tB, tCB, tCons, tNil, rIxL, rIxT, tNot, tAnd, tOr, tNotV, tAndV, tOrV, tCall, rIsi, iRng1, iRng2, tFor, tWhile, tChain, tIf, tTup, tLst, tComp, tBlk, compSt, tTrue, Cx.comp, List.replicate_one, List.replicate_zero, Option.getD_some, tBM, tBM0, rLen, rListOf, rTupL, tRaise, tCallX, tDropX, tSetX, tTry0, tTryA, Ends.gone, rIsx, rExc, vO, tFld, tMeth, tMake, sFld, iEnL, iEnT, gTup, gCons, gNil, gSub, rSetL, rCat, rInsert, tSl, tNoPart, tPart, rSlL, rAppend, rClear, iList, iTup, cxOf, Cx.nox, Cx.wish, List.map_cons, List.map_nil, List.length_cons, List.length_nil, Nat.reduceAdd, Nat.reduceSub, List.reduceReplicate, List.cons_append, List.nil_append, List.append_nil, List.getElem?_cons_zero, List.getElem?_cons_succ, List.set_cons_zero, List.set_cons_succ, Option.some.injEq, V.int.injEq, V.bl.injEq, V.ref.injEq, V.str.injEq, V.ty.injEq, List.cons.injEq, and_true, true_and, and_assoc, exists_eq_left, exists_eq_left', exists_eq_right, exists_eq, exists_eq', exists_and_left, exists_const, decide_eq_true_eq, scal_ii, scal_bb, scal_ss, tEqI', Bool.not_eq_true', Bool.not_eq_true, decide_eq_false_iff_not, if_true, if_false, Bool.false_eq_true, reduceIte, tyN_int, tyN_bl, tyN_str, tyN_ref, okT_int, okT_bool, okT_str, okT_list, okT_tuple, subN_ii, subN_ib, subN_bb, subN_bi, subN_ss, subN_ll, subN_tt, Bool.not_true, Bool.not_false, not_true_eq_false, Bool.true_eq_false, tSortK, rNeD]
    refine ⟨_, A11.den, _, A11.den2 upd_same, like_den _ _ _ A11.den, ?_⟩
    rw [eqD_same]
    walk_at "rd"
    have TF11 := TF9.mono (g10.trans g11)
    have TD11 := TD.mono (g10.trans g11)
    have gF := g9.trans (g10.trans g11)
    obtain ⟨H11, e11⟩ : ∃ H11, H11 = upd H10 q3 (.lst [.ref p, .ref p2]) := ⟨_, rfl⟩
    rw [← e11] at A11 TF11 TD11 gF ⊢
    clear e11 g11 g10 hq3 TF9 A9 g9 TD A8 TF
    rw [u1]; clear u1
    refine seq_of fun U1 u1 => ?_
    walk_at "rd"
    refine ⟨_, SqL.of A11.hh, .ref pa, rfl, pf, pa, usf, usa, n, D, _, gr, rfl, TF11, A11.ta, n8, D40, fun c1 ts1 H12 g12 hc1 ec1 C1 => ?_⟩
    walk_at "rd"
    refine ⟨pd, p, usd, us, n, D, _, gr, rfl, TD11.mono g12, A11.t1.mono g12, n1, n8, D40, fun c2 ts2 H13 g13 hc2 ec2 C2 => ?_⟩
    refine ⟨c1, c2, ts1, ts2, _, rfl, g13 _ _ ec1, C1.mono g13, ec2, C2, ?_⟩
    walk_at "rd"
    have A13 := A11.mono (g12.trans g13)
    have TF13 := TF11.mono (g12.trans g13)
    have TD13 := TD11.mono (g12.trans g13)
    have gF13 := gF.trans (g12.trans g13)
    clear A11 TF11 TD11 gF g12 g13 C1 C2 ec1 ec2 hc1 hc2
    rw [u1]; clear u1
    refine seq_of fun U1 u1 => ?_
    walk_at "rd"
    refine ⟨pf, usf, n, D, _, o, h, M, rfl, TF13, ho, hh, n8, by omega, hM, fun pg usg H14 g14 hpg TG frG => ?_⟩
    rw [Int.toNat_natCast, exG_twice] at TG
    refine ⟨pg, p, usg, us, _, rfl, TG.at_, TG.rs, (A13.t1.mono g14).at_, (A13.t1.mono g14).rs, fun H15 g15 => ?_⟩
    walk_at "rd"
    have A15 := A13.mono (g14.trans g15)
    have TF15 := TF13.mono (g14.trans g15)
    have TD15 := TD13.mono (g14.trans g15)
    have gF15 := gF13.trans (g14.trans g15)
    try simp only [tSeq, tRet, tRetN, tIfS, tNext, tDrop, tOp, tUn, tVar, tC, rI0, rI, rU, rEq, rNe, L2.start, tAsg, gName, tTest, tB, tCB, tCons, tNil, rIxL, rIxT, tNot, tAnd, tOr, tNotV, tAndV, tOrV, tCall, rIsi, iRng1, iRng2, tFor, tWhile, tChain, tIf, tTup, tLst, tComp, tBlk, compSt, tTrue, Cx.comp, List.replicate_one, List.replicate_zero, Option.getD_some, tBM, tBM0, rLen, rListOf, rTupL, tRaise, tCallX, tDropX, tSetX, tTry0, tTryA, Ends.gone, rIsx, rExc, vO, tFld, tMeth, tMake, sFld, iEnL, iEnT, gTup, gCons, gNil, gSub, rSetL, rCat, rInsert, tSl, tNoPart, tPart, rSlL, rAppend, rClear, iList, iTup, cxOf, Cx.nox, Cx.wish, List.map_cons, List.map_nil, List.length_cons, List.length_nil, Nat.reduceAdd, Nat.reduceSub, List.reduceReplicate, List.cons_append, List.nil_append, List.append_nil, List.getElem?_cons_zero, List.getElem?_cons_succ, List.set_cons_zero, List.set_cons_succ, Option.some.injEq, V.int.injEq, V.bl.injEq, V.ref.injEq, V.str.injEq, V.ty.injEq, List.cons.injEq, and_true, true_and, and_assoc, exists_eq_left, exists_eq_left', exists_eq_right, exists_eq, exists_eq', exists_and_left, exists_const, decide_eq_true_eq, scal_ii, scal_bb, scal_ss, tEqI', Bool.not_eq_true', Bool.not_eq_true, decide_eq_false_iff_not, if_true, if_false, Bool.false_eq_true, reduceIte, tyN_int, tyN_bl, tyN_str, tyN_ref, okT_int, okT_bool, okT_str, okT_list, okT_tuple, subN_ii, subN_ib, subN_bb, subN_bi, subN_ss, subN_ll, subN_tt, Bool.not_true, Bool.not_false, not_true_eq_false, Bool.true_eq_false, tSortK, rNeD]
    have dF := den_rows (K := K) (n := 0) (SqL.of TF15.at_) TF15.rs
    refine ⟨_, dF, _, den_rows (K := K) (n := 0) (SqL.of TD15.at_) TD15.rs, like_den _ _ _ dF, ?_⟩
    rw [eqD_same]
    walk_at "rd"
    clear A13 TF13 TD13 gF13 g14 g15 TG TD15 dF frG hpg
    rw [u1]; clear u1
    refine seq_of fun U1 u1 => for_of fun B1 b1 => ?_
    walk_at "rd"
    have nF := TF15.rs.nor TF15.at_
    refine ⟨⟨_, SqL.of TF15.at_⟩, for_listW (xs := usf) (fun i σ H' => (∀ c o, H15 c = some o → V.ref c ∉ usf → H' c = some o) ∧ (∀ t, V.ref t ∈ usf → ∃ xs, H' t = some (.lst xs)) ∧ ∃ v11, σ = [some (.ref a), some (.int n), some (.int D), some (.ref p), some (.int h), some (.ref p2), some (.ref ph), some (.int o), some (.int M), some (.ref pf), some (.ref pd), v11]) ⟨fun _ _ h _ => h, fun t ht => ?_, none, rfl⟩ (fun i σ H' _ hh => SqL.of (hh.1 _ _ TF15.at_ nF)) ?_ ?_⟩
    · obtain ⟨row, e⟩ := TF15.rs.tracked ht
      exact ⟨_, e⟩
    · rintro i x σ H' hx ⟨off, al, v11, rfl⟩
      obtain ⟨t, rfl, _⟩ := TF15.at' hx
      obtain ⟨xs, ex⟩ := al t (List.mem_of_getElem? hx)
      have ht := List.mem_of_getElem? hx
      rw [b1]
      walk_at "rd"
      refine ⟨.inl ⟨rfl, _, SqL.of ex⟩, _, ex, fun c o e nc => ?_, fun s hs => ?_⟩
      · rw [upd_ne fun z => nc (by rw [z]; exact ht)]
        exact off c o e nc
      · by_cases z : s = t
        · subst z; exact ⟨_, upd_same⟩
        · rw [upd_ne z]; exact al s hs
    rintro σ H16 ⟨off, al, v11, rfl⟩
    have s16 := same_kept (g8.trans gF15) (fun t ht => (frF t ht).2) off
    have A16 := A7.mono s16
    clear A15 off al gF15 A7
    rw [u1]; clear u1
    refine seq_of fun U1 u1 => ?_
    walk_at "rd"
    refine ⟨_, SqL.of A16.hh, .ref pb, rfl, pb, usb, n, D, fr, h, o, M, rfl, A16.tb, hh, ho, n8, by omega, hM, fun pk usk H17 g17 hpk TK frK => ?_⟩
    rw [Int.toNat_natCast] at TK
    have A17 := A16.mono g17
    rw [u1]; clear u1
    walk_at "rd"
    refine ⟨by decide, fun q4 hq4 => ?_⟩
    have g18 := same_new hq4 (.lst [.ref p, .ref p2])
    have A18 := A17.mono g18
    try simp only [tSeq, tRet, tRetN, tIfS, tNext, tDrop, tOp, tUn, tVar, tC, rI0, rI, rU, rEq, rNe, L2.start, tAsg, gName, tTest, tB, tCB, tCons, tNil, rIxL, rIxT, tNot, tAnd, tOr, tNotV, tAndV, tOrV, tCall, rIsi, iRng1, iRng2, tFor, tWhile, tChain, tIf, tTup, tLst, tComp, tBlk, compSt, tTrue, Cx.comp, List.replicate_one, List.replicate_zero, Option.getD_some, tBM, tBM0, rLen, rListOf, rTupL, tRaise, tCallX, tDropX, tSetX, tTry0, tTryA, Ends.gone, rIsx, rExc, vO, tFld, tMeth, tMake, sFld, iEnL, iEnT, gTup, gCons, gNil, gSub, rSetL, rCat, rInsert, tSl, tNoPart, tPart, rSlL, rAppend, rClear, iList, iTup, cxOf, Cx.nox, Cx.wish, List.map_cons, List.map_nil, List.length_cons, List.length_nil, Nat.reduceAdd, Nat.reduceSub, List.reduceReplicate, List.cons_append, List.nil_append, List.append_nil, List.getElem?_cons_zero, List.getElem?_cons_succ, List.set_cons_zero, List.set_cons_succ, Option.some.injEq, V.int.injEq, V.bl.injEq, V.ref.injEq, V.str.injEq, V.ty.injEq, List.cons.injEq, and_true, true_and, and_assoc, exists_eq_left, exists_eq_left', exists_eq_right, exists_eq, exists_eq', exists_and_left, exists_const, decide_eq_true_eq, scal_ii, scal_bb, scal_ss, tEqI', Bool.not_eq_true', Bool.not_eq_true, decide_eq_false_iff_not, if_true, if_false, Bool.false_eq_true, reduceIte, tyN_int, tyN_bl, tyN_str, tyN_ref, okT_int, okT_bool, okT_str, okT_list, okT_tuple, subN_ii, subN_ib, subN_bb, subN_bi, subN_ss, subN_ll, subN_tt, Bool.not_true, Bool.not_false, not_true_eq_false, Bool.true_eq_false, tSortK, rEqD]
    refine ⟨_, A18.den, _, A18.den2 upd_same, like_den _ _ _ A18.den, ?_⟩
    rw [eqD_same]
    walk_at "rd"
    refine ⟨p2, us2, n, D, fr, h, o, M, rfl, A18.t2, hh, ho, n8, D40, fun pl2 usl H19 g19 hpl TL => ?_⟩
    have TK19 := TK.mono (g18.trans g19)
    exact ⟨pk, pl2, usk, usl, _, rfl, TK19.at_, TK19.rs, TL.at_, TL.rs, fun H20 _ => q H20⟩
end
theorem len_1 {α : Type} {us : List α} (h : us.length = 1) : ∃ a0 : α, us = [a0] := match us, h with | [a0], _ => ⟨a0, rfl⟩
theorem len_2 {α : Type} {us : List α} (h : us.length = 2) : ∃ a0 a1 : α, us = [a0, a1] := match us, h with | [a0, a1], _ => ⟨a0, a1, rfl⟩
theorem len_3 {α : Type} {us : List α} (h : us.length = 3) : ∃ a0 a1 a2 : α, us = [a0, a1, a2] := match us, h with | [a0, a1, a2], _ => ⟨a0, a1, a2, rfl⟩
theorem len_4 {α : Type} {us : List α} (h : us.length = 4) : ∃ a0 a1 a2 a3 : α, us = [a0, a1, a2, a3] := match us, h with | [a0, a1, a2, a3], _ => ⟨a0, a1, a2, a3, rfl⟩
theorem all_mk {l : PySem.W.OpenLaw} {w : World} {K : PySem.W.Frag} {h : Heap} {mg : Str → Option Value} {fa : Addr} (X : K.In h) (G : h.Ns mainGlobals mg) (hfa : mg "law" = some (.ref fa))
    {f1 : Addr} {od1 an1 : Option Addr} {sl1 : Array (Option Value)} {oc1 kV1 dc1 pm1 cd1 ct1 : Value}
    {f2 : Addr} {od2 an2 : Option Addr} {sl2 : Array (Option Value)} {oc2 kV2 dc2 pm2 cd2 ct2 : Value}
    {f3 : Addr} {od3 an3 : Option Addr} {sl3 : Array (Option Value)} {oc3 kV3 dc3 pm3 cd3 ct3 : Value}
    {f4 : Addr} {od4 an4 : Option Addr} {sl4 : Array (Option Value)} {oc4 kV4 dc4 pm4 cd4 ct4 : Value}
    {f5 : Addr} {od5 an5 : Option Addr} {sl5 : Array (Option Value)} {oc5 kV5 dc5 pm5 cd5 ct5 : Value}
    {f6 : Addr} {od6 an6 : Option Addr} {sl6 : Array (Option Value)} {oc6 kV6 dc6 pm6 cd6 ct6 : Value}
    {f7 : Addr} {od7 an7 : Option Addr} {sl7 : Array (Option Value)} {oc7 kV7 dc7 pm7 cd7 ct7 : Value}
    {f8 : Addr} {od8 an8 : Option Addr} {sl8 : Array (Option Value)} {oc8 kV8 dc8 pm8 cd8 ct8 : Value}
    {f9 : Addr} {od9 an9 : Option Addr} {sl9 : Array (Option Value)} {oc9 kV9 dc9 pm9 cd9 ct9 : Value}
    {f10 : Addr} {od10 an10 : Option Addr} {sl10 : Array (Option Value)} {oc10 kV10 dc10 pm10 cd10 ct10 : Value}
    {f11 : Addr} {od11 an11 : Option Addr} {sl11 : Array (Option Value)} {oc11 kV11 dc11 pm11 cd11 ct11 : Value}
    {f12 : Addr} {od12 an12 : Option Addr} {sl12 : Array (Option Value)} {oc12 kV12 dc12 pm12 cd12 ct12 : Value}
    {f13 : Addr} {od13 an13 : Option Addr} {sl13 : Array (Option Value)} {oc13 kV13 dc13 pm13 cd13 ct13 : Value}
    {f14 : Addr} {od14 an14 : Option Addr} {sl14 : Array (Option Value)} {oc14 kV14 dc14 pm14 cd14 ct14 : Value}
    (a1 : PySem.W.nsIn K mainGlobals "copied" = some (some (.ref f1)))
    (l1 : K.lookup f1 = some ⟨oc1, od1, .func (PySem.W.fnOf "copied" "copied" (defArgs s_copied) (defBody s_copied) (defScope s_copied) .none kV1 dc1 pm1 an1 cd1 ct1), sl1⟩) (c1 : PySem.W.codeIn K cd1 "copied" = true) (k1 : PySem.W.keepIn K (.ref f1) = true)
    (a2 : PySem.W.nsIn K mainGlobals "covers" = some (some (.ref f2)))
    (l2 : K.lookup f2 = some ⟨oc2, od2, .func (PySem.W.fnOf "covers" "covers" (defArgs s_covers) (defBody s_covers) (defScope s_covers) .none kV2 dc2 pm2 an2 cd2 ct2), sl2⟩) (c2 : PySem.W.codeIn K cd2 "covers" = true) (k2 : PySem.W.keepIn K (.ref f2) = true)
    (a3 : PySem.W.nsIn K mainGlobals "members" = some (some (.ref f3)))
    (l3 : K.lookup f3 = some ⟨oc3, od3, .func (PySem.W.fnOf "members" "members" (defArgs s_members) (defBody s_members) (defScope s_members) .none kV3 dc3 pm3 an3 cd3 ct3), sl3⟩) (c3 : PySem.W.codeIn K cd3 "members" = true) (k3 : PySem.W.keepIn K (.ref f3) = true)
    (a4 : PySem.W.nsIn K mainGlobals "exchanged" = some (some (.ref f4)))
    (l4 : K.lookup f4 = some ⟨oc4, od4, .func (PySem.W.fnOf "exchanged" "exchanged" (defArgs s_exchanged) (defBody s_exchanged) (defScope s_exchanged) .none kV4 dc4 pm4 an4 cd4 ct4), sl4⟩) (c4 : PySem.W.codeIn K cd4 "exchanged" = true) (k4 : PySem.W.keepIn K (.ref f4) = true)
    (a5 : PySem.W.nsIn K mainGlobals "day_first" = some (some (.ref f5)))
    (l5 : K.lookup f5 = some ⟨oc5, od5, .func (PySem.W.fnOf "day_first" "day_first" (defArgs s_day_first) (defBody s_day_first) (defScope s_day_first) .none kV5 dc5 pm5 an5 cd5 ct5), sl5⟩) (c5 : PySem.W.codeIn K cd5 "day_first" = true) (k5 : PySem.W.keepIn K (.ref f5) = true)
    (a6 : PySem.W.nsIn K mainGlobals "changed" = some (some (.ref f6)))
    (l6 : K.lookup f6 = some ⟨oc6, od6, .func (PySem.W.fnOf "changed" "changed" (defArgs s_changed) (defBody s_changed) (defScope s_changed) .none kV6 dc6 pm6 an6 cd6 ct6), sl6⟩) (c6 : PySem.W.codeIn K cd6 "changed" = true) (k6 : PySem.W.keepIn K (.ref f6) = true)
    (a7 : PySem.W.nsIn K mainGlobals "_law_draw" = some (some (.ref f7)))
    (l7 : K.lookup f7 = some ⟨oc7, od7, .func (PySem.W.fnOf "_law_draw" "_law_draw" (defArgs s__law_draw) (defBody s__law_draw) (defScope s__law_draw) .none kV7 dc7 pm7 an7 cd7 ct7), sl7⟩) (c7 : PySem.W.codeIn K cd7 "_law_draw" = true) (k7 : PySem.W.keepIn K (.ref f7) = true)
    (a8 : PySem.W.nsIn K mainGlobals "_law_second" = some (some (.ref f8)))
    (l8 : K.lookup f8 = some ⟨oc8, od8, .func (PySem.W.fnOf "_law_second" "_law_second" (defArgs s__law_second) (defBody s__law_second) (defScope s__law_second) .none kV8 dc8 pm8 an8 cd8 ct8), sl8⟩) (c8 : PySem.W.codeIn K cd8 "_law_second" = true) (k8 : PySem.W.keepIn K (.ref f8) = true)
    (a9 : PySem.W.nsIn K mainGlobals "_law_exchanged" = some (some (.ref f9)))
    (l9 : K.lookup f9 = some ⟨oc9, od9, .func (PySem.W.fnOf "_law_exchanged" "_law_exchanged" (defArgs s__law_exchanged) (defBody s__law_exchanged) (defScope s__law_exchanged) .none kV9 dc9 pm9 an9 cd9 ct9), sl9⟩) (c9 : PySem.W.codeIn K cd9 "_law_exchanged" = true) (k9 : PySem.W.keepIn K (.ref f9) = true)
    (a10 : PySem.W.nsIn K mainGlobals "_law_whole" = some (some (.ref f10)))
    (l10 : K.lookup f10 = some ⟨oc10, od10, .func (PySem.W.fnOf "_law_whole" "_law_whole" (defArgs s__law_whole) (defBody s__law_whole) (defScope s__law_whole) .none kV10 dc10 pm10 an10 cd10 ct10), sl10⟩) (c10 : PySem.W.codeIn K cd10 "_law_whole" = true) (k10 : PySem.W.keepIn K (.ref f10) = true)
    (a11 : PySem.W.nsIn K mainGlobals "_law_cells" = some (some (.ref f11)))
    (l11 : K.lookup f11 = some ⟨oc11, od11, .func (PySem.W.fnOf "_law_cells" "_law_cells" (defArgs s__law_cells) (defBody s__law_cells) (defScope s__law_cells) .none kV11 dc11 pm11 an11 cd11 ct11), sl11⟩) (c11 : PySem.W.codeIn K cd11 "_law_cells" = true) (k11 : PySem.W.keepIn K (.ref f11) = true)
    (a12 : PySem.W.nsIn K mainGlobals "_law_rows" = some (some (.ref f12)))
    (l12 : K.lookup f12 = some ⟨oc12, od12, .func (PySem.W.fnOf "_law_rows" "_law_rows" (defArgs s__law_rows) (defBody s__law_rows) (defScope s__law_rows) .none kV12 dc12 pm12 an12 cd12 ct12), sl12⟩) (c12 : PySem.W.codeIn K cd12 "_law_rows" = true) (k12 : PySem.W.keepIn K (.ref f12) = true)
    (a13 : PySem.W.nsIn K mainGlobals "_law_differ" = some (some (.ref f13)))
    (l13 : K.lookup f13 = some ⟨oc13, od13, .func (PySem.W.fnOf "_law_differ" "_law_differ" (defArgs s__law_differ) (defBody s__law_differ) (defScope s__law_differ) .none kV13 dc13 pm13 an13 cd13 ct13), sl13⟩) (c13 : PySem.W.codeIn K cd13 "_law_differ" = true) (k13 : PySem.W.keepIn K (.ref f13) = true)
    (a14 : PySem.W.nsIn K mainGlobals "law" = some (some (.ref f14)))
    (l14 : K.lookup f14 = some ⟨oc14, od14, .func (PySem.W.fnOf "law" "law" (defArgs s_law) (defBody s_law) (defScope s_law) .none kV14 dc14 pm14 an14 cd14 ct14), sl14⟩) (c14 : PySem.W.codeIn K cd14 "law" = true) (k14 : PySem.W.keepIn K (.ref f14) = true)
    (z1 : PySem.W.nsIn K mainGlobals "bool" = some none)
    (z2 : PySem.W.nsIn K mainGlobals "enumerate" = some none)
    (z3 : PySem.W.nsIn K mainGlobals "int" = some none)
    (z4 : PySem.W.nsIn K mainGlobals "isinstance" = some none)
    (z5 : PySem.W.nsIn K mainGlobals "len" = some none)
    (z6 : PySem.W.nsIn K mainGlobals "list" = some none)
    (z7 : PySem.W.nsIn K mainGlobals "range" = some none)
    (z8 : PySem.W.nsIn K mainGlobals "sorted" = some none)
    (z9 : PySem.W.nsIn K mainGlobals "tuple" = some none)
    : ∃ fd : FuncData, (∀ (s : Shared) (v : Value), BindsTo s fd ⟨[v], []⟩ [("_law_script", v)]) ∧ ∀ base : Heap, K.In base → base.Ns mainGlobals mg → FnOk l.prog w K mg base CX0 5 fa fd ["_law_script"] (sp_law K) := by
  have e := hfa.symm.trans (PySem.W.mg_of X G a14)
  cases e
  have T : Txt mg := ⟨PySem.W.mg_none_of X G z1, PySem.W.mg_none_of X G z2, PySem.W.mg_none_of X G z3, PySem.W.mg_none_of X G z4, PySem.W.mg_none_of X G z5, PySem.W.mg_none_of X G z6, PySem.W.mg_none_of X G z7, PySem.W.mg_none_of X G z8, PySem.W.mg_none_of X G z9⟩
  have F1 := fun_mk (st := s_copied) l1 c1 k1
  have b1 := F1.binds (ps := ["rota"]) fun _ _ _ _ _ _ us hl => by obtain ⟨_, rfl⟩ := len_1 (us := us) hl; rfl
  have F2 := fun_mk (st := s_covers) l2 c2 k2
  have b2 := F2.binds (ps := ["have", "need"]) fun _ _ _ _ _ _ us hl => by obtain ⟨_, _, rfl⟩ := len_2 (us := us) hl; rfl
  have F3 := fun_mk (st := s_members) l3 c3 k3
  have b3 := F3.binds (ps := ["number"]) fun _ _ _ _ _ _ us hl => by obtain ⟨_, rfl⟩ := len_1 (us := us) hl; rfl
  have F4 := fun_mk (st := s_exchanged) l4 c4 k4
  have b4 := F4.binds (ps := ["rota", "hand", "other", "days"]) fun _ _ _ _ _ _ us hl => by obtain ⟨_, _, _, _, rfl⟩ := len_4 (us := us) hl; rfl
  have F5 := fun_mk (st := s_day_first) l5 c5 k5
  have b5 := F5.binds (ps := ["cell"]) fun _ _ _ _ _ _ us hl => by obtain ⟨_, rfl⟩ := len_1 (us := us) hl; rfl
  have F6 := fun_mk (st := s_changed) l6 c6 k6
  have b6 := F6.binds (ps := ["rota", "other"]) fun _ _ _ _ _ _ us hl => by obtain ⟨_, _, rfl⟩ := len_2 (us := us) hl; rfl
  have F7 := fun_mk (st := s__law_draw) l7 c7 k7
  have b7 := F7.binds (ps := ["_law_script", "_law_k", "_law_many"]) fun _ _ _ _ _ _ us hl => by obtain ⟨_, _, _, rfl⟩ := len_3 (us := us) hl; rfl
  have F8 := fun_mk (st := s__law_second) l8 c8 k8
  have b8 := F8.binds (ps := ["_law_script", "_law_one"]) fun _ _ _ _ _ _ us hl => by obtain ⟨_, _, rfl⟩ := len_2 (us := us) hl; rfl
  have F9 := fun_mk (st := s__law_exchanged) l9 c9 k9
  have b9 := F9.binds (ps := ["_law_rota", "_law_hand", "_law_other", "_law_number"]) fun _ _ _ _ _ _ us hl => by obtain ⟨_, _, _, _, rfl⟩ := len_4 (us := us) hl; rfl
  have F10 := fun_mk (st := s__law_whole) l10 c10 k10
  have b10 := F10.binds (ps := ["_law_found"]) fun _ _ _ _ _ _ us hl => by obtain ⟨_, rfl⟩ := len_1 (us := us) hl; rfl
  have F11 := fun_mk (st := s__law_cells) l11 c11 k11
  have b11 := F11.binds (ps := ["_law_found", "_law_due"]) fun _ _ _ _ _ _ us hl => by obtain ⟨_, _, rfl⟩ := len_2 (us := us) hl; rfl
  have F12 := fun_mk (st := s__law_rows) l12 c12 k12
  have b12 := F12.binds (ps := ["_law_found", "_law_due"]) fun _ _ _ _ _ _ us hl => by obtain ⟨_, _, rfl⟩ := len_2 (us := us) hl; rfl
  have F13 := fun_mk (st := s__law_differ) l13 c13 k13
  have b13 := F13.binds (ps := ["_law_one", "_law_two"]) fun _ _ _ _ _ _ us hl => by obtain ⟨_, _, rfl⟩ := len_2 (us := us) hl; rfl
  have F14 := fun_mk (st := s_law) l14 c14 k14
  refine ⟨PySem.W.fnOf "law" "law" (defArgs s_law) (defBody s_law) (defScope s_law) .none kV14 dc14 pm14 an14 cd14 ct14, fun s v => .of_eq rfl, fun base _ _ => ?_⟩
  have C_copied : Cal l.prog w K mg base "copied" ["rota"] 1 (sp_copied K) := ⟨_, _, ok_copied F1 T , b1, k1, PySem.W.mg_of X G a1⟩
  have C_covers : Cal l.prog w K mg base "covers" ["have", "need"] 1 (sp_covers K) := ⟨_, _, ok_covers F2 T , b2, k2, PySem.W.mg_of X G a2⟩
  have C_members : Cal l.prog w K mg base "members" ["number"] 2 (sp_members K) := ⟨_, _, ok_members F3 T C_covers, b3, k3, PySem.W.mg_of X G a3⟩
  have C_exchanged : Cal l.prog w K mg base "exchanged" ["rota", "hand", "other", "days"] 3 (sp_exchanged K) := ⟨_, _, ok_exchanged F4 T C_copied C_members, b4, k4, PySem.W.mg_of X G a4⟩
  have C_day_first : Cal l.prog w K mg base "day_first" ["cell"] 1 (sp_day_first K) := ⟨_, _, ok_day_first F5 T , b5, k5, PySem.W.mg_of X G a5⟩
  have C_changed : Cal l.prog w K mg base "changed" ["rota", "other"] 4 (sp_changed K) := ⟨_, _, ok_changed F6 T C_day_first, b6, k6, PySem.W.mg_of X G a6⟩
  have C__law_draw : Cal l.prog w K mg base "_law_draw" ["_law_script", "_law_k", "_law_many"] 1 (sp__law_draw K) := ⟨_, _, ok__law_draw F7 T , b7, k7, PySem.W.mg_of X G a7⟩
  have C__law_second : Cal l.prog w K mg base "_law_second" ["_law_script", "_law_one"] 2 (sp__law_second K) := ⟨_, _, ok__law_second F8 T C__law_draw, b8, k8, PySem.W.mg_of X G a8⟩
  have C__law_exchanged : Cal l.prog w K mg base "_law_exchanged" ["_law_rota", "_law_hand", "_law_other", "_law_number"] 1 (sp__law_exchanged K) := ⟨_, _, ok__law_exchanged F9 T , b9, k9, PySem.W.mg_of X G a9⟩
  have C__law_whole : Cal l.prog w K mg base "_law_whole" ["_law_found"] 1 (sp__law_whole K) := ⟨_, _, ok__law_whole F10 T , b10, k10, PySem.W.mg_of X G a10⟩
  have C__law_cells : Cal l.prog w K mg base "_law_cells" ["_law_found", "_law_due"] 2 (sp__law_cells K) := ⟨_, _, ok__law_cells F11 T C__law_whole, b11, k11, PySem.W.mg_of X G a11⟩
  have C__law_rows : Cal l.prog w K mg base "_law_rows" ["_law_found", "_law_due"] 2 (sp__law_rows K) := ⟨_, _, ok__law_rows F12 T C__law_whole, b12, k12, PySem.W.mg_of X G a12⟩
  have C__law_differ : Cal l.prog w K mg base "_law_differ" ["_law_one", "_law_two"] 1 (sp__law_differ K) := ⟨_, _, ok__law_differ F13 T , b13, k13, PySem.W.mg_of X G a13⟩
  exact ok_law F14 T C__law_draw C__law_second C_exchanged C__law_exchanged C__law_cells C__law_rows C_changed C__law_differ
theorem walk {l : PySem.W.OpenLaw} {q : Program} {loose : List Str} {XP : (Str → Option Value) → Heap → Prop} {YP : World → Heap → Prop} {d : DefRec} {K : Params → PySem.W.Frag} (hn : l.most = some 63) (hdf : d.params.defaults = [])
    (hY : ∀ (w : World) (h : Heap), YP w h → (K w.params).In h)
    (F : ∀ (w : World) (mg : Str → Option Value) (fa : Addr) (h : Heap), (K w.params).In h → h.Ns mainGlobals mg → mg d.name = some (.ref fa) →
      ∃ fd : FuncData, (∀ (s : Shared) (u : Value), BindsTo s fd ⟨[u], []⟩ [("_law_script", u)]) ∧ ∀ base : Heap, (K w.params).In base → base.Ns mainGlobals mg → FnOk l.prog w (K w.params) mg base CX0 5 fa fd ["_law_script"] (sp_law (K w.params))) :
    PySem.W.WalkO q loose XP YP l.row.toRowW d [] (fun f vs => PySem.call f vs) :=
  L2.walk_of (n := 63) (k := 5) (x := "_law_script") (CX := fun _ => CX0) (sp := fun w => sp_law (K w.params)) hn (by decide) hdf ⟨rfl, by decide, by decide⟩ hY F (fun _ _ a ns hl _ hS => ⟨a, ns, rfl, hS, hl, fun _ => rfl⟩) fun _ _ _ _ _ z => z
end My
open PySem PySem.W PyProof.Rows
set_option maxRecDepth 100000 in
set_option maxHeartbeats 0 in
theorem PySem.Challenge.cw_rotaward_k17_changed_and_exchanged_holds : PySem.Challenge.rw_rotaward_k17_changed_and_exchanged.Holds := by
  w_on; o_law; k_head; (case hw => w_witness2)
  k_fill
  refine My.walk (l := PySem.Challenge.rw_rotaward_k17_changed_and_exchanged) rfl rfl (fun w h Y => PySem.W.kIn_of Y) ?F
  case F =>
    intro w mg fa h KX G hmg
    refine' My.all_mk KX G hmg ?a1 ?l1 ?c1 ?k1 ?a2 ?l2 ?c2 ?k2 ?a3 ?l3 ?c3 ?k3 ?a4 ?l4 ?c4 ?k4 ?a5 ?l5 ?c5 ?k5 ?a6 ?l6 ?c6 ?k6 ?a7 ?l7 ?c7 ?k7 ?a8 ?l8 ?c8 ?k8 ?a9 ?l9 ?c9 ?k9 ?a10 ?l10 ?c10 ?k10 ?a11 ?l11 ?c11 ?k11 ?a12 ?l12 ?c12 ?k12 ?a13 ?l13 ?c13 ?k13 ?a14 ?l14 ?c14 ?k14 ?z1 ?z2 ?z3 ?z4 ?z5 ?z6 ?z7 ?z8 ?z9
    (case a1 => k_is)
    (case l1 => k_is)
    (case c1 => k_is)
    (case k1 => k_is)
    (case a2 => k_is)
    (case l2 => k_is)
    (case c2 => k_is)
    (case k2 => k_is)
    (case a3 => k_is)
    (case l3 => k_is)
    (case c3 => k_is)
    (case k3 => k_is)
    (case a4 => k_is)
    (case l4 => k_is)
    (case c4 => k_is)
    (case k4 => k_is)
    (case a5 => k_is)
    (case l5 => k_is)
    (case c5 => k_is)
    (case k5 => k_is)
    (case a6 => k_is)
    (case l6 => k_is)
    (case c6 => k_is)
    (case k6 => k_is)
    (case a7 => k_is)
    (case l7 => k_is)
    (case c7 => k_is)
    (case k7 => k_is)
    (case a8 => k_is)
    (case l8 => k_is)
    (case c8 => k_is)
    (case k8 => k_is)
    (case a9 => k_is)
    (case l9 => k_is)
    (case c9 => k_is)
    (case k9 => k_is)
    (case a10 => k_is)
    (case l10 => k_is)
    (case c10 => k_is)
    (case k10 => k_is)
    (case a11 => k_is)
    (case l11 => k_is)
    (case c11 => k_is)
    (case k11 => k_is)
    (case a12 => k_is)
    (case l12 => k_is)
    (case c12 => k_is)
    (case k12 => k_is)
    (case a13 => k_is)
    (case l13 => k_is)
    (case c13 => k_is)
    (case k13 => k_is)
    (case a14 => k_is)
    (case l14 => k_is)
    (case c14 => k_is)
    (case k14 => k_is)
    (case z1 => k_is)
    (case z2 => k_is)
    (case z3 => k_is)
    (case z4 => k_is)
    (case z5 => k_is)
    (case z6 => k_is)
    (case z7 => k_is)
    (case z8 => k_is)
    (case z9 => k_is)
