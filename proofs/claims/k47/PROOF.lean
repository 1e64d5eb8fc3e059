import PyProof.Rows.All
import Wide.All
import OpenK.AllK
import Wide.FinOn
import Lean
import PyProof.EqAt
import PyProof.EqKinds
import PyProof.TupleCall
import PySem.Challenge.RW_rotaward_k47_what_is_a_dealing
set_option Elab.async false
set_option linter.all false
set_option maxRecDepth 100000
namespace L2
open PySem PySem.Spec PyProof.Rows

/-- a key: an int or a str -/
abbrev Key := Sum Int Str
def keyIs : Key → Value → Bool
  | .inl k, v => Value.isInt k v
  | .inr x, v => Value.isStrOf x v
def keyH (w : World) : Key → Int
  | .inl k => hashInt k
  | .inr x => hashStr w x
theorem keyIs_shape : ∀ {k : Key} {v : Value}, keyIs k v = true → (∃ i t, k = Sum.inl i ∧ v = Value.int i t) ∨ (∃ x t, k = Sum.inr x ∧ v = Value.str x t)
  | .inl i, v, h => by
    obtain ⟨t, e⟩ := Value.isInt_shape (k := i) (v := v) h
    exact .inl ⟨i, t, rfl, e⟩
  | .inr x, v, h => by
    obtain ⟨t, e⟩ := Value.isStrOf_shape (x := x) (v := v) h
    exact .inr ⟨x, t, rfl, e⟩
theorem key_ll (a b : Int) : decide ((Sum.inl a : Key) = Sum.inl b) = (a == b) := by
  by_cases e : a = b
  · subst e; simp
  · have h : ¬ (Sum.inl a : Key) = Sum.inl b := fun q => e (Sum.inl.inj q)
    rw [decide_eq_false h]
    exact (beq_eq_false_iff_ne.mpr e).symm
theorem key_rr (a b : Str) : decide ((Sum.inr a : Key) = Sum.inr b) = decide (a = b) := by
  by_cases e : a = b
  · subst e; simp
  · have h : ¬ (Sum.inr a : Key) = Sum.inr b := fun q => e (Sum.inr.inj q)
    rw [decide_eq_false h, decide_eq_false e]
theorem key_lr (a : Int) (b : Str) : decide ((Sum.inl a : Key) = Sum.inr b) = false := decide_eq_false (fun q => nomatch q)
theorem key_rl (a : Str) (b : Int) : decide ((Sum.inr a : Key) = Sum.inl b) = false := decide_eq_false (fun q => nomatch q)

def mixKind (prog : Program) (w : World) : PySem.KeyKind prog w Key where
  is := keyIs
  hash := keyH w
  inj := fun v a b ha hb => by
    rcases keyIs_shape ha with ⟨i, t, rfl, rfl⟩ | ⟨x, t, rfl, rfl⟩
    · rcases keyIs_shape hb with ⟨j, u, rfl, e⟩ | ⟨y, u, rfl, e⟩
      · injection e with e1 _; rw [e1]
      · exact nomatch e
    · rcases keyIs_shape hb with ⟨j, u, rfl, e⟩ | ⟨y, u, rfl, e⟩
      · exact nomatch e
      · injection e with e1 _; rw [e1]
  byValue := fun k v h => by
    rcases keyIs_shape h with ⟨i, t, rfl, rfl⟩ | ⟨x, t, rfl, rfl⟩ <;> rfl
  pyHash := fun hv h => by
    rcases keyIs_shape hv with ⟨i, t, rfl, rfl⟩ | ⟨x, t, rfl, rfl⟩
    · exact wpAny_pyHash_int h
    · exact wpAny_pyHash_str h
  eqBool := fun hu hv h => by
    rcases keyIs_shape hu with ⟨i, t, rfl, rfl⟩ | ⟨x, t, rfl, rfl⟩
    · rcases keyIs_shape hv with ⟨j, u, rfl, rfl⟩ | ⟨y, u, rfl, rfl⟩
      · rw [key_ll] at h; exact wpAny_eqBool_int h
      · rw [key_lr] at h; exact SeqAt.EqAt.int_str i t y u _ _ _ _ h
    · rcases keyIs_shape hv with ⟨j, u, rfl, rfl⟩ | ⟨y, u, rfl, rfl⟩
      · rw [key_rl] at h; exact SeqAt.EqAt.str_int x t j u _ _ _ _ h
      · rw [key_rr] at h; exact wpAny_eqBool_str h
  «strs» := fun k x t v h => by
    rcases keyIs_shape h with ⟨i, u, rfl, e⟩ | ⟨y, u, rfl, e⟩
    · exact nomatch e
    · injection e with e1 _
      subst e1
      cases v <;> rfl

end L2

namespace L2
open PySem PySem.Spec PyProof.Rows

/-- a value, without the heap -/
inductive V where
  | non | bl (b : Bool) | int (i : Int) | str (x : Str) | byt (b : Array UInt8) | flt (b : UInt64) | ref (a : Addr) | ty (n : String)
  deriving DecidableEq

def RelV : V → Value → Prop
  | .non, u => u = Value.none
  | .bl b, u => u = Value.bool b
  | .int i, u => ∃ t, u = Value.int i t
  | .str x, u => ∃ t, u = Value.str x t
  | .byt b, u => ∃ t, u = Value.bytes b t
  | .flt b, u => ∃ t, u = Value.float b t
  | .ref a, u => u = Value.ref a
  | .ty n, u => u = Value.type n

abbrev Vals : List V → List Value → Prop := Paired RelV
theorem Vals.length {xs : List V} {us : List Value} (r : Vals xs us) : xs.length = us.length := Paired.length r
theorem Vals.get : ∀ {xs : List V} {us : List Value} {i : Nat} {x : V}, Vals xs us → xs[i]? = some x → ∃ u, us[i]? = some u ∧ RelV x u
  | _, _, _, _, .nil, e => by simp at e
  | _, _, 0, _, .cons r _, e => by simp at e; subst e; exact ⟨_, rfl, r⟩
  | _, _, i + 1, x, .cons _ t, e => by
    obtain ⟨u, h1, h2⟩ := Vals.get (i := i) (x := x) t (by simpa using e)
    exact ⟨u, by simpa using h1, h2⟩
theorem Vals.set {x : V} {u : Value} (r : RelV x u) : ∀ {xs : List V} {us : List Value} (i : Nat), Vals xs us → Vals (xs.set i x) (us.set i u)
  | _, _, _, .nil => .nil
  | _, _, 0, .cons _ t => .cons r t
  | _, _, i + 1, .cons q t => .cons q (Vals.set r i t)
theorem Vals.append : ∀ {xs ys : List V} {us ws : List Value}, Vals xs us → Vals ys ws → Vals (xs ++ ys) (us ++ ws)
  | _, _, _, _, .nil, s => s
  | _, _, _, _, .cons r t, s => .cons r (Vals.append t s)
theorem Vals.take : ∀ {xs : List V} {us : List Value} (n : Nat), Vals xs us → Vals (xs.take n) (us.take n)
  | _, _, 0, _ => .nil
  | _, _, _ + 1, .nil => .nil
  | _, _, n + 1, .cons r t => .cons r (Vals.take n t)
theorem Vals.drop : ∀ {xs : List V} {us : List Value} (n : Nat), Vals xs us → Vals (xs.drop n) (us.drop n)
  | _, _, 0, r => r
  | _, _, _ + 1, .nil => .nil
  | _, _, n + 1, .cons _ t => Vals.drop n t
theorem Vals.none_of : ∀ {xs : List V} {us : List Value} {i : Nat}, Vals xs us → xs[i]? = none → us[i]? = none := fun {xs us i} r e => by
  have h1 := r.length
  have h2 : xs.length ≤ i := List.getElem?_eq_none_iff.mp e
  exact List.getElem?_eq_none_iff.mpr (by omega)

def RelO : Option V → Option Value → Prop
  | some v, some u => RelV v u
  | none, none => True
  | _, _ => False
def KV {κ : Type} : List (κ × V) → List (κ × Value) → Prop := Paired fun (p : κ × V) (q : κ × Value) => p.1 = q.1 ∧ RelV p.2 q.2

/-- a key of a dict (00_mix): an int or a text -/
def kV : Key → V
  | .inl i => .int i
  | .inr x => .str x

/-- what stands at a tracked address -/
inductive HO where
  /-- a list -/
  | lst (xs : List V)
  /-- a tuple (never changes) -/
  | tup (xs : List V)
  /-- a dict whose keys are ints and texts; one whose keys are tuples of ints and texts (the empty one is both) -/
  | dK (kvs : List (Key × V)) | dT (kvs : List (List Key × V))
  /-- a set of ints: its members, its size -/
  | set (S : Int → Bool) (n : Nat)
  /-- an instance of the class at C, its dict at dx, its attributes -/
  | ins (C dx : Addr) (fs : List (Str × V))
  /-- the dict of the instance at x -/
  | own (x : Addr)
  /-- the dict of an exception -/
  | xd (fs : List (Str × V))
  /-- a bound method, f of x -/
  | met (f x : Addr)
  /-- a range object lo, lo + 1, .. below hi -/
  | rng (lo hi : Int)
  /-- a thing that is known to the object (the script; a dict while a loop walks it): read, never written while it is so -/
  | frz (o : Obj) (u : HO)
  /-- a code object's table -/
  | tbl (ps : Array Value)
  /-- any other thing, by what is true of its one object (a def of one's own: SetO a S n := HO.ext fun h => ..) -/
  | ext (φ : Heap → Prop)

abbrev Hp := Addr → Option HO
def upd (H : Hp) (a : Addr) (o : HO) : Hp := fun b => if b = a then some o else H b
theorem upd_same {H : Hp} {a : Addr} {o : HO} : upd H a o a = some o := by unfold upd; rw [if_pos rfl]
theorem upd_ne {H : Hp} {a b : Addr} {o : HO} (h : b ≠ a) : upd H a o b = H b := by unfold upd; rw [if_neg h]
theorem upd_upd {H : Hp} {a : Addr} {o u : HO} : upd (upd H a o) a u = upd H a u := by
  funext b; unfold upd; split <;> rfl
/-- two objects of different content stand apart -/
theorem ne_of {H : Hp} {a b : Addr} {o u : HO} (h : H a = some o) (h' : H b = some u) (d : o ≠ u) : a ≠ b := by
  intro e; subst e; rw [h] at h'; exact d (Option.some.inj h')
theorem ne_of_none {H : Hp} {a b : Addr} {o : HO} (h : H a = some o) (h' : H b = none) : a ≠ b := by
  intro e; subst e; rw [h] at h'; cases h'

section
variable (P : Program) (w : World)
def ObjOk (H : Hp) (h : Heap) (a : Addr) : HO → Prop
  | .lst xs => xs.length ≤ sizeLine ∧ ∃ (its : List Value) (n : Nat), Vals xs its ∧ h.get? a = some { cls := .type "list", data := .seq its.toArray n }
  | .tup xs => xs.length ≤ sizeLine ∧ ∃ its : List Value, Vals xs its ∧ IsTup h a its.toArray
  | .dK kvs => kvs.length ≤ sizeLine ∧ (a == sysModules) = false ∧ ∃ vs, KV kvs vs ∧ h.DictOf (mixKind P w) a vs
  | .dT kvs => kvs.length ≤ sizeLine ∧ (a == sysModules) = false ∧ ∃ xs : List (List Key × Addr × Value),
      Paired (fun (p : List Key × V) (q : List Key × Addr × Value) => p.1 = q.1 ∧ H q.2.1 = some (.tup (p.1.map kV)) ∧ RelV p.2 q.2.2) kvs xs ∧
      ∃ o es ep, h.get? a = some o ∧ o.ExactDict ∧ o.data = .dict es ep ∧ es.toList = xs.map (entryOfKey (tupleKind (mixKind P w))) ∧ (xs.map (·.1)).Nodup
  | .set S n => h.SetOf (intKind P w) a S n
  | .ins C dx fs => H dx = some (.own a) ∧ fs.length ≤ 1000 ∧ dx ≠ a ∧ h.get? a = some (PySem.W.instObj C dx) ∧
      ∃ mA, h.Ns1 dx mA ∧ (∀ f, RelO (fs.lookup f) (mA f)) ∧ PySem.Within mA (fs.map (·.1))
  | .own _ => ∃ o, h.get? a = some o
  | .xd fs => ∃ mA, h.Ns1 a mA ∧ ∀ f, RelO (fs.lookup f) (mA f)
  | .rng lo hi => ∃ t u v, h.get? a = some { cls := .type "range", data := .fields #[.int lo t, .int hi u, .int 1 v] }
  | .frz o u => h.get? a = some o ∧ ObjOk H h a u
  | .tbl ps => h.get? a = some { cls := .none, data := .fields ps }
  | .met f x => h.get? a = some (PySem.W.methodObj (.ref f) (.ref x))
  | .ext φ => φ h ∧ (∃ o, h.get? a = some o) ∧ ∀ h1 h2 : Heap, φ h1 → (∀ o, h1.get? a = some o → h2.get? a = some o) → φ h2
/-- the abstract heap is held -/
def HOk (H : Hp) (h : Heap) : Prop := ∀ a o, H a = some o → ObjOk P w H h a o
end

section
variable {P : Program} {w : World} {H H' : Hp} {h h' : Heap} {a : Addr} {o : HO}
theorem ObjOk.lt (x : ObjOk P w H h a o) : a < h.objs.size := by
  cases o with
  | lst xs => obtain ⟨_, _, _, _, e⟩ := x; exact Heap.lt_size e
  | tup xs => obtain ⟨_, _, _, p⟩ := x; exact p.lt
  | dK kvs => obtain ⟨_, _, _, _, o, _, _, e, _⟩ := x; exact Heap.lt_size e
  | dT kvs => obtain ⟨_, _, _, _, o, _, _, e, _⟩ := x; exact Heap.lt_size e
  | set S n => obtain ⟨o, _, _, _, e, _⟩ := x; exact Heap.lt_size e
  | ins C dx fs => obtain ⟨_, _, _, e, _⟩ := x; exact Heap.lt_size e
  | own y => obtain ⟨_, e⟩ := x; exact Heap.lt_size e
  | xd fs => obtain ⟨_, ⟨_, _, _, e, _⟩, _⟩ := x; exact Heap.lt_size e
  | rng lo hi => obtain ⟨_, _, _, e⟩ := x; exact Heap.lt_size e
  | frz ob u => obtain ⟨e, _⟩ := x; exact Heap.lt_size e
  | tbl ps => exact Heap.lt_size (show h.get? a = some _ from x)
  | met f y => exact Heap.lt_size (show h.get? a = some _ from x)
  | ext φ => obtain ⟨_, ⟨_, e⟩, _⟩ := x; exact Heap.lt_size e
theorem Paired.mapP {α β : Type} {F G : α → β → Prop} : ∀ {l₁ : List α} {l₂ : List β}, Paired F l₁ l₂ → (∀ a b, F a b → G a b) → Paired G l₁ l₂
  | _, _, .nil, _ => .nil
  | _, _, .cons r t, f => .cons (f _ _ r) (Paired.mapP t f)
/-- what an object's description leans on: its own object, its own dict, the tuples -/
theorem ObjOk.stay (x : ObjOk P w H h a o) (k : ∀ b u, (b = a ∨ H b = some (.own a)) → h.get? b = some u → h'.get? b = some u)
    (ho : ∀ b, H b = some (.own a) → H' b = some (.own a)) (ht : ∀ b xs, H b = some (.tup xs) → H' b = some (.tup xs)) : ObjOk P w H' h' a o := by
  induction o with
  | lst xs => obtain ⟨z, its, n, r, e⟩ := x; exact ⟨z, its, n, r, k _ _ (.inl rfl) e⟩
  | tup xs => obtain ⟨z, its, r, ob, e, c⟩ := x; exact ⟨z, its, r, ob, k _ _ (.inl rfl) e, c⟩
  | dK kvs => obtain ⟨z, y, vs, r, ob, es, ep, e, c⟩ := x; exact ⟨z, y, vs, r, ob, es, ep, k _ _ (.inl rfl) e, c⟩
  | dT kvs =>
    obtain ⟨z, y, xs, r, ob, es, ep, e, c⟩ := x
    exact ⟨z, y, xs, Paired.mapP r fun p q z => ⟨z.1, ht _ _ z.2.1, z.2.2⟩, ob, es, ep, k _ _ (.inl rfl) e, c⟩
  | set S n => obtain ⟨ob, es, ep, t, e, c⟩ := x; exact ⟨ob, es, ep, t, k _ _ (.inl rfl) e, c⟩
  | ins C dx fs =>
    obtain ⟨d, z, ne, e, mA, ⟨od, es, ep, e2, c⟩, r⟩ := x
    exact ⟨ho _ d, z, ne, k _ _ (.inl rfl) e, mA, ⟨od, es, ep, k _ _ (.inr d) e2, c⟩, r⟩
  | own y => obtain ⟨ob, e⟩ := x; exact ⟨ob, k _ _ (.inl rfl) e⟩
  | xd fs => obtain ⟨mA, ⟨od, es, ep, e, c⟩, r⟩ := x; exact ⟨mA, ⟨od, es, ep, k _ _ (.inl rfl) e, c⟩, r⟩
  | rng lo hi => obtain ⟨t, u, v, e⟩ := x; exact ⟨t, u, v, k _ _ (.inl rfl) e⟩
  | frz ob u ih => obtain ⟨e, q⟩ := x; exact ⟨k _ _ (.inl rfl) e, ih q⟩
  | tbl ps =>
    have e : h.get? a = some { cls := .none, data := .fields ps } := x
    show h'.get? a = some { cls := .none, data := .fields ps }
    exact k a _ (.inl rfl) e
  | met f y =>
    have e : h.get? a = some (PySem.W.methodObj (.ref f) (.ref y)) := x
    show h'.get? a = some (PySem.W.methodObj (.ref f) (.ref y))
    exact k a _ (.inl rfl) e
  | ext φ => obtain ⟨p, ⟨o, e⟩, st⟩ := x; exact ⟨st _ _ p fun o q => k _ _ (.inl rfl) q, ⟨o, k _ _ (.inl rfl) e⟩, st⟩
theorem HOk.lt (x : HOk P w H h) (e : H a = some o) : a < h.objs.size := (x a o e).lt
theorem HOk.fresh (x : HOk P w H h) (e : h.objs.size ≤ a) : H a = none := by
  cases q : H a with
  | none => rfl
  | some u => exact absurd (Nat.lt_of_lt_of_le (x.lt q) e) (Nat.lt_irrefl _)
/-- every object of the heap is kept -/
theorem HOk.kept (x : HOk P w H h) (k : ∀ b u, h.get? b = some u → h'.get? b = some u) : HOk P w H h' := fun a o e =>
  (x a o e).stay (fun b u _ q => k b u q) (fun _ q => q) fun _ _ q => q
/-- a new object is laid and tracked -/
theorem HOk.laid (x : HOk P w H h) (k : ∀ b u, h.get? b = some u → h'.get? b = some u) (hp : h.objs.size ≤ a) (new : ObjOk P w (upd H a o) h' a o) : HOk P w (upd H a o) h' := fun b u e => by
  have hn := x.fresh hp
  by_cases hb : b = a
  · subst hb; rw [upd_same] at e; cases e; exact new
  · rw [upd_ne hb] at e
    exact (x b u e).stay (fun c v _ q => k c v q) (fun c q => by rw [upd_ne (ne_of_none q hn)]; exact q) fun c xs q => by rw [upd_ne (ne_of_none q hn)]; exact q
end

/-- what may be read as u: it is u, or a known u -/
def Rd (H : Hp) (a : Addr) (u : HO) : Prop := H a = some u ∨ ∃ o, H a = some (.frz o u)
theorem Rd.of {H : Hp} {a : Addr} {u : HO} (h : H a = some u) : Rd H a u := .inl h
theorem Rd.ok {P : Program} {w : World} {H : Hp} {h : Heap} {a : Addr} {u : HO} (r : Rd H a u) (x : HOk P w H h) : ObjOk P w H h a u := by
  rcases r with r | ⟨o, r⟩
  · exact x a u r
  · obtain ⟨_, q⟩ := x a _ r
    exact q
/-- what may be written -/
def Mut : Option HO → Prop
  | some (.lst _) => True
  | some (.dK _) => True
  | some (.dT _) => True
  | some (.set _ _) => True
  | some (.ins _ _ _) => True
  | some (.ext _) => True
  | _ => False
section
variable {P : Program} {w : World} {H : Hp} {h h' : Heap} {x e : Addr} {o' : HO}
/-- the object at e is changed: x itself, or the dict of the instance x -/
theorem HOk.write (ok : HOk P w H h) (mu : Mut (H x)) (he : e = x ∨ H e = some (.own x)) (k : ∀ b u, b ≠ e → h.get? b = some u → h'.get? b = some u) (heo : ∃ u, h'.get? e = some u)
    (new : ObjOk P w (upd H x o') h' x o') : HOk P w (upd H x o') h' := fun b u q => by
  have nown : ∀ c y, H c = some (.own y) → c ≠ x := fun c y r z => by subst z; rw [r] at mu; exact mu
  have ntup : ∀ c xs, H c = some (.tup xs) → c ≠ x := fun c xs r z => by subst z; rw [r] at mu; exact mu
  by_cases hb : b = x
  · subst hb; rw [upd_same] at q; cases q; exact new
  · rw [upd_ne hb] at q
    by_cases hbe : b = e
    · have q' : H b = some (.own x) := by
        rcases he with z | z
        · exact absurd (hbe.trans z) hb
        · rw [hbe]; exact z
      rw [q] at q'; cases q'
      obtain ⟨v, hv⟩ := heo
      exact ⟨v, by rw [hbe]; exact hv⟩
    · refine (ok b u q).stay (fun c v hc r => k c v ?_ r) (fun c r => by rw [upd_ne (nown c b r)]; exact r) fun c xs r => by rw [upd_ne (ntup c xs r)]; exact r
      rcases hc with rfl | hc
      · exact hbe
      · rintro rfl
        rcases he with z | z
        · exact nown c b hc z
        · rw [hc] at z; cases z; exact hb rfl
end

structure Un (fs ex : List Addr) (H H' : Hp) (h h' : Heap) : Prop where
  keep : ∀ b o, h.get? b = some o → H b = none → b ∉ fs → b ∉ ex → h'.get? b = some o
  slot : ∀ b o, h.get? b = some o → H b = none → b ∈ fs → b ∉ ex → ∃ sl, h'.get? b = some { o with slots := sl }
  free : ∀ b o, h.get? b = some o → H b = none → b ∉ ex → H' b = none
  there : ∀ b o, h.get? b = some o → b ∉ ex → ∃ o', h'.get? b = some o'
  tups : ∀ b xs, H b = some (.tup xs) → H' b = some (.tup xs)
  frzs : ∀ b o u, H b = some (.frz o u) → H' b = some (.frz o u)
  tbls : ∀ b ps, H b = some (.tbl ps) → ∃ more, H' b = some (.tbl (ps ++ more))
section
variable {fs fs' ex ex' : List Addr} {H H1 H2 : Hp} {h h1 h2 h' : Heap} {a x e : Addr} {o : HO}
theorem Un.any (u : Un fs ex H H1 h h1) {b : Addr} {ob : Obj} (q : h.get? b = some ob) (n : H b = none) (hx : b ∉ ex) : ∃ sl, h1.get? b = some { ob with slots := sl } := by
  by_cases hb : b ∈ fs
  · exact u.slot b ob q n hb hx
  · exact ⟨ob.slots, u.keep b ob q n hb hx⟩
theorem Un.trans (a : Un fs ex H H1 h h1) (b : Un fs ex H1 H2 h1 h2) : Un fs ex H H2 h h2 where
  keep := fun c ob q n hc hx => b.keep c ob (a.keep c ob q n hc hx) (a.free c ob q n hx) hc hx
  slot := fun c ob q n hc hx => by
    obtain ⟨sl, e1⟩ := a.slot c ob q n hc hx
    obtain ⟨sl', e2⟩ := b.slot c _ e1 (a.free c ob q n hx) hc hx
    exact ⟨sl', e2⟩
  free := fun c ob q n hx => by
    obtain ⟨o', e1⟩ := a.there c ob q hx
    exact b.free c o' e1 (a.free c ob q n hx) hx
  there := fun c ob q hx => by
    obtain ⟨o', e1⟩ := a.there c ob q hx
    exact b.there c o' e1 hx
  tups := fun c xs q => b.tups c xs (a.tups c xs q)
  frzs := fun c ob xs q => b.frzs c ob xs (a.frzs c ob xs q)
  tbls := fun c ps q => by
    obtain ⟨m1, e1⟩ := a.tbls c ps q
    obtain ⟨m2, e2⟩ := b.tbls c _ e1
    exact ⟨m1 ++ m2, by rw [e2, Array.append_assoc]⟩
theorem Un.kept (k : ∀ b u, h.get? b = some u → h'.get? b = some u) : Un fs ex H H h h' :=
  ⟨fun b ob q _ _ _ => k b ob q, fun b ob q _ _ _ => ⟨ob.slots, k b ob q⟩, fun _ _ _ n _ => n, fun b ob q _ => ⟨ob, k b ob q⟩, fun _ _ q => q, fun _ _ _ q => q, fun _ ps q => ⟨#[], by rw [q]; simp⟩⟩
theorem Un.refl : Un fs ex H H h h := Un.kept fun _ _ q => q
theorem Un.laid (k : ∀ b u, h.get? b = some u → h'.get? b = some u) (hp : h.objs.size ≤ a) (hn : H a = none) : Un fs ex H (upd H a o) h h' where
  keep := fun b u q _ _ _ => k b u q
  slot := fun b u q _ _ _ => ⟨u.slots, k b u q⟩
  free := fun b u q n _ => by rw [upd_ne (Nat.ne_of_lt (Nat.lt_of_lt_of_le (Heap.lt_size q) hp))]; exact n
  there := fun b u q _ => ⟨u, k b u q⟩
  tups := fun b xs q => by rw [upd_ne (ne_of_none q hn)]; exact q
  frzs := fun b u xs q => by rw [upd_ne (ne_of_none q hn)]; exact q
  tbls := fun b ps q => ⟨#[], by rw [upd_ne (ne_of_none q hn), q]; simp⟩
theorem Un.write (mu : Mut (H x)) (he : e = x ∨ H e = some (.own x)) (k : ∀ b u, b ≠ e → h.get? b = some u → h'.get? b = some u) (heo : ∃ u, h'.get? e = some u) : Un fs ex H (upd H x o) h h' := by
  have hx : ∀ b, H b = none → b ≠ x := fun b n z => by subst z; rw [n] at mu; exact mu
  have hb : ∀ b, H b = none → b ≠ e := fun b n z => by
    subst z
    rcases he with r | r
    · exact hx b n r
    · rw [n] at r; cases r
  have hm : ∀ b u, H b = some u → ¬ Mut (some u) → b ≠ x := fun b u q nm z => by subst z; rw [q] at mu; exact nm mu
  refine ⟨fun b u q n _ _ => k b u (hb b n) q, fun b u q n _ _ => ⟨u.slots, k b u (hb b n) q⟩, fun b u q n _ => by rw [upd_ne (hx b n)]; exact n, fun b u q _ => ?_,
    fun b xs q => by rw [upd_ne (hm b _ q fun z => z)]; exact q, fun b u xs q => by rw [upd_ne (hm b _ q fun z => z)]; exact q, fun b ps q => ⟨#[], by rw [upd_ne (hm b _ q fun z => z), q]; simp⟩⟩
  by_cases hbe : b = e
  · subst hbe; exact heo
  · exact ⟨u, k b u hbe q⟩
theorem Un.mono (u : Un fs ex H H1 h h1) (hs : ∀ b ∈ fs, b ∈ fs') (hx : ∀ b ∈ ex, b ∈ ex') : Un fs' ex' H H1 h h1 :=
  ⟨fun b ob q n hb he => u.keep b ob q n (fun z => hb (hs b z)) fun z => he (hx b z), fun _ _ q n _ he => u.any q n fun z => he (hx _ z), fun b ob q n he => u.free b ob q n fun z => he (hx b z), fun b ob q he => u.there b ob q fun z => he (hx b z), u.tups, u.frzs, u.tbls⟩
end

def trk (h : Heap) (H : Hp) : List Addr := (List.range h.objs.size).filter fun a => (H a).isSome
def hidT (h : Heap) (H : Hp) : Heap := PySem.W.hideAll h (trk h H)
theorem hidT_size (h : Heap) (H : Hp) : (hidT h H).objs.size = h.objs.size := PySem.W.hideAll_size _ _
theorem hidT_get {h : Heap} {H : Hp} {b : Addr} {o : Obj} (e : h.get? b = some o) (n : H b = none) : (hidT h H).get? b = some o :=
  PySem.W.hideAll_get _ e fun hm => by
    have q : (H b).isSome = true := (List.mem_filter.mp hm).2
    rw [n] at q; simp at q
theorem of_hidT {h : Heap} {H : Hp} {b : Addr} {o : Obj} (e : (hidT h H).get? b = some o) : h.get? b = some o ∧ H b = none := by
  have e' : h.get? b = some o := PySem.W.of_hideAll (trk h H) e
  refine ⟨e', ?_⟩
  cases q : H b with
  | none => rfl
  | some x =>
    have hm : b ∈ trk h H := List.mem_filter.mpr ⟨List.mem_range.mpr (Heap.lt_size e'), by simp [q]⟩
    have z : (hidT h H).get? b = none := PySem.W.hideAll_none (trk h H) hm
    rw [z] at e; cases e

def allNews (g h : Heap) (L : Addr) : List (Addr × Obj) := (List.range h.objs.size).filterMap fun a => if a = L ∨ (g.get? a).isSome = true then none else (h.get? a).map fun o => (a, o)
def rest (g h : Heap) (L d : Addr) : List (Addr × Obj) := (allNews g h L).filter fun p => decide (p.1 ≠ d)
end L2

namespace L2
open PySem PySem.Spec PyProof.Rows

/-- the module's facts, over the base: the heap at the law's entry without what is tracked there -/
structure Mod (K : PySem.W.Frag) (mg : Str → Option Value) (base : Heap) : Prop where
  kin : K.In base
  glob : base.Ns mainGlobals mg
  blt : ∃ mb, base.Ns builtinsNs mb ∧ ∀ x : Str, x ≠ "__name__" → mb x = bootBuiltins x
  nolimit : base.NoLimit

/-- the context: a def's body (or a comprehension's block) running. base: fixed through the whole law; s₀, H₀: the entry; outer: the frames whose slots others may change (a def's callers); stack: all frames that run;
   ex: iterators that were made ahead of the entry and are walked here (a comprehension's); fn: the names whose cells were made at the entry (a def: all; a comprehension's block: its own); calm: not within an except suite; pn: pins that every state bears; xe: what is wanted of an exception that leaves the code -/
structure Cx where
  prog : Program
  w : World
  K : PySem.W.Frag
  mg : Str → Option Value
  base : Heap
  A : Around
  N : List Str
  s₀ : Shared
  H₀ : Hp
  env : Env
  outer : List Env
  stack : List Env
  ex : List Addr
  fn : Str → Bool
  calm : Bool
  pn : List (Addr × Obj)
  xe : Value → Shared → Prop
/-- the callers' frames -/
def frs (l : List Env) : List Addr := l.filterMap (·.frame)
abbrev Cx.fs (X : Cx) : List Addr := frs X.outer

def Vis (sc : Scope) (x : Str) : Prop := sc.names.lookup x = some .local ∨ sc.names.lookup x = some .cell ∨ sc.names.lookup x = some .free
def Loc (sc : Scope) (x : Str) : Prop := sc.names.lookup x = some .local ∨ sc.names.lookup x = some .cell
def Look (env : Env) (h : Heap) (m : Str → Option Value) (x : Str) (u : Value) : Prop :=
  (env.kindOf x = some .local ∧ m x = some u) ∨ ((env.kindOf x = some .cell ∨ env.kindOf x = some .free) ∧ ∃ c, env.cells.lookup x = some c ∧ h.IsCell c (some u))

structure Cx.Ok (X : Cx) : Prop where
  mod : Mod X.K X.mg X.base
  kind : X.env.scope.kind = .function
  glob : X.env.globals = mainGlobals
  blt : X.env.builtins = builtinsNs
  above : X.s₀.heap.objs.size ≤ X.env.locals
  inj : ∀ x y c, X.env.cells.lookup x = some c → X.env.cells.lookup y = some c → x = y
  has : ∀ x, (X.env.kindOf x = some .cell ∨ X.env.kindOf x = some .free) → ∃ c, X.env.cells.lookup x = some c
  cab : ∀ x c, X.fn x = true → X.env.cells.lookup x = some c → X.s₀.heap.objs.size ≤ c
  hd : X.calm = true → X.A.handled = none
  frames : X.A.frames = some X.stack
  stk : X.stack = X.outer ∨ (X.stack = X.env :: X.outer ∧ X.env.frame = some X.env.locals)
  exf : ∀ b ∈ X.ex, b ≠ X.env.locals ∧ ∀ x c, X.env.cells.lookup x = some c → c ≠ b
  bs : ∀ b o, X.base.get? b = some o → X.s₀.heap.get? b = some o ∧ X.H₀ b = none
  bsz : X.base.objs.size ≤ X.s₀.heap.objs.size
  noex : ∀ b o, X.base.get? b = some o → b ∉ X.ex
  exfs : ∀ b ∈ X.ex, b ∉ X.fs
  funs : X.s₀.heap.FunFrames X.base X.outer
  frf : ∀ b ∈ X.fs, X.H₀ b = none

structure Inv (X : Cx) (pins : List (Addr × Obj)) (σ : List (Option V)) (H : Hp) (s : Shared) : Prop where
  ok : X.Ok
  os : s.os = X.s₀.os
  bare : AllBare s.gens
  base : Un X.fs X.ex X.H₀ H X.s₀.heap s.heap
  loc : ∃ m, s.heap.Ns X.env.locals m ∧ ∀ (i : Nat) (x : Str) (v : V), X.N[i]? = some x → σ[i]? = some (some v) → Vis X.env.scope x → ∃ u, RelV v u ∧ Look X.env s.heap m x u
  cell : ∀ x c, X.env.cells.lookup x = some c → ∃ v, s.heap.IsCell c v
  free : H X.env.locals = none
  freeC : ∀ x c, X.env.cells.lookup x = some c → H c = none
  pin : ∀ p ∈ X.pn ++ pins, s.heap.get? p.1 = some p.2 ∧ H p.1 = none ∧ p.1 ≠ X.env.locals ∧ p.1 ∉ X.fs ∧ ∀ v, p.2.data ≠ .cell v
  hok : HOk X.prog X.w H s.heap
  len : σ.length = X.N.length

section
variable {X : Cx} {pins : List (Addr × Obj)} {σ : List (Option V)} {H H' : Hp} {s : Shared} {h' : Heap}

theorem Cx.Ok.nofr (ok : X.Ok) {b : Addr} {o : Obj} (e : X.base.get? b = some o) : b ∉ X.fs := fun hb => by
  have := (ok.funs.mem hb).1
  rw [e] at this; cases this
theorem Inv.bs (I : Inv X pins σ H s) : ∀ b o, X.base.get? b = some o → s.heap.get? b = some o ∧ H b = none := fun b o e =>
  ⟨I.base.keep b o (I.ok.bs b o e).1 (I.ok.bs b o e).2 (I.ok.nofr e) (I.ok.noex b o e), I.base.free b o (I.ok.bs b o e).1 (I.ok.bs b o e).2 (I.ok.noex b o e)⟩
theorem Inv.bk (I : Inv X pins σ H s) : ∀ b o, X.base.get? b = some o → s.heap.get? b = some o := fun b o e => (I.bs b o e).1
theorem Inv.mod (I : Inv X pins σ H s) : Mod X.K X.mg X.base := I.ok.mod
theorem Inv.kIn (I : Inv X pins σ H s) : X.K.In s.heap := I.ok.mod.kin.keeps I.bk
theorem Inv.nolimit (I : Inv X pins σ H s) : s.heap.NoLimit := I.ok.mod.nolimit.keeps I.bk
/-- the frame over the base: for OpenK's rules (K.In X.base is I.mod.kin) -/
theorem Inv.fr (I : Inv X pins σ H s) : ∃ m, Fr X.base X.env.locals s.heap m :=
  let ⟨m, hn, _⟩ := I.loc
  ⟨m, hn, I.bk, Nat.le_trans I.ok.bsz I.ok.above⟩
theorem Inv.lt (I : Inv X pins σ H s) : X.env.locals < s.heap.objs.size := let ⟨_, hn, _⟩ := I.loc; hn.lt
theorem Inv.sz (I : Inv X pins σ H s) : X.s₀.heap.objs.size ≤ s.heap.objs.size := Nat.le_trans I.ok.above (Nat.le_of_lt I.lt)
theorem Inv.nofs (I : Inv X pins σ H s) {a : Addr} (h : s.heap.objs.size ≤ a) : a ∉ X.fs := fun hb => by
  obtain ⟨_, o, ho, _⟩ := I.ok.funs.mem hb
  exact absurd (Nat.lt_of_lt_of_le (Heap.lt_size ho) (Nat.le_trans I.sz h)) (Nat.lt_irrefl _)
theorem Inv.cne (I : Inv X pins σ H s) : ∀ x c, X.env.cells.lookup x = some c → c ≠ X.env.locals := fun x c e z => by
  obtain ⟨v, o, ho, hd⟩ := I.cell x c e
  obtain ⟨m, ⟨o', es, ep, ho', hd', _⟩, _⟩ := I.loc
  rw [z, ho'] at ho; cases ho; rw [hd'] at hd; cases hd
theorem Inv.funs (I : Inv X pins σ H s) : s.heap.FunFrames X.base X.outer := by
  have all : ∀ (l : List Env), (∀ b ∈ frs l, b ∈ X.fs) → X.s₀.heap.FunFrames X.base l → s.heap.FunFrames X.base l := by
    intro l
    induction l with
    | nil => intro _ _; trivial
    | cons env r ih =>
      intro hs hl
      obtain ⟨hk, ⟨L, o, hf, hn, ho, hd⟩, hr⟩ := hl
      have hL : L ∈ X.fs := hs L (by unfold frs; rw [List.filterMap_cons, hf]; exact List.mem_cons_self)
      obtain ⟨sl, e⟩ := I.base.slot L o ho (I.ok.frf L hL) hL fun z => I.ok.exfs L z hL
      exact ⟨hk, ⟨L, _, hf, hn, e, hd⟩, ih (fun b hb => hs b (by unfold frs; rw [List.filterMap_cons, hf]; exact List.mem_cons_of_mem _ hb)) hr⟩
  exact all X.outer (fun _ hb => hb) I.ok.funs

/-- the frames that run, for a call -/
theorem Inv.stack (I : Inv X pins σ H s) : s.heap.FunFrames X.base X.stack := by
  rcases I.ok.stk with e | ⟨e, hf⟩
  · rw [e]; exact I.funs
  · rw [e]
    obtain ⟨m, hn, _⟩ := I.loc
    refine .cons (by rw [I.ok.kind]; decide) hf hn ?_ I.funs
    exact Heap.get?_none_of_le (Nat.le_trans I.ok.bsz I.ok.above)
theorem Inv.stkSub (I : Inv X pins σ H s) : ∀ b ∈ frs X.stack, b ∈ X.env.locals :: X.fs := fun b hb => by
  rcases I.ok.stk with e | ⟨e, hf⟩
  · rw [e] at hb; exact List.mem_cons_of_mem _ hb
  · rw [e] at hb
    unfold frs at hb
    rw [List.filterMap_cons, hf] at hb
    exact hb
theorem Inv.stkFree (I : Inv X pins σ H s) : ∀ b ∈ frs X.stack, H b = none := fun b hb => by
  rcases List.mem_cons.mp (I.stkSub b hb) with e | hb
  · rw [e]; exact I.free
  · obtain ⟨_, o, ho, _⟩ := I.ok.funs.mem hb
    exact I.base.free b o ho (I.ok.frf b hb) fun z => I.ok.exfs b z hb

/-- THE STEP: the untracked objects but the frame and the records at ch are kept (the callers' frames up to slots), the frame's map is kept, the new abstract heap is held -/
theorem Inv.step {g' : Array GenState} {t' : Nat} {d' : Drawn} {ch : List Addr} (I : Inv X pins σ H s)
    (hch : ∀ b ∈ ch, (b ∈ X.ex ∨ X.s₀.heap.objs.size ≤ b) ∧ b ≠ X.env.locals ∧ (∀ x c, X.env.cells.lookup x = some c → c ≠ b) ∧ ∀ p ∈ X.pn ++ pins, p.1 ≠ b)
    (keep : ∀ b o, b ≠ X.env.locals → b ∉ X.fs → b ∉ ch → s.heap.get? b = some o → H b = none → h'.get? b = some o)
    (slot : ∀ b o, b ≠ X.env.locals → b ∈ X.fs → b ∉ ch → s.heap.get? b = some o → H b = none → ∃ sl, h'.get? b = some { o with slots := sl }) (free : ∀ b o, b ∉ ch → s.heap.get? b = some o → H b = none → H' b = none)
    (there : ∀ b o, b ∉ ch → s.heap.get? b = some o → ∃ o', h'.get? b = some o')
    (tups : ∀ b xs, H b = some (.tup xs) → H' b = some (.tup xs)) (frzs : ∀ b o u, H b = some (.frz o u) → H' b = some (.frz o u)) (tbls : ∀ b ps, H b = some (.tbl ps) → ∃ more, H' b = some (.tbl (ps ++ more)))
    (ns : ∀ m, s.heap.Ns X.env.locals m → h'.Ns X.env.locals m) (hok : HOk X.prog X.w H' h') (hg : AllBare g') :
    Inv X pins σ H' { s with heap := h', gens := g', drawn := d', toks := t' } := by
  have neL : ∀ b o, X.s₀.heap.get? b = some o → b ≠ X.env.locals := fun b o e => Nat.ne_of_lt (Nat.lt_of_lt_of_le (Heap.lt_size e) I.ok.above)
  have neC : ∀ b o, X.s₀.heap.get? b = some o → b ∉ X.ex → b ∉ ch := fun b o e hx hb => by
    rcases (hch b hb).1 with z | z
    · exact hx z
    · exact absurd (Nat.lt_of_lt_of_le (Heap.lt_size e) z) (Nat.lt_irrefl _)
  have cellK : ∀ x c, X.env.cells.lookup x = some c → ∀ v, s.heap.IsCell c v → h'.IsCell c v := fun x c e v ⟨o, ho, hd⟩ => by
    have nch : c ∉ ch := fun z => (hch c z).2.2.1 x c e rfl
    by_cases hc : c ∈ X.fs
    · obtain ⟨sl, q⟩ := slot c o (I.cne x c e) hc nch ho (I.freeC x c e)
      exact ⟨_, q, hd⟩
    · exact ⟨o, keep c o (I.cne x c e) hc nch ho (I.freeC x c e), hd⟩
  refine ⟨I.ok, I.os, hg, ⟨fun b o e n hb hx => ?_, fun b o e n hb hx => ?_, fun b o e n hx => ?_, fun b o e hx => ?_, fun b xs e => tups b xs (I.base.tups b xs e), fun b o xs e => frzs b o xs (I.base.frzs b o xs e), fun b ps e => ?_⟩, ?_, fun x c e => ?_, ?_, fun x c e => ?_, fun p hp => ?_, hok, I.len⟩
  · exact keep b o (neL b o e) hb (neC b o e hx) (I.base.keep b o e n hb hx) (I.base.free b o e n hx)
  · obtain ⟨sl, e1⟩ := I.base.slot b o e n hb hx
    obtain ⟨sl', e2⟩ := slot b _ (neL b o e) hb (neC b o e hx) e1 (I.base.free b o e n hx)
    exact ⟨sl', e2⟩
  · obtain ⟨o', e1⟩ := I.base.there b o e hx
    exact free b o' (neC b o e hx) e1 (I.base.free b o e n hx)
  · obtain ⟨o', e1⟩ := I.base.there b o e hx
    exact there b o' (neC b o e hx) e1
  · obtain ⟨m1, e1⟩ := I.base.tbls b ps e
    obtain ⟨m2, e2⟩ := tbls b _ e1
    exact ⟨m1 ++ m2, by rw [e2, Array.append_assoc]⟩
  · obtain ⟨m, hn, hl⟩ := I.loc
    refine ⟨m, ns m hn, fun i x v e1 e2 e3 => ?_⟩
    obtain ⟨u, r, l⟩ := hl i x v e1 e2 e3
    refine ⟨u, r, ?_⟩
    rcases l with l | ⟨k, c, e, z⟩
    · exact .inl l
    · exact .inr ⟨k, c, e, cellK x c e _ z⟩
  · obtain ⟨v, z⟩ := I.cell x c e
    exact ⟨v, cellK x c e v z⟩
  · obtain ⟨m, ⟨o, _, _, ho, _⟩, _⟩ := I.loc
    exact free _ o (fun z => (hch _ z).2.1 rfl) ho I.free
  · obtain ⟨v, o, ho, hd⟩ := I.cell x c e
    exact free c o (fun z => (hch c z).2.2.1 x c e rfl) ho (I.freeC x c e)
  · obtain ⟨e, n, ne, nf, d⟩ := I.pin p hp
    have nch : p.1 ∉ ch := fun z => (hch p.1 z).2.2.2 p hp rfl
    exact ⟨keep p.1 p.2 ne nf nch e n, free p.1 p.2 nch e n, ne, nf, d⟩
/-- .. where the frame's own object is kept too -/
theorem Inv.un {t' : Nat} (I : Inv X pins σ H s) (u : Un X.fs [] H H' s.heap h') (hok : HOk X.prog X.w H' h') : Inv X pins σ H' { s with heap := h', toks := t' } := by
  obtain ⟨m, ⟨o, es, ep, ho, r⟩, _⟩ := id I.loc
  obtain ⟨sl, hL⟩ := u.any ho I.free (by simp)
  exact I.step (g' := s.gens) (d' := s.drawn) (ch := []) (fun _ z => nomatch z) (fun b o _ hb _ e n => u.keep b o e n hb (by simp)) (fun b o _ hb _ e n => u.slot b o e n hb (by simp)) (fun b o _ e n => u.free b o e n (by simp)) (fun b o _ e => u.there b o e (by simp)) u.tups u.frzs u.tbls (fun m' hm => by
    obtain ⟨o', es', ep', ho', r'⟩ := hm
    rw [ho] at ho'; cases ho'
    exact ⟨_, es', ep', hL, r'⟩) hok I.bare
/-- behind a call (or a comprehension's block): the slots of this frame may have changed too, the records at ch may have turned -/
theorem Inv.call {g' : Array GenState} {t' : Nat} {d' : Drawn} {ch : List Addr} (I : Inv X pins σ H s) (u : Un (frs X.stack) ch H H' s.heap h') (hok : HOk X.prog X.w H' h') (hg : AllBare g')
    (hch : ∀ b ∈ ch, (b ∈ X.ex ∨ X.s₀.heap.objs.size ≤ b) ∧ b ≠ X.env.locals ∧ (∀ x c, X.env.cells.lookup x = some c → c ≠ b) ∧ ∀ p ∈ X.pn ++ pins, p.1 ≠ b) :
    Inv X pins σ H' { s with heap := h', gens := g', drawn := d', toks := t' } := by
  obtain ⟨m, ⟨o, es, ep, ho, r⟩, _⟩ := id I.loc
  obtain ⟨sl, hL⟩ := u.any ho I.free fun z => (hch _ z).2.1 rfl
  exact I.step (ch := ch) hch (fun b o hL hb hc e n => u.keep b o e n (fun z => (List.mem_cons.mp (I.stkSub b z)).elim hL hb) hc) (fun b o _ _ hc e n => u.any e n hc) (fun b o hc e n => u.free b o e n hc) (fun b o hc e => u.there b o e hc) u.tups u.frzs u.tbls (fun m' hm => by
    obtain ⟨o', es', ep', ho', r'⟩ := hm
    rw [ho] at ho'; cases ho'
    exact ⟨_, es', ep', hL, r'⟩) hok hg
/-- an untracked record of ours (an iterator) has turned -/
theorem Inv.turned {t' : Nat} {it : Addr} (I : Inv X pins σ H s) (k : ∀ b o, b ≠ it → s.heap.get? b = some o → h'.get? b = some o) (hn : H it = none) (hL : it ≠ X.env.locals)
    (h1 : it ∈ X.ex ∨ X.s₀.heap.objs.size ≤ it) (h2 : ∀ x c, X.env.cells.lookup x = some c → c ≠ it) (h3 : ∀ p ∈ X.pn ++ pins, p.1 ≠ it) : Inv X pins σ H { s with heap := h', toks := t' } := by
  have nit : ∀ b u, H b = some u → b ≠ it := fun b u e z => by rw [z, hn] at e; cases e
  refine I.step (g' := s.gens) (d' := s.drawn) (ch := [it]) (fun b hb => ?_) (fun b o _ _ hc e _ => k b o (fun z => hc (by simp [z])) e) (fun b o _ _ hc e _ => ⟨o.slots, k b o (fun z => hc (by simp [z])) e⟩) (fun _ _ _ _ n => n)
    (fun b o hc e => ⟨o, k b o (fun z => hc (by simp [z])) e⟩) (fun _ _ e => e) (fun _ _ _ e => e) (fun b ps e => ⟨#[], by rw [e]; simp⟩) (fun m hm => ?_) (fun b u e => ?_) I.bare
  · have e : b = it := by simpa using hb
    subst e
    exact ⟨h1, hL, h2, h3⟩
  · obtain ⟨o, es, ep, ho, r⟩ := hm
    exact ⟨o, es, ep, k _ o (Ne.symm hL) ho, r⟩
  · refine (I.hok b u e).stay (fun c v hc q => k c v ?_ q) (fun _ q => q) fun _ _ q => q
    rcases hc with z | z
    · rw [z]; exact nit b u e
    · exact nit c _ z
theorem Inv.tok (I : Inv X pins σ H s) (t : Nat) : Inv X pins σ H { s with toks := t } := I.un (h' := s.heap) (t' := t) Un.refl I.hok
/-- all objects kept -/
theorem Inv.kept {t' : Nat} (I : Inv X pins σ H s) (k : ∀ b u, s.heap.get? b = some u → h'.get? b = some u) : Inv X pins σ H { s with heap := h', toks := t' } := I.un (Un.kept k) (I.hok.kept k)
/-- a new object laid and tracked -/
theorem Inv.laid {a : Addr} {o : HO} {t' : Nat} (I : Inv X pins σ H s) (k : ∀ b u, s.heap.get? b = some u → h'.get? b = some u) (hp : s.heap.objs.size ≤ a) (new : ObjOk X.prog X.w (upd H a o) h' a o) :
    Inv X pins σ (upd H a o) { s with heap := h', toks := t' } := I.un (Un.laid k hp (I.hok.fresh hp)) (I.hok.laid k hp new)
/-- an object written -/
theorem Inv.write {x e : Addr} {o : HO} {t' : Nat} (I : Inv X pins σ H s) (mu : Mut (H x)) (he : e = x ∨ H e = some (.own x)) (k : ∀ b u, b ≠ e → s.heap.get? b = some u → h'.get? b = some u) (heo : ∃ u, h'.get? e = some u)
    (new : ObjOk X.prog X.w (upd H x o) h' x o) : Inv X pins σ (upd H x o) { s with heap := h', toks := t' } := I.un (Un.write mu he k heo) (I.hok.write mu he k heo new)
theorem Inv.pins_of {pins' : List (Addr × Obj)} (I : Inv X pins σ H s) (h : ∀ p ∈ pins', s.heap.get? p.1 = some p.2 ∧ H p.1 = none ∧ p.1 ≠ X.env.locals ∧ p.1 ∉ X.fs ∧ ∀ v, p.2.data ≠ .cell v) : Inv X pins' σ H s :=
  ⟨I.ok, I.os, I.bare, I.base, I.loc, I.cell, I.free, I.freeC, fun p hp => (List.mem_append.mp hp).elim (fun z => I.pin p (List.mem_append_left _ z)) (h p), I.hok, I.len⟩

theorem nodup_ix {N : List Str} (hN : N.Nodup) {i j : Nat} {x : Str} (a : N[i]? = some x) (b : N[j]? = some x) : i = j := by
  obtain ⟨h1, e1⟩ := List.getElem?_eq_some_iff.mp a
  obtain ⟨h2, e2⟩ := List.getElem?_eq_some_iff.mp b
  exact (List.getElem_inj hN).mp (e1.trans e2.symm)

/-- a name is stored; what changed -/
theorem store_ok2 {M : Model} {A : Around} {E : Value → Shared → Prop} {i : Nat} {x : Str} {v : V} {u : Value} {Q : Unit → Shared → Prop} (I : Inv X pins σ H s) (hN : X.N.Nodup) (hi : X.N[i]? = some x) (hx : Loc X.env.scope x) (r : RelV v u)
    (h : ∀ s', Inv X pins (σ.set i (some v)) H s' → (∃ a, Heap.SameBut a s.heap s'.heap ∧ (a = X.env.locals ∨ X.env.cells.lookup x = some a)) → Q () s') (hf : X.fn x = true ∨ X.env.scope.names.lookup x = some .local := by first | exact .inl rfl | exact .inr rfl | assumption) : wpAny M A (storeName X.env x u) Q E s := by
  obtain ⟨m, hn, hl⟩ := id I.loc
  have hcls : (X.env.scope.kind == .class || (X.env.scope.kind == .module && X.env.locals != X.env.globals)) = false := by rw [I.ok.kind]; rfl
  have hiσ : i < σ.length := by rw [I.len]; exact (List.getElem?_eq_some_iff.mp hi).1
  have cne := I.cne
  have tracked : ∀ {a : Addr} {h' : Heap}, (∃ o, s.heap.get? a = some o ∧ H a = none) → Heap.SameBut a s.heap h' → HOk X.prog X.w H h' := fun {a h'} ha hs b ob e => by
    obtain ⟨_, _, hfree⟩ := ha
    refine (I.hok b ob e).stay (fun c w' hc q => (hs.2 c ?_).trans q) (fun _ q => q) fun _ _ q => q
    rintro rfl
    rcases hc with rfl | hc
    · rw [hfree] at e; cases e
    · rw [hfree] at hc; cases hc
  rcases hx with hk | hk
  · refine wpAny_storeName_local hk hn (fun h' hn' hs => ?_) hcls
    obtain ⟨oL, _, _, hoL, _⟩ := id hn
    refine h _ ⟨I.ok, I.os, I.bare, ⟨fun b o e n hb hx => ?_, fun b o e n hb hx => ?_, I.base.free, fun b o e hx => ?_, I.base.tups, I.base.frzs, I.base.tbls⟩, ⟨_, hn', fun j y v' e1 e2 e3 => ?_⟩, fun y c e => ?_, I.free, I.freeC, fun p hp => ?_, tracked ⟨oL, hoL, I.free⟩ hs, by simpa using I.len⟩ ⟨_, hs, .inl rfl⟩
    · exact (hs.2 b (Nat.ne_of_lt (Nat.lt_of_lt_of_le (Heap.lt_size e) I.ok.above))).trans (I.base.keep b o e n hb hx)
    · obtain ⟨sl, e1⟩ := I.base.slot b o e n hb hx
      exact ⟨sl, (hs.2 b (Nat.ne_of_lt (Nat.lt_of_lt_of_le (Heap.lt_size e) I.ok.above))).trans e1⟩
    · obtain ⟨o', e1⟩ := I.base.there b o e hx
      exact ⟨o', (hs.2 b (Nat.ne_of_lt (Nat.lt_of_lt_of_le (Heap.lt_size e) I.ok.above))).trans e1⟩
    · by_cases hj : j = i
      · subst hj
        rw [hi] at e1; cases e1
        rw [List.getElem?_set_self hiσ] at e2
        cases e2
        exact ⟨u, r, .inl ⟨hk, by simp⟩⟩
      · rw [List.getElem?_set_ne (Ne.symm hj)] at e2
        obtain ⟨u', r', q⟩ := hl j y v' e1 e2 e3
        refine ⟨u', r', ?_⟩
        rcases q with ⟨k, e⟩ | ⟨k, c, e, z⟩
        · refine .inl ⟨k, ?_⟩
          have : y ≠ x := fun e => hj (nodup_ix hN e1 (e ▸ hi))
          simp [this, e]
        · exact .inr ⟨k, c, e, z.sameBut hs (cne y c e)⟩
    · obtain ⟨w', z⟩ := I.cell y c e
      exact ⟨w', z.sameBut hs (cne y c e)⟩
    · obtain ⟨e, n, ne, nf, d⟩ := I.pin p hp
      exact ⟨(hs.2 p.1 ne).trans e, n, ne, nf, d⟩
  · have hfn : X.fn x = true := by
      rcases hf with z | z
      · exact z
      · rw [z] at hk; cases hk
    obtain ⟨c, hc⟩ := I.ok.has x (.inl hk)
    obtain ⟨w', z⟩ := I.cell x c hc
    refine wpAny_storeName_cell I.ok.kind hk hc z (fun h' hc' hs => ?_)
    obtain ⟨oc, hoc, hocd⟩ := id z
    refine h { s with heap := h' } ⟨I.ok, I.os, I.bare, ⟨fun b o e n hb hx => ?_, fun b o e n hb hx => ?_, I.base.free, fun b o e hx => ?_, I.base.tups, I.base.frzs, I.base.tbls⟩, ⟨m, hn.sameBut hs (Ne.symm (cne x c hc)), fun j y v' e1 e2 e3 => ?_⟩, fun y c' e => ?_, I.free, I.freeC, fun p hp => ?_, tracked ⟨oc, hoc, I.freeC x c hc⟩ hs, by simpa using I.len⟩ ⟨c, hs, .inr hc⟩
    · exact (hs.2 b (Nat.ne_of_lt (Nat.lt_of_lt_of_le (Heap.lt_size e) (I.ok.cab x c hfn hc)))).trans (I.base.keep b o e n hb hx)
    · obtain ⟨sl, e1⟩ := I.base.slot b o e n hb hx
      exact ⟨sl, (hs.2 b (Nat.ne_of_lt (Nat.lt_of_lt_of_le (Heap.lt_size e) (I.ok.cab x c hfn hc)))).trans e1⟩
    · obtain ⟨o', e1⟩ := I.base.there b o e hx
      exact ⟨o', (hs.2 b (Nat.ne_of_lt (Nat.lt_of_lt_of_le (Heap.lt_size e) (I.ok.cab x c hfn hc)))).trans e1⟩
    · by_cases hj : j = i
      · subst hj
        rw [hi] at e1; cases e1
        rw [List.getElem?_set_self hiσ] at e2
        cases e2
        exact ⟨u, r, .inr ⟨.inl hk, c, hc, hc'⟩⟩
      · rw [List.getElem?_set_ne (Ne.symm hj)] at e2
        obtain ⟨u', r', q⟩ := hl j y v' e1 e2 e3
        refine ⟨u', r', ?_⟩
        rcases q with q | ⟨k, c', e, z'⟩
        · exact .inl q
        · refine .inr ⟨k, c', e, z'.sameBut hs ?_⟩
          rintro rfl
          exact hj (nodup_ix hN e1 (I.ok.inj _ _ _ e hc ▸ hi))
    · by_cases hcc : c' = c
      · subst hcc; exact ⟨_, hc'⟩
      · obtain ⟨w2, z2⟩ := I.cell y c' e
        exact ⟨w2, z2.sameBut hs hcc⟩
    · obtain ⟨e, n, ne, nf, d⟩ := I.pin p hp
      refine ⟨(hs.2 p.1 ?_).trans e, n, ne, nf, d⟩
      intro q
      rw [q, hoc] at e
      have q' : oc = p.2 := Option.some.inj e
      exact d w' (by rw [← q']; exact hocd)
theorem store_ok {M : Model} {A : Around} {E : Value → Shared → Prop} {i : Nat} {x : Str} {v : V} {u : Value} {Q : Unit → Shared → Prop} (I : Inv X pins σ H s) (hN : X.N.Nodup) (hi : X.N[i]? = some x) (hx : Loc X.env.scope x) (r : RelV v u)
    (h : ∀ s', Inv X pins (σ.set i (some v)) H s' → Q () s') (hf : X.fn x = true ∨ X.env.scope.names.lookup x = some .local := by first | exact .inl rfl | exact .inr rfl | assumption) : wpAny M A (storeName X.env x u) Q E s :=
  store_ok2 I hN hi hx r (fun s' I' _ => h s' I') hf
/-- behind a call or a block, the state as it is -/
theorem Inv.call' {s' : Shared} {ch : List Addr} (I : Inv X pins σ H s) (ho : s'.os = s.os) (u : Un (frs X.stack) ch H H' s.heap s'.heap) (hok : HOk X.prog X.w H' s'.heap) (hg : AllBare s'.gens)
    (hch : ∀ b ∈ ch, (b ∈ X.ex ∨ X.s₀.heap.objs.size ≤ b) ∧ b ≠ X.env.locals ∧ (∀ x c, X.env.cells.lookup x = some c → c ≠ b) ∧ ∀ p ∈ X.pn ++ pins, p.1 ≠ b) : Inv X pins σ H' s' := by
  obtain ⟨h', g', d', t', o'⟩ := s'
  have e : o' = s.os := ho
  subst e
  exact I.call (g' := g') (t' := t') (d' := d') u hok hg hch
end

/-- an exception: its class, its own dict's address (where it has one), the abstract heap behind it -/
abbrev XK := Value → Option Addr → Hp → Prop
abbrev St := List (Option V)
abbrev VK := V → Hp → Prop
/-- an expression's reading; a test's; an argument list's -/
abbrev TE := St → Hp → VK → Prop
abbrev TT := St → Hp → (Bool → Hp → Prop) → Prop
abbrev TA := St → Hp → (List V → Hp → Prop) → Prop
/-- what is wanted behind a statement -/
structure Ends where
  nx : St → Hp → Prop
  rt : VK
  bk : St → Hp → Prop := fun _ _ => False
  ct : St → Hp → Prop := fun _ _ => False
abbrev TS := Ends → St → Hp → Prop

def EP (X : Cx) (pins : List (Addr × Obj)) (σ : St) (Q : VK) (u : Value) (s' : Shared) : Prop := ∃ v H', Inv X pins σ H' s' ∧ RelV v u ∧ Q v H'
def TP (X : Cx) (pins : List (Addr × Obj)) (σ : St) (Q : Bool → Hp → Prop) (b : Bool) (s' : Shared) : Prop := ∃ H', Inv X pins σ H' s' ∧ Q b H'
def AP (X : Cx) (pins : List (Addr × Obj)) (σ : St) (Q : List V → Hp → Prop) (us : List Value) (s' : Shared) : Prop := ∃ vs H', Inv X pins σ H' s' ∧ Vals vs us ∧ Q vs H'
def SP (X : Cx) (pins : List (Addr × Obj)) (D : Ends) (f : Flow) (s' : Shared) : Prop :=
  match f with
  | .next => ∃ σ' H', Inv X pins σ' H' s' ∧ D.nx σ' H'
  | .brk => ∃ σ' H', Inv X pins σ' H' s' ∧ D.bk σ' H'
  | .cont => ∃ σ' H', Inv X pins σ' H' s' ∧ D.ct σ' H'
  | .ret u => ∃ v σ' H', Inv X pins σ' H' s' ∧ RelV v u ∧ D.rt v H'

def PE (X : Cx) (e : Expr) (t : TE) : Prop :=
  ∀ (pins : List (Addr × Obj)) (s : Shared) (σ : St) (H : Hp) (Q : VK), Inv X pins σ H s → t σ H Q → wpAny (model X.prog X.w) X.A (eval e X.env) (EP X pins σ Q) X.xe s
def PT (X : Cx) (e : Expr) (t : TT) : Prop :=
  ∀ (pins : List (Addr × Obj)) (s : Shared) (σ : St) (H : Hp) (Q : Bool → Hp → Prop), Inv X pins σ H s → t σ H Q → wpAny (model X.prog X.w) X.A (isTrue e X.env (eval e X.env)) (TP X pins σ Q) X.xe s
/-- a test whatever its 'whole' is (and, or) -/
def PW (X : Cx) (e : Expr) (t : TT) : Prop :=
  ∀ (whole : Sem Value) (pins : List (Addr × Obj)) (s : Shared) (σ : St) (H : Hp) (Q : Bool → Hp → Prop), Inv X pins σ H s → t σ H Q → wpAny (model X.prog X.w) X.A (isTrue e X.env whole) (TP X pins σ Q) X.xe s
theorem PW.pt {X : Cx} {e : Expr} {t : TT} (h : PW X e t) : PT X e t := h _
/-- an argument list (no star), from the left -/
def PA (X : Cx) (es : List Expr) (t : TA) : Prop :=
  ∀ (pos : Pos) (pins : List (Addr × Obj)) (s : Shared) (σ : St) (H : Hp) (Q : List V → Hp → Prop), Inv X pins σ H s → t σ H Q → wpAny (model X.prog X.w) X.A (spliced (backTo pos (starEach es X.env))) (AP X pins σ Q) X.xe s
def PS (X : Cx) (st : Stmt) (t : TS) : Prop :=
  ∀ (pins : List (Addr × Obj)) (s : Shared) (σ : St) (H : Hp) (D : Ends), Inv X pins σ H s → t D σ H → wpAny (model X.prog X.w) X.A (exec st X.env) (SP X pins D) X.xe s
def PSs (X : Cx) (st : List Stmt) (t : TS) : Prop :=
  ∀ (pins : List (Addr × Obj)) (s : Shared) (σ : St) (H : Hp) (D : Ends), Inv X pins σ H s → t D σ H → wpAny (model X.prog X.w) X.A (execs st X.env) (SP X pins D) X.xe s
/-- weaken the end -/
theorem thn {α : Type} {t : Sem α} {Q Q' : α → Shared → Prop} {M : Model} {A : Around} {E : Value → Shared → Prop} {s : Shared} (h : wpAny M A t Q E s) (hQ : ∀ a s, Q a s → Q' a s) : wpAny M A t Q' E s := wpAny_mono h hQ fun _ _ x => x
end L2

namespace L2
open PySem PySem.Spec PyProof.Rows
section
variable {X : Cx}

def tVar (i : Nat) : TE := fun σ H Q => ∃ v, σ[i]? = some (some v) ∧ Q v H
def tC (v : V) : TE := fun _ H Q => Q v H
theorem pe_var {i : Nat} {x : Str} {pos : Pos} (hN : X.N[i]? = some x) (hv : Vis X.env.scope x) (hd : (x == ("__debug__" : Str)) = false := by decide) (hcd : (x == ("__classdict__" : Str)) = false := by decide) : PE X (.Name x pos) (tVar i) := by
  intro pins s σ H Q I h
  obtain ⟨v, e, h⟩ := h
  obtain ⟨m, hn, hl⟩ := I.loc
  obtain ⟨u, r, l⟩ := hl i x v hN e hv
  have fin : EP X pins σ Q u s := ⟨v, H, I, r, h⟩
  rcases l with ⟨hk, hm⟩ | ⟨hk, c, hc, hcell⟩
  · exact wpAny_Name (wpAny_loadName_local I.ok.kind hk hn hm fin) hd
  · rcases hk with hk | hk
    · exact wpAny_Name (wpAny_loadName_cell I.ok.kind hk hc hcell fin) hd
    · exact wpAny_Name (wpAny_loadName_free I.ok.kind hk hc hcell fin hcd) hd
theorem pe_int {i j pos} : PE X (.Constant (.int i) j pos) (tC (.int i)) := fun _ _ _ H _ I h => wpAny_Constant_int ⟨.int i, H, I.tok _, ⟨_, rfl⟩, h⟩
theorem pe_bl {b j pos} : PE X (.Constant (.bool b) j pos) (tC (.bl b)) := fun _ _ _ H _ I h => Constant_bool ⟨.bl b, H, I, rfl, h⟩
theorem pe_non {j pos} : PE X (.Constant .none j pos) (tC .non) := fun _ _ _ H _ I h => Constant_none ⟨.non, H, I, rfl, h⟩
/-- a global name of the def -/
def Gl (X : Cx) (x : Str) : Prop := X.env.kindOf x = some .globalImplicit
theorem ld_glob {E : Value → Shared → Prop} {pins : List (Addr × Obj)} {s : Shared} {σ : St} {H : Hp} {x : Str} {u : Value} {pos : Pos} {Q : Value → Shared → Prop} (I : Inv X pins σ H s) (hg : Gl X x) (hm : X.mg x = some u) (h : Q u s)
    (hd : (x == ("__debug__" : Str)) = false := by decide) : wpAny (model X.prog X.w) X.A (eval (.Name x pos) X.env) Q E s :=
  Calls.Name_function_global I.ok.kind hg (Calls.loadGlobal_global (by rw [I.ok.glob]; exact I.mod.glob.keeps I.bk) hm h) hd
theorem ld_blt {E : Value → Shared → Prop} {pins : List (Addr × Obj)} {s : Shared} {σ : St} {H : Hp} {x : Str} {u : Value} {pos : Pos} {Q : Value → Shared → Prop} (I : Inv X pins σ H s) (hg : Gl X x) (hm : X.mg x = none) (hv : bootBuiltins x = some u) (h : Q u s)
    (hn : x ≠ "__name__" := by decide) (hd : (x == ("__debug__" : Str)) = false := by decide) : wpAny (model X.prog X.w) X.A (eval (.Name x pos) X.env) Q E s := by
  obtain ⟨mb, h1, h2⟩ := I.mod.blt
  exact Calls.Name_function_global I.ok.kind hg (Calls.loadGlobal_builtin (by rw [I.ok.glob]; exact I.mod.glob.keeps I.bk) hm (by rw [I.ok.blt]; exact h1.keeps I.bk) ((h2 x hn).trans hv) h) hd
theorem pe_bltn {x : Str} {v : V} {u : Value} {pos : Pos} (hg : Gl X x) (hm : X.mg x = none) (hv : bootBuiltins x = some u) (r : RelV v u) (hn : x ≠ "__name__" := by decide) (hd : (x == ("__debug__" : Str)) = false := by decide) : PE X (.Name x pos) (tC v) :=
  fun _ _ _ H _ I h => ld_blt I hg hm hv ⟨v, H, I, r, h⟩ hn hd

variable {a b : Expr} {ta tb : TE} {pos : Pos}
/-- a comparison as a value, as a test -/
def tB (t : TE) : TT := fun σ H Q => t σ H fun x H1 => ∃ c, x = .bl c ∧ Q c H1
/-- an expression whose value is a bool, as a test -/
theorem pt_val {e : Expr} {t : TE} (h : PE X e t) (he : ∀ whole, isTrue e X.env whole = (do let v ← whole; standAt e.pos; holding [v] (truthy v)) := by intro _; rfl) : PT X e (tB t) := by
  intro pins s σ H Q I hw
  refine isTrue_plain (thn (h pins s σ H _ I hw) fun v s1 ⟨x, H1, I1, r1, q1⟩ => ?_) (he _)
  obtain ⟨d, rfl, q⟩ := q1
  cases r1
  exact wpAny_truthy_bool ⟨H1, I1, q⟩

variable {tA tB' : TT} {rest : List Expr}
def tAnd (t u : TT) : TT := fun σ H Q => t σ H fun c H1 => if c = true then u σ H1 Q else Q false H1
def tOr (t u : TT) : TT := fun σ H Q => t σ H fun c H1 => if c = true then Q true H1 else u σ H1 Q
def tNot (t : TT) : TT := fun σ H Q => t σ H fun c H1 => Q (!c) H1
theorem pw_and1 (ha : PT X a tA) : PW X (.BoolOp .And [a] pos) tA := by
  intro wh pins s σ H Q I h
  refine isTrue_and (thn (ha pins s σ H Q I h) fun c s1 e => ?_)
  cases c with
  | true => exact isTrue_and_nil e
  | false => exact e
theorem pw_or1 (ha : PT X a tA) : PW X (.BoolOp .Or [a] pos) tA := by
  intro wh pins s σ H Q I h
  refine isTrue_or (thn (ha pins s σ H Q I h) fun c s1 e => ?_)
  cases c with
  | false => exact isTrue_or_nil e
  | true => exact e
theorem pw_and (ha : PT X a tA) (hb : PW X (.BoolOp .And (b :: rest) pos) tB') : PW X (.BoolOp .And (a :: b :: rest) pos) (tAnd tA tB') := by
  intro wh pins s σ H Q I h
  refine isTrue_and (thn (ha pins s σ H _ I h) fun c s1 ⟨H1, I1, q1⟩ => ?_)
  cases c with
  | true => exact hb wh pins s1 σ H1 Q I1 q1
  | false => exact ⟨H1, I1, q1⟩
theorem pw_or (ha : PT X a tA) (hb : PW X (.BoolOp .Or (b :: rest) pos) tB') : PW X (.BoolOp .Or (a :: b :: rest) pos) (tOr tA tB') := by
  intro wh pins s σ H Q I h
  refine isTrue_or (thn (ha pins s σ H _ I h) fun c s1 ⟨H1, I1, q1⟩ => ?_)
  cases c with
  | true => exact ⟨H1, I1, q1⟩
  | false => exact hb wh pins s1 σ H1 Q I1 q1
theorem pt_not (ha : PT X a tA) : PT X (.UnaryOp .Not a pos) (tNot tA) := by
  intro pins s σ H Q I h
  exact isTrue_not (ha pins s σ H (fun c H1 => Q (!c) H1) I h)
/-- .. as values (bools) -/
def tAndV (ta tb : TE) : TE := fun σ H Q => ta σ H fun x H1 => ∃ c, x = .bl c ∧ if c = true then tb σ H1 Q else Q (.bl false) H1
def tOrV (ta tb : TE) : TE := fun σ H Q => ta σ H fun x H1 => ∃ c, x = .bl c ∧ if c = true then Q (.bl true) H1 else tb σ H1 Q
def tNotV (ta : TE) : TE := fun σ H Q => ta σ H fun x H1 => ∃ c, x = .bl c ∧ Q (.bl (!c)) H1
theorem pe_one {op} {t : TE} (h : PE X a t) : PE X (.BoolOp op [a] pos) t := fun pins s σ H Q I hw => BoolOp_one (h pins s σ H Q I hw)
theorem pe_and (ha : PE X a ta) (hb : PE X (.BoolOp .And (b :: rest) pos) tb) : PE X (.BoolOp .And (a :: b :: rest) pos) (tAndV ta tb) := by
  intro pins s σ H Q I h
  refine BoolOp_and (thn (ha pins s σ H _ I h) fun v s1 ⟨x, H1, I1, r1, q1⟩ => ?_)
  obtain ⟨c, rfl, q1⟩ := q1
  cases r1
  refine wpAny_truthy_bool ?_
  cases c with
  | true => exact hb pins s1 σ H1 Q I1 q1
  | false => exact ⟨.bl false, H1, I1, rfl, q1⟩
theorem pe_not (ha : PE X a ta) : PE X (.UnaryOp .Not a pos) (tNotV ta) := by
  intro pins s σ H Q I h
  refine UnaryOp_ (thn (ha pins s σ H _ I h) fun v s1 ⟨x, H1, I1, r1, q1⟩ => ?_)
  obtain ⟨c, rfl, q1⟩ := q1
  cases r1
  exact not_of (wpAny_truthy_bool ⟨.bl (!c), H1, I1, rfl, q1⟩)
/-- a if t else b -/
def tIf (t : TT) (ta tb : TE) : TE := fun σ H Q => t σ H fun c H1 => if c = true then ta σ H1 Q else tb σ H1 Q
end
end L2

namespace L2
open PySem PySem.Spec PyProof.Rows

def SqL (K : PySem.W.Frag) (H : Hp) (a : Addr) (xs : List V) : Prop :=
  Rd H a (.lst xs) ∨
    ∃ (o : Obj) (its : Array Value) (n : Nat), K.lookup a = some o ∧ o.cls = .type "list" ∧ o.dict = none ∧ o.data = .seq its n ∧ its.size ≤ sizeLine ∧ Vals xs its.toList
def SqT (K : PySem.W.Frag) (H : Hp) (a : Addr) (xs : List V) : Prop :=
  Rd H a (.tup xs) ∨
    ∃ (o : Obj) (its : Array Value) (n : Nat), K.lookup a = some o ∧ o.cls = .type "tuple" ∧ o.data = .seq its n ∧ its.size ≤ sizeLine ∧ Vals xs its.toList
def absV : Value → Option V
  | .none => some .non
  | .bool b => some (.bl b)
  | .int i _ => some (.int i)
  | .str x _ => some (.str x)
  | .bytes b _ => some (.byt b)
  | .float b _ => some (.flt b)
  | .ref a => some (.ref a)
  | .type n => some (.ty n)
  | _ => none
theorem RelV.abs {x : V} {u : Value} (r : RelV x u) : absV u = some x := by
  cases x with
  | non => cases r; rfl
  | bl _ => cases r; rfl
  | int _ => obtain ⟨t, rfl⟩ := r; rfl
  | str _ => obtain ⟨t, rfl⟩ := r; rfl
  | byt _ => obtain ⟨t, rfl⟩ := r; rfl
  | flt _ => obtain ⟨t, rfl⟩ := r; rfl
  | ref _ => cases r; rfl
  | ty _ => cases r; rfl
theorem RelV.inj {x y : V} {u : Value} (r : RelV x u) (q : RelV y u) : x = y := Option.some.inj (r.abs.symm.trans q.abs)
theorem Vals.inj : ∀ {xs ys : List V} {us : List Value}, Vals xs us → Vals ys us → xs = ys
  | _, _, _, .nil, .nil => rfl
  | _, _, _, .cons r t, .cons r' t' => by rw [r.inj r', Vals.inj t t']
section
variable {X : Cx} {pins : List (Addr × Obj)} {σ : St} {H : Hp} {s : Shared} {a : Addr} {xs ys : List V}
theorem SqL.of {K : PySem.W.Frag} (h : H a = some (.lst xs)) : SqL K H a xs := .inl (.inl h)
theorem SqT.of {K : PySem.W.Frag} (h : H a = some (.tup xs)) : SqT K H a xs := .inl (.inl h)
theorem Inv.list (I : Inv X pins σ H s) (h : SqL X.K H a xs) : ∃ its : List Value, Vals xs its ∧ PlainL s.heap a its.toArray ∧ xs.length ≤ sizeLine := by
  rcases h with h | ⟨o, its, n, hk, hc, hd, hs, hz, r⟩
  · obtain ⟨z, its, n, r, e⟩ := h.ok I.hok
    exact ⟨its, r, ⟨_, n, e, rfl, rfl, rfl⟩, z⟩
  · refine ⟨its.toList, r, ⟨o, n, I.kIn a o hk, hc, hd, by simpa using hs⟩, ?_⟩
    have e := r.length
    simp only [Array.length_toList] at e
    omega
theorem Inv.tuple (I : Inv X pins σ H s) (h : SqT X.K H a xs) : ∃ its : List Value, Vals xs its ∧ IsTup s.heap a its.toArray ∧ xs.length ≤ sizeLine := by
  rcases h with h | ⟨o, its, n, hk, hc, hs, hz, r⟩
  · obtain ⟨z, its, r, p⟩ := h.ok I.hok
    exact ⟨its, r, p, z⟩
  · refine ⟨its.toList, r, ⟨o, I.kIn a o hk, hc, n, by simpa using hs⟩, ?_⟩
    have e := r.length
    simp only [Array.length_toList] at e
    omega
theorem Inv.list_inj (I : Inv X pins σ H s) (h : SqL X.K H a xs) (h' : SqL X.K H a ys) : xs = ys := by
  obtain ⟨its, r, ⟨o, n, e, _, _, d⟩, _⟩ := I.list h
  obtain ⟨its', r', ⟨o', n', e', _, _, d'⟩, _⟩ := I.list h'
  rw [e] at e'; cases e'
  rw [d] at d'
  injection d' with d1 _
  have : its = its' := by simpa using congrArg Array.toList d1
  subst this
  exact r.inj r'
theorem Inv.tuple_inj (I : Inv X pins σ H s) (h : SqT X.K H a xs) (h' : SqT X.K H a ys) : xs = ys := by
  obtain ⟨its, r, ⟨o, e, _, n, d⟩, _⟩ := I.tuple h
  obtain ⟨its', r', ⟨o', e', _, n', d'⟩, _⟩ := I.tuple h'
  rw [e] at e'; cases e'
  rw [d] at d'
  injection d' with d1 _
  have : its = its' := by simpa using congrArg Array.toList d1
  subst this
  exact r.inj r'
end

abbrev Cx.wish (X : Cx) (E : Value → Shared → Prop) : Cx := { X with xe := E }
/-- no exception leaves -/
abbrev Cx.nox (X : Cx) : Cx := X.wish fun _ _ => False
theorem Cx.Ok.wish {X : Cx} (ok : X.Ok) (E : Value → Shared → Prop) : (X.wish E).Ok :=
  ⟨ok.mod, ok.kind, ok.glob, ok.blt, ok.above, ok.inj, ok.has, ok.cab, ok.hd, ok.frames, ok.stk, ok.exf, ok.bs, ok.bsz, ok.noex, ok.exfs, ok.funs, ok.frf⟩
theorem Cx.Ok.unwish {X : Cx} {E : Value → Shared → Prop} (ok : (X.wish E).Ok) : X.Ok :=
  ⟨ok.mod, ok.kind, ok.glob, ok.blt, ok.above, ok.inj, ok.has, ok.cab, ok.hd, ok.frames, ok.stk, ok.exf, ok.bs, ok.bsz, ok.noex, ok.exfs, ok.funs, ok.frf⟩
section
variable {X : Cx} {pins : List (Addr × Obj)} {σ : St} {H : Hp} {s : Shared} {E : Value → Shared → Prop}
theorem Inv.wish (I : Inv X pins σ H s) (E : Value → Shared → Prop) : Inv (X.wish E) pins σ H s := ⟨I.ok.wish E, I.os, I.bare, I.base, I.loc, I.cell, I.free, I.freeC, I.pin, I.hok, I.len⟩
theorem Inv.unwish (I : Inv (X.wish E) pins σ H s) : Inv X pins σ H s := ⟨I.ok.unwish, I.os, I.bare, I.base, I.loc, I.cell, I.free, I.freeC, I.pin, I.hok, I.len⟩
theorem SP.unwish {D : Ends} {f : Flow} {s' : Shared} (h : SP (X.wish E) pins D f s') : SP X pins D f s' := by
  cases f with
  | next => obtain ⟨σ', H', I, q⟩ := h; exact ⟨σ', H', I.unwish, q⟩
  | brk => obtain ⟨σ', H', I, q⟩ := h; exact ⟨σ', H', I.unwish, q⟩
  | cont => obtain ⟨σ', H', I, q⟩ := h; exact ⟨σ', H', I.unwish, q⟩
  | ret u => obtain ⟨v, σ', H', I, r, q⟩ := h; exact ⟨v, σ', H', I.unwish, r, q⟩
theorem PE.nox {e : Expr} {t : TE} (h : PE X.nox e t) : PE X e t := fun pins s σ H Q I hw =>
  wpAny_mono (h pins s σ H Q (I.wish _) hw) (fun _ _ ⟨v, H', I', r, q⟩ => ⟨v, H', I'.unwish, r, q⟩) fun _ _ z => False.elim z
theorem PT.nox {e : Expr} {t : TT} (h : PT X.nox e t) : PT X e t := fun pins s σ H Q I hw =>
  wpAny_mono (h pins s σ H Q (I.wish _) hw) (fun _ _ ⟨H', I', q⟩ => ⟨H', I'.unwish, q⟩) fun _ _ z => False.elim z
theorem PSs.nox {st : List Stmt} {t : TS} (h : PSs X.nox st t) : PSs X st t := fun pins s σ H D I hw =>
  wpAny_mono (h pins s σ H D (I.wish _) hw) (fun _ _ q => q.unwish) fun _ _ z => False.elim z
end

section
variable {X : Cx} {st : Stmt} {rest : List Stmt} {t u : TS} {e : Expr} {te : TE} {pos : Pos}
def tNext : TS := fun D σ H => D.nx σ H
def tSeq (t u : TS) : TS := fun D σ H => t { D with nx := u D } σ H
theorem pss_nil : PSs X [] tNext := fun _ _ σ H _ I h => wpAny_execs_nil ⟨σ, H, I, h⟩
theorem pss_cons (h1 : PS X st t) (h2 : PSs X rest u) : PSs X (st :: rest) (tSeq t u) := by
  intro pins s σ H D I h
  refine wpAny_execs_cons (thn (h1 pins s σ H { D with nx := u D } I h) fun f s1 q => ?_)
  cases f with
  | next =>
    obtain ⟨σ', H', I', q⟩ := q
    exact h2 pins s1 σ' H' D I' q
  | ret v => exact q
  | brk => exact q
  | cont => exact q
theorem pss_one (h1 : PS X st t) : PSs X [st] t := by
  intro pins s σ H D I h
  refine wpAny_execs_cons (thn (h1 pins s σ H D I h) fun f s1 q => ?_)
  cases f with
  | next => exact wpAny_execs_nil q
  | ret v => exact q
  | brk => exact q
  | cont => exact q
/-- in a def's body nothing is shown -/
theorem Inv.quiet {pins : List (Addr × Obj)} {σ : St} {H : Hp} {s : Shared} (I : Inv X pins σ H s) : interactive X.env = false := by simp [interactive, I.ok.kind]
/-- an expression whose value is dropped -/
def tDrop (te : TE) : TS := fun D σ H => te σ H fun _ H1 => D.nx σ H1
theorem ps_expr (he : PE X e te) (hs : swapsWith e none pos.line X.env = pure false := by rfl) : PS X (.Expr e pos) (tDrop te) := by
  intro pins s σ H D I h
  exact wpAny_Expr_any (thn (he pins s σ H _ I h) fun v s1 ⟨x, H1, I1, r1, q1⟩ => ⟨σ, H1, I1, q1⟩) I.quiet hs
def tRet (te : TE) : TS := fun D σ H => te σ H D.rt
theorem ps_ret (he : PE X e te) : PS X (.Return (some e) pos) (tRet te) := by
  intro pins s σ H D I h
  exact wpAny_Return_some (thn (he pins s σ H _ I h) fun v s1 ⟨x, H1, I1, r1, q1⟩ => ⟨x, σ, H1, I1, r1, q1⟩)
def tRetN : TS := fun D _ H => D.rt .non H
theorem ps_retN : PS X (.Return none pos) tRetN := fun _ _ σ H _ I h => wpAny_Return_none ⟨.non, σ, H, I, rfl, h⟩
def tIfS (c : TT) (t u : TS) : TS := fun D σ H => c σ H fun b H1 => if b = true then t D σ H1 else u D σ H1
theorem ps_if {c : Expr} {a b : List Stmt} {tc : TT} (hc : PT X c tc) (ha : PSs X a t) (hb : PSs X b u) : PS X (.If c a b pos) (tIfS tc t u) := by
  intro pins s σ H D I h
  refine wpAny_If (thn (hc pins s σ H _ I h) fun d s1 ⟨H1, I1, q1⟩ => ?_)
  cases d with
  | true => exact ha pins s1 σ H1 D I1 q1
  | false => exact hb pins s1 σ H1 D I1 q1
end

abbrev TG := V → St → Hp → (St → Hp → Prop) → Prop
abbrev TGs := List V → St → Hp → (St → Hp → Prop) → Prop
def PG (X : Cx) (target : Expr) (t : TG) : Prop :=
  ∀ (pins : List (Addr × Obj)) (s : Shared) (σ : St) (H : Hp) (v : V) (u : Value) (Q : St → Hp → Prop), Inv X pins σ H s → RelV v u → t v σ H Q →
    wpAny (model X.prog X.w) X.A (assign target X.env u) (fun _ s' => ∃ σ' H', Inv X pins σ' H' s' ∧ Q σ' H') X.xe s
/-- several targets, one after another -/
def PGs (X : Cx) (ts : List Expr) (t : TGs) : Prop :=
  ∀ (pins : List (Addr × Obj)) (s : Shared) (σ : St) (H : Hp) (vs : List V) (us : List Value) (Q : St → Hp → Prop), Inv X pins σ H s → Vals vs us → t vs σ H Q →
    wpAny (model X.prog X.w) X.A (assignInOrder ((assignEach ts X.env).map (·.2)) us) (fun _ s' => ∃ σ' H', Inv X pins σ' H' s' ∧ Q σ' H') X.xe s
/-- o[i] = v, by values -/
abbrev TSet := V → V → V → Hp → (Hp → Prop) → Prop
def PSet (X : Cx) (t : TSet) : Prop :=
  ∀ (pins : List (Addr × Obj)) (s : Shared) (σ : St) (H : Hp) (o i v : V) (ov iv u : Value) (Q : Hp → Prop), Inv X pins σ H s → RelV o ov → RelV i iv → RelV v u → t o i v H Q →
    wpAny (model X.prog X.w) X.A (setItem ov iv u) (fun _ s' => ∃ H', Inv X pins σ H' s' ∧ Q H') X.xe s
section
variable {X : Cx} {pos : Pos}
def gName (i : Nat) : TG := fun v σ H Q => Q (σ.set i (some v)) H
theorem pg_name {i : Nat} {x : Str} (hN : X.N.Nodup) (hi : X.N[i]? = some x) (hx : Loc X.env.scope x) (hf : X.fn x = true ∨ X.env.scope.names.lookup x = some .local := by first | exact .inl rfl | exact .inr rfl | assumption) : PG X (.Name x pos) (gName i) := by
  intro pins s σ H v u Q I r h
  exact wpAny_assign_Name (store_ok I hN hi hx r (fun s' I' => ⟨_, H, I', h⟩) hf)
def gNil : TGs := fun vs σ H Q => vs = [] ∧ Q σ H
def gCons (t : TG) (u : TGs) : TGs := fun vs σ H Q => ∃ v r, vs = v :: r ∧ t v σ H fun σ' H' => u r σ' H' Q
theorem pgs_nil : PGs X [] gNil := by
  intro pins s σ H vs us Q I r h
  obtain ⟨e, h⟩ := h
  subst e
  cases r
  exact assignInOrder_nil ⟨σ, H, I, h⟩
theorem pgs_cons {e : Expr} {es : List Expr} {t : TG} {u : TGs} (h1 : PG X e t) (h2 : PGs X es u)
    (hs : (assignEach (e :: es) X.env).map (·.2) = assign e X.env :: (assignEach es X.env).map (·.2) := by rfl) : PGs X (e :: es) (gCons t u) := by
  intro pins s σ H vs us Q I r h
  obtain ⟨v, vr, e1, h⟩ := h
  subst e1
  cases r with
  | cons r rr =>
    rw [hs]
    refine assignInOrder_cons (thn (h1 pins s σ H _ _ _ I r h) fun _ s1 ⟨σ1, H1, I1, q1⟩ => ?_)
    exact h2 pins s1 σ1 H1 _ _ Q I1 rr q1
/-- (a, b, ..) = a tuple of that length -/
def gTup (K : PySem.W.Frag) (n : Nat) (t : TGs) : TG := fun v σ H Q => ∃ a xs, v = .ref a ∧ SqT K H a xs ∧ xs.length = n ∧ t xs σ H Q
theorem pg_tup {es : List Expr} {k : Nat} {t : TGs} {n : Nat} (hc : X.calm = true) (h : PGs X es t)
    (hn : (assignEach es X.env).length = n := by rfl) (hst : (assignEach es X.env).findIdx? (·.1) = none := by rfl) : PG X (.Tuple es k pos) (gTup X.K n t) := by
  intro pins s σ H v u Q I r hw
  obtain ⟨a, xs, e1, hq, hl, hw⟩ := hw
  subst e1
  cases r
  obtain ⟨its, rv, ht, hz⟩ := I.tuple hq
  refine assign_Tuple_tuple (I.ok.hd hc) ht (by simp [hn, ← hl, rv.length]) hst fun h' hx => ?_
  have I1 : Inv X pins σ H { s with heap := h' } := I.kept (t' := s.toks) fun b o e => hx b o (Nat.ne_of_lt (Heap.lt_size e)) e
  exact h pins _ σ H xs _ Q I1 (by simpa using rv) hw
/-- o[i] = .. -/
def gSub (to ti : TE) (t : TSet) : TG := fun v σ H Q => to σ H fun o H1 => ti σ H1 fun i H2 => t o i v H2 fun H3 => Q σ H3
theorem pg_sub {o i : Expr} {to ti : TE} {t : TSet} (ho : PE X o to) (hi : PE X i ti) (hs : PSet X t)
    (ha : ∀ v, assign (.Subscript o i pos) X.env v = (do
      let ov ← holding [v] (eval o X.env)
      let iv ← holding [v, ov] (eval i X.env)
      standAt pos
      holding [v, ov, iv] (setItem ov iv v)
      release [v, ov, iv] []) := by intro _; rfl) : PG X (.Subscript o i pos) (gSub to ti t) := by
  intro pins s σ H v u Q I r h
  rw [ha]
  refine wpAny_bind (wpAny_holding (thn (ho pins s σ H _ I h) fun ov s1 ⟨x, H1, I1, r1, q1⟩ => ?_))
  refine wpAny_bind (wpAny_holding (thn (hi pins s1 σ H1 _ I1 q1) fun iv s2 ⟨y, H2, I2, r2, q2⟩ => ?_))
  refine wpAny_bind (wpAny_standAt (wpAny_bind (wpAny_holding (thn (hs pins s2 σ H2 x y v ov iv u _ I2 r1 r2 r q2) fun _ s3 ⟨H3, I3, q3⟩ => ?_))))
  exact wpAny_release ⟨σ, H3, I3, q3⟩
/-- target = value -/
def tAsg (te : TE) (g : TG) : TS := fun D σ H => te σ H fun x H1 => g x σ H1 D.nx
theorem ps_asg {tg e : Expr} {te : TE} {g : TG} (he : PE X e te) (hg : PG X tg g) (hs : swapsWithSole [tg] e pos.line X.env = pure false := by rfl) (hw : swappedStores [tg] e X.env = pure none := by rfl)
    (h1 : (assignEach [tg] X.env).map (·.2) = [assign tg X.env] := by rfl) : PS X (.Assign [tg] e pos) (tAsg te g) := by
  intro pins s σ H D I h
  refine wpAny_Assign_stores (thn (he pins s σ H _ I h) fun v s1 ⟨x, H1, I1, r1, q1⟩ => ?_) hs hw
  rw [h1]
  exact thn (hg pins s1 σ H1 x v _ I1 r1 q1) fun _ s2 q => q
/-- name = value -/
theorem ps_set {i : Nat} {x : Str} {e : Expr} {te : TE} {pos' : Pos} (hN : X.N.Nodup) (hi : X.N[i]? = some x) (hx : Loc X.env.scope x) (he : PE X e te) (hs : swapsWith e (some (.Name x pos')) pos.line X.env = pure false := by rfl) (hf : X.fn x = true ∨ X.env.scope.names.lookup x = some .local := by first | exact .inl rfl | exact .inr rfl | assumption) :
    PS X (.Assign [.Name x pos'] e pos) (tAsg te (gName i)) := by
  intro pins s σ H D I h
  refine wpAny_Assign_Name (thn (he pins s σ H _ I h) fun v s1 ⟨y, H1, I1, r1, q1⟩ => ?_) hs
  exact store_ok I1 hN hi hx r1 (fun s2 I2 => ⟨_, H1, I2, q1⟩) hf
end

section
variable {X : Cx} {pos : Pos}
/-- the invariant W with its measure -/
def tWhile (c : TT) (tb : TS) : TS := fun D σ H => ∃ W : Nat → St → Hp → Prop, (∃ m, W m σ H) ∧ ∀ m σ H, W m σ H →
  c σ H fun b H1 => if b = true then ∃ N : St → Hp → Prop, (∀ σ' H', N σ' H' → ∃ m', m' < m ∧ W m' σ' H') ∧ tb { D with nx := N, ct := N, bk := D.nx } σ H1 else D.nx σ H1
end

/-- at turn i: it yields x (the heap may grow), or it stops -/
structure It where
  go : Nat → Hp → Prop
  yld : Nat → Hp → V → Hp → Prop
  stop : Nat → Hp → Prop
/-- the iterator's own objects may turn: they are not the frame's, not pinned, younger than the entry (or a comprehension's own) -/
def FpOk (X : Cx) (pins : List (Addr × Obj)) (H : Hp) (b : Addr) : Prop :=
  H b = none ∧ b ≠ X.env.locals ∧ b ∉ X.fs ∧ (b ∈ X.ex ∨ X.s₀.heap.objs.size ≤ b) ∧ (∀ x c, X.env.cells.lookup x = some c → c ≠ b) ∧ ∀ p ∈ X.pn ++ pins, p.1 ≠ b
theorem Inv.fpOk {X : Cx} {pins : List (Addr × Obj)} {σ : St} {H H' : Hp} {s : Shared} {b : Addr} (I : Inv X pins σ H s) (hb : s.heap.objs.size ≤ b) (hn : H' b = none) : FpOk X pins H' b := by
  refine ⟨hn, Nat.ne_of_gt (Nat.lt_of_lt_of_le I.lt hb), I.nofs hb, .inr (Nat.le_trans I.sz hb), fun x c e z => ?_, fun p hp z => ?_⟩
  · obtain ⟨v, q⟩ := I.cell x c e
    exact absurd (Nat.lt_of_lt_of_le q.lt (by rw [z]; exact hb)) (Nat.lt_irrefl _)
  · exact absurd (Nat.lt_of_lt_of_le (Heap.lt_size (I.pin p hp).1) (by rw [z]; exact hb)) (Nat.lt_irrefl _)
structure Turn (P : Program) (w : World) (K : PySem.W.Frag) (tg : Expr) (J : It) (fp : List Addr) (it : Addr) (tn : Nat → Heap → Prop) : Prop where
  mem : it ∈ fp
  obj : ∀ i h, tn i h → ∀ b ∈ fp, ∃ o, h.get? b = some o ∧ ∀ v, o.data ≠ .cell v
  keep : ∀ i h h', tn i h → (∀ b ∈ fp, ∀ o, h.get? b = some o → h'.get? b = some o) → tn i h'
  item : ∀ (X : Cx), X.prog = P → X.w = w → X.K = K → X.calm = true → ∀ (i : Nat) (pins : List (Addr × Obj)) (s : Shared) (σ : St) (H : Hp) (E : Value → Shared → Prop), Inv X pins σ H s → (∀ b ∈ fp, FpOk X pins H b) → tn i s.heap → J.go i H →
    wpAny (model P w) X.A (pyNext (.ref it)) (fun r s1 => ∃ u, r = some u ∧
      wpAny (model P w) X.A (letOwnedTupleGo tg (.ref it) u) (fun _ s2 => ∃ x H', Inv X pins σ H' s2 ∧ RelV x u ∧ J.yld i H x H' ∧ tn (i + 1) s2.heap ∧ ∀ b ∈ fp, H' b = none) E s1) E s
  done : ∀ (X : Cx), X.prog = P → X.w = w → X.K = K → X.calm = true → ∀ (i : Nat) (pins : List (Addr × Obj)) (s : Shared) (σ : St) (H : Hp) (E : Value → Shared → Prop), Inv X pins σ H s → (∀ b ∈ fp, FpOk X pins H b) → tn i s.heap → J.stop i H →
    wpAny (model P w) X.A (pyNext (.ref it)) (fun r s1 => r = none ∧ Inv X pins σ H s1) E s
  self : ∀ (A : Around) (i : Nat) (s : Shared) (Q : Value → Shared → Prop) (E : Value → Shared → Prop), tn i s.heap → Q (.ref it) s → wpAny (model P w) A (pyIter (.ref it)) Q E s
abbrev TI := St → Hp → (It → Hp → Prop) → Prop
/-- an iterator has come -/
def PIE (X : Cx) (pins : List (Addr × Obj)) (σ : St) (tg : Expr) (R : It → Hp → Prop) (itv : Value) (s2 : Shared) : Prop :=
  ∃ (it : Addr) (fp : List Addr) (tn : Nat → Heap → Prop) (J : It) (H' : Hp), itv = .ref it ∧ Inv X pins σ H' s2 ∧ Turn X.prog X.w X.K tg J fp it tn ∧ tn 0 s2.heap ∧ (∀ b ∈ fp, FpOk X pins H' b) ∧ R J H'
def PI (X : Cx) (tg iter : Expr) (wi : TI) : Prop :=
  ∀ (pins : List (Addr × Obj)) (s : Shared) (σ : St) (H : Hp) (R : It → Hp → Prop), Inv X pins σ H s → wi σ H R →
    wpAny (model X.prog X.w) X.A (eval iter X.env) (fun v s1 => wpAny (model X.prog X.w) X.A (pyIter v) (PIE X pins σ tg R) X.xe s1) X.xe s

/-- the step ahead of the store is nothing for an iterator that keeps no tuple -/
theorem go_of {M : Model} {A : Around} {E : Value → Shared → Prop} {s : Shared} {tg : Expr} {it : Addr} {u : Value} {o : Obj} {n : String} {vs : Array Value} {Q : Unit → Shared → Prop} (ho : s.heap.get? it = some o) (hc : o.cls = .type n) (hd : o.data = .fields vs)
    (hn : ["enumerate", "zip", "dict_itemiterator", "dict_reverseitemiterator", "odict_iterator", "itertools.zip_longest", "itertools.pairwise"].contains n = false) (hQ : Q () s) : wpAny M A (letOwnedTupleGo tg (.ref it) u) Q E s := by
  unfold letOwnedTupleGo
  cases tg <;> first
    | exact wpAny_pure hQ
    | (cases u <;> first
        | exact wpAny_pure hQ
        | (refine wpAny_bind (wpAny_load ho ?_)
           rw [hc, hd]
           show wpAny M A (if (["enumerate", "zip", "dict_itemiterator", "dict_reverseitemiterator", "odict_iterator", "itertools.zip_longest", "itertools.pairwise"].contains n && vs[0]? == some (rawInt _)) = true then _ else _) Q E s
           rw [if_neg (by intro h; rw [hn, Bool.false_and] at h; cases h)]
           exact wpAny_pure hQ))

/-- the list at a, as it stands at each turn (a loop may append to it) -/
def Itl (K : PySem.W.Frag) (a : Addr) : It :=
  ⟨fun i H => ∃ xs x, SqL K H a xs ∧ xs[i]? = some x, fun i H x H' => H' = H ∧ ∀ xs, SqL K H a xs → xs[i]? = some x, fun i H => ∃ xs, SqL K H a xs ∧ xs.length ≤ i⟩
def Itt (K : PySem.W.Frag) (a : Addr) : It :=
  ⟨fun i H => ∃ xs x, SqT K H a xs ∧ xs[i]? = some x, fun i H x H' => H' = H ∧ ∀ xs, SqT K H a xs → xs[i]? = some x, fun i H => ∃ xs, SqT K H a xs ∧ xs.length ≤ i⟩
/-- lo, lo + 1, .. (n of them) -/
def Itr (lo : Int) (n : Nat) : It := ⟨fun i _ => i < n, fun i H x H' => H' = H ∧ x = .int (lo + i), fun i _ => n ≤ i⟩
theorem turn_list {P : Program} {w : World} {K : PySem.W.Frag} {tg : Expr} (a it : Addr) : Turn P w K tg (Itl K a) [it] it (fun i h => h.IsListIter it a i) where
  mem := by simp
  obj := fun i h st b hb => by
    have e : b = it := by simpa using hb
    subst e
    obtain ⟨o, e, c, d⟩ := st
    exact ⟨o, e, fun v z => by rw [d] at z; cases z⟩
  keep := fun i h h' st k => st.at fun o e => k it (by simp) o e
  item := by
    intro X hP hw hK hc i pins s σ H E I hf st hg
    subst hP hw hK
    obtain ⟨xs, x, hq, hx⟩ := hg
    obtain ⟨its, rv, p, hz⟩ := I.list hq
    obtain ⟨u, hu, ru⟩ := rv.get hx
    obtain ⟨f0, f1, f2, f3, f4, f5⟩ := hf it (by simp)
    refine wpAny_pyNext_list_item st p.isList (x := u) (by simpa using hu) fun h' st' sb => ?_
    have I1 : Inv X pins σ H { s with heap := h' } := I.turned (t' := s.toks) (fun b o hb e => (sb.2 b hb).trans e) f0 f1 f3 f4 f5
    obtain ⟨o, e, c, d⟩ := id st'
    exact ⟨u, rfl, go_of (s := { s with heap := h' }) e c d (by decide) ⟨x, H, I1, ru, ⟨rfl, fun ys hy => by rw [I.list_inj hy hq]; exact hx⟩, st', fun b hb => (hf b hb).1⟩⟩
  done := by
    intro X hP hw hK hc i pins s σ H E I hf st hg
    subst hP hw hK
    obtain ⟨xs, hq, hx⟩ := hg
    obtain ⟨its, rv, p, hz⟩ := I.list hq
    obtain ⟨f0, f1, f2, f3, f4, f5⟩ := hf it (by simp)
    have hl := rv.length
    exact wpAny_pyNext_list_end (I.ok.hd hc) st p.isList (by simp; omega) fun h' eb => ⟨rfl, I.turned (t' := s.toks) (fun b o hb e => eb b o hb e) f0 f1 f3 f4 f5⟩
  self := fun _ _ _ _ _ st h => wpAny_pyIter_listiter st h
theorem turn_range {P : Program} {w : World} {K : PySem.W.Frag} {tg : Expr} (it : Addr) (lo : Int) (n : Nat) : Turn P w K tg (Itr lo n) [it] it (fun i h => IsRangeIter h it (lo + (i : Nat) * 1) ((n : Int) - (i : Nat)) 1) where
  mem := by simp
  obj := fun i h st b hb => by
    have e : b = it := by simpa using hb
    subst e
    exact ⟨_, st, fun v z => by
      have z' : Data.fields _ = Data.cell v := z
      cases z'⟩
  keep := fun i h h' st k => k it (by simp) _ st
  item := by
    intro X hP hw hK hc i pins s σ H E I hf st hg
    subst hP hw hK
    obtain ⟨f0, f1, f2, f3, f4, f5⟩ := hf it (by simp)
    have W := Walks.range (prog := X.prog) (w := X.w) (I.ok.hd hc) it lo 1 n
    refine W.item i s _ _ hg st fun v h' tk hv st' kk => ?_
    obtain ⟨t, rfl⟩ := hv
    have I1 : Inv X pins σ H { s with heap := h', toks := tk } := I.turned (fun b o hb e => kk b o (by simpa using hb) e) f0 f1 f3 f4 f5
    refine ⟨_, rfl, go_of (s := { s with heap := h', toks := tk }) (n := "range_iterator") st' rfl rfl (by decide) ⟨.int (lo + i), H, I1, ⟨t, ?_⟩, ⟨rfl, rfl⟩, st', fun b hb => (hf b hb).1⟩⟩
    rw [Int.mul_one]
  done := by
    intro X hP hw hK hc i pins s σ H E I hf st hg
    subst hP hw hK
    obtain ⟨f0, f1, f2, f3, f4, f5⟩ := hf it (by simp)
    exact wpAny_pyNext_range_end (I.ok.hd hc) st (by have : n ≤ i := hg; omega) fun h' eb => ⟨rfl, I.turned (t' := s.toks) (fun b o hb e => eb b o hb e) f0 f1 f3 f4 f5⟩
  self := fun _ _ _ _ _ st h => wpAny_pyIter_rangeiter st h
end L2

namespace L2
open PySem PySem.Spec PyProof.Rows
section
variable {X : Cx} {tg : Expr}
def iList (K : PySem.W.Frag) (tl : TE) : TI := fun σ H R => tl σ H fun x H1 => ∃ a, x = .ref a ∧ (∃ xs, SqL K H1 a xs) ∧ R (Itl K a) H1
def iTup (K : PySem.W.Frag) (tl : TE) : TI := fun σ H R => tl σ H fun x H1 => ∃ a, x = .ref a ∧ (∃ xs, SqT K H1 a xs) ∧ R (Itt K a) H1
theorem pi_list {l : Expr} {tl : TE} (hl : PE X l tl) : PI X tg l (iList X.K tl) := by
  intro pins s σ H R I h
  refine thn (hl pins s σ H _ I h) fun v s1 ⟨x, H1, I1, r1, q1⟩ => ?_
  obtain ⟨a, e, ⟨xs, hq⟩, q⟩ := q1
  subst e
  cases r1
  obtain ⟨its, rv, p, hz⟩ := I1.list hq
  refine wpAny_pyIter_list p.isList ?_
  refine ⟨s1.heap.objs.size, [s1.heap.objs.size], _, _, H1, rfl, I1.kept (t' := s1.toks) fun b o e => Heap.get?_push_of_some _ e, turn_list a _, ⟨_, Heap.get?_push_size _ rfl, rfl, rfl⟩, fun b hb => ?_, q⟩
  have e : b = s1.heap.objs.size := by simpa using hb
  subst e
  exact I1.fpOk (Nat.le_refl _) (I1.hok.fresh (Nat.le_refl _))
/-- a range object just made, walked -/
theorem range_it {pins : List (Addr × Obj)} {σ : St} {H : Hp} {s : Shared} {R : It → Hp → Prop} {E : Value → Shared → Prop} {lo hi : Int} {t u v : Tok} {tk : Nat} (I : Inv X pins σ H s) (h1 : -(2 ^ 62) ≤ lo) (h2 : lo < 2 ^ 62) (h3 : -(2 ^ 62) ≤ hi) (h4 : hi < 2 ^ 62)
    (q : R (Itr lo (hi - lo).toNat) H) : wpAny (model X.prog X.w) X.A (pyIter (.ref s.heap.objs.size)) (PIE X pins σ tg R) E { s with heap := s.heap.push { cls := .type "range", data := .fields #[.int lo t, .int hi u, .int 1 v] }, toks := tk } := by
  refine wpAny_pyIter_range (IsRange.new ..) (small_one h1 h2 h3 h4) ?_
  have I1 : Inv X pins σ H { s with heap := s.heap.push { cls := .type "range", data := .fields #[.int lo t, .int hi u, .int 1 v] }, toks := tk } := I.kept fun b o e => Heap.get?_push_of_some _ e
  refine ⟨(s.heap.push { cls := .type "range", data := .fields #[.int lo t, .int hi u, .int 1 v] }).objs.size, [(s.heap.push { cls := .type "range", data := .fields #[.int lo t, .int hi u, .int 1 v] }).objs.size], _, _, H, rfl,
    I1.kept (t' := tk) fun b o e => Heap.get?_push_of_some _ e, turn_range _ lo (hi - lo).toNat, ?_, fun b hb => ?_, q⟩
  · have e1 : lo + ((0 : Nat) : Int) * 1 = lo := by simp
    have e2 : (((hi - lo).toNat : Nat) : Int) - ((0 : Nat) : Int) = Builtin.Range.rangeSize lo hi 1 := by rw [rangeSize_one]; split <;> omega
    show IsRangeIter _ _ (lo + ((0 : Nat) : Int) * 1) ((((hi - lo).toNat : Nat) : Int) - ((0 : Nat) : Int)) 1
    rw [e1, e2]
    exact Heap.get?_push_size _ rfl
  · have e : b = (s.heap.push { cls := .type "range", data := .fields #[.int lo t, .int hi u, .int 1 v] }).objs.size := by simpa using hb
    subst e
    exact I1.fpOk (Nat.le_refl _) (I1.hok.fresh (Nat.le_refl _))
def iRng1 (ta : TA) : TI := fun σ H R => ta σ H fun vs H1 => ∃ j : Int, vs = [.int j] ∧ -(2 ^ 62) ≤ j ∧ j < 2 ^ 62 ∧ R (Itr 0 j.toNat) H1
def iRng2 (ta : TA) : TI := fun σ H R => ta σ H fun vs H1 => ∃ i j : Int, vs = [.int i, .int j] ∧ (-(2 ^ 62) ≤ i ∧ i < 2 ^ 62 ∧ -(2 ^ 62) ≤ j ∧ j < 2 ^ 62) ∧ R (Itr i (j - i).toNat) H1
theorem pi_range1 {a : Expr} {ta : TA} {p pos : Pos} (hg : Gl X "range") (hm : X.mg "range" = none) (ha : PA X [a] ta) (hs : starEach [a] X.env = [(false, eval a X.env)] := by rfl) : PI X tg (.Call (.Name "range" p) [a] [] pos) (iRng1 ta) := by
  intro pins s σ H R I h
  refine Call_ (ld_blt I hg hm boot_range (PyProof.Rows.callWith_type1 (thn (ha pos pins s σ H _ I h) fun us s1 ⟨vs, H1, I1, r1, q1⟩ => ?_) hs rfl))
  obtain ⟨j, e, q1, q2, q⟩ := q1
  subst e
  cases r1 with
  | cons r rr =>
    cases rr
    obtain ⟨t, rfl⟩ := r
    exact call_range_1 (range_it I1 (by omega) (by omega) q1 q2 (by simpa using q))
/-- W: the invariant by the turn and a measure; N: what the body is to reach -/
def tFor (wi : TI) (g : TG) (tb : TS) : TS := fun D σ H => wi σ H fun J H1 => ∃ W : Nat → Nat → St → Hp → Prop, (∃ m, W 0 m σ H1) ∧ ∀ i m σ H, W i m σ H →
  (J.stop i H ∧ D.nx σ H) ∨ (J.go i H ∧ ∃ N : St → Hp → Prop, (∀ σ' H', N σ' H' → ∃ m', m' < m ∧ W (i + 1) m' σ' H') ∧ ∀ x H', J.yld i H x H' → g x σ H' fun σ2 H2 => tb { D with nx := N, ct := N, bk := D.nx } σ2 H2)
/-- the records at fp as they stand -/
def pinsAt (fp : List Addr) (h : Heap) : List (Addr × Obj) := fp.filterMap fun b => (h.get? b).map fun o => (b, o)
theorem mem_pinsAt {fp : List Addr} {h : Heap} {b : Addr} {o : Obj} (hb : b ∈ fp) (e : h.get? b = some o) : (b, o) ∈ pinsAt fp h := List.mem_filterMap.mpr ⟨b, hb, by rw [e]; rfl⟩
theorem of_pinsAt {fp : List Addr} {h : Heap} {p : Addr × Obj} (hp : p ∈ pinsAt fp h) : p.1 ∈ fp ∧ h.get? p.1 = some p.2 := by
  obtain ⟨b, hb, e⟩ := List.mem_filterMap.mp hp
  cases q : h.get? b with
  | none => rw [q] at e; cases e
  | some o =>
    rw [q] at e
    have e' : (b, o) = p := Option.some.inj e
    subst e'
    exact ⟨hb, q⟩
theorem Inv.pinned {pins : List (Addr × Obj)} {σ : St} {H : Hp} {s : Shared} {fp : List Addr} (I : Inv X pins σ H s) (hf : ∀ b ∈ fp, FpOk X pins H b) (ho : ∀ b ∈ fp, ∃ o, s.heap.get? b = some o ∧ ∀ v, o.data ≠ .cell v) : Inv X (pins ++ pinsAt fp s.heap) σ H s :=
  I.pins_of fun p hp => (List.mem_append.mp hp).elim (fun z => I.pin p (List.mem_append_right _ z)) fun z => by
    obtain ⟨hb, e⟩ := of_pinsAt z
    obtain ⟨f0, f1, f2, _⟩ := hf p.1 hb
    obtain ⟨o, e', d⟩ := ho p.1 hb
    rw [e] at e'; cases e'
    exact ⟨e, f0, f1, f2, d⟩
theorem Inv.unpinned {pins pl : List (Addr × Obj)} {σ : St} {H : Hp} {s : Shared} (I : Inv X (pins ++ pl) σ H s) : Inv X pins σ H s := I.pins_of fun p hp => I.pin p (List.mem_append_right _ (List.mem_append_left _ hp))
theorem ps_for {iter : Expr} {body : List Stmt} {wi : TI} {g : TG} {tb : TS} {pos : Pos} (hp : PassesOwn (model X.prog X.w) X.A X.env X.xe) (hc : X.calm = true) (hi : PI X tg iter wi) (hg : PG X tg g) (hb : PSs X body tb)
    (hs : ∀ x, foldedSetIterable iter X.env x = pure x := by intro _; rfl) : PS X (.For tg iter body [] pos) (tFor wi g tb) := by
  intro pins s σ H D I h
  refine wpAny_For (thn (hi pins s σ H _ I h) fun v s1 h1 => thn h1 fun itv s2 h2 => ?_) hs
  obtain ⟨it, fp, tn, J, H2, e, I2, T, st2, f2, W, ⟨m0, w0⟩, turn⟩ := h2
  subst e
  -- what stays true of the iterator's objects through the loop
  have stat : ∀ {H' : Hp}, (∀ b ∈ fp, H' b = none) → ∀ b ∈ fp, FpOk X pins H' b := fun hn b hb => ⟨hn b hb, (f2 b hb).2⟩
  refine codeAny_forLoop_any (fun n s' => ∃ i σ' H', Inv X pins σ' H' s' ∧ tn i s'.heap ∧ (∀ b ∈ fp, H' b = none) ∧ W i n σ' H') ?_ m0 ⟨0, σ, H2, I2, st2, fun b hb => (f2 b hb).1, w0⟩
  rintro n s3 ⟨i, σ3, H3, I3, st3, fr3, w3⟩
  rcases turn i n σ3 H3 w3 with ⟨stop, qn⟩ | ⟨go, N, hN, step⟩
  · refine wpAny_passesOwn hp (thn (T.done X rfl rfl rfl hc i pins s3 σ3 H3 X.xe I3 (stat fr3) st3 stop) fun r s4 ⟨hr, I4⟩ => ?_)
    subst hr
    exact wpAny_execs_nil ⟨σ3, H3, I4, qn⟩
  · refine wpAny_passesOwn hp (thn (T.item X rfl rfl rfl hc i pins s3 σ3 H3 X.xe I3 (stat fr3) st3 go) fun r s4 ⟨u, hr, h4⟩ => ?_)
    subst hr
    refine wpAny_passesOwn hp (thn h4 fun _ s5 ⟨x, H5, I5, r5, y5, st5, fr5⟩ => ?_)
    have I5' := I5.pinned (stat fr5) (T.obj _ _ st5)
    refine wpAny_passesOwn hp (thn (hg _ s5 σ3 H5 x u _ I5' r5 (step x H5 y5)) fun _ s6 ⟨σ6, H6, I6, q6⟩ => ?_)
    refine wpAny_passesOwn hp (thn (hb _ s6 σ6 H6 _ I6 q6) fun f s7 q7 => ?_)
    have again : ∀ {σ7 : St} {H7 : Hp}, Inv X (pins ++ pinsAt fp s5.heap) σ7 H7 s7 → N σ7 H7 → ∃ m, m < n ∧ ∃ i σ' H', Inv X pins σ' H' s7 ∧ tn i s7.heap ∧ (∀ b ∈ fp, H' b = none) ∧ W i m σ' H' := fun {σ7 H7} I7 n7 => by
      obtain ⟨m', hm, w7⟩ := hN σ7 H7 n7
      refine ⟨m', hm, i + 1, σ7, H7, I7.unpinned, T.keep _ _ _ st5 fun b hb o e => (I7.pin (b, o) (List.mem_append_right _ (List.mem_append_right _ (mem_pinsAt hb e)))).1, fun b hb => ?_, w7⟩
      obtain ⟨o, e, d⟩ := T.obj _ _ st5 b hb
      exact (I7.pin (b, o) (List.mem_append_right _ (List.mem_append_right _ (mem_pinsAt hb e)))).2.1
    cases f with
    | next => obtain ⟨σ7, H7, I7, n7⟩ := q7; exact again I7 n7
    | cont => obtain ⟨σ7, H7, I7, n7⟩ := q7; exact again I7 n7
    | brk => obtain ⟨σ7, H7, I7, q7⟩ := q7; exact ⟨σ7, H7, I7.unpinned, q7⟩
    | ret v => obtain ⟨x7, σ7, H7, I7, r7, q7⟩ := q7; exact ⟨x7, σ7, H7, I7.unpinned, r7, q7⟩
end

end L2

namespace L2
open PySem PySem.Spec PyProof.Rows

abbrev R2 := V → V → Hp → VK → Prop
/-- a two-place operation on values: f is binaryOp op, inplaceOp op or compareOp op -/
def OpR (X : Cx) (f : Value → Value → Sem Value) (r : R2) : Prop :=
  ∀ (pins : List (Addr × Obj)) (s : Shared) (σ : St) (H : Hp) (x y : V) (v u : Value) (Q : VK), Inv X pins σ H s → RelV x v → RelV y u → r x y H Q →
    wpAny (model X.prog X.w) X.A (f v u) (EP X pins σ Q) X.xe s
/-- a one-place operation -/
def UnR (X : Cx) (f : Value → Sem Value) (r : V → Hp → VK → Prop) : Prop :=
  ∀ (pins : List (Addr × Obj)) (s : Shared) (σ : St) (H : Hp) (x : V) (v : Value) (Q : VK), Inv X pins σ H s → RelV x v → r x H Q →
    wpAny (model X.prog X.w) X.A (f v) (EP X pins σ Q) X.xe s
/-- a call of a value that is known (a builtin, a type) with values -/
def CallR (X : Cx) (f : Value) (r : List V → Hp → VK → Prop) : Prop :=
  ∀ (pins : List (Addr × Obj)) (s : Shared) (σ : St) (H : Hp) (xs : List V) (us : List Value) (Q : VK), Inv X pins σ H s → Vals xs us → r xs H Q →
    wpAny (model X.prog X.w) X.A (call f us) (EP X pins σ Q) X.xe s
def tOp (r : R2) (ta tb : TE) : TE := fun σ H Q => ta σ H fun x H1 => tb σ H1 fun y H2 => r x y H2 Q
def tUn (r : V → Hp → VK → Prop) (ta : TE) : TE := fun σ H Q => ta σ H fun x H1 => r x H1 Q
/-- ints in, under C, and a value out -/
def rI (C : Int → Int → Prop) (g : Int → Int → V) : R2 := fun x y H Q => ∃ i j, x = .int i ∧ y = .int j ∧ C i j ∧ Q (g i j) H
def rI0 (g : Int → Int → V) : R2 := fun x y H Q => ∃ i j, x = .int i ∧ y = .int j ∧ Q (g i j) H
def rU (g : Int → V) : V → Hp → VK → Prop := fun x H Q => ∃ i, x = .int i ∧ Q (g i) H

section
variable {X : Cx} {a b c : Expr} {ta tb tc : TE} {pos : Pos}

theorem binT (ha : PE X a ta) (hb : PE X b tb) {pins : List (Addr × Obj)} {s : Shared} {σ : St} {H : Hp} {R : V → V → Hp → Prop} (I : Inv X pins σ H s)
    (h : ta σ H fun x H1 => tb σ H1 fun y H2 => R x y H2) {Q : Value → Shared → Prop} {f : Value → Value → Sem Value}
    (hf : ∀ v u s2 x y H2, Inv X pins σ H2 s2 → RelV x v → RelV y u → R x y H2 → wpAny (model X.prog X.w) X.A (f v u) Q X.xe s2) :
    wpAny (model X.prog X.w) X.A (eval a X.env) (fun v s₁ => wpAny (model X.prog X.w) X.A (eval b X.env) (fun u s₂ => wpAny (model X.prog X.w) X.A (f v u) Q X.xe s₂) X.xe s₁) X.xe s := by
  refine thn (ha pins s σ H _ I h) fun v s1 ⟨x, H1, I1, r1, q1⟩ => ?_
  refine thn (hb pins s1 σ H1 _ I1 q1) fun u s2 ⟨y, H2, I2, r2, q2⟩ => ?_
  exact hf v u s2 x y H2 I2 r1 r2 q2

theorem pe_op {op : Operator} {r : R2} (ho : OpR X (binaryOp op) r) (ha : PE X a ta) (hb : PE X b tb) : PE X (.BinOp a op b pos) (tOp r ta tb) := by
  intro pins s σ H Q I h
  exact wpAny_BinOp (binT ha hb I h fun v u s2 x y H2 I2 rx ry q => ho pins s2 σ H2 x y v u Q I2 rx ry q)
theorem pe_un {op : UnaryOp} {r : V → Hp → VK → Prop} (ho : UnR X (unaryOp op) r) (ha : PE X a ta) : PE X (.UnaryOp op a pos) (tUn r ta) := by
  intro pins s σ H Q I h
  exact UnaryOp_ (thn (ha pins s σ H _ I h) fun v s1 ⟨x, H1, I1, r1, q1⟩ => ho pins s1 σ H1 x v Q I1 r1 q1)
theorem opI {f : Value → Value → Sem Value} {C : Int → Int → Prop} {g : Int → Int → Int}
    (rule : ∀ (i j : Int) (t u : Tok) (s : Shared) (Q : Value → Shared → Prop) (E : Value → Shared → Prop), C i j → Q (.int (g i j) s.toks) { s with toks := s.toks + 1 } → wpAny (model X.prog X.w) X.A (f (.int i t) (.int j u)) Q E s) :
    OpR X f (rI C fun i j => .int (g i j)) := by
  intro pins s σ H x y v u Q I rx ry h
  obtain ⟨i, j, rfl, rfl, hc, q⟩ := h
  obtain ⟨t, rfl⟩ := rx
  obtain ⟨t', rfl⟩ := ry
  exact rule i j t t' s _ _ hc ⟨.int (g i j), H, I.tok _, ⟨_, rfl⟩, q⟩
theorem opI0 {f : Value → Value → Sem Value} {g : Int → Int → Int}
    (rule : ∀ (i j : Int) (t u : Tok) (s : Shared) (Q : Value → Shared → Prop) (E : Value → Shared → Prop), Q (.int (g i j) s.toks) { s with toks := s.toks + 1 } → wpAny (model X.prog X.w) X.A (f (.int i t) (.int j u)) Q E s) :
    OpR X f (rI0 fun i j => .int (g i j)) := by
  intro pins s σ H x y v u Q I rx ry h
  obtain ⟨i, j, rfl, rfl, q⟩ := h
  obtain ⟨t, rfl⟩ := rx
  obtain ⟨t', rfl⟩ := ry
  exact rule i j t t' s _ _ ⟨.int (g i j), H, I.tok _, ⟨_, rfl⟩, q⟩
theorem opB0 {f : Value → Value → Sem Value} {g : Int → Int → Bool}
    (rule : ∀ (i j : Int) (t u : Tok) (s : Shared) (Q : Value → Shared → Prop) (E : Value → Shared → Prop), Q (.bool (g i j)) s → wpAny (model X.prog X.w) X.A (f (.int i t) (.int j u)) Q E s) :
    OpR X f (rI0 fun i j => .bl (g i j)) := by
  intro pins s σ H x y v u Q I rx ry h
  obtain ⟨i, j, rfl, rfl, q⟩ := h
  obtain ⟨t, rfl⟩ := rx
  obtain ⟨t', rfl⟩ := ry
  exact rule i j t t' s _ _ ⟨.bl (g i j), H, I, rfl, q⟩

def CDiv (i j : Int) : Prop := 0 < j ∧ j < 1073741824
def CPow (i j : Int) : Prop := 0 ≤ j ∧ j ≤ 1000000 ∧ i.natAbs < 2 ^ 64
def CMul (i j : Int) : Prop := (-(2 ^ 64) < i ∧ i < 2 ^ 64) ∨ (-(2 ^ 64) < j ∧ j < 2 ^ 64)
theorem CMul.ok {i j : Int} (h : CMul i j) : IntMulOk i j := by
  rcases h with ⟨h1, h2⟩ | ⟨h1, h2⟩
  · exact .of_left (intBits_le_64 h1 h2)
  · exact .of_right (intBits_le_64 h1 h2)
theorem two_pow_nn (k : Nat) : (0 : Int) ≤ 2 ^ k := by
  rw [two_pow_cast]
  exact Int.natCast_nonneg _

theorem op_add : OpR X (binaryOp .Add) (rI0 fun i j => .int (i + j)) := opI0 fun _ _ _ _ _ _ _ q => add_int q
theorem op_sub : OpR X (binaryOp .Sub) (rI0 fun i j => .int (i - j)) := opI0 fun _ _ _ _ _ _ _ q => sub_int q
theorem op_mul : OpR X (binaryOp .Mult) (rI CMul fun i j => .int (i * j)) := opI fun _ _ _ _ _ _ _ hc q => mul_int q hc.ok
/-- // by a positive divisor -/
theorem op_fdiv : OpR X (binaryOp .FloorDiv) (rI CDiv fun i j => .int (i / j)) := opI fun i j _ _ _ _ _ hc q => by
  have h1 : (0 : Int) < j := hc.1
  have h2 : j < 1073741824 := hc.2
  exact floordiv_int (by omega) (by rw [Int.fdiv_eq_ediv_of_nonneg i (by omega)]; exact q) (.inl (PyProof.noPylong_small (by omega)))
/-- % by a positive divisor of any size -/
theorem op_mod : OpR X (binaryOp .Mod) (rI (fun _ j => 0 < j) fun i j => .int (i % j)) := opI fun i j _ _ _ _ _ hc q => by
  have h1 : (0 : Int) < j := hc
  exact mod_int' (by omega) (by rw [Int.fmod_eq_emod_of_nonneg i (by omega)]; exact q)
theorem op_pow : OpR X (binaryOp .Pow) (rI CPow fun i j => .int (i ^ j.toNat)) := opI fun _ _ _ _ _ _ _ hc q => pow_int_small hc.1 hc.2.1 hc.2.2 q
theorem op_shr : OpR X (binaryOp .RShift) (rI (fun _ j => 0 ≤ j) fun i j => .int (i / 2 ^ j.toNat)) := opI fun i j _ _ _ _ _ hc q =>
  rshift_int hc (by rw [Int.fdiv_eq_ediv_of_nonneg i (two_pow_nn _)]; exact q)
theorem op_and : OpR X (binaryOp .BitAnd) (rI0 fun i j => .int (Builtin.bitAnd i j)) := opI0 fun _ _ _ _ _ _ _ q => and_int q
theorem unI {f : Value → Sem Value} {g : Int → Int}
    (rule : ∀ (i : Int) (t : Tok) (s : Shared) (Q : Value → Shared → Prop) (E : Value → Shared → Prop), Q (.int (g i) s.toks) { s with toks := s.toks + 1 } → wpAny (model X.prog X.w) X.A (f (.int i t)) Q E s) :
    UnR X f (rU fun i => .int (g i)) := by
  intro pins s σ H x v Q I rx h
  obtain ⟨i, rfl, q⟩ := h
  obtain ⟨t, rfl⟩ := rx
  exact rule i t s _ _ ⟨.int (g i), H, I.tok _, ⟨_, rfl⟩, q⟩
theorem un_neg : UnR X (unaryOp .USub) (rU fun i => .int (-i)) := unI fun _ _ _ _ _ q => neg_int q
end

/-- the scalars that == tells apart as data does -/
def scal : V → V → Bool
  | .non, .non => true | .non, .int _ => true | .int _, .non => true | .non, .bl _ => true | .bl _, .non => true | .non, .str _ => true | .str _, .non => true
  | .int _, .int _ => true | .bl _, .bl _ => true | .str _, .str _ => true | .byt _, .byt _ => true
  | .int _, .str _ => true | .str _, .int _ => true | .bl _, .str _ => true | .str _, .bl _ => true
  | _, _ => false
def rEq : R2 := fun x y H Q => scal x y = true ∧ Q (.bl (decide (x = y))) H
def rNe : R2 := fun x y H Q => scal x y = true ∧ Q (.bl (!decide (x = y))) H

theorem dec_int {i j : Int} : decide (V.int i = V.int j) = (i == j) := by
  rw [Bool.eq_iff_iff]
  simp
theorem dec_bl {i j : Bool} : decide (V.bl i = V.bl j) = (i == j) := by
  rw [Bool.eq_iff_iff]
  simp
theorem dec_str {i j : Str} : decide (V.str i = V.str j) = (i == j) := by
  rw [Bool.eq_iff_iff]
  simp
theorem dec_byt {i j : Array UInt8} : decide (V.byt i = V.byt j) = (i.toList == j.toList) := by
  rw [Bool.eq_iff_iff]
  cases i
  cases j
  simp

section
variable {X : Cx} {a b c : Expr} {ta tb tc : TE} {pos : Pos}
theorem fin_bl {pins : List (Addr × Obj)} {σ : St} {H : Hp} {s : Shared} {Q : VK} {k k' : Bool} (I : Inv X pins σ H s) (q : Q (.bl k) H) (e : k = k') : EP X pins σ Q (.bool k') s := by
  subst e
  exact ⟨.bl k, H, I, rfl, q⟩
theorem op_eq : OpR X (compareOp .Eq) rEq := by
  intro pins s σ H x y v u Q I rx ry h
  obtain ⟨hs, q⟩ := h
  cases x with
  | non =>
    cases rx
    cases y with
    | non => cases ry; exact PySem.EqNone.eq_none_none (fin_bl I q (by simp))
    | bl j => cases ry; exact PySem.EqNone.eq_none_bool (fin_bl I q (by simp))
    | int j => obtain ⟨t', rfl⟩ := ry; exact PySem.EqNone.eq_none_int (fin_bl I q (by simp))
    | str j => obtain ⟨t', rfl⟩ := ry; exact PySem.EqNone.eq_none_str (fin_bl I q (by simp))
    | _ => exact absurd (show false = true from hs) Bool.false_ne_true
  | bl i =>
    cases rx
    cases y with
    | non => cases ry; exact PySem.EqNone.eq_bool_none (fin_bl I q (by simp))
    | bl j => cases ry; exact eq_bool (fin_bl I q dec_bl)
    | str j => obtain ⟨t', rfl⟩ := ry; exact PySem.EqMixed.eq_bool_str (fin_bl I q (by simp))
    | _ => exact absurd (show false = true from hs) Bool.false_ne_true
  | int i =>
    obtain ⟨t, rfl⟩ := rx
    cases y with
    | non => cases ry; exact PySem.EqNone.eq_int_none (fin_bl I q (by simp))
    | int j => obtain ⟨t', rfl⟩ := ry; exact eq_int (fin_bl I q dec_int)
    | str j => obtain ⟨t', rfl⟩ := ry; exact PySem.EqMixed.eq_int_str (fin_bl I q (by simp))
    | _ => exact absurd (show false = true from hs) Bool.false_ne_true
  | str i =>
    obtain ⟨t, rfl⟩ := rx
    cases y with
    | non => cases ry; exact PySem.EqNone.eq_str_none (fin_bl I q (by simp))
    | bl j => cases ry; exact PySem.EqMixed.eq_str_bool (fin_bl I q (by simp))
    | int j => obtain ⟨t', rfl⟩ := ry; exact PySem.EqMixed.eq_str_int (fin_bl I q (by simp))
    | str j => obtain ⟨t', rfl⟩ := ry; exact eq_str (fin_bl I q dec_str)
    | _ => exact absurd (show false = true from hs) Bool.false_ne_true
  | byt i =>
    obtain ⟨t, rfl⟩ := rx
    cases y with
    | byt j => obtain ⟨t', rfl⟩ := ry; exact PySem.W.eq_bytes (fin_bl I q dec_byt)
    | _ => exact absurd (show false = true from hs) Bool.false_ne_true
  | _ => cases y <;> exact absurd (show false = true from hs) Bool.false_ne_true
theorem op_ne : OpR X (compareOp .NotEq) rNe := by
  intro pins s σ H x y v u Q I rx ry h
  obtain ⟨hs, q⟩ := h
  cases x with
  | non =>
    cases rx
    cases y with
    | non => cases ry; exact PySem.EqNone.ne_none_none (fin_bl I q (by simp))
    | bl j => cases ry; exact PySem.EqNone.ne_none_bool (fin_bl I q (by simp))
    | int j => obtain ⟨t', rfl⟩ := ry; exact PySem.EqNone.ne_none_int (fin_bl I q (by simp))
    | str j => obtain ⟨t', rfl⟩ := ry; exact PySem.EqNone.ne_none_str (fin_bl I q (by simp))
    | _ => exact absurd (show false = true from hs) Bool.false_ne_true
  | bl i =>
    cases rx
    cases y with
    | non => cases ry; exact PySem.EqNone.ne_bool_none (fin_bl I q (by simp))
    | bl j => cases ry; exact ne_bool (fin_bl I q (congrArg not dec_bl))
    | str j => obtain ⟨t', rfl⟩ := ry; exact PySem.EqMixed.ne_bool_str (fin_bl I q (by simp))
    | _ => exact absurd (show false = true from hs) Bool.false_ne_true
  | int i =>
    obtain ⟨t, rfl⟩ := rx
    cases y with
    | non => cases ry; exact PySem.EqNone.ne_int_none (fin_bl I q (by simp))
    | int j => obtain ⟨t', rfl⟩ := ry; exact ne_int (fin_bl I q (congrArg not dec_int))
    | str j => obtain ⟨t', rfl⟩ := ry; exact PySem.EqMixed.ne_int_str (fin_bl I q (by simp))
    | _ => exact absurd (show false = true from hs) Bool.false_ne_true
  | str i =>
    obtain ⟨t, rfl⟩ := rx
    cases y with
    | non => cases ry; exact PySem.EqNone.ne_str_none (fin_bl I q (by simp))
    | bl j => cases ry; exact PySem.EqMixed.ne_str_bool (fin_bl I q (by simp))
    | int j => obtain ⟨t', rfl⟩ := ry; exact PySem.EqMixed.ne_str_int (fin_bl I q (by simp))
    | str j => obtain ⟨t', rfl⟩ := ry; exact ne_str (fin_bl I q (congrArg not dec_str))
    | _ => exact absurd (show false = true from hs) Bool.false_ne_true
  | byt i =>
    obtain ⟨t, rfl⟩ := rx
    cases y with
    | byt j => obtain ⟨t', rfl⟩ := ry; exact PySem.W.ne_bytes (fin_bl I q (congrArg not dec_byt))
    | _ => exact absurd (show false = true from hs) Bool.false_ne_true
  | _ => cases y <;> exact absurd (show false = true from hs) Bool.false_ne_true

theorem op_lt : OpR X (compareOp .Lt) (rI0 fun i j => .bl (decide (i < j))) := opB0 fun _ _ _ _ _ _ _ q => lt_int q
theorem op_le : OpR X (compareOp .LtE) (rI0 fun i j => .bl (decide (i ≤ j))) := opB0 fun _ _ _ _ _ _ _ q => le_int q
theorem op_gt : OpR X (compareOp .Gt) (rI0 fun i j => .bl (decide (j < i))) := opB0 fun _ _ _ _ _ _ _ q => gt_int q
theorem op_ge : OpR X (compareOp .GtE) (rI0 fun i j => .bl (decide (j ≤ i))) := opB0 fun _ _ _ _ _ _ _ q => ge_int q
theorem op_notN : OpR X (compareOp .IsNot) (fun x y H Q => y = .non ∧ Q (.bl (!decide (x = .non))) H) := by
  intro pins s σ H x y v u Q I rx ry h
  obtain ⟨rfl, q⟩ := h
  cases ry
  refine isnot_none_gen (fin_bl I q ?_)
  cases x <;> first
    | (cases rx; rfl)
    | (obtain ⟨t, rfl⟩ := rx; rfl)

/-- two rules for one operation: by cases -/
theorem OpR.or {f : Value → Value → Sem Value} {r r' : R2} (h : OpR X f r) (h' : OpR X f r') : OpR X f (fun x y H Q => r x y H Q ∨ r' x y H Q) := by
  intro pins s σ H x y v u Q I rx ry q
  rcases q with q | q
  · exact h pins s σ H x y v u Q I rx ry q
  · exact h' pins s σ H x y v u Q I rx ry q

theorem nomark (b : Expr) {op : CmpOp} (h : op ≠ .In := by decide) (h2 : op ≠ .NotIn := by decide) : behindInMarks op b = false := by
  have e1 : (op == CmpOp.In) = false := by cases op <;> first | rfl | exact absurd rfl h
  have e2 : (op == CmpOp.NotIn) = false := by cases op <;> first | rfl | exact absurd rfl h2
  cases b <;> simp [behindInMarks, e1, e2]
/-- a comparison as a value; hm: nomark b, or (for in, not in) by with_unfolding_all rfl -/
theorem pe_cmpR {op : CmpOp} {r : R2} (ho : OpR X (compareOp op) r) (ha : PE X a ta) (hb : PE X b tb) (hm : behindInMarks op b = false) : PE X (.Compare a [op] [b] pos) (tOp r ta tb) := by
  intro pins s σ H Q I h
  exact wpAny_Compare1 (binT ha hb I h fun v u s2 x y H2 I2 rx ry q => ho pins s2 σ H2 x y v u Q I2 rx ry q) hm
/-- a reading of a value as a test -/
def tTest (t : TE) : TT := fun σ H Q => t σ H fun x H' => ∃ k, x = .bl k ∧ Q k H'
theorem pt_cmpR {op : CmpOp} {r : R2} (ho : OpR X (compareOp op) r) (ha : PE X a ta) (hb : PE X b tb) (hm : behindInMarks op b = false) : PT X (.Compare a [op] [b] pos) (tTest (tOp r ta tb)) := by
  intro pins s σ H Q I h
  refine wpAny_isTrue_Compare1 (thn (ha pins s σ H _ I h) fun v s1 ⟨x, H1, I1, r1, q1⟩ => thn (hb pins s1 σ H1 _ I1 q1) fun u s2 ⟨y, H2, I2, r2, q2⟩ =>
    thn (ho pins s2 σ H2 x y v u _ I2 r1 r2 q2) fun c s3 ⟨z, H3, I3, r3, k, e, q3⟩ => ?_) hm
  subst e
  cases r3
  exact wpAny_truthy_bool ⟨H3, I3, q3⟩
/-- a op1 b op2 c -/
def tChain (r r' : R2) (ta tb tc : TE) : TE := fun σ H Q => ta σ H fun x H1 => tb σ H1 fun y H2 => r x y H2 fun z H3 => ∃ k, z = .bl k ∧
  (if k = true then tc σ H3 fun w' H4 => r' y w' H4 Q else Q (.bl false) H3)
theorem line63 : (sizeLine : Nat) < 2 ^ 63 := by rw [sizeLine_eq]; decide
theorem vals1 {x : V} {us : List Value} (r : Vals [x] us) : ∃ u, us = [u] ∧ RelV x u := by
  cases r with
  | cons r1 r2 => cases r2; exact ⟨_, rfl, r1⟩
theorem vals2 {x y : V} {us : List Value} (r : Vals [x, y] us) : ∃ u w', us = [u, w'] ∧ RelV x u ∧ RelV y w' := by
  cases r with
  | cons r1 r2 =>
    cases r2 with
    | cons r3 r4 => cases r4; exact ⟨_, _, rfl, r1, r3⟩
theorem call_max2 (hc : X.calm = true) : CallR X (.builtin "max") (fun xs H Q => ∃ i j, xs = [.int i, .int j] ∧ Q (.int (if j > i then j else i)) H) := by
  intro pins s σ H xs us Q I r h
  obtain ⟨i, j, rfl, q⟩ := h
  obtain ⟨u, w', rfl, ⟨t, rfl⟩, ⟨t', rfl⟩⟩ := vals2 r
  refine max_two_ints (I.ok.hd hc) fun h' tk k => ⟨_, H, I.kept k, ?_, q⟩
  by_cases hj : j > i
  · rw [if_pos hj, if_pos hj]; exact ⟨_, rfl⟩
  · rw [if_neg hj, if_neg hj]; exact ⟨_, rfl⟩
end
end L2

namespace L2
open PySem PySem.Spec PyProof.Rows

structure ObjM (h : Heap) (x dx C : Addr) (mA : Str → Option Value) : Prop where
  obj : h.get? x = some (PySem.W.instObj C dx)
  ns : h.Ns1 dx mA
  ne : dx ≠ x

theorem lookIn_ns {h : Heap} {dx : Addr} {mA : Str → Option Value} (n : h.Ns1 dx mA) : ∃ od, h.get? dx = some od ∧ ∀ name, PySem.W.lookIn name od = some (mA name) := by
  obtain ⟨o, es, ep, ho, hd, hk, _, hm⟩ := n
  refine ⟨o, ho, fun name => ?_⟩
  have e := hm name
  unfold nsFind findBy at e
  rw [← Array.find?_toList] at e
  unfold PySem.W.lookIn
  rw [hd]
  dsimp only
  split
  · rename_i y q
    rw [q] at e
    exact congrArg some e
  · rename_i q
    rw [q] at e
    have a : es.toList.any (·.refKey) = false := by
      rw [List.any_eq_false]
      intro y hy
      obtain ⟨z, t, hkey⟩ := hk y (Array.mem_toList_iff.mp hy)
      simp [DictEntry.refKey, hkey]
    have a' : ¬ es.toList.any (·.refKey) = true := by rw [a]; exact Bool.false_ne_true
    rw [if_neg a']
    exact congrArg some e

theorem ObjM.look {h : Heap} {x dx C : Addr} {mA : Str → Option Value} (I : ObjM h x dx C mA) : ∃ od, PySem.W.InstAt h x (PySem.W.instObj C dx) C (some od) ∧ ∀ name, PySem.W.lookIn name od = some (mA name) :=
  let ⟨od, ho, hl⟩ := lookIn_ns I.ns
  ⟨od, ⟨I.obj, rfl, rfl, ho⟩, hl⟩

section
variable {prog : Program} {w : World} {A : Around} {E : Value → Shared → Prop} {s : Shared} {K : PySem.W.Frag} {x dx C f : Addr} {mA : Str → Option Value} {name : Str} {v : Value}

end

def putF (f : Str) (v : V) : List (Str × V) → List (Str × V)
  | [] => [(f, v)]
  | (g, x) :: r => if g = f then (g, v) :: r else (g, x) :: putF f v r
theorem RelO.none_of {o : Option Value} (r : RelO none o) : o = none := by
  cases o with
  | none => rfl
  | some u => exact (show False from r).elim
section
variable {P : Program} {w : World} {H H' : Hp} {h h' : Heap} {a C dx : Addr} {fs fs' : List (Str × V)}
theorem ins_get (hok : HOk P w H h) (e : H a = some (.ins C dx fs)) : ∃ mA, ObjM h a dx C mA ∧ (∀ f, RelO (fs.lookup f) (mA f)) ∧ PySem.Within mA (fs.map (·.1)) ∧ fs.length ≤ 1000 ∧ H dx = some (.own a) := by
  obtain ⟨d, z, ne, ob, mA, n, r, q⟩ := (show ObjOk P w H h a (.ins C dx fs) from hok a _ e)
  exact ⟨mA, ⟨ob, n, ne⟩, r, q, z, d⟩
end

structure Cls (K : PySem.W.Frag) (C : Addr) : Prop where
  pg : PySem.W.plainGet K C Str.empty = true
  hd : PySem.W.hasDictIn K C = true
  po : PySem.W.plainOver K C = true
  sa : PySem.W.findIn K (.ref C) "__setattr__" = some (some (.builtin "object.__setattr__"))
theorem Cls.get {K : PySem.W.Frag} {C : Addr} (c : Cls K C) (f : Str) : PySem.W.plainGet K C f = true := c.pg
/-- no class of it has the name -/
def NoAttr (K : PySem.W.Frag) (C : Addr) (f : Str) : Prop := PySem.W.findIn K (.ref C) f = some none
/-- a constant of the class -/
structure Con (K : PySem.W.Frag) (C : Addr) (f : Str) (v : V) (u : Value) : Prop where
  at_ : PySem.W.findIn K (.ref C) f = some (some u)
  rel : RelV v u
  get : PySem.W.specialIn K u "__get__" = some none
  cp : PySem.W.copiedNames.contains f = false
/-- a method: a plain def of the class or of one above it -/
structure Meth (K : PySem.W.Frag) (C : Addr) (m : Str) (f : Addr) : Prop where
  at_ : PySem.W.findIn K (.ref C) m = some (some (.ref f))
  fn : PySem.W.isFn K (.ref f) = true
  kp : PySem.W.keepIn K (.ref f) = true

section
variable {X : Cx} {pins : List (Addr × Obj)} {σ : St} {H : Hp} {s : Shared} {a C dx : Addr} {fs : List (Str × V)} {f : Str} {v : V} {A : Around} {E : Value → Shared → Prop}

/-- a new instance, tracked, without attributes -/
theorem Inv.made (I : Inv X pins σ H s) : Inv X pins σ (upd (upd H s.heap.objs.size (.own (s.heap.objs.size + 1))) (s.heap.objs.size + 1) (.ins C s.heap.objs.size []))
    { s with heap := (s.heap.push PySem.W.emptyDict).push (PySem.W.instObj C s.heap.objs.size) } := by
  have e1 : (s.heap.push PySem.W.emptyDict).get? s.heap.objs.size = some PySem.W.emptyDict := Heap.get?_push_size s.heap rfl
  have e2 : ((s.heap.push PySem.W.emptyDict).push (PySem.W.instObj C s.heap.objs.size)).get? (s.heap.objs.size + 1) = some (PySem.W.instObj C s.heap.objs.size) := by
    have := Heap.get?_push_size (s.heap.push PySem.W.emptyDict) (o := PySem.W.instObj C s.heap.objs.size) rfl
    rwa [Heap.size_push] at this
  have e3 : (s.heap.push PySem.W.emptyDict).Ns s.heap.objs.size (fun _ => none) := ⟨PySem.W.emptyDict, #[], _, e1, rfl, (fun e he => absurd he (by simp)), fun _ => rfl⟩
  have I1 := I.laid (a := s.heap.objs.size) (o := .own (s.heap.objs.size + 1)) (h' := s.heap.push PySem.W.emptyDict) (t' := s.toks) (fun b u q => Heap.get?_push_of_some _ q) (Nat.le_refl _) ⟨_, e1⟩
  refine I1.laid (a := s.heap.objs.size + 1) (o := .ins C s.heap.objs.size []) (t' := s.toks) (fun b u q => Heap.get?_push_of_some _ q) (Nat.le_of_eq (Heap.size_push _ _)) ?_
  have ne : s.heap.objs.size ≠ s.heap.objs.size + 1 := Nat.ne_of_lt (Nat.lt_succ_self _)
  refine ⟨by rw [upd_ne ne, upd_same], Nat.zero_le _, ne, e2, fun _ => none, (Heap.Ns1.of_empty e3).at fun o q => Heap.get?_push_of_some _ q, fun _ => True.intro, fun y hy => absurd rfl hy⟩

end

/-- e.f, an attribute of the instance -/
def tFld (K : PySem.W.Frag) (ta : TE) (f : Str) : TE := fun σ H Q => ta σ H fun x H1 => ∃ a C dx fs v, x = .ref a ∧ H1 a = some (.ins C dx fs) ∧ Cls K C ∧ NoAttr K C f ∧ fs.lookup f = some v ∧ Q v H1
/-- e.f = value -/
def sFld (K : PySem.W.Frag) (ta tv : TE) (f : Str) : TS := fun D σ H => tv σ H fun y H1 => ta σ H1 fun x H2 => ∃ a C dx fs, x = .ref a ∧ H2 a = some (.ins C dx fs) ∧ Cls K C ∧ NoAttr K C f ∧ fs.length < 1000 ∧
  D.nx σ (upd H2 a (.ins C dx (putF f y fs)))
section
variable {X : Cx} {o e value : Expr} {f : Str} {pos pos' tpos : Pos} {ta tv : TE}
end

section
variable {X : Cx} {pins : List (Addr × Obj)} {σ : St} {H : Hp} {s : Shared} {A : Around} {E : Value → Shared → Prop} {Q : Value → Shared → Prop} {c : Value} {b : Bool}
/-- the type of a value, as the fragment's deciders take it; for an instance its class -/
inductive TyOf (K : PySem.W.Frag) (H : Hp) : V → Value → Prop where
  | non : TyOf K H .non (.type "NoneType")
  | bl (x : Bool) : TyOf K H (.bl x) (.type "bool")
  | int (i : Int) : TyOf K H (.int i) (.type "int")
  | str (x : Str) : TyOf K H (.str x) (.type "str")
  | flt (x : UInt64) : TyOf K H (.flt x) (.type "float")
  | lst {a : Addr} {xs : List V} (e : H a = some (.lst xs)) : TyOf K H (.ref a) (.type "list")
  | frz {a : Addr} {o : Obj} {xs : List V} (e : H a = some (.frz o (.lst xs))) : TyOf K H (.ref a) (.type "list")
  | tup {a : Addr} {xs : List V} (e : H a = some (.tup xs)) : TyOf K H (.ref a) (.type "tuple")
  | dK {a : Addr} {kvs : List (Key × V)} (e : H a = some (.dK kvs)) : TyOf K H (.ref a) (.type "dict")
  | dT {a : Addr} {kvs : List (List Key × V)} (e : H a = some (.dT kvs)) : TyOf K H (.ref a) (.type "dict")
  | ins {a C dx : Addr} {fs : List (Str × V)} (e : H a = some (.ins C dx fs)) (cl : Cls K C) (ha : PySem.W.findIn K (.ref C) "__class__" = some (some (.builtin "object.__class__")))
      (hn : PySem.W.specialIn K (.builtin "object.__class__") "__get__" = some (some (.builtin "getset_descriptor.__get__"))) (htk : PySem.W.takesIn K (.builtin "object.__class__") = some true)
      (hm : PySem.W.mroIn K C (.type "object") = some true) : TyOf K H (.ref a) (.ref C)
/-- isinstance(x, c) for one class c, a built-in or an own one: kitOne's answer -/
theorem isinst_ok {x : V} {u t : Value} (I : Inv X pins σ H s) (rx : RelV x u) (ty : TyOf X.K H x t) (e : PySem.W.kitOne X.K t c = some b) (h : ∀ tk, Q (.bool b) { s with toks := tk }) :
    wpAny (model X.prog X.w) A (call (.builtin "isinstance") [u, c]) Q E s := by
  cases ty with
  | non => cases (show u = Value.none from rx); exact PySem.W.kia_one PySem.W.kitx_none I.kIn True.intro e (fun z => nomatch z) h
  | bl y => cases (show u = Value.bool y from rx); exact PySem.W.kia_one PySem.W.kitx_bool I.kIn True.intro e (fun z => nomatch z) h
  | int i => obtain ⟨t, q⟩ := (show ∃ t, u = Value.int i t from rx); cases q; exact PySem.W.kia_one PySem.W.kitx_int I.kIn True.intro e (fun z => nomatch z) h
  | str y => obtain ⟨t, q⟩ := (show ∃ t, u = Value.str y t from rx); cases q; exact PySem.W.kia_one PySem.W.kitx_str I.kIn True.intro e (fun z => nomatch z) h
  | flt y => obtain ⟨t, q⟩ := (show ∃ t, u = Value.float y t from rx); cases q; exact PySem.W.kia_one PySem.W.kitx_float I.kIn True.intro e (fun z => nomatch z) h
  | @lst a xs ea =>
    cases (show u = Value.ref a from rx)
    obtain ⟨_, _, n, _, h1⟩ := (show ObjOk X.prog X.w H s.heap a (.lst xs) from I.hok a _ ea)
    exact PySem.W.kia_one PySem.W.kitx_list I.kIn ⟨_, h1, rfl⟩ e (fun z => nomatch z) h
  | @frz a ob xs ea =>
    cases (show u = Value.ref a from rx)
    obtain ⟨_, _, _, n, _, h1⟩ := (show ObjOk X.prog X.w H s.heap a (.frz ob (.lst xs)) from I.hok a _ ea)
    exact PySem.W.kia_one PySem.W.kitx_list I.kIn ⟨_, h1, rfl⟩ e (fun z => nomatch z) h
  | @tup a xs ea =>
    cases (show u = Value.ref a from rx)
    obtain ⟨_, _, _, p⟩ := (show ObjOk X.prog X.w H s.heap a (.tup xs) from I.hok a _ ea)
    obtain ⟨o, h1, h2, _⟩ := p
    exact PySem.W.kia_one PySem.W.kitx_tuple I.kIn ⟨o, h1, h2⟩ e (fun z => nomatch z) h
  | @dK a kvs ea =>
    cases (show u = Value.ref a from rx)
    obtain ⟨_, _, vs, _, p⟩ := (show ObjOk X.prog X.w H s.heap a (.dK kvs) from I.hok a _ ea)
    obtain ⟨o, es, ep, h1, h2, _⟩ := p
    exact PySem.W.kia_one PySem.W.kitx_dict I.kIn ⟨o, h1, h2.1⟩ e (fun z => nomatch z) h
  | @dT a kvs ea =>
    cases (show u = Value.ref a from rx)
    obtain ⟨_, _, xs, _, o, es, ep, h1, h2, _⟩ := (show ObjOk X.prog X.w H s.heap a (.dT kvs) from I.hok a _ ea)
    exact PySem.W.kia_one PySem.W.kitx_dict I.kIn ⟨o, h1, h2.1⟩ e (fun z => nomatch z) h
  | @ins a C dx fs ea cl ha hn htk hm =>
    cases (show u = Value.ref a from rx)
    obtain ⟨mA, O, _⟩ := ins_get I.hok ea
    obtain ⟨od, J, _⟩ := O.look
    exact PySem.W.kia_one (PySem.W.kitx_own (cl.get _) cl.hd ha hn htk hm) I.kIn J e (fun z => nomatch z) h
end
end L2

namespace L2
open PySem PySem.Spec PyProof.Rows

structure Room (k : Nat) (A : Around) : Prop where
  hd : A.handled = none
  dp : A.depth + 3 * k + 5 < recursionLimit
  un : A.units + 16 * k + 200 < cLine
theorem Room.mono {j k : Nat} {A : Around} (r : Room k A) (h : j ≤ k) : Room j A := ⟨r.hd, by have := r.dp; omega, by have := r.un; omega⟩
theorem Room.deeper {k : Nat} {A : Around} (r : Room (k + 1) A) (env : Env) : Room k (A.deeper env) :=
  ⟨r.hd, by have := r.dp; show A.depth + 1 + 3 * k + 5 < _; omega, by have := r.un; show A.units + 3 + 16 * k + 200 < _; omega⟩
theorem Room.in1 {k : Nat} {A : Around} (r : Room (k + 1) A) : Room k A.in1 :=
  ⟨r.hd, by have := r.dp; show A.depth + 3 * k + 5 < _; omega, by have := r.un; show A.units + 1 + 16 * k + 200 < _; omega⟩
theorem Room.depth {k : Nat} {A : Around} (r : Room k A) : A.depth < recursionLimit := by have := r.dp; omega
theorem Room.units {k : Nat} {A : Around} (r : Room k A) : A.units + 64 < cLine := by have := r.un; omega
def tNil : TA := fun _ H Q => Q [] H
def tCons (ta : TE) (tr : TA) : TA := fun σ H Q => ta σ H fun x H1 => tr σ H1 fun xs H2 => Q (x :: xs) H2
section
variable {X : Cx} {e : Expr} {es : List Expr} {te : TE} {t : TA} {pos : Pos}
theorem pa_nil : PA X [] tNil := fun _ _ _ _ H Q I h => Calls.spliced_nil ⟨[], H, I, .nil, h⟩
theorem pa_cons (ha : PE X e te) (hr : PA X es t) (hs : starEach (e :: es) X.env = (false, eval e X.env) :: starEach es X.env := by rfl) : PA X (e :: es) (tCons te t) := by
  intro pos pins s σ H Q I h
  rw [hs]
  show wpAny _ _ (spliced ((false, eval e X.env) :: backTo pos (starEach es X.env))) _ _ s
  refine Calls.spliced_cons (thn (ha pins s σ H _ I h) fun u s1 ⟨x, H1, I1, r1, q1⟩ => ?_)
  exact thn (hr pos pins s1 σ H1 _ I1 q1) fun us s2 ⟨xs, H2, I2, r2, q2⟩ => ⟨x :: xs, H2, I2, .cons r1 r2, q2⟩

/-- a tuple, a list of written items -/
def tTup (t : TA) : TE := fun σ H Q => t σ H fun xs H1 => xs.length ≤ sizeLine ∧ ∀ p, H1 p = none → Q (.ref p) (upd H1 p (.tup xs))
def tLst (t : TA) : TE := fun σ H Q => t σ H fun xs H1 => xs.length ≤ sizeLine ∧ ∀ p, H1 p = none → Q (.ref p) (upd H1 p (.lst xs))
theorem pe_tup {x1} (h : PA X es t) : PE X (.Tuple es x1 pos) (tTup t) := by
  intro pins s σ H Q I hq
  refine wpAny_Tuple_spliced (thn (h pos pins s σ H _ I hq) fun us s1 ⟨xs, H1, I1, r, z, q⟩ => ⟨by rw [← r.length]; exact z, ?_⟩)
  have hf : H1 s1.heap.objs.size = none := I1.hok.fresh (Nat.le_refl _)
  refine ⟨.ref s1.heap.objs.size, upd H1 s1.heap.objs.size (.tup xs), I1.laid (t' := s1.toks) (fun b u e => Heap.get?_push_of_some _ e) (Nat.le_refl _) ?_, rfl, q _ hf⟩
  exact ⟨z, us, r, ⟨_, Heap.get?_push_size _ rfl, rfl, _, rfl⟩⟩
theorem pe_lst (h : PA X es t) : PE X (.List es pos) (tLst t) := by
  intro pins s σ H Q I hq
  refine wpAny_List_spliced (thn (h pos pins s σ H _ I hq) fun us s1 ⟨xs, H1, I1, r, z, q⟩ => ⟨by rw [← r.length]; exact z, ?_⟩)
  have hf : H1 s1.heap.objs.size = none := I1.hok.fresh (Nat.le_refl _)
  refine ⟨.ref s1.heap.objs.size, upd H1 s1.heap.objs.size (.lst xs), I1.laid (t' := s1.toks) (fun b u e => Heap.get?_push_of_some _ e) (Nat.le_refl _) ?_, rfl, q _ hf⟩
  exact ⟨z, us, 0, r, Heap.get?_push_size _ rfl⟩
end

/-- a def's promise: the bound arguments in the parameters' order, the heap, the wanted end, the wanted exception -/
abbrev Sp := List V → Hp → VK → XK → Prop
/-- how an exception lies behind a call (file 08 gives it): the callers' frames, abstract heap and state ahead of the call, the wish, the exception, the state -/
abbrev CXT := List Env → Hp → Shared → XK → Value → Shared → Prop

/-- the state at a call -/
structure Env0 (P : Program) (w : World) (K : PySem.W.Frag) (mg : Str → Option Value) (base : Heap) (A : Around) (outer : List Env) (s : Shared) (H : Hp) : Prop where
  frames : A.frames = some outer
  mod : Mod K mg base
  bs : ∀ b o, base.get? b = some o → s.heap.get? b = some o ∧ H b = none
  bsz : base.objs.size ≤ s.heap.objs.size
  funs : s.heap.FunFrames base outer
  frf : ∀ b ∈ frs outer, H b = none
  hok : HOk P w H s.heap
  bare : AllBare s.gens
/-- a call's end -/
def CE (outer : List Env) (P : Program) (w : World) (H : Hp) (s : Shared) (Q : VK) (u : Value) (s' : Shared) : Prop :=
  ∃ v H', s'.os = s.os ∧ AllBare s'.gens ∧ Un (frs outer) [] H H' s.heap s'.heap ∧ HOk P w H' s'.heap ∧ RelV v u ∧ Q v H'
def CR (CX : CXT) (outer : List Env) (P : Program) (w : World) (H : Hp) (s : Shared) (Q : VK) (E : XK) (r : Result) (s' : Shared) : Prop :=
  match r with
  | .ok (.ret u) => CE outer P w H s Q u s'
  | .ok _ => False
  | .error e => CX outer H s E e s'
structure FnOk (P : Program) (w : World) (K : PySem.W.Frag) (mg : Str → Option Value) (base : Heap) (CX : CXT) (k : Nat) (f : Addr) (fd : FuncData) (ps : List Str) (sp : Sp) : Prop where
  len : ∀ vs H Q E, sp vs H Q E → vs.length = ps.length
  run : ∀ (A : Around) (outer : List Env) (s : Shared) (H : Hp) (args : Args) (us : List Value) (vs : List V) (Q : VK) (E : XK), Room k A → Env0 P w K mg base A outer s H → BindsTo s fd args (ps.zip us) → Vals vs us → sp vs H Q E →
    codeAny (model P w) A (.call (.ref f) args) (CR CX outer P w H s Q E) s
theorem FnOk.mono {P : Program} {w : World} {K : PySem.W.Frag} {mg : Str → Option Value} {base : Heap} {CX : CXT} {j k : Nat} {f : Addr} {fd : FuncData} {ps : List Str} {sp : Sp} (F : FnOk P w K mg base CX j f fd ps sp) (h : j ≤ k) :
    FnOk P w K mg base CX k f fd ps sp := ⟨F.len, fun A outer s H args us vs Q E hr => F.run A outer s H args us vs Q E (hr.mono h)⟩
theorem Env0.in1 {P : Program} {w : World} {K : PySem.W.Frag} {mg : Str → Option Value} {base : Heap} {A : Around} {outer : List Env} {s : Shared} {H : Hp} (e : Env0 P w K mg base A outer s H) :
    Env0 P w K mg base A.in1 outer s H := ⟨e.frames, e.mod, e.bs, e.bsz, e.funs, e.frf, e.hok, e.bare⟩

section
variable {X : Cx} {pins : List (Addr × Obj)} {σ : St} {H : Hp} {s s' : Shared}
/-- from a body: what a callee wants -/
theorem Inv.env0 (I : Inv X pins σ H s) : Env0 X.prog X.w X.K X.mg X.base X.A X.stack s H :=
  ⟨I.ok.frames, I.ok.mod, I.bs, Nat.le_trans I.ok.bsz I.sz, I.stack, I.stkFree, I.hok, I.bare⟩
/-- behind a call -/
theorem Inv.after {Q : VK} {u : Value} (I : Inv X pins σ H s) (h : CE X.stack X.prog X.w H s Q u s') : EP X pins σ Q u s' := by
  obtain ⟨v, H', os, bare, un, hok, r, q⟩ := h
  obtain ⟨hh, g, d, t, os'⟩ := s'
  obtain rfl : os' = s.os := os
  exact ⟨v, H', I.call (h' := hh) (g' := g) (d' := d) (t' := t) (ch := []) un hok bare (fun b z => absurd z (by simp)), r, q⟩
end

/-- f(..): the written arguments, then the defaults dvs; E: what is wanted of an exception -/
def tCall (sp : Sp) (dvs : List V) (E : XK) (t : TA) : TE := fun σ H Q => t σ H fun vs H1 => sp (vs ++ dvs) H1 Q E
/-- o.m(..) of an instance of the class at C -/
def tMeth (C : Addr) (m : Str) (sp : Sp) (dvs : List V) (E : XK) (ta : TE) (t : TA) : TE := fun σ H Q => ta σ H fun x H1 => ∃ a dx fs, x = .ref a ∧ H1 a = some (.ins C dx fs) ∧ fs.lookup m = none ∧
  t σ H1 fun vs H2 => sp (x :: (vs ++ dvs)) H2 Q E
/-- C(..): a new instance and its dict, then __init__ -/
def tMake (C : Addr) (sp : Sp) (dvs : List V) (E : XK) (t : TA) : TE := fun σ H Q => t σ H fun vs H1 => ∀ x dx, H1 x = none → H1 dx = none → dx ≠ x →
  sp (.ref x :: (vs ++ dvs)) (upd (upd H1 dx (.own x)) x (.ins C dx [])) (fun v H2 => v = .non ∧ Q (.ref x) H2) E

/-- how the parameters are bound: us the positional arguments, kw the keywords' values by name, ds the defaults that fill up -/
def Binds (K : PySem.W.Frag) (fd : FuncData) (ps : List Str) (ds : List Value) : Prop :=
  ∀ (s : Shared) (us : List Value), K.In s.heap → (us ++ ds).length = ps.length → BindsTo s fd ⟨us, []⟩ (ps.zip (us ++ ds))
/-- every parameter is given -/
theorem Binds.all {K : PySem.W.Frag} {fd : FuncData} {ps : List Str} (h : ∀ us : List Value, us.length = ps.length → bindArgs fd ⟨us, []⟩ = pure (ps.zip us)) : Binds K fd ps [] := fun s us _ hl => by
  rw [List.append_nil] at hl ⊢
  exact .of_eq (h us hl)

/-- an exception of a callee reaches what this body wants of exceptions -/
def Passes (CX : CXT) (X : Cx) (E : XK) : Prop := ∀ (pins : List (Addr × Obj)) (σ : St) (H : Hp) (s : Shared) (e : Value) (s' : Shared), Inv X pins σ H s → CX X.stack H s E e s' → X.xe e s'

section
variable {X : Cx} {CX : CXT} {k : Nat} {f C : Addr} {fd : FuncData} {ps : List Str} {sp : Sp} {dvs : List V} {ds : List Value} {E : XK} {x m : Str} {p pos apos : Pos} {e o : Expr} {es : List Expr} {ta : TE} {t : TA}

/-- the callee runs -/
theorem run_fn {pins : List (Addr × Obj)} {σ : St} {H : Hp} {s : Shared} {Q : VK} {us : List Value} {vs : List V} (F : FnOk X.prog X.w X.K X.mg X.base CX k f fd ps sp) (hr : Room k X.A) (hb : Binds X.K fd ps ds) (hd : Vals dvs ds) (hx : Passes CX X E)
    (I : Inv X pins σ H s) (r : Vals vs us) (h : sp (vs ++ dvs) H Q E) : wpAny (model X.prog X.w) X.A (call (.ref f) us) (EP X pins σ Q) X.xe s := by
  have r2 : Vals (vs ++ dvs) (us ++ ds) := r.append hd
  have hl : (us ++ ds).length = ps.length := by rw [← r2.length]; exact F.len _ _ _ _ h
  refine wpAny_call (codeAny_mono (F.run X.A X.stack s H ⟨us, []⟩ (us ++ ds) (vs ++ dvs) Q E hr I.env0 (hb s us I.kIn hl) r2 h) fun r s' hq => ?_)
  cases r with
  | error e => exact hx pins σ H s e s' I hq
  | ok fl =>
    cases fl with
    | ret u => exact I.after hq
    | next => exact False.elim hq
    | brk => exact False.elim hq
    | cont => exact False.elim hq

theorem pe_call (F : FnOk X.prog X.w X.K X.mg X.base CX k f fd ps sp) (hr : Room k X.A) (hg : Gl X x) (hm : X.mg x = some (.ref f)) (hk : PySem.W.keepIn X.K (.ref f) = true) (hb : Binds X.K fd ps ds) (hd : Vals dvs ds) (hx : Passes CX X E)
    (ha : PA X (e :: es) t) (hdb : (x == ("__debug__" : Str)) = false := by decide) (he : starEach (e :: es) X.env = (false, eval e X.env) :: starEach es X.env := by rfl) (hpl : (backTo pos (starEach es X.env)).any (·.1) = false := by rfl) :
    PE X (.Call (.Name x p) (e :: es) [] pos) (tCall sp dvs E t) := by
  intro pins s σ H Q I h
  refine wpAny_Call_Name_kw (ld_glob I hg hm ?_ hdb)
  refine PySem.W.callWith_K (h₀ := X.base) I.ok.mod.kin hk (thn (ha pos pins s σ H _ I h) fun us s1 ⟨vs, H1, I1, r, q⟩ => ⟨I1.kIn, ?_⟩) he hpl
  exact run_fn F hr hb hd hx I1 r q
/-- what a class must have to be made -/
structure Mk (K : PySem.W.Frag) (C f : Addr) : Prop where
  makes : PySem.W.makesIn K C = true
  init : PySem.W.findIn K (.ref C) "__init__" = some (some (.ref f))
  fn : PySem.W.isFn K (.ref f) = true
  kp : PySem.W.keepIn K (.ref C) = true

end

section
variable {X : Cx} {CX : CXT} {k : Nat} {f C : Addr} {fd : FuncData} {ps ks : List Str} {sp : Sp} {E : XK} {x m : Str} {p pos apos kpos : Pos} {e o : Expr} {es : List Expr} {kws : List Keyword} {te ta : TE} {t tk : TA} {nm : Option Str}
/-- how a call with keywords binds: g puts the positional values us and the keywords' values ws (names ks) in the parameters' order, defaults among them -/
structure KBinds (K : PySem.W.Frag) (fd : FuncData) (ps ks : List Str) (g : List Value → List Value → List Value) (gV : List V → List V → List V) : Prop where
  to : ∀ (s : Shared) (us ws : List Value), K.In s.heap → (g us ws).length = ps.length → BindsTo s fd ⟨us, ks.zip ws⟩ (ps.zip (g us ws))
  rel : ∀ {vs : List V} {us : List Value} {zs : List V} {ws : List Value}, Vals vs us → Vals zs ws → Vals (gV vs zs) (g us ws)
variable {g : List Value → List Value → List Value} {gV : List V → List V → List V}
end

/-- names: the parameters first -/
structure FnScope (N P : List Str) (sc : Scope) : Prop where
  kind : sc.kind = .function
  co : sc.isCoroutine = false
  gen : sc.isGenerator = false
  nd : N.Nodup
  pre : N.take P.length = P
  par : ∀ x ∈ P, sc.names.lookup x = some .local ∨ sc.names.lookup x = some .cell
  nofree : ∀ y ∈ sc.names, y.2 ≠ .free

theorem bindL_out {kindOf : Str → Option NameKind} {x : Str} : ∀ {binds : List (Str × Value)} {m : Str → Option Value}, (∀ v, (x, v) ∉ binds) → bindL kindOf binds m x = m x
  | [], _, _ => rfl
  | (n, v) :: r, m, h => by
    unfold bindL
    rw [bindL_out fun w hw => h w (List.mem_cons_of_mem _ hw)]
    split
    · have : x ≠ n := by rintro rfl; exact h v List.mem_cons_self
      simp [this]
    · rfl
theorem bindC_out {kindOf : Str → Option NameKind} {x : Str} : ∀ {binds : List (Str × Value)} {m : Str → Option Value}, (∀ v, (x, v) ∉ binds) → bindC kindOf binds m x = m x
  | [], _, _ => rfl
  | (n, v) :: r, m, h => by
    unfold bindC
    rw [bindC_out fun w hw => h w (List.mem_cons_of_mem _ hw)]
    split
    · rfl
    · have : x ≠ n := by rintro rfl; exact h v List.mem_cons_self
      simp [this]
theorem bindL_get {kindOf : Str → Option NameKind} {x : Str} {v : Value} : ∀ {P : List Str} {vs : List Value} {i : Nat} {m : Str → Option Value}, P.Nodup → P[i]? = some x → vs[i]? = some v → kindOf x = some .local →
    bindL kindOf (P.zip vs) m x = some v
  | [], _, _, _, _, h, _, _ => by simp at h
  | _ :: _, [], _, _, _, _, h, _ => by simp at h
  | p :: P, w :: vs, 0, m, nd, h1, h2, hk => by
    simp at h1 h2; subst h1; subst h2
    show bindL kindOf ((p, w) :: P.zip vs) m p = _
    unfold bindL
    rw [bindL_out fun v hv => (List.nodup_cons.mp nd).1 (List.of_mem_zip hv).1, if_pos hk]
    simp
  | p :: P, w :: vs, i + 1, m, nd, h1, h2, hk => by
    show bindL kindOf ((p, w) :: P.zip vs) m x = _
    unfold bindL
    exact bindL_get (i := i) (List.nodup_cons.mp nd).2 (by simpa using h1) (by simpa using h2) hk
theorem bindC_get {kindOf : Str → Option NameKind} {x : Str} {v : Value} : ∀ {P : List Str} {vs : List Value} {i : Nat} {m : Str → Option Value}, P.Nodup → P[i]? = some x → vs[i]? = some v → kindOf x ≠ some .local →
    bindC kindOf (P.zip vs) m x = some v
  | [], _, _, _, _, h, _, _ => by simp at h
  | _ :: _, [], _, _, _, _, h, _ => by simp at h
  | p :: P, w :: vs, 0, m, nd, h1, h2, hk => by
    simp at h1 h2; subst h1; subst h2
    show bindC kindOf ((p, w) :: P.zip vs) m p = _
    unfold bindC
    rw [bindC_out fun v hv => (List.nodup_cons.mp nd).1 (List.of_mem_zip hv).1, if_neg hk]
    simp
  | p :: P, w :: vs, i + 1, m, nd, h1, h2, hk => by
    show bindC kindOf ((p, w) :: P.zip vs) m x = _
    unfold bindC
    exact bindC_get (i := i) (List.nodup_cons.mp nd).2 (by simpa using h1) (by simpa using h2) hk

/-- the names' values at the entry -/
def start (N : List Str) (vs : List V) : St := vs.map some ++ List.replicate (N.length - vs.length) none

/-- the context of a def's body, at its entry; an exception leaves the frame, then lies as CX says -/
def cxOf (CX : CXT) (P : Program) (w : World) (K : PySem.W.Frag) (mg : Str → Option Value) (base : Heap) (N : List Str) (qual : Str) (scope : Scope) (f : Addr) (cd : Value) (A : Around) (outer : List Env) (s : Shared) (H : Hp) (E : XK) : Cx where
  prog := P
  w := w
  K := K
  mg := mg
  base := base
  A := A.deeper (envOfC qual scope s.heap.objs.size f cd)
  N := N
  s₀ := s
  H₀ := H
  env := envOfC qual scope s.heap.objs.size f cd
  outer := outer
  stack := envOfC qual scope s.heap.objs.size f cd :: outer
  ex := []
  calm := true
  fn := fun _ => true
  pn := []
  xe := fun e s' => wpAny (model P w) (A.deeper (envOfC qual scope s.heap.objs.size f cd)) (leaving (envOfC qual scope s.heap.objs.size f cd) e) (fun _ s'' => CX outer H s E e s'') (fun e' s'' => CX outer H s E e' s'') s'

theorem cell_has {sc : Scope} {n : Nat} {x : Str} (h : sc.names.lookup x = some .cell) : ∃ c, (cellsFrom n sc.names []).lookup x = some c := by
  have q := PySem.W.cellsFrom_some sc.names n [] (.inl h)
  exact Option.isSome_iff_exists.mp q

theorem inv_start {CX : CXT} {P : Program} {w : World} {K : PySem.W.Frag} {mg : Str → Option Value} {base : Heap} {N ps : List Str} {qual : Str} {scope : Scope} {f : Addr} {cd : Value} {A : Around} {outer : List Env} {s s1 : Shared} {H : Hp} {E : XK} {us : List Value} {vs : List V}
    (S : FnScope N ps scope) (hd : A.handled = none) (e0 : Env0 P w K mg base A outer s H) (hl : vs.length = ps.length) (r : Vals vs us)
    (x : InCallC s s.heap.objs.size (bindL (envOfC qual scope s.heap.objs.size f cd).kindOf (ps.zip us) fun _ => none) (cellsFrom (s.heap.objs.size + 1) scope.names []) (bindC (envOfC qual scope s.heap.objs.size f cd).kindOf (ps.zip us) fun _ => none) s1) :
    Inv (cxOf CX P w K mg base N qual scope f cd A outer s H E) [] (start N vs) H s1 := by
  have hpl : ps.length ≤ N.length := by have := congrArg List.length S.pre; rw [List.length_take] at this; omega
  obtain ⟨h1, tk, rfl, hk⟩ := x.done
  have noA : ∀ b : Addr, b ∉ (cxOf CX P w K mg base N qual scope f cd A outer s H E).ex := fun b z => absurd (show b ∈ ([] : List Addr) from z) (by simp)
  refine ⟨⟨e0.mod, S.kind, rfl, rfl, Nat.le_refl _, fun y z c h1 h2 => ?_, fun y hy => ?_, fun y c _ h => ?_, fun _ => hd, Around.frames_deeper e0.frames, .inr ⟨rfl, rfl⟩, fun b z => absurd z (noA b), e0.bs, e0.bsz, fun b _ _ => noA b, fun b z => absurd z (noA b), e0.funs, e0.frf⟩,
    rfl, e0.bare, Un.kept hk, ⟨_, x.toInCall.ns, fun i y v h1 h2 h3 => ?_⟩, fun y c h => ⟨_, x.cell y c h⟩, e0.hok.fresh (Nat.le_refl _), fun y c h => ?_, fun p hp => absurd (show p ∈ ([] : List (Addr × Obj)) from hp) (by simp), e0.hok.kept hk, ?_⟩
  · exact name_of_addr x.apart (PySem.mem_of_lookup h1) (PySem.mem_of_lookup h2)
  · have hy : scope.names.lookup y = some .cell ∨ scope.names.lookup y = some .free := hy
    rcases hy with hy | hy
    · exact cell_has hy
    · exact absurd rfl (S.nofree _ (PySem.mem_of_lookup hy))
  · exact Nat.le_of_lt (x.above y c (PySem.mem_of_lookup h))
  · have hi : i < vs.length := by
      unfold start at h2
      by_cases hi : i < vs.length
      · exact hi
      · rw [List.getElem?_append_right (by simpa using hi)] at h2
        rw [List.getElem?_replicate] at h2
        split at h2 <;> cases h2
    have ha : vs[i]? = some v := by
      unfold start at h2
      rw [List.getElem?_append_left (by simpa using hi), List.getElem?_map] at h2
      cases e : vs[i]? with
      | none => rw [e] at h2; cases h2
      | some a => rw [e] at h2; cases h2; rfl
    obtain ⟨u, hu, rv⟩ := r.get ha
    have hp : ps[i]? = some y := by
      rw [← S.pre, List.getElem?_take_of_lt (by omega)]; exact h1
    have ndP : ps.Nodup := by rw [← S.pre]; exact S.nd.sublist (List.take_sublist _ _)
    refine ⟨u, rv, ?_⟩
    rcases S.par y (List.mem_of_getElem? hp) with k | k
    · exact .inl ⟨k, bindL_get ndP hp hu k⟩
    · obtain ⟨c, e⟩ := cell_has (n := s.heap.objs.size + 1) k
      refine .inr ⟨.inl k, c, e, ?_⟩
      have q := x.cell y c e
      rw [bindC_get ndP hp hu (by show scope.names.lookup y ≠ _; rw [k]; decide)] at q
      exact q
  · exact e0.hok.fresh (Nat.le_of_lt (x.above y c (PySem.mem_of_lookup h)))
  · unfold start
    show _ = N.length
    rw [List.length_append, List.length_map, List.length_replicate]
    omega

/-- THE RULE: a def (or a method) of the text, by its body. The body's reading t is chosen for each entry; it is run at the parameters' values -/
theorem fn_of {CX : CXT} {P : Program} {w : World} {K : PySem.W.Frag} {mg : Str → Option Value} {base : Heap} {k : Nat} {f : Addr} {name qual : Str} {params : Arguments} {body : List Stmt} {scope : Scope} {dV kV doc pm cdv ct oc : Value} {an od : Option Addr}
    {osl : Array (Option Value)} {N ps : List Str} {sp : Sp} (lk : K.lookup f = some ⟨oc, od, .func (PySem.W.fnOf name qual params body scope dV kV doc pm an cdv ct), osl⟩) (hcd : PySem.W.codeIn K cdv qual = true) (S : FnScope N ps scope)
    (len : ∀ vs H Q E, sp vs H Q E → vs.length = ps.length)
    (hbody : ∀ (A : Around) (outer : List Env) (s : Shared) (H : Hp) (vs : List V) (Q : VK) (E : XK), Room k (A.deeper (envOfC qual scope s.heap.objs.size f cdv)) → sp vs H Q E →
      ∃ t, PSs (cxOf CX P w K mg base N qual scope f cdv A outer s H E) body t ∧ t { nx := fun _ H' => Q .non H', rt := Q } (start N vs) H) :
    FnOk P w K mg base CX (k + 1) f (PySem.W.fnOf name qual params body scope dV kV doc pm an cdv ct) ps sp := by
  refine ⟨len, fun A outer s H args us vs Q E hr e0 hb r hsp => ?_⟩
  have hl := len _ _ _ _ hsp
  have KX : K.In s.heap := e0.mod.kin.keeps fun b o e => (e0.bs b o e).1
  have lim : s.heap.NoLimit := e0.mod.nolimit.keeps fun b o e => (e0.bs b o e).1
  have hkind : ∀ y ∈ ps.zip us, scope.names.lookup y.1 = some .local ∨ (scope.names.lookup y.1 = some .cell ∧ ((cellsFrom (s.heap.objs.size + 1) scope.names []).lookup y.1).isSome = true) := fun ⟨n, v⟩ hy => by
    rcases S.par n (List.of_mem_zip hy).1 with q | q
    · exact .inl q
    · exact .inr ⟨q, PySem.W.cellsFrom_some _ _ _ (.inl q)⟩
  refine codeAny_call_function hr.depth (KX _ _ lk) rfl S.co S.gen rfl (PySem.W.codeRec_of KX hcd) (hb _ _ _ _ ?_)
  refine wpAny_newFunctionEnv_cells S.kind hkind fun env he s1 x => ?_
  subst he
  refine ⟨lim.keeps x.toInCall.keep, codeAny_func ?_⟩
  obtain ⟨t, ht, hq⟩ := hbody A outer s H vs Q E (hr.deeper _) hsp
  have I : Inv (cxOf CX P w K mg base N qual scope f cdv A outer s H E) [] (start N vs) H s1 := inv_start S hr.hd e0 hl r x
  refine wpAny_mono (ht [] s1 (start N vs) H _ I hq) (fun fl s' hs => ?_) fun e s' hs => hs
  have fin : ∀ {σ' : St} {H' : Hp} {v : V} {u : Value}, Inv (cxOf CX P w K mg base N qual scope f cdv A outer s H E) [] σ' H' s' → RelV v u → Q v H' → CE outer P w H s Q u s' :=
    fun {σ' H' v u} J rv q => ⟨v, H', J.os, J.bare, J.base, J.hok, rv, q⟩
  cases fl with
  | ret u =>
    obtain ⟨v, σ', H', J, rv, q⟩ := hs
    exact fin J rv q
  | next =>
    obtain ⟨σ', H', J, q⟩ := hs
    exact fin (v := V.non) (u := Value.none) J rfl q
  | brk =>
    obtain ⟨_, _, _, q⟩ := hs
    exact False.elim q
  | cont =>
    obtain ⟨_, _, _, q⟩ := hs
    exact False.elim q
end L2

namespace L2
open PySem PySem.Spec PyProof.Rows
section
variable {X : Cx} {x : Str} {p pos : Pos} {e : Expr} {es : List Expr} {t : TA} {id T : String} {r : List V → Hp → VK → Prop}

def tCB (r : List V → Hp → VK → Prop) (t : TA) : TE := fun σ H Q => t σ H fun vs H1 => r vs H1 Q
/-- f(e, ..), f a built-in function -/
theorem pe_callB (hc : CallR X (.builtin id) r) (hg : Gl X x) (hm : X.mg x = none) (hv : bootBuiltins x = some (.builtin id)) (ha : PA X (e :: es) t) (hn : x ≠ "__name__" := by decide) (hdb : (x == ("__debug__" : Str)) = false := by decide)
    (he : starEach (e :: es) X.env = (false, eval e X.env) :: starEach es X.env := by rfl) (hpl : (backTo pos (starEach es X.env)).any (·.1) = false := by rfl) : PE X (.Call (.Name x p) (e :: es) [] pos) (tCB r t) := by
  intro pins s σ H Q I h
  refine wpAny_Call_Name_kw (ld_blt I hg hm hv ?_ hn hdb)
  exact PyProof.Rows.callWith_builtin1 (thn (ha pos pins s σ H _ I h) fun us s1 ⟨vs, H1, I1, r1, q1⟩ => hc pins s1 σ H1 vs us Q I1 r1 q1) he hpl
/-- T(e, ..), T a built-in type -/
theorem pe_callTy (hc : CallR X (.type T) r) (hg : Gl X x) (hm : X.mg x = none) (hv : bootBuiltins x = some (.type T)) (ha : PA X (e :: es) t) (hn : x ≠ "__name__" := by decide) (hdb : (x == ("__debug__" : Str)) = false := by decide)
    (he : starEach (e :: es) X.env = (false, eval e X.env) :: starEach es X.env := by rfl) (hpl : (backTo pos (starEach es X.env)).any (·.1) = false := by rfl) : PE X (.Call (.Name x p) (e :: es) [] pos) (tCB r t) := by
  intro pins s σ H Q I h
  refine wpAny_Call_Name_kw (ld_blt I hg hm hv ?_ hn hdb)
  exact PyProof.Rows.callWith_type1 (thn (ha pos pins s σ H _ I h) fun us s1 ⟨vs, H1, I1, r1, q1⟩ => hc pins s1 σ H1 vs us Q I1 r1 q1) he hpl
end
end L2

namespace HT
open PySem PyProof.Rows

section
open PySem.SeqAt
open PySem.AutoSeq1 (wpAny_loadPart')
open PySem.MeetsSeq PySem.MeetsSeq2 PySem.MeetsSeq3

end

section
variable {prog : Program} {w : World} {A : Around} {E : Value → Shared → Prop} {s : Shared}

/-- a slice's bound as a place among n (d where it is left out) -/
def sIx (n d : Nat) : Option Int → Nat
  | none => d
  | some v => if v < 0 then (v + (n : Int)).toNat else min v.toNat n
theorem sIx_none (n d : Nat) : sIx n d none = d := rfl
theorem sIx_nat (n d k : Nat) : sIx n d (some (k : Int)) = min k n := by
  show (if (k : Int) < 0 then ((k : Int) + (n : Int)).toNat else min (k : Int).toNat n) = min k n
  rw [if_neg (by omega), Int.toNat_natCast]
end
end HT

namespace L2
open PySem PySem.Spec PyProof.Rows

abbrev TO := St → Hp → (Option Int → Hp → Prop) → Prop
/-- a slice's part (left out, or an int) -/
def PO (X : Cx) (e : Option Expr) (t : TO) : Prop :=
  ∀ (pins : List (Addr × Obj)) (s : Shared) (σ : St) (H : Hp) (Q : Option Int → Hp → Prop), Inv X pins σ H s → t σ H Q →
    wpAny (model X.prog X.w) X.A (evalPart e X.env) (fun u s' => ∃ o H', Inv X pins σ H' s' ∧ IsPart u o ∧ Q o H') X.xe s
def tNoPart : TO := fun _ H Q => Q none H
def tPart (t : TE) : TO := fun σ H Q => t σ H fun x H1 => ∃ i, x = .int i ∧ Q (some i) H1

section
variable {X : Cx} {e : Expr} {te : TE} {lo hi : Option Expr} {tl th : TO} {pos p2 : Pos}

theorem po_none : PO X none tNoPart := by
  intro pins s σ H Q I h
  rw [evalPart_none]
  exact wpAny_pure ⟨none, H, I, .none, h⟩
theorem po_some (h : PE X e te) : PO X (some e) (tPart te) := by
  intro pins s σ H Q I hw
  rw [evalPart_some]
  refine thn (h pins s σ H _ I hw) fun u s1 ⟨x, H1, I1, r1, q1⟩ => ?_
  obtain ⟨i, rfl, q⟩ := q1
  obtain ⟨t, rfl⟩ := r1
  exact ⟨some i, H1, I1, .int i t, q⟩

/-- what a slice of a value is, by values: the slice object stands at sl -/
def SlR (X : Cx) (r : V → Option Int → Option Int → Hp → VK → Prop) : Prop :=
  ∀ (pins : List (Addr × Obj)) (s : Shared) (σ : St) (H : Hp) (x : V) (v vl vu : Value) (lo hi : Option Int) (sl : Addr) (Q : VK), Inv X pins σ H s → RelV x v → s.heap.IsSliceOf sl vl vu .none → IsPart vl lo → IsPart vu hi → r x lo hi H Q →
    ∃ T id, typeLookup (.type T) "__getitem__" = pure (some (.builtin id)) ∧ s.TypeIs v T ∧ wpAny (model X.prog X.w) X.A (getItem v (.ref sl)) (EP X pins σ Q) X.xe s
theorem SlR.or {r r' : V → Option Int → Option Int → Hp → VK → Prop} (h : SlR X r) (h' : SlR X r') : SlR X (fun x lo hi H Q => r x lo hi H Q ∨ r' x lo hi H Q) := by
  intro pins s σ H x v vl vu lo hi sl Q I rx hs pl pu q
  rcases q with q | q
  · exact h pins s σ H x v vl vu lo hi sl Q I rx hs pl pu q
  · exact h' pins s σ H x v vl vu lo hi sl Q I rx hs pl pu q
def tSl (r : V → Option Int → Option Int → Hp → VK → Prop) (te : TE) (tl th : TO) : TE := fun σ H Q => te σ H fun x H1 => tl σ H1 fun l H2 => th σ H2 fun u H3 => r x l u H3 Q
/-- a[lo:hi], any a -/
theorem pe_slice {r : V → Option Int → Option Int → Hp → VK → Prop} (hr : SlR X r) (he : PE X e te) (hl : PO X lo tl) (hu : PO X hi th) : PE X (.Subscript e (.Slice lo hi none p2) pos) (tSl r te tl th) := by
  intro pins s σ H Q I h
  refine Subscript_ (thn (he pins s σ H _ I h) fun v s1 ⟨x, H1, I1, r1, q1⟩ => ?_)
  refine wpAny_Slice (thn (hl pins s1 σ H1 _ I1 q1) fun vl s2 ⟨l, H2, I2, pl, q2⟩ => thn (hu pins s2 σ H2 _ I2 q2) fun vu s3 ⟨u, H3, I3, pu, q3⟩ => ?_)
  rw [evalPart_none]
  refine wpAny_pure ?_
  have I4 : Inv X pins σ H3 { s3 with heap := s3.heap.push { cls := .type "slice", data := .fields #[vl, vu, .none] } } := I3.kept (t' := s3.toks) fun b ob q => Heap.get?_push_of_some _ q
  obtain ⟨T, id, hT, ht, hg⟩ := hr pins { s3 with heap := s3.heap.push { cls := .type "slice", data := .fields #[vl, vu, .none] } } σ H3 x v vl vu l u s3.heap.objs.size Q I4 r1 (Heap.IsSliceOf.new ..) pl pu q3
  show wpAny (model X.prog X.w) X.A (subscriptTail e (.Slice lo hi none p2) v (.ref s3.heap.objs.size)) (EP X pins σ Q) X.xe { s3 with heap := s3.heap.push { cls := .type "slice", data := .fields #[vl, vu, .none] } }
  exact tail_any (ops := [.ref s3.heap.objs.size, v]) ht hT hg (by with_unfolding_all rfl)

/-- the items of xs[lo:hi] -/
def cutV (xs : List V) (lo hi : Option Int) : List V := (xs.drop (HT.sIx xs.length 0 lo)).take (HT.sIx xs.length xs.length hi - HT.sIx xs.length 0 lo)
theorem cutV_length (xs : List V) (lo hi : Option Int) : (cutV xs lo hi).length ≤ xs.length := by
  unfold cutV
  rw [List.length_take, List.length_drop]
  omega
end
end L2

namespace L2
open PySem PySem.Spec PyProof.Rows

/-- the place that an index of any sign means -/
def ixN (n : Nat) (i : Int) : Option Nat := if 0 ≤ i then (if i < n then some i.toNat else none) else if -(n : Int) ≤ i then some (i + n).toNat else none
def atI {α : Type} (xs : List α) (i : Int) : Option α := (ixN xs.length i).bind fun j => xs[j]?
theorem ixN_seq {n : Nat} {i : Int} {j : Nat} (h : ixN n i = some j) : seqIndex? i n = some j ∧ j < n ∧ -(n : Int) ≤ i ∧ i < n := by
  unfold ixN at h
  by_cases h0 : 0 ≤ i
  · rw [if_pos h0] at h
    by_cases h1 : i < n
    · rw [if_pos h1] at h
      have e : i.toNat = j := Option.some.inj h
      exact ⟨by rw [seqIndex_of h0 h1, e], by omega, by omega, h1⟩
    · rw [if_neg h1] at h; cases h
  · rw [if_neg h0] at h
    by_cases h1 : -(n : Int) ≤ i
    · rw [if_pos h1] at h
      have e : (i + n).toNat = j := Option.some.inj h
      exact ⟨by rw [seqIndex_neg (by omega) h1, e], by omega, h1, by omega⟩
    · rw [if_neg h1] at h; cases h
theorem atI_get {α : Type} {xs : List α} {i : Int} {v : α} (h : atI xs i = some v) : ∃ j, seqIndex? i xs.length = some j ∧ xs[j]? = some v ∧ j < xs.length ∧ -(xs.length : Int) ≤ i ∧ i < xs.length := by
  unfold atI at h
  cases e : ixN xs.length i with
  | none => rw [e] at h; cases h
  | some j =>
    rw [e] at h
    obtain ⟨h1, h2, h3, h4⟩ := ixN_seq e
    exact ⟨j, h1, h, h2, h3, h4⟩
theorem atI_nat {α : Type} {xs : List α} {j : Nat} {v : α} (h : xs[j]? = some v) : atI xs (j : Int) = some v := by
  have hj : j < xs.length := (List.getElem?_eq_some_iff.mp h).1
  have e : ixN xs.length (j : Int) = some j := by
    unfold ixN
    rw [if_pos (by omega), if_pos (by omega)]; simp
  unfold atI; rw [e]; exact h
/-- what stands as an index of a plain subscript -/
def PlainIx (b : Expr) : Prop := ∀ o i, subscripted b false o i = operate [o, i] (getItem o i)
/-- a subscript by values -/
def IxR (X : Cx) (r : R2) : Prop :=
  ∀ (value slice : Expr) (pins : List (Addr × Obj)) (s : Shared) (σ : St) (H : Hp) (x y : V) (v u : Value) (Q : VK), Inv X pins σ H s → RelV x v → RelV y u → r x y H Q →
    subscripted slice false v u = operate [v, u] (getItem v u) → wpAny (model X.prog X.w) X.A (subscriptTail value slice v u) (EP X pins σ Q) X.xe s
/-- a call of a builtin's method by values: the receiver, the arguments -/
def MtR (X : Cx) (id : String) (r : V → List V → Hp → VK → Prop) : Prop :=
  ∀ (pins : List (Addr × Obj)) (s : Shared) (σ : St) (H : Hp) (x : V) (xs : List V) (v : Value) (us : List Value) (Q : VK), Inv X pins σ H s → RelV x v → Vals xs us → r x xs H Q →
    wpAny (model X.prog X.w) X.A (call (.builtin id) (v :: us)) (EP X pins σ Q) X.xe s
section
variable {X : Cx} {a b : Expr} {ta tb : TE} {pos : Pos}
theorem IxR.or {r r' : R2} (h : IxR X r) (h' : IxR X r') : IxR X (fun x y H Q => r x y H Q ∨ r' x y H Q) := by
  intro value slice pins s σ H x y v u Q I rx ry q hs
  rcases q with q | q
  · exact h value slice pins s σ H x y v u Q I rx ry q hs
  · exact h' value slice pins s σ H x y v u Q I rx ry q hs
theorem MtR.or {id : String} {r r' : V → List V → Hp → VK → Prop} (h : MtR X id r) (h' : MtR X id r') : MtR X id (fun x xs H Q => r x xs H Q ∨ r' x xs H Q) := by
  intro pins s σ H x xs v us Q I rx rs q
  rcases q with q | q
  · exact h pins s σ H x xs v us Q I rx rs q
  · exact h' pins s σ H x xs v us Q I rx rs q
/-- a[b] -/
theorem pe_ix {r : R2} (hr : IxR X r) (ha : PE X a ta) (hb : PE X b tb) (hs : PlainIx b) : PE X (.Subscript a b pos) (tOp r ta tb) := by
  intro pins s σ H Q I h
  exact Subscript_ (binT ha hb I h fun v u s2 x y H2 I2 rx ry q => hr a b pins s2 σ H2 x y v u Q I2 rx ry q (hs _ _))

def rIxL (K : PySem.W.Frag) : R2 := fun x y H Q => ∃ p xs i v, x = .ref p ∧ y = .int i ∧ SqL K H p xs ∧ atI xs i = some v ∧ Q v H
def rIxT (K : PySem.W.Frag) : R2 := fun x y H Q => ∃ p xs i v, x = .ref p ∧ y = .int i ∧ SqT K H p xs ∧ atI xs i = some v ∧ Q v H
theorem ix_list : IxR X (rIxL X.K) := by
  intro value slice pins s σ H x y v u Q I rx ry h hs
  obtain ⟨p, xs, i, z, rfl, rfl, hq, he, q⟩ := h
  cases rx
  obtain ⟨t, rfl⟩ := ry
  obtain ⟨its, r, pl, hz⟩ := I.list hq
  obtain ⟨j, h1, h2, h3, h4, h5⟩ := atI_get he
  obtain ⟨w, ew, rw'⟩ := r.get h2
  have hl := r.length
  have hn := line63
  have fin : EP X pins σ Q w s := ⟨z, H, I, rw', q⟩
  by_cases h0 : 0 ≤ i
  · have hj : i.toNat = j := by
      rw [seqIndex_of h0 h5] at h1
      exact Option.some.inj h1
    exact item_listR pl.isList h0 (by omega) (by rw [hj]; simpa using ew) fin hs
  · have hj : (i + (its.toArray.size : Int)).toNat = j := by
      rw [seqIndex_neg (by omega) h4] at h1
      rw [List.size_toArray, ← hl]
      exact Option.some.inj h1
    exact subscriptTail_builtinR (x := w) pl.isList.typeIs slot_list_getitem.lookup
      (wpAny_getItem_list_neg (Q := fun r s' => r = w ∧ EP X pins σ Q r s') pl.isList (by omega) (by rw [List.size_toArray] <;> omega) (by omega) (by rw [hj]; simpa using ew) ⟨rfl, fin⟩) hs
theorem ix_tup : IxR X (rIxT X.K) := by
  intro value slice pins s σ H x y v u Q I rx ry h hs
  obtain ⟨p, xs, i, z, rfl, rfl, hq, he, q⟩ := h
  cases rx
  obtain ⟨t, rfl⟩ := ry
  obtain ⟨its, r, pl, hz⟩ := I.tuple hq
  obtain ⟨j, h1, h2, h3, h4, h5⟩ := atI_get he
  obtain ⟨w, ew, rw'⟩ := r.get h2
  have hl := r.length
  have hn := line63
  have fin : EP X pins σ Q w s := ⟨z, H, I, rw', q⟩
  exact subscriptTail_builtinR (x := w) pl.typeIs slot_tuple_getitem.lookup
    (getItem_tuple (j := j) (Q := fun r s' => r = w ∧ EP X pins σ Q r s') pl (by omega) (by omega) (by rw [List.size_toArray, ← hl]; exact h1) (by simpa using ew) ⟨rfl, fin⟩) hs
/-- the list's object behind a store -/
theorem mapSeq_set (its : List Value) (n j : Nat) (u : Value) : Obj.mapSeq (·.setIfInBounds j u) { cls := .type "list", data := .seq its.toArray n } = { cls := .type "list", data := .seq (its.set j u).toArray n } := by
  simp [Obj.mapSeq]
theorem Inv.lst {pins : List (Addr × Obj)} {σ : St} {H : Hp} {s : Shared} {p : Addr} {xs : List V} (I : Inv X pins σ H s) (h : H p = some (.lst xs)) :
    ∃ (its : List Value) (n : Nat), Vals xs its ∧ s.heap.get? p = some { cls := .type "list", data := .seq its.toArray n } ∧ xs.length ≤ sizeLine := by
  obtain ⟨z, its, n, r, e⟩ := I.hok p _ h
  exact ⟨its, n, r, e, z⟩
/-- the list at p is written by an update of its object -/
theorem Inv.lstUpd {pins : List (Addr × Obj)} {σ : St} {H : Hp} {s : Shared} {p : Addr} {xs ys : List V} {its its' : List Value} {n n' : Nat} {f : Obj → Obj} (I : Inv X pins σ H s) (h : H p = some (.lst xs))
    (ho : s.heap.get? p = some { cls := .type "list", data := .seq its.toArray n }) (hf : f { cls := .type "list", data := .seq its.toArray n } = { cls := .type "list", data := .seq its'.toArray n' }) (r : Vals ys its') (hz : ys.length ≤ sizeLine) (t : Nat) :
    Inv X pins σ (upd H p (.lst ys)) { s with heap := s.heap.update p f, toks := t } := by
  have e : (s.heap.update p f).get? p = some { cls := .type "list", data := .seq its'.toArray n' } := by
    rw [Heap.get?_update_self f ho (by rw [hf] <;> rfl), hf]
  refine I.write (x := p) (e := p) (by rw [h]; trivial) (.inl rfl) (fun b u hb q => (Heap.get?_update_other _ _ (Ne.symm hb)).trans q) ⟨_, e⟩ ?_
  exact ⟨hz, its', n', r, e⟩
def rSetL : V → V → V → Hp → (Hp → Prop) → Prop := fun o i v H Q => ∃ p xs k j, o = .ref p ∧ i = .int k ∧ H p = some (.lst xs) ∧ ixN xs.length k = some j ∧ Q (upd H p (.lst (xs.set j v)))
theorem set_list : PSet X rSetL := by
  intro pins s σ H o i v ov iv u Q I ro ri rv h
  obtain ⟨p, xs, k, j, rfl, rfl, hp, hj, q⟩ := h
  cases ro
  obtain ⟨t, rfl⟩ := ri
  obtain ⟨its, n, r, ho, hz⟩ := I.lst hp
  obtain ⟨h1, h2, h3, h4⟩ := ixN_seq hj
  have hl := r.length
  have hn := line63
  have I' : Inv X pins σ (upd H p (.lst (xs.set j v))) { s with heap := s.heap.update p (Obj.mapSeq (·.setIfInBounds j u)) } :=
    I.lstUpd hp ho (mapSeq_set its n j u) (r.set rv j) (by rw [List.length_set]; exact hz) s.toks
  by_cases h0 : 0 ≤ k
  · have hk : k.toNat = j := by
      rw [seqIndex_of h0 h4] at h1
      exact Option.some.inj h1
    exact PySem.W.ki_setAt ho h0 (by omega) (by rw [List.size_toArray, ← hl]; exact h4) (by rw [hk]; exact ⟨_, I', q⟩)
  · have hk : (k + (its.toArray.size : Int)).toNat = j := by
      rw [seqIndex_neg (by omega) h3] at h1
      rw [List.size_toArray, ← hl]
      exact Option.some.inj h1
    exact PySem.W.ki_setBack ho (by omega) (by rw [List.size_toArray, ← hl]; exact h3) (by omega) (by rw [hk]; exact ⟨_, I', q⟩)

theorem slice_bounds (lo hi : Option Int) (n : Nat) : (sliceBounds lo hi none n).1 = ((HT.sIx n 0 lo : Nat) : Int) ∧ (sliceBounds lo hi none n).2.1 = ((HT.sIx n n hi : Nat) : Int) ∧ (sliceBounds lo hi none n).2.2 = 1 := by
  refine ⟨?_, ?_, rfl⟩
  · cases lo with
    | none => simp [sliceBounds, HT.sIx]
    | some i =>
      simp only [sliceBounds, HT.sIx, Option.getD_none, show (1 : Int) > 0 by decide, if_true]
      by_cases h : i < 0
      · simp only [h, if_true] <;> omega
      · simp only [h, if_false] <;> omega
  · cases hi with
    | none => simp [sliceBounds, HT.sIx]
    | some i =>
      simp only [sliceBounds, HT.sIx, Option.getD_none, show (1 : Int) > 0 by decide, if_true]
      by_cases h : i < 0
      · simp only [h, if_true] <;> omega
      · simp only [h, if_false] <;> omega
theorem slicePick_cut (its : List Value) (lo hi : Option Int) : slicePick its.toArray lo hi none = ((its.drop (HT.sIx its.length 0 lo)).take (HT.sIx its.length its.length hi - HT.sIx its.length 0 lo)).toArray := by
  obtain ⟨h1, h2, h3⟩ := slice_bounds lo hi its.toArray.size
  unfold slicePick
  rw [h1, h2, h3]
  simp only [sliceRange_one, pick_run, List.size_toArray] <;> rfl
/-- xs[lo:hi] of a list: a new list -/
def rSlL (K : PySem.W.Frag) : V → Option Int → Option Int → Hp → VK → Prop := fun x lo hi H Q => ∃ a xs, x = .ref a ∧ SqL K H a xs ∧ ∀ p, H p = none → Q (.ref p) (upd H p (.lst (cutV xs lo hi)))
theorem sl_list : SlR X (rSlL X.K) := by
  intro pins s σ H x v vl vu lo hi sl Q I rx hs pl pu h
  obtain ⟨a, xs, rfl, hx, q⟩ := h
  cases rx
  obtain ⟨its, r, ht, hz⟩ := I.list hx
  have hlen := r.length
  refine ⟨"list", _, slot_list_getitem.lookup, ht.isList.typeIs, ?_⟩
  refine wpAny_getItem_list_slice ht.isList hs pl pu .none (by simp) ?_ (by rw [List.size_toArray] <;> omega)
  rw [slicePick_cut, ← hlen]
  refine ⟨.ref s.heap.objs.size, _, I.laid (t' := s.toks) (o := .lst (cutV xs lo hi)) (fun b ob q => Heap.get?_push_of_some _ q) (Nat.le_refl _) ?_, rfl, q _ (I.hok.fresh (Nat.le_refl _))⟩
  exact ⟨Nat.le_trans (cutV_length xs lo hi) hz, _, 0, (r.drop (HT.sIx xs.length 0 lo)).take (HT.sIx xs.length xs.length hi - HT.sIx xs.length 0 lo), Heap.get?_push_size _ rfl⟩

def flatV : V → Bool
  | .non => true
  | .bl _ => true
  | .int _ => true
  | .str _ => true
  | _ => false
/-- == of flat values -/
def eqV : V → V → Bool
  | .non, .non => true
  | .bl a, .bl b => a == b
  | .bl a, .int b => (if a then 1 else 0) == b
  | .int a, .bl b => a == (if b then 1 else 0)
  | .int a, .int b => a == b
  | .str a, .str b => a == b
  | _, _ => false
theorem eqAt_V {A : Around} {s : Shared} {y x : V} {u v : Value} (ry : RelV y u) (rx : RelV x v) (fy : flatV y = true) (fx : flatV x = true) : SeqAt.EqAt A s u v (eqV y x) := by
  cases y with
  | non =>
    cases ry
    cases x with
    | non => cases rx; exact SeqAt.EqAt.same _
    | bl b => cases rx; exact SeqAt.EqAt.none_bool b
    | int b => obtain ⟨t, rfl⟩ := rx; exact SeqAt.EqAt.none_int b t
    | str b => obtain ⟨t, rfl⟩ := rx; exact SeqAt.EqAt.none_str b t
    | _ => exact absurd (show false = true from fx) Bool.false_ne_true
  | bl a =>
    cases ry
    cases x with
    | non => cases rx; exact SeqAt.EqAt.bool_none a
    | bl b => cases rx; exact SeqAt.EqAt.bool_bool a b
    | int b => obtain ⟨t, rfl⟩ := rx; exact SeqAt.EqAt.bool_int a b t
    | str b => obtain ⟨t, rfl⟩ := rx; exact SeqAt.EqAt.bool_str a b t
    | _ => exact absurd (show false = true from fx) Bool.false_ne_true
  | int a =>
    obtain ⟨t', rfl⟩ := ry
    cases x with
    | non => cases rx; exact SeqAt.EqAt.int_none a t'
    | bl b => cases rx; exact SeqAt.EqAt.int_bool a t' b
    | int b => obtain ⟨t, rfl⟩ := rx; exact SeqAt.EqAt.int_int a t' b t
    | str b => obtain ⟨t, rfl⟩ := rx; exact SeqAt.EqAt.int_str a t' b t
    | _ => exact absurd (show false = true from fx) Bool.false_ne_true
  | str a =>
    obtain ⟨t', rfl⟩ := ry
    cases x with
    | non => cases rx; exact SeqAt.EqAt.str_none a t'
    | bl b => cases rx; exact SeqAt.EqAt.str_bool a t' b
    | int b => obtain ⟨t, rfl⟩ := rx; exact SeqAt.EqAt.str_int a t' b t
    | str b => obtain ⟨t, rfl⟩ := rx; exact SeqAt.EqAt.str_str a t' b t
    | _ => exact absurd (show false = true from fx) Bool.false_ne_true
  | _ => exact absurd (show false = true from fy) Bool.false_ne_true
/-- the items' answers, read off the values (a value's own answer does not lean on its token) -/
def eqU (x : V) (u : Value) : Bool := match u with
  | .none => eqV .non x
  | .bool b => eqV (.bl b) x
  | .int i _ => eqV (.int i) x
  | .str z _ => eqV (.str z) x
  | _ => false
theorem eqU_of {x y : V} {u : Value} (r : RelV y u) (f : flatV y = true) : eqU x u = eqV y x := by
  cases y with
  | non => cases r; rfl
  | bl b => cases r; rfl
  | int i => obtain ⟨t, rfl⟩ := r; rfl
  | str z => obtain ⟨t, rfl⟩ := r; rfl
  | _ => exact absurd (show false = true from f) Bool.false_ne_true
theorem any_eqU {x : V} : ∀ {xs : List V} {us : List Value}, Vals xs us → xs.all flatV = true → us.any (eqU x) = xs.any fun y => eqV y x
  | _, _, .nil, _ => rfl
  | y :: xs, u :: us, .cons r t, f => by
    rw [List.all_cons, Bool.and_eq_true] at f
    rw [List.any_cons, List.any_cons, eqU_of r f.1, any_eqU t f.2]
theorem mem_eqAt {A : Around} {s : Shared} {x : V} {v : Value} (rx : RelV x v) (fx : flatV x = true) : ∀ {xs : List V} {us : List Value}, Vals xs us → xs.all flatV = true → ∀ u ∈ us, SeqAt.EqAt A s u v (eqU x u)
  | _, _, .nil, _ => fun u hu => by cases hu
  | y :: xs, u :: us, .cons r t, f => fun u' hu => by
    rw [List.all_cons, Bool.and_eq_true] at f
    rcases List.mem_cons.mp hu with rfl | hu
    · rw [eqU_of r f.1]; exact eqAt_V r rx f.1 fx
    · exact mem_eqAt rx fx t f.2 u' hu
def inV (x : V) (xs : List V) : Bool := xs.any fun y => eqV y x
/-- x in a list or tuple of flat items -/
def rIn (K : PySem.W.Frag) (neg : Bool) : R2 := fun x y H Q => ∃ p xs, y = .ref p ∧ (SqL K H p xs ∨ SqT K H p xs) ∧ flatV x = true ∧ xs.all flatV = true ∧ Q (.bl (if neg then !inV x xs else inV x xs)) H
theorem op_in_seq : OpR X (compareOp .In) (rIn X.K false) := by
  intro pins s σ H x y v u Q I rx ry h
  obtain ⟨p, xs, rfl, hq, fx, fs, q⟩ := h
  cases ry
  rcases hq with hq | hq
  · obtain ⟨its, r, pl, hz⟩ := I.list hq
    refine SeqAt.in_listAt (eqU x) pl.isList (fun w hw => mem_eqAt rx fx r fs w (by simpa using hw)) ⟨.bl _, H, I, rfl, ?_⟩
    rw [show its.toArray.any (eqU x) = its.any (eqU x) by simp, any_eqU r fs]
    exact q
  · obtain ⟨its, r, pl, hz⟩ := I.tuple hq
    refine SeqAt.in_tupleAt (eqU x) pl (fun w hw => mem_eqAt rx fx r fs w (by simpa using hw)) ⟨.bl _, H, I, rfl, ?_⟩
    rw [show its.toArray.any (eqU x) = its.any (eqU x) by simp, any_eqU r fs]
    exact q
theorem op_notIn_seq : OpR X (compareOp .NotIn) (rIn X.K true) := by
  intro pins s σ H x y v u Q I rx ry h
  obtain ⟨p, xs, rfl, hq, fx, fs, q⟩ := h
  cases ry
  rcases hq with hq | hq
  · obtain ⟨its, r, pl, hz⟩ := I.list hq
    refine SeqAt.notIn_listAt (eqU x) pl.isList (fun w hw => mem_eqAt rx fx r fs w (by simpa using hw)) ⟨.bl _, H, I, rfl, ?_⟩
    rw [show its.toArray.any (eqU x) = its.any (eqU x) by simp, any_eqU r fs]
    exact q
  · obtain ⟨its, r, pl, hz⟩ := I.tuple hq
    refine SeqAt.notIn_tupleAt (eqU x) pl (fun w hw => mem_eqAt rx fx r fs w (by simpa using hw)) ⟨.bl _, H, I, rfl, ?_⟩
    rw [show its.toArray.any (eqU x) = its.any (eqU x) by simp, any_eqU r fs]
    exact q
theorem call_len_seq : CallR X (.builtin "len") (fun xs H Q => ∃ p ys, xs = [.ref p] ∧ (SqL X.K H p ys ∨ SqT X.K H p ys) ∧ Q (.int ys.length) H) := by
  intro pins s σ H xs us Q I r h
  obtain ⟨p, ys, rfl, hq, q⟩ := h
  obtain ⟨u, rfl, rx⟩ := vals1 r
  cases rx
  have hn := line63
  rcases hq with hq | hq
  · obtain ⟨its, r', pl, hz⟩ := I.list hq
    have hlen := r'.length
    exact Calls.call_len_list pl.isList (by simp only [List.size_toArray] <;> omega) ⟨.int ys.length, H, I.tok _, ⟨s.toks + 1, by rw [List.size_toArray, hlen]⟩, q⟩
  · obtain ⟨its, r', pl, hz⟩ := I.tuple hq
    have hlen := r'.length
    exact len_tuple pl (by simp only [List.size_toArray] <;> omega) ⟨.int ys.length, H, I.tok _, ⟨s.toks + 1, by rw [List.size_toArray, hlen]⟩, q⟩
theorem CallR.or {f : Value} {r r' : List V → Hp → VK → Prop} (h : CallR X f r) (h' : CallR X f r') : CallR X f (fun xs H Q => r xs H Q ∨ r' xs H Q) := by
  intro pins s σ H xs us Q I rs q
  rcases q with q | q
  · exact h pins s σ H xs us Q I rs q
  · exact h' pins s σ H xs us Q I rs q
theorem call_list_of : CallR X (.type "list") (fun xs H Q => ∃ p ys, xs = [.ref p] ∧ (SqL X.K H p ys ∨ SqT X.K H p ys) ∧ ∀ l, H l = none → Q (.ref l) (upd H l (.lst ys))) := by
  intro pins s σ H xs us Q I r h
  obtain ⟨p, ys, rfl, hq, q⟩ := h
  obtain ⟨u, rfl, rx⟩ := vals1 r
  cases rx
  have fin : ∀ (its : List Value), Vals ys its → ys.length ≤ sizeLine → ∀ (h' : Heap) (c' : Nat), (∀ b o', s.heap.get? b = some o' → h'.get? b = some o') →
      h'.get? s.heap.objs.size = some { cls := .type "list", dict := none, data := .seq its.toArray c', slots := #[] } → EP X pins σ Q (.ref s.heap.objs.size) { s with heap := h' } := fun its r' hz h' c' kp e =>
    ⟨.ref s.heap.objs.size, _, I.laid (t' := s.toks) kp (Nat.le_refl _) (show ObjOk X.prog X.w _ h' _ (.lst ys) from ⟨hz, its, c', r', e⟩), rfl, q _ (I.hok.fresh (Nat.le_refl _))⟩
  rcases hq with hq | hq
  · obtain ⟨its, r', pl, hz⟩ := I.list hq
    have hlen := r'.length
    obtain ⟨o, ho, hc, n, hd⟩ := pl.isList
    exact call_list_seq p (.inl rfl) ho hc hd (fun h' c' kp e => fin its r' hz h' c' kp e) (by simp only [List.size_toArray] <;> omega)
  · obtain ⟨its, r', pl, hz⟩ := I.tuple hq
    have hlen := r'.length
    obtain ⟨o, ho, hc, n, hd⟩ := pl
    exact call_list_seq p (.inr rfl) ho hc hd (fun h' c' kp e => fin its r' hz h' c' kp e) (by simp only [List.size_toArray] <;> omega)
/-- the value is of that builtin type -/
def tyV (K : PySem.W.Frag) (T : String) (x : V) (H : Hp) : Prop := match x with
  | .str _ => T = "str"
  | .int _ => T = "int"
  | .ref p => (T = "list" ∧ ∃ xs, SqL K H p xs) ∨ (T = "tuple" ∧ ∃ o, K.lookup p = some o ∧ o.cls = .type "tuple" ∧ o.dict = none) ∨
      (T = "dict" ∧ ((∃ kvs, H p = some (.dK kvs)) ∨ ∃ kvs, H p = some (.dT kvs))) ∨ (T = "set" ∧ ∃ S n, H p = some (.set S n))
  | _ => False
theorem tyV_is {pins : List (Addr × Obj)} {σ : St} {H : Hp} {s : Shared} {T : String} {x : V} {v : Value} (I : Inv X pins σ H s) (r : RelV x v) (ty : tyV X.K T x H) :
    s.TypeIs v T ∧ ∀ a, v = .ref a → ∃ ob, s.heap.get? a = some ob ∧ ob.dict = none := by
  cases x with
  | str z =>
    obtain ⟨t, rfl⟩ := r
    cases (show T = "str" from ty)
    exact ⟨typeIs_str s z t, fun _ e => nomatch e⟩
  | int i =>
    obtain ⟨t, rfl⟩ := r
    cases (show T = "int" from ty)
    exact ⟨typeIs_int s i t, fun _ e => nomatch e⟩
  | ref p =>
    cases r
    rcases ty with ⟨rfl, xs, hq⟩ | ⟨rfl, o, hk, hc, hd⟩ | ⟨rfl, hk⟩ | ⟨rfl, S, n, hk⟩
    · obtain ⟨its, _, pl, _⟩ := I.list hq
      refine ⟨pl.isList.typeIs, fun a e => ?_⟩
      cases e
      obtain ⟨o, n, e, c, hd, _⟩ := pl
      exact ⟨o, e, hd⟩
    · refine ⟨⟨o, I.kIn p o hk, hc⟩, fun a e => ?_⟩
      cases e
      exact ⟨o, I.kIn _ o hk, hd⟩
    · have z : ∃ o, s.heap.get? p = some o ∧ o.ExactDict := by
        rcases hk with ⟨kvs, hk⟩ | ⟨kvs, hk⟩
        · obtain ⟨_, _, _, _, o, _, _, e, ex, _⟩ := I.hok p _ hk
          exact ⟨o, e, ex⟩
        · obtain ⟨_, _, _, _, o, _, _, e, ex, _⟩ := I.hok p _ hk
          exact ⟨o, e, ex⟩
      obtain ⟨o, e, ex⟩ := z
      refine ⟨⟨o, e, ex.1⟩, fun a e2 => ?_⟩
      cases e2
      exact ⟨o, e, ex.2.1⟩
    · obtain ⟨o, _, _, _, e, ex, _⟩ := I.hok p _ hk
      refine ⟨⟨o, e, ex.1⟩, fun a e2 => ?_⟩
      cases e2
      exact ⟨o, e, ex.2.1⟩
  | _ => exact False.elim ty
def tBM0 (K : PySem.W.Frag) (T : String) (r : V → List V → Hp → VK → Prop) (to : TE) : TE := fun σ H Q => to σ H fun x H1 => tyV K T x H1 ∧ r x [] H1 Q
def tBM (K : PySem.W.Frag) (T : String) (r : V → List V → Hp → VK → Prop) (to : TE) (t : TA) : TE := fun σ H Q => to σ H fun x H1 => tyV K T x H1 ∧ t σ H1 fun xs H2 => r x xs H2 Q
variable {o e : Expr} {es : List Expr} {to : TE} {t : TA} {name : Str} {apos cpos : Pos} {T id : String} {r : V → List V → Hp → VK → Prop}
theorem pe_bm (pa : PlainAttrs T) (slot : Slot T name id) (hty : typeOf (.builtin id) = pure (.type "method_descriptor")) (hm : MtR X id r) (ho : PE X o to) (ha : PA X (e :: es) t)
    (hbase : attributeBase o name X.env (eval o X.env) = eval o X.env := by rfl)
    (hfew : ((backTo cpos (starEach (e :: es) X.env)).all (fun x => !x.1) && (backToKw cpos (keywordEach [] X.env)).all (fun x => x.1.isSome)
      && decide ((e :: es).length + ([] : List Keyword).length + (if ([] : List Keyword).isEmpty then 0 else 1) < 30)) = true := by rfl)
    (hline : (apos.endLine == cpos.line) = true := by rfl) (hs : starEach (e :: es) X.env = (false, eval e X.env) :: starEach es X.env := by rfl) (hplain : (backTo cpos (starEach es X.env)).any (·.1) = false := by rfl) :
    PE X (.Call (.Attribute o name apos) (e :: es) [] cpos) (tBM X.K T r to t) := by
  intro pins s σ H Q I h
  refine wpAny_Call_method_late hbase hfew hline rfl (thn (ho pins s σ H _ I h) fun v s1 ⟨x, H1, I1, r1, ty, q1⟩ => ?_)
  obtain ⟨h1, h2⟩ := tyV_is I1 r1 ty
  refine ⟨T, id, pa, slot, hty, h1, h2, ?_⟩
  have hA := ha cpos pins s1 σ H1 _ I1 q1
  rw [hs] at hA ⊢
  refine Calls.callWith_builtin (by show (false || (backTo cpos (starEach es X.env)).any (·.1)) = false; rw [hplain] <;> rfl) (Calls.evalArgs_plain ?_)
  exact thn hA fun us s2 ⟨vs, H2, I2, r2, q2⟩ => hm pins s2 σ H2 x vs v us Q I2 r1 r2 q2
/- xs.append(e), list.index on a module's tuple .. are MtR facts of 06m -/
end
end L2

namespace L2
open PySem PySem.Spec PyProof.Rows

def MtM (X : Cx) (id : String) (r : V → List V → Hp → VK → Prop) : Prop :=
  ∀ (pins : List (Addr × Obj)) (s : Shared) (σ : St) (H : Hp) (x : V) (xs : List V) (v : Value) (us : List Value) (Q : VK), Inv X pins σ H s → RelV x v → Vals xs us → r x xs H Q →
    wpAny (model X.prog X.w) X.A (call (.builtin id) (v :: us)) (EP X pins σ Q) X.xe s

theorem Vals.one : ∀ {x : V} {us : List Value}, Vals [x] us → ∃ u, us = [u] ∧ RelV x u
  | _, _, .cons r .nil => ⟨_, rfl, r⟩
theorem Vals.two : ∀ {x y : V} {us : List Value}, Vals [x, y] us → ∃ u v, us = [u, v] ∧ RelV x u ∧ RelV y v
  | _, _, _, .cons r (.cons q .nil) => ⟨_, _, rfl, r, q⟩
theorem Vals.zero : ∀ {us : List Value}, Vals [] us → us = []
  | _, .nil => rfl
theorem Vals.eraseIdx : ∀ {xs : List V} {us : List Value} (i : Nat), Vals xs us → Vals (xs.eraseIdx i) (us.eraseIdx i)
  | _, _, _, .nil => .nil
  | _, _, 0, .cons _ t => t
  | _, _, i + 1, .cons r t => .cons r (Vals.eraseIdx i t)
theorem Vals.reverse {xs : List V} {us : List Value} (h : Vals xs us) : Vals xs.reverse us.reverse := by
  induction h with
  | nil => exact .nil
  | cons r t ih => rw [List.reverse_cons, List.reverse_cons]; exact Vals.append ih (.cons r .nil)
theorem len_erase {α : Type} : ∀ (l : List α) (i : Nat), (l.eraseIdx i).length ≤ l.length
  | [], _ => Nat.le_refl _
  | _ :: _, 0 => Nat.le_succ _
  | _ :: r, i + 1 => Nat.succ_le_succ (len_erase r i)
section
variable {X : Cx} {pins : List (Addr × Obj)} {σ : St} {H : Hp} {s : Shared} {l b : Addr} {xs ys zs : List V}

theorem Inv.lset {its its' : List Value} {n : Nat} {f : Array Value → Array Value} {t' : Nat} (I : Inv X pins σ H s) (hH : H l = some (.lst xs))
    (e : s.heap.get? l = some { cls := .type "list", data := .seq its.toArray n }) (hf : f its.toArray = its'.toArray) (hv : Vals ys its') (hz : ys.length ≤ sizeLine) :
    Inv X pins σ (upd H l (.lst ys)) { s with heap := s.heap.update l (Obj.mapSeq f), toks := t' } := by
  have q := PySem.IsL.update e f
  rw [hf] at q
  refine I.write (x := l) (e := l) (by rw [hH]; exact trivial) (.inl rfl) (fun b' u hb hu => (Heap.get?_update_other s.heap (Obj.mapSeq f) (Ne.symm hb)).trans hu) ⟨_, q⟩ ?_
  exact ⟨hz, its', _, hv, q⟩
theorem Inv.lnew {its : List Value} {t' : Nat} (I : Inv X pins σ H s) (hv : Vals ys its) (hz : ys.length ≤ sizeLine) :
    Inv X pins σ (upd H s.heap.objs.size (.lst ys)) { s with heap := s.heap.push { cls := .type "list", data := .seq its.toArray }, toks := t' } :=
  I.laid (fun _ _ q => Heap.get?_push_of_some _ q) (Nat.le_refl _) ⟨hz, its, 0, hv, Heap.get?_push_size _ rfl⟩
theorem Inv.fresh (I : Inv X pins σ H s) : H s.heap.objs.size = none := I.hok.fresh (Nat.le_refl _)
theorem Inv.lstM (I : Inv X pins σ H s) (hH : H l = some (.lst xs)) : xs.length ≤ sizeLine ∧ ∃ (its : List Value) (n : Nat), Vals xs its ∧ xs.length = its.length ∧ s.heap.get? l = some { cls := .type "list", data := .seq its.toArray n } := by
  obtain ⟨z, its, n, r, e⟩ := I.hok l _ hH
  exact ⟨z, its, n, r, r.length, e⟩

end

section
variable {X : Cx}

def rAppend : V → List V → Hp → VK → Prop := fun x vs H Q => ∃ l xs y, x = .ref l ∧ vs = [y] ∧ H l = some (.lst xs) ∧ xs.length < sizeLine ∧ Q .non (upd H l (.lst (xs ++ [y])))
theorem mt_append : MtM X "list.append" rAppend := by
  intro pins s σ H x vs v us Q I rx rv h
  obtain ⟨l, xs, y, rfl, rfl, hH, hz, q⟩ := h
  cases rx
  obtain ⟨u, rfl, ru⟩ := rv.one
  obtain ⟨z, its, n, r, hl, e⟩ := I.lstM hH
  refine call_meets F.slot_list_append ⟨_, e, rfl⟩ F.entry_list_append (F.args_list_append_2 _ _) (PySem.list_append l its.toArray n u (by rw [List.size_toArray]; omega)) ⟨e, ?_⟩
  refine ⟨.non, _, I.lset (its' := its ++ [u]) hH e (by simp) (r.append (.cons ru .nil)) ?_, rfl, q⟩
  rw [List.length_append, List.length_singleton]
  omega

def rPopAt : V → List V → Hp → VK → Prop := fun x vs H Q => ∃ l xs i k y, x = .ref l ∧ vs = [.int i] ∧ H l = some (.lst xs) ∧ -(2 ^ 63) ≤ i ∧ i < 2 ^ 63 ∧ seqIndex? i xs.length = some k ∧ xs[k]? = some y ∧ Q y (upd H l (.lst (xs.eraseIdx k)))
theorem mt_popAt : MtM X "list.pop" rPopAt := by
  intro pins s σ H x vs v us Q I rx rv h
  obtain ⟨l, xs, i, k, y, rfl, rfl, hH, h1, h2, hk, hy, q⟩ := h
  cases rx
  obtain ⟨u, rfl, ru⟩ := rv.one
  obtain ⟨t, rfl⟩ := ru
  obtain ⟨z, its, n, r, hl, e⟩ := I.lstM hH
  obtain ⟨w, hw, rw'⟩ := r.get hy
  refine call_meets F.slot_list_pop ⟨_, e, rfl⟩ F.entry_list_pop (F.args_list_pop_2 _ _)
    (MeetsSeq.list_pop_at l its.toArray n i t k w (fitsIndex_both h1 h2) (by rw [List.size_toArray, ← hl]; exact hk) (by rw [← Array.getElem?_toList]; exact hw) (by rw [List.size_toArray]; omega)) ⟨e, ?_⟩
  refine ⟨y, _, I.lset (its' := its.eraseIdx k) hH e ?_ (r.eraseIdx k) ?_, rw', q⟩
  · show its.toArray.eraseIdxIfInBounds k = (its.eraseIdx k).toArray
    rw [List.eraseIdxIfInBounds_toArray]
  · have := len_erase xs k
    omega

def rClear : V → List V → Hp → VK → Prop := fun x vs H Q => ∃ l xs, x = .ref l ∧ vs = [] ∧ H l = some (.lst xs) ∧ Q .non (upd H l (.lst []))
def rCat : R2 := fun x y H Q => ∃ l b xs zs, x = .ref l ∧ y = .ref b ∧ H l = some (.lst xs) ∧ H b = some (.lst zs) ∧ xs.length + zs.length ≤ sizeLine ∧ ∀ p, H p = none → Q (.ref p) (upd H p (.lst (xs ++ zs)))
theorem op_cat : OpR X (binaryOp .Add) rCat := by
  intro pins s σ H x y v u Q I rx ry h
  obtain ⟨l, b, xs, zs, rfl, rfl, hH, hB, hz, q⟩ := h
  cases rx
  cases ry
  obtain ⟨z, its, n, r, hl, e⟩ := I.lstM hH
  obtain ⟨z2, its2, n2, r2, hl2, e2⟩ := I.lstM hB
  refine PySem.P.add_list e e2 ?_ (by rw [List.size_toArray, List.size_toArray]; omega)
  have ea : its.toArray ++ its2.toArray = (its ++ its2).toArray := by simp
  rw [ea]
  exact ⟨.ref _, _, I.lnew (t' := s.toks) (r.append r2) (by rw [List.length_append]; omega), rfl, q _ I.fresh⟩
/-- a list times an int (a negative one is nothing) -/
def rRep : R2 := fun x y H Q => ∃ l k xs, x = .ref l ∧ y = .int k ∧ H l = some (.lst xs) ∧ -(2 ^ 63) ≤ k ∧ k < 2 ^ 63 ∧ xs.length * k.toNat ≤ sizeLine ∧
  ∀ p, H p = none → Q (.ref p) (upd H p (.lst (List.replicate k.toNat xs).flatten))
end

section
variable {prog : Program} {w : World} {A : Around} {E : Value → Shared → Prop} {s : Shared}
end

section
variable {X : Cx}
end
end L2

namespace Att
open PySem PySem.W PySem.Calls PyProof.Rows

theorem ints_of_wellAll {P : Params} {h : Heap} : ∀ (ns : List Int) (vs : List Value), WellAll P h vs (ns.map WData.int) → IntsAre vs ns := by
  intro ns
  induction ns with
  | nil =>
    intro vs w
    rw [List.map_nil] at w
    cases w
    exact .nil
  | cons n ns ih =>
    intro vs w
    rw [List.map_cons] at w
    cases w with
    | cons a b =>
      cases a
      exact .cons _ _ (ih _ b)

theorem script_of {l : OpenLaw} {n : Nat} (hn : l.most = some n) {P : Params} {h : Heap} {args : List WData} {vals : List Value}
    (hpre : l.row.toRowW.claim.pre args = true) (hwl : WellAll P h vals args) :
    ∃ a vs ns, vals = [Value.ref a] ∧ args = [WData.list (ns.map WData.int)] ∧ h.get? a = some { cls := .type "list", data := .seq vs.toArray } ∧ IntsAre vs ns ∧ ns.length ≤ n := by
  have hsh : WShape.hasAll [] args [.list .int] = true := (pre_splitW hpre).1
  have hc : l.pre.holds [] { args := args } = true := (pre_splitW hpre).2
  obtain ⟨d, r, rfl, h1, h2⟩ := hasAllW_cons hsh
  obtain rfl := hasAllW_nil h2
  obtain ⟨xs, rfl, h3⟩ := hasW_list h1
  obtain ⟨ns, rfl⟩ := items_int h3
  have hlen : ns.length ≤ n := by
    unfold OpenLaw.pre at hc
    have h4 : (WTm.not (.lt (.lit (.int (n : Int))) (.len (.arg 0)))).holds [] { args := [.list (ns.map .int)] } = true := by
      have h4 := (holds_andW hc).1
      rw [hn] at h4
      exact h4
    have h5 := condW_of h4 (w_not (w_lt w_lit (w_len_list (w_arg rfl))))
    rw [List.length_map] at h5
    refine Nat.le_of_not_lt fun q => ?_
    have q' : (n : Int) < ((ns.length : Nat) : Int) := by omega
    first
      | (rw [decide_eq_true q'] at h5; exact absurd h5 (by decide))
      | (simp at h5; omega)
  cases hwl with
  | cons w1 w2 =>
    cases w2
    cases w1 with
    | list ho hall => exact ⟨_, _, ns, rfl, rfl, ho, ints_of_wellAll ns _ hall, hlen⟩

theorem post_true (l : OpenLaw) (args : List WData) : l.row.toRowW.claim.post args (.bool true) args = true :=
  postW_of (r := l.row.toRowW) (X := (true == true))
    (show WShape.has [] (.bool true) .bool = true by first | rfl | decide | simp [WShape.has, WShape.arms, WShape.armsAll])
    (show (WTm.eq .res (.lit (.bool true))).value [] { args := args, res := some (.bool true), after := args } = some (.bool (true == true)) from w_eq_bool (w_res rfl) w_lit) rfl

/-- the same from a codeAny of the CALL (for a layer whose function contracts speak of calls) -/
theorem attach_call {l : OpenLaw} {n : Nat} {q : Program} {loose : List Str} {XP : (Str → Option Value) → Heap → Prop} {YP : World → Heap → Prop} {d : DefRec}
    (hn : l.most = some n) (hdf : d.params.defaults = [])
    (call : ∀ (w : World) (s₀ s₁ : Shared) (mg mb : Str → Option Value) (fa : Addr) (o : Obj) (pm cd doc : Value) (a : Addr) (vs : List Value) (ns : List Int),
      Ground q loose [] XP w s₀ mg mb s₁.heap → YP w s₁.heap →
      s₁.heap.get? fa = some o → o.data = .func (docDef d.name d.params d.body d.scope pm cd doc) → s₁.heap.CodeRec cd d.name → mg d.name = some (.ref fa) →
      s₁.heap.get? a = some { cls := .type "list", data := .seq vs.toArray } → IntsAre vs ns → ns.length ≤ n → s₁.gens = #[] →
      codeAny (model l.prog w) callerA (.call (.ref fa) ⟨[.ref a], []⟩) (fun r s' => r = .ok (.ret (.bool true)) ∧ OldK s₁.heap s'.heap ∧ s'.os = s₁.os ∧ AllBare s'.gens) s₁) :
    WalkO q loose XP YP l.row.toRowW d [] (fun f vs => PySem.call f vs) := by
  intro w s₀ s₁ mg mb G Y fa o pm cd doc dV kV ho hd hcd hD hmg hg args vals as hpre hlay hrd hwl hlo
  obtain rfl : dV = .none := Dflts.none hD hdf
  obtain rfl : kV = .none := Dflts.noKw hD
  obtain ⟨a, vs, ns, rfl, rfl, hobj, hints, hlen⟩ := script_of hn hpre hwl
  refine enter_call (codeAny_mono (call w s₀ s₁ mg mb fa o pm cd doc a vs ns G Y ho (fd_plain hd) hcd hmg hobj hints hlen hg) fun r s' hq => ?_)
  obtain ⟨rfl, h2, h3, h4⟩ := hq
  exact ⟨.inl ⟨.bool true, .bool true, [], rfl, fun _ => rfl, .bool true, post_true l _, fun _ => ⟨List.Pairwise.nil, fun _ hm => (nomatch hm)⟩⟩, h2, h3, h4⟩

section
variable {prog : Program} {w : World} {A : Around} {E : Value → Shared → Prop} {s : Shared} {K : Frag}

end
end Att

namespace L2
open PySem PySem.Spec PyProof.Rows

theorem vals_ints : ∀ {vs : List Value} {ns : List Int}, IntsAre vs ns → Vals (ns.map V.int) vs
  | _, _, .nil => .nil
  | _, _, .cons n t h => .cons ⟨t, rfl⟩ (vals_ints h)

/-- nothing is tracked but the script, known to the object (or it is an object of the module) -/
def Only (H : Hp) : Prop := ∀ b, H b = none ∨ ∃ o xs, H b = some (.frz o (.lst xs))

/-- THE HEAD: the law's promise, at the heap behind the top. F, the promise of the law's def, may use that base is part of the heap (so K.In base, base.Ns mainGlobals mg stand in Mod) -/
theorem law_call {P : Program} {w : World} {K : PySem.W.Frag} {mg mb : Str → Option Value} {CX : CXT} {k : Nat} {fa a : Addr} {fd : FuncData} {x : Str} {sp : Sp} {s₁ : Shared} {vs : List Value} {ns : List Int}
    (KX : K.In s₁.heap) (hns : s₁.heap.Ns mainGlobals mg) (hb : s₁.heap.Ns builtinsNs mb) (hbb : ∀ x : Str, x ≠ "__name__" → mb x = bootBuiltins x) (hlim : s₁.heap.NoLimit) (hg : s₁.gens = #[])
    (ha : s₁.heap.get? a = some { cls := .type "list", data := .seq vs.toArray }) (hi : IntsAre vs ns) (hl : ns.length ≤ sizeLine) (hr : Room k callerA)
    (F : ∀ base : Heap, K.In base → base.Ns mainGlobals mg → FnOk P w K mg base CX k fa fd [x] sp) (hbind : ∀ (s : Shared) (u : Value), BindsTo s fd ⟨[u], []⟩ [(x, u)])
    (hsp : ∀ H : Hp, Only H → SqL K H a (ns.map V.int) → sp [.ref a] H (fun v _ => v = .bl true) fun _ _ _ => False)
    (hCX : ∀ H e s', CX [] H s₁ (fun _ _ _ => False) e s' → False) :
    codeAny (model P w) callerA (.call (.ref fa) ⟨[.ref a], []⟩) (fun r s' => r = .ok (.ret (.bool true)) ∧ OldK s₁.heap s'.heap ∧ s'.os = s₁.os ∧ AllBare s'.gens) s₁ := by
  have rv := vals_ints hi
  have lenV := hi.length
  -- from an abstract heap in which nothing but the script may be tracked
  have core : ∀ H : Hp, Only H → SqL K H a (ns.map V.int) → HOk P w H s₁.heap → (∀ b, H b ≠ none → b = a) → (H a ≠ none → K.lookup a = none) →
      codeAny (model P w) callerA (.call (.ref fa) ⟨[.ref a], []⟩) (fun r s' => r = .ok (.ret (.bool true)) ∧ OldK s₁.heap s'.heap ∧ s'.os = s₁.os ∧ AllBare s'.gens) s₁ := by
    intro H hO hS hok hA hK
    have base_of : ∀ {b : Addr} {o : Obj}, s₁.heap.get? b = some o → H b = none → (hidT s₁.heap H).get? b = some o := fun e n => hidT_get e n
    have noA : ∀ {b : Addr} {o : Obj} {es : Array DictEntry} {ep : Nat}, s₁.heap.get? b = some o → o.data = .dict es ep → H b = none := fun {b o es ep} e d => by
      cases q : H b with
      | none => rfl
      | some u =>
        have e' : b = a := hA b (by rw [q]; simp)
        subst e'
        rw [ha] at e; cases e
        have d' : Data.seq vs.toArray _ = Data.dict es ep := d
        cases d'
    have nsK : ∀ {b : Addr} {m : Str → Option Value}, s₁.heap.Ns b m → (hidT s₁.heap H).Ns b m := fun {b m} ⟨o, es, ep, e, d, r⟩ => ⟨o, es, ep, base_of e (noA e d), d, r⟩
    have hKb : K.In (hidT s₁.heap H) := fun b o e => base_of (KX b o e) (by
      cases q : H b with
      | none => rfl
      | some u =>
        have e' : b = a := hA b (by rw [q]; simp)
        subst e'
        rw [hK (by rw [q]; simp)] at e; cases e)
    have hM : Mod K mg (hidT s₁.heap H) := ⟨hKb, nsK hns, ⟨mb, nsK hb, hbb⟩, let ⟨mc, h1, h2⟩ := hlim; ⟨mc, nsK h1, h2⟩⟩
    have e0 : Env0 P w K mg (hidT s₁.heap H) callerA [] s₁ H := ⟨rfl, hM, fun b o e => of_hidT e, Nat.le_of_eq (hidT_size _ _), trivial, fun b hb => absurd (show b ∈ ([] : List Addr) from hb) (by simp), hok, .of_eq hg⟩
    refine codeAny_mono ((F _ hKb (nsK hns)).run callerA [] s₁ H ⟨[.ref a], []⟩ [.ref a] [.ref a] _ _ hr e0 (hbind s₁ (.ref a)) (.cons rfl .nil) (hsp H hO hS)) fun r s' h => ?_
    cases r with
    | error e => exact (hCX H e s' h).elim
    | ok fl =>
      cases fl with
      | next => exact False.elim h
      | brk => exact False.elim h
      | cont => exact False.elim h
      | ret u =>
        obtain ⟨v, H', os, bare, un, hok', r', q⟩ := h
        have q' : v = .bl true := q
        subst q'
        obtain rfl : u = Value.bool true := r'
        refine ⟨rfl, OldK.of_keep fun b o e => ?_, os, bare⟩
        cases q : H b with
        | none => exact un.keep b o e q (by intro z; exact absurd (show b ∈ ([] : List Addr) from z) (by simp)) (by simp)
        | some u =>
          rcases hO b with z | ⟨ob, xs, z⟩
          · rw [q] at z; cases z
          · have z2 := un.frzs b ob _ z
            obtain ⟨e1, _⟩ := hok b _ z
            obtain ⟨e2, _⟩ := hok' b _ z2
            rw [e] at e1; cases e1
            exact e2
  cases hk : K.lookup a with
  | some o =>
    -- the script is one of the module's own objects
    have e := KX a o hk
    rw [ha] at e
    cases e
    refine core (fun _ => none) (fun _ => .inl rfl) (.inr ⟨_, vs.toArray, _, hk, rfl, rfl, rfl, by rw [List.size_toArray, lenV]; exact hl, by simpa using rv⟩) (fun b u z => by have z' : (none : Option HO) = some u := z; cases z') (fun b z => absurd rfl z) fun z => absurd rfl z
  | none =>
    refine core (fun b => if b = a then some (.frz { cls := .type "list", data := .seq vs.toArray } (.lst (ns.map V.int))) else none) (fun b => ?_) (.inl (.inr ⟨{ cls := .type "list", data := .seq vs.toArray }, if_pos rfl⟩)) (fun b u z => ?_) (fun b z => ?_) fun _ => hk
    · by_cases hb : b = a
      · exact .inr ⟨_, _, if_pos hb⟩
      · exact .inl (if_neg hb)
    · by_cases hb : b = a
      · have z' := (if_pos hb).symm.trans z
        cases z'
        subst hb
        exact ⟨ha, by rw [List.length_map]; exact hl, vs, _, rv, ha⟩
      · have z' := (if_neg hb).symm.trans z
        cases z'
    · by_cases hb : b = a
      · exact hb
      · exact absurd (if_neg hb) z
end L2

namespace L2
open PySem PySem.Spec PyProof.Rows

/-- the goal that k_head leaves (case hc), from the law's promise. F gives the function object fd (K's own) once, then the promise over every base -/
theorem walk_of {l : PySem.W.OpenLaw} {n k : Nat} {q : Program} {loose : List Str} {XP : (Str → Option Value) → Heap → Prop} {YP : World → Heap → Prop} {d : DefRec} {K : Params → PySem.W.Frag} {CX : World → CXT} {sp : World → Sp} {x : Str}
    (hn : l.most = some n) (hn2 : n ≤ sizeLine) (hdf : d.params.defaults = []) (hr : Room k callerA)
    (hY : ∀ (w : World) (h : Heap), YP w h → (K w.params).In h)
    (F : ∀ (w : World) (mg : Str → Option Value) (fa : Addr) (h : Heap), (K w.params).In h → h.Ns mainGlobals mg → mg d.name = some (.ref fa) →
      ∃ fd : FuncData, (∀ (s : Shared) (u : Value), BindsTo s fd ⟨[u], []⟩ [(x, u)]) ∧
        ∀ base : Heap, (K w.params).In base → base.Ns mainGlobals mg → FnOk l.prog w (K w.params) mg base (CX w) k fa fd [x] (sp w))
    (hsp : ∀ (w : World) (H : Hp) (a : Addr) (ns : List Int), ns.length ≤ n → Only H → SqL (K w.params) H a (ns.map V.int) → sp w [.ref a] H (fun v _ => v = .bl true) fun _ _ _ => False)
    (hCX : ∀ (w : World) (H : Hp) (s : Shared) (e : Value) (s' : Shared), CX w [] H s (fun _ _ _ => False) e s' → False) :
    PySem.W.WalkO q loose XP YP l.row.toRowW d [] (fun f vs => PySem.call f vs) := by
  refine Att.attach_call hn hdf fun w s₀ s₁ mg mb fa o pm cd doc a vs ns G Y ho hd hcd hmg hobj hints hlen hg => ?_
  have KX := hY w _ Y
  obtain ⟨fd, hb, hF⟩ := F w mg fa _ KX G.T.g hmg
  exact law_call KX G.T.g G.T.b G.T.builtins G.T.nolimit hg hobj hints (Nat.le_trans hlen hn2) hr hF hb (fun H hO hS => hsp w H a ns hlen hO hS) fun H e s' => hCX w H s₁ e s'
end L2

/- THE LAST THEOREM (shape; LID, My.* are yours):
   My.Adr: a structure of the addresses that your layer names (classes, functions); My.Txt K t: a structure (Prop) of the equations over K;
   My.txt_mk : {K} {implicit addresses ..} (e1 : nsIn K mainGlobals "law" = some (some (.ref f))) (e2 : K.lookup f = some ⟨oc, od, .func (fnOf "law" "law" params body scope dV kV doc pm an cdv ct), sl⟩) (e3 : codeIn K cdv "law" = true) .. : ∃ t, My.Txt K t

(the tactic k_is has no namespace: write k_is) -/

namespace L2
open PySem PySem.Spec PyProof.Rows

def defArgs (s : Stmt) : Arguments := match s with
  | .FunctionDef _ a _ _ _ _ _ _ _ _ => a
  | _ => { posonlyargs := [], args := [], vararg := none, kwonlyargs := [], kw_defaults := [], kwarg := none, defaults := [] }
def defBody (s : Stmt) : List Stmt := match s with
  | .FunctionDef _ _ b _ _ _ _ _ _ _ => b
  | _ => []
def defScope (s : Stmt) : Scope := match s with
  | .FunctionDef _ _ _ _ _ _ sc _ _ _ => sc
  | _ => { kind := .function, names := [], isGenerator := false, isCoroutine := false }

abbrev CX0 : CXT := fun _ _ _ _ _ _ => False
abbrev E0 : XK := fun _ _ _ => False
theorem pass0 {X : Cx} : Passes CX0 X E0 := fun _ _ _ _ _ _ _ h => h.elim

structure Fun (K : PySem.W.Frag) (x qual : Str) (st : Stmt) (f : Addr) (fd : FuncData) : Prop where
  ex : ∃ (oc : Value) (od : Option Addr) (kV doc pm : Value) (an : Option Addr) (cdv ct : Value) (osl : Array (Option Value)),
    fd = PySem.W.fnOf x qual (defArgs st) (defBody st) (defScope st) .none kV doc pm an cdv ct ∧ K.lookup f = some ⟨oc, od, .func fd, osl⟩ ∧ PySem.W.codeIn K cdv qual = true
  kp : PySem.W.keepIn K (.ref f) = true
section
variable {P : Program} {w : World} {K : PySem.W.Frag} {mg : Str → Option Value} {base : Heap}
/-- THE RULE for a def: its body as a term of rules, and the reading of that term -/
theorem Fun.ok {x qual : Str} {st : Stmt} {f : Addr} {fd : FuncData} {N ps : List Str} {k : Nat} {sp : Sp} (F : Fun K x qual st f fd) (S : FnScope N ps (defScope st)) (len : ∀ vs H Q E, sp vs H Q E → vs.length = ps.length)
    (hbody : ∀ (cdv : Value) (A : Around) (outer : List Env) (s : Shared) (H : Hp) (vs : List V) (Q : VK) (E : XK), Room k (A.deeper (envOfC qual (defScope st) s.heap.objs.size f cdv)) → sp vs H Q E →
      ∃ t, PSs (cxOf CX0 P w K mg base N qual (defScope st) f cdv A outer s H E).nox (defBody st) t ∧ t { nx := fun _ H' => Q .non H', rt := Q } (start N vs) H) : FnOk P w K mg base CX0 (k + 1) f fd ps sp := by
  obtain ⟨oc, od, kV, doc, pm, an, cdv, ct, osl, rfl, lk, hcd⟩ := F.ex
  refine fn_of lk hcd S len fun A outer s H vs Q E hr hsp => ?_
  obtain ⟨t, h, q⟩ := hbody cdv A outer s H vs Q E hr hsp
  exact ⟨t, h.nox, q⟩
/-- how its arguments bind (no defaults): h is «fun _ _ _ _ _ _ us hl => match us, hl with | [_, _], _ => rfl», one _ a parameter -/
theorem Fun.binds {x qual : Str} {st : Stmt} {f : Addr} {fd : FuncData} {ps : List Str} (F : Fun K x qual st f fd)
    (h : ∀ (kV doc pm : Value) (an : Option Addr) (cdv ct : Value) (us : List Value), us.length = ps.length → bindArgs (PySem.W.fnOf x qual (defArgs st) (defBody st) (defScope st) .none kV doc pm an cdv ct) ⟨us, []⟩ = pure (ps.zip us)) : Binds K fd ps [] := by
  obtain ⟨oc, od, kV, doc, pm, an, cdv, ct, osl, rfl, lk, hcd⟩ := F.ex
  exact .all (h kV doc pm an cdv ct)
theorem fun_mk {x qual : Str} {st : Stmt} {f : Addr} {oc : Value} {od an : Option Addr} {osl : Array (Option Value)} {kV doc pm cdv ct : Value} (l : K.lookup f = some ⟨oc, od, .func (PySem.W.fnOf x qual (defArgs st) (defBody st) (defScope st) .none kV doc pm an cdv ct), osl⟩)
    (c : PySem.W.codeIn K cdv qual = true) (k : PySem.W.keepIn K (.ref f) = true) : Fun K x qual st f (PySem.W.fnOf x qual (defArgs st) (defBody st) (defScope st) .none kV doc pm an cdv ct) := ⟨⟨oc, od, kV, doc, pm, an, cdv, ct, osl, rfl, l, c⟩, k⟩
end
theorem small1000 {n : Nat} (h : n ≤ 1000) : n < sizeLine := Nat.lt_of_le_of_lt h (by decide)

section
variable {X : Cx}
theorem pv (i : Nat) {x : Str} {pos : Pos} (hN : X.N[i]? = some x := by rfl) (hv : Vis X.env.scope x := by first | exact Or.inl rfl | exact Or.inr (Or.inl rfl) | exact Or.inr (Or.inr rfl)) (hd : (x == ("__debug__" : Str)) = false := by decide)
    (hcd : (x == ("__classdict__" : Str)) = false := by decide) : PE X (.Name x pos) (tVar i) := pe_var hN hv hd hcd
end

/-- all that was tracked is as it was -/
def Same (H H' : Hp) : Prop := ∀ b o, H b = some o → H' b = some o
theorem Same.refl (H : Hp) : Same H H := fun _ _ h => h
theorem Same.trans {H H1 H2 : Hp} (a : Same H H1) (b : Same H1 H2) : Same H H2 := fun c o h => b c o (a c o h)
theorem Same.free {H H' : Hp} (e : Same H H') {l : Addr} (h : H' l = Option.none) : H l = Option.none := by
  cases q : H l with
  | none => rfl
  | some o =>
    rw [e l o q] at h
    cases h
theorem Same.seq {K : PySem.W.Frag} {H H' : Hp} {a : Addr} {xs : List V} (e : Same H H') (h : SqL K H a xs) : SqL K H' a xs := by
  rcases h with (h | ⟨o, h⟩) | h
  · exact .inl (.inl (e _ _ h))
  · exact .inl (.inr ⟨o, e _ _ h⟩)
  · exact .inr h

end L2

set_option Elab.async false
set_option linter.all false
set_option maxRecDepth 100000
set_option maxHeartbeats 4000000
namespace L2
open PySem PySem.Spec PyProof.Rows
structure Cal (P : Program) (w : World) (K : PySem.W.Frag) (mg : Str → Option Value) (base : Heap) (x : Str) (ps : List Str) (k : Nat) (sp : Sp) : Prop where
  ex : ∃ (f : Addr) (fd : FuncData), FnOk P w K mg base CX0 k f fd ps sp ∧ Binds K fd ps [] ∧ PySem.W.keepIn K (.ref f) = true ∧ mg x = some (.ref f)
theorem pe_cal {X : Cx} {x : Str} {ps : List Str} {k : Nat} {sp : Sp} {e : Expr} {es : List Expr} {t : TA} {p pos : Pos} (C : Cal X.prog X.w X.K X.mg X.base x ps k sp) (hr : Room k X.A) (hg : Gl X x) (ha : PA X (e :: es) t)
    (hdb : (x == ("__debug__" : Str)) = false := by decide) (he : starEach (e :: es) X.env = (false, eval e X.env) :: starEach es X.env := by rfl) (hpl : (backTo pos (starEach es X.env)).any (·.1) = false := by rfl) :
    PE X (.Call (.Name x p) (e :: es) [] pos) (tCall sp [] E0 t) := by
  obtain ⟨f, fd, F, b, hk, hm⟩ := C.ex
  exact pe_call F hr hg hm hk b .nil pass0 ha hdb he hpl
def subN (n T : String) : Bool := n == T || (n == "bool" && T == "int")
def tyN (H : Hp) (x : V) (n : String) : Prop := match x with
  | .bl _ => n = "bool"
  | .int _ => n = "int"
  | .str _ => n = "str"
  | .ref a => (n = "list" ∧ ∃ xs, H a = some (.lst xs)) ∨ (n = "tuple" ∧ ∃ xs, H a = some (.tup xs))
  | _ => False
theorem tyN_int {H : Hp} {i : Int} {n : String} : tyN H (.int i) n = (n = "int") := rfl
theorem tyN_bl {H : Hp} {i : Bool} {n : String} : tyN H (.bl i) n = (n = "bool") := rfl
theorem tyN_str {H : Hp} {i : Str} {n : String} : tyN H (.str i) n = (n = "str") := rfl
theorem tyN_ref {H : Hp} {a : Addr} {n : String} : tyN H (.ref a) n = ((n = "list" ∧ ∃ xs, H a = some (.lst xs)) ∨ (n = "tuple" ∧ ∃ xs, H a = some (.tup xs))) := rfl
def okT (T : String) : Prop := T = "int" ∨ T = "bool" ∨ T = "str" ∨ T = "list" ∨ T = "tuple"
theorem kit_sub {K : PySem.W.Frag} {n T : String} (hn : okT n) (hT : okT T) : PySem.W.kitOne K (.type n) (.type T) = some (subN n T) := by
  rcases hn with rfl | rfl | rfl | rfl | rfl <;> rcases hT with rfl | rfl | rfl | rfl | rfl <;> rfl
theorem tyN_of {K : PySem.W.Frag} {H : Hp} {x : V} {n : String} (h : tyN H x n) : TyOf K H x (.type n) ∧ okT n := by
  cases x with
  | bl b => cases (show n = "bool" from h); exact ⟨.bl b, by simp [okT]⟩
  | int i => cases (show n = "int" from h); exact ⟨.int i, by simp [okT]⟩
  | str i => cases (show n = "str" from h); exact ⟨.str i, by simp [okT]⟩
  | ref a =>
    rcases (show (n = "list" ∧ ∃ xs, H a = some (.lst xs)) ∨ (n = "tuple" ∧ ∃ xs, H a = some (.tup xs)) from h) with ⟨rfl, xs, e⟩ | ⟨rfl, xs, e⟩
    · exact ⟨.lst e, by simp [okT]⟩
    · exact ⟨.tup e, by simp [okT]⟩
  | _ => exact False.elim h
theorem okT_int : okT "int" := by simp [okT]
theorem okT_bool : okT "bool" := by simp [okT]
theorem okT_str : okT "str" := by simp [okT]
theorem okT_list : okT "list" := by simp [okT]
theorem okT_tuple : okT "tuple" := by simp [okT]
theorem subN_ii : subN "int" "int" = true := rfl
theorem subN_ib : subN "int" "bool" = false := rfl
theorem subN_bb : subN "bool" "bool" = true := rfl
theorem subN_bi : subN "bool" "int" = true := rfl
theorem subN_ss : subN "str" "str" = true := rfl
theorem subN_ll : subN "list" "list" = true := rfl
theorem subN_tt : subN "tuple" "tuple" = true := rfl
def rIsi : List V → Hp → VK → Prop := fun xs H Q => ∃ x T n, xs = [x, .ty T] ∧ okT T ∧ tyN H x n ∧ Q (.bl (subN n T)) H
theorem call_isi {X : Cx} : CallR X (.builtin "isinstance") rIsi := by
  intro pins s σ H xs us Q I r h
  obtain ⟨x, T, n, rfl, hT, ty, q⟩ := h
  obtain ⟨u, u', rfl, rx, rT⟩ := vals2 r
  obtain rfl : u' = Value.type T := rT
  obtain ⟨ty', hn⟩ := tyN_of (K := X.K) ty
  exact isinst_ok I rx ty' (kit_sub hn hT) fun tk => ⟨.bl _, H, I.tok _, rfl, q⟩
theorem scal_ii {i j : Int} : scal (.int i) (.int j) = true := rfl
theorem scal_bb {i j : Bool} : scal (.bl i) (.bl j) = true := rfl
theorem scal_ss {i j : Str} : scal (.str i) (.str j) = true := rfl
theorem tEqI' {i j : Int} : decide (V.int i = V.int j) = decide (i = j) := by
  by_cases h : i = j
  · subst h; simp
  · have : ¬ V.int i = V.int j := fun e => h (V.int.inj e)
    simp [h, this]
def tCut (t u : TS) : TS := fun D σ H => ∃ R : St → Hp → Prop, t { D with nx := R } σ H ∧ ∀ σ' H', R σ' H' → u D σ' H'
theorem pss_cut {X : Cx} {st : Stmt} {rest : List Stmt} {t u : TS} (h1 : PS X st t) (h2 : PSs X rest u) : PSs X (st :: rest) (tCut t u) := by
  intro pins s σ H D I h
  obtain ⟨R, ha, hb⟩ := h
  refine wpAny_execs_cons (thn (h1 pins s σ H { D with nx := R } I ha) fun f s1 q => ?_)
  cases f with
  | next =>
    obtain ⟨σ', H', I', q⟩ := q
    exact h2 pins s1 σ' H' D I' (hb σ' H' q)
  | ret v => exact q
  | brk => exact q
  | cont => exact q
theorem cut_of {t u : TS} {D : Ends} {σ : St} {H : Hp} (R : St → Hp → Prop) (h1 : t { D with nx := R } σ H) (h2 : ∀ σ' H', R σ' H' → u D σ' H') : tCut t u D σ H := ⟨R, h1, h2⟩
theorem for_rangeW {lo : Int} {n : Nat} {σ : St} {H : Hp} {DN : St → Hp → Prop} {B : (St → Hp → Prop) → V → St → Hp → Prop} (Pv : Nat → St → Hp → Prop) (h0 : Pv 0 σ H)
    (hs : ∀ i σ H, i < n → Pv i σ H → B (Pv (i + 1)) (.int (lo + i)) σ H) (hd : ∀ σ H, Pv n σ H → DN σ H) :
    ∃ W : Nat → Nat → St → Hp → Prop, (∃ m, W 0 m σ H) ∧ ∀ i m σ H, W i m σ H →
      ((Itr lo n).stop i H ∧ DN σ H) ∨ ((Itr lo n).go i H ∧ ∃ N : St → Hp → Prop, (∀ σ' H', N σ' H' → ∃ m', m' < m ∧ W (i + 1) m' σ' H') ∧ ∀ x H', (Itr lo n).yld i H x H' → B N x σ H') := by
  refine ⟨fun i m σ H => m = n - i ∧ i ≤ n ∧ Pv i σ H, ⟨n, by simp, Nat.zero_le _, h0⟩, ?_⟩
  rintro i m σ H ⟨rfl, hi, p⟩
  by_cases hlt : i < n
  · refine .inr ⟨hlt, Pv (i + 1), fun σ' H' p' => ⟨n - (i + 1), by omega, rfl, hlt, p'⟩, fun x H' y => ?_⟩
    obtain ⟨e, y⟩ := y
    subst e y
    exact hs i σ _ hlt p
  · have e : i = n := by omega
    subst e
    exact .inl ⟨Nat.le_refl _, hd σ H p⟩
theorem for_listW {K : PySem.W.Frag} {a : Addr} {xs : List V} {σ : St} {H : Hp} {DN : St → Hp → Prop} {B : (St → Hp → Prop) → V → St → Hp → Prop} (Pv : Nat → St → Hp → Prop) (h0 : Pv 0 σ H)
    (hl : ∀ i σ H, i ≤ xs.length → Pv i σ H → SqL K H a xs)
    (hs : ∀ i x σ H, xs[i]? = some x → Pv i σ H → B (Pv (i + 1)) x σ H) (hd : ∀ σ H, Pv xs.length σ H → DN σ H) :
    ∃ W : Nat → Nat → St → Hp → Prop, (∃ m, W 0 m σ H) ∧ ∀ i m σ H, W i m σ H →
      ((Itl K a).stop i H ∧ DN σ H) ∨ ((Itl K a).go i H ∧ ∃ N : St → Hp → Prop, (∀ σ' H', N σ' H' → ∃ m', m' < m ∧ W (i + 1) m' σ' H') ∧ ∀ x H', (Itl K a).yld i H x H' → B N x σ H') := by
  refine ⟨fun i m σ H => m = xs.length - i ∧ i ≤ xs.length ∧ Pv i σ H, ⟨xs.length, by simp, Nat.zero_le _, h0⟩, ?_⟩
  rintro i m σ H ⟨rfl, hi, p⟩
  have q := hl i σ H hi p
  by_cases hlt : i < xs.length
  · refine .inr ⟨⟨xs, xs[i], q, by simp [hlt]⟩, Pv (i + 1), fun σ' H' p' => ⟨xs.length - (i + 1), by omega, rfl, hlt, p'⟩, fun x H' y => ?_⟩
    obtain ⟨e, y⟩ := y
    subst e
    exact hs i x σ _ (y xs q) p
  · have e : i = xs.length := by omega
    subst e
    exact .inl ⟨⟨xs, q, Nat.le_refl _⟩, hd σ H p⟩
end L2

set_option Elab.async false
set_option linter.all false
set_option maxRecDepth 100000
set_option maxHeartbeats 4000000
namespace L2
open PySem PySem.Spec PyProof.Rows
def clStep (env : Env) (cs : List (Str × Addr)) (y : Str × NameKind) : List (Str × Addr) := if y.2 == .free then (y.1, (env.cells.lookup y.1).getD 0) :: cs else cs
def clOf (names : List (Str × NameKind)) (env : Env) : List (Str × Addr) := names.foldl (clStep env) []
theorem closure_go {env : Env} : ∀ (names : List (Str × NameKind)) (acc : List (Str × Addr)), (∀ y ∈ names, y.2 = .free → ∃ c, env.cells.lookup y.1 = some c) →
    (forIn names acc fun (x : Str × NameKind) (cs : List (Str × Addr)) => if (x.2 == NameKind.free) = true then (do let a ← cellOf env x.1; pure (ForInStep.yield ((x.1, a) :: cs))) else (pure (ForInStep.yield cs) : Sem (ForInStep (List (Str × Addr))))) = pure (names.foldl (clStep env) acc)
  | [], _, _ => rfl
  | y :: r, acc, h => by
    have ih := closure_go (env := env) r
    rw [List.forIn_cons]
    by_cases hk : y.2 = .free
    · obtain ⟨c, hc⟩ := h y List.mem_cons_self hk
      have hb : (y.2 == NameKind.free) = true := by rw [hk]; rfl
      have e : cellOf env y.1 = pure c := by unfold cellOf; rw [hc]
      rw [if_pos hb, e]
      show (forIn r ((y.1, c) :: acc) _ : Sem _) = _
      rw [ih _ fun z hz => h z (List.mem_cons_of_mem _ hz), List.foldl_cons]
      show _ = pure (r.foldl (clStep env) (if (y.2 == NameKind.free) = true then (y.1, (env.cells.lookup y.1).getD 0) :: acc else acc))
      rw [if_pos hb, hc]; rfl
    · have hb : ¬ (y.2 == NameKind.free) = true := by simpa using hk
      rw [if_neg hb]
      show (forIn r acc _ : Sem _) = _
      rw [ih _ fun z hz => h z (List.mem_cons_of_mem _ hz), List.foldl_cons]
      show _ = pure (r.foldl (clStep env) (if (y.2 == NameKind.free) = true then (y.1, (env.cells.lookup y.1).getD 0) :: acc else acc))
      rw [if_neg hb]
theorem closure_is {scope : Scope} {env : Env} (h : ∀ y ∈ scope.names, y.2 = .free → ∃ c, env.cells.lookup y.1 = some c) : closureFor scope env = pure (clOf scope.names env) := by
  have e := closure_go scope.names [] h
  unfold closureFor clOf
  refine Eq.trans ?_ (congrArg (fun t => t >>= fun (r : List (Str × Addr)) => (pure r : Sem (List (Str × Addr)))) e)
  rfl
theorem mem_cl {env : Env} : ∀ {names : List (Str × NameKind)} {acc : List (Str × Addr)} {p : Str × Addr}, p ∈ names.foldl (clStep env) acc → p ∈ acc ∨ ((p.1, NameKind.free) ∈ names ∧ p.2 = (env.cells.lookup p.1).getD 0)
  | [], _, _, h => .inl h
  | y :: r, acc, p, h => by
    rw [List.foldl_cons] at h
    rcases mem_cl h with h | ⟨h, e⟩
    · unfold clStep at h
      split at h
      · rename_i hk
        rcases List.mem_cons.mp h with rfl | h
        · have : y.2 = .free := by simpa using hk
          exact .inr ⟨by rw [← this]; exact List.mem_cons_self, rfl⟩
        · exact .inl h
      · exact .inl h
    · exact .inr ⟨List.mem_cons_of_mem _ h, e⟩
theorem cl_mem {env : Env} {x : Str} : ∀ {names : List (Str × NameKind)} {acc : List (Str × Addr)}, ((∃ c, (x, c) ∈ acc) ∨ (x, NameKind.free) ∈ names) → ∃ c, (x, c) ∈ names.foldl (clStep env) acc
  | [], _, h => by
    rcases h with h | h
    · exact h
    · cases h
  | y :: r, acc, h => by
    rw [List.foldl_cons]
    refine cl_mem ?_
    rcases h with ⟨c, h⟩ | h
    · refine .inl ⟨c, ?_⟩
      unfold clStep
      split
      · exact List.mem_cons_of_mem _ h
      · exact h
    · rcases List.mem_cons.mp h with rfl | h
      · refine .inl ⟨(env.cells.lookup x).getD 0, ?_⟩
        unfold clStep
        exact List.mem_cons_self
      · exact .inr h
theorem lookup_some_of_mem {x : Str} {c : Addr} : ∀ {l : List (Str × Addr)}, (x, c) ∈ l → ∃ c', l.lookup x = some c'
  | [], h => by cases h
  | (y, d) :: r, h => by
    rw [List.lookup_cons]
    by_cases e : x == y
    · rw [e]; exact ⟨d, rfl⟩
    · have e' : (x == y) = false := by simpa using e
      rw [e']
      rcases List.mem_cons.mp h with z | z
      · cases z; simp at e
      · exact lookup_some_of_mem z

def Cx.comp (X : Cx) (scope : Scope) (N' : List Str) (s₀ : Shared) (H₀ : Hp) (fp : List Addr) (C : Addr) : Cx where
  prog := X.prog
  w := X.w
  K := X.K
  mg := X.mg
  base := X.base
  A := X.A
  N := N'
  s₀ := s₀
  H₀ := H₀
  env := compEnvC scope (clOf scope.names X.env) C X.env
  outer := X.stack
  stack := X.stack
  ex := fp
  fn := fun _ => false
  calm := X.calm
  pn := []
  xe := fun _ _ => False
/-- what is asked of the scopes (all by rfl) -/
structure CompSc (X : Cx) (scope : Scope) (N' own fnames : List Str) (fr : List Nat) : Prop where
  kind : scope.kind = .function
  nocell : (scope.names.all fun y => y.2 != .cell) = true
  free : (scope.names.all fun y => y.2 != .free || X.env.kindOf y.1 == some .cell) = true
  loc : (scope.names.all fun y => y.2 != .local || scope.names.lookup y.1 == some .local) = true
  fn : (fnames.all fun x => X.env.kindOf x == some .cell && (relabel scope X.env).names.lookup x == some .cell) = true
  N : N' = own ++ fnames
  fr : fr.map (fun j => X.N[j]?) = fnames.map some
/-- the block's first names: its own are unset, the free ones as they stand -/
def compSt (k : Nat) (fr : List Nat) (σ : St) : St := List.replicate k none ++ fr.map fun j => (σ[j]?).getD none

/-- the tests of a comprehension -/
def PTs (X : Cx) (ifs : List Expr) (t : TT) : Prop :=
  ∀ (pins : List (Addr × Obj)) (s : Shared) (σ : St) (H : Hp) (Q : Bool → Hp → Prop), Inv X pins σ H s → t σ H Q →
    wpAny (model X.prog X.w) X.A (forIn ifs true fun c r => if r = true then do let ok ← isTrue c X.env (eval c X.env); pure (ForInStep.yield ok) else pure (ForInStep.yield r)) (TP X pins σ Q) X.xe s
def tTrue : TT := fun _ H Q => Q true H
theorem pts_nil {X : Cx} : PTs X [] tTrue := fun pins s σ H Q I h => wpAny_pure ⟨H, I, h⟩
theorem pts_one {X : Cx} {c : Expr} {t : TT} (hc : PT X c t) : PTs X [c] t := by
  intro pins s σ H Q I h
  rw [List.forIn_cons]
  refine wpAny_bind ?_
  rw [if_pos rfl]
  refine wpAny_bind (thn (hc pins s σ H Q I h) fun b s1 q => wpAny_pure ?_)
  exact wpAny_pure q

section
variable {X : Cx} {scope : Scope} {N' own fnames : List Str} {fr : List Nat} {pins : List (Addr × Obj)} {σ : St} {H : Hp} {s₃ : Shared} {fp : List Addr}
theorem CompSc.has (S : CompSc X scope N' own fnames fr) (ok : X.Ok) : ∀ y ∈ scope.names, y.2 = .free → ∃ c, X.env.cells.lookup y.1 = some c := fun y hy hf => by
  have h := List.all_eq_true.mp S.free y hy
  rw [hf] at h
  exact ok.has _ (.inl (by simpa using h))
theorem CompSc.cell (S : CompSc X scope N' own fnames fr) (ok : X.Ok) {y : Str} {c : Addr} (h : (clOf scope.names X.env).lookup y = some c) : X.env.cells.lookup y = some c := by
  rcases mem_cl (PySem.mem_of_lookup h) with z | ⟨z, e⟩
  · cases z
  · obtain ⟨d, hd⟩ := S.has ok _ z rfl
    have hd' : X.env.cells.lookup y = some d := hd
    have e' : c = (X.env.cells.lookup y).getD 0 := e
    rw [hd'] at e'
    rw [hd', e']; rfl
theorem mem_of_lookupK {x : Str} {k : NameKind} : ∀ {l : List (Str × NameKind)}, l.lookup x = some k → (x, k) ∈ l
  | [], h => by simp at h
  | (y, d) :: r, h => by
    rw [List.lookup_cons] at h
    by_cases e : x == y
    · rw [e] at h
      have e1 : x = y := by simpa using e
      cases h; subst e1
      exact List.mem_cons_self
    · have e' : (x == y) = false := by simpa using e
      rw [e'] at h
      exact List.mem_cons_of_mem _ (mem_of_lookupK h)
theorem CompSc.names (S : CompSc X scope N' own fnames fr) {y : Str} {k : NameKind} (h : (relabel scope X.env).names.lookup y = some k) (hk : k = .cell ∨ k = .free) : (y, NameKind.free) ∈ scope.names := by
  have hm := mem_of_lookupK h
  unfold relabel at hm
  obtain ⟨⟨n, k0⟩, hn, e⟩ := List.mem_map.mp hm
  dsimp only at e
  split at e
  · rename_i hc
    have : k0 = .free := by
      simp only [Bool.and_eq_true, beq_iff_eq] at hc
      exact hc.1.1
    cases e; subst this; exact hn
  · cases e
    rcases hk with rfl | rfl
    · have := List.all_eq_true.mp S.nocell _ hn
      simp at this
    · exact hn
/-- the block's context is in order -/
theorem comp_ok {C : Addr} (S : CompSc X scope N' own fnames fr) (I : Inv X pins σ H s₃) (hC : s₃.heap.objs.size ≤ C) (hf : ∀ b ∈ fp, FpOk X pins H b) (hlt : ∀ b ∈ fp, b < s₃.heap.objs.size) : (X.comp scope N' s₃ H fp C).Ok := by
  have cellI : ∀ y c, (clOf scope.names X.env).lookup y = some c → X.env.cells.lookup y = some c := fun y c h => S.cell I.ok h
  refine ⟨I.ok.mod, S.kind, I.ok.glob, I.ok.blt, hC, fun x y c h1 h2 => I.ok.inj x y c (cellI x c h1) (cellI y c h2), fun x hx => ?_, fun x c h => (by cases h), I.ok.hd, I.ok.frames, .inl rfl, fun b hb => ⟨?_, fun x c h => (hf b hb).2.2.2.2.1 x c (cellI x c h)⟩, fun b o e => I.bs b o e, Nat.le_trans I.ok.bsz I.sz, fun b o e hb => ?_, fun b hb hb' => ?_, I.stack, I.stkFree⟩
  · have hm : (x, NameKind.free) ∈ scope.names := by
      rcases hx with h | h
      · exact S.names (show (relabel scope X.env).names.lookup x = some .cell from h) (.inl rfl)
      · exact S.names (show (relabel scope X.env).names.lookup x = some .free from h) (.inr rfl)
    obtain ⟨c, hc⟩ := cl_mem (env := X.env) (acc := []) (.inr hm)
    exact lookup_some_of_mem hc
  · intro z
    have h1 := hlt b hb
    have z' : b = C := z
    rw [z'] at h1
    exact absurd (Nat.lt_of_lt_of_le h1 hC) (Nat.lt_irrefl _)
  · obtain ⟨_, _, _, h3, _⟩ := hf b hb
    rcases h3 with h3 | h3
    · exact I.ok.noex b o e h3
    · exact absurd (Nat.lt_of_lt_of_le (Heap.lt_size e) (Nat.le_trans I.ok.bsz h3)) (Nat.lt_irrefl _)
  · obtain ⟨_, h1, h2, _⟩ := hf b hb
    rcases List.mem_cons.mp (I.stkSub b hb') with z | z
    · exact h1 z
    · exact h2 z
theorem comp_start {h₄ : Heap} {t₄ : Nat} {m : Str → Option Value} (S : CompSc X scope N' own fnames fr) (I : Inv X pins σ H s₃) (hf : ∀ b ∈ fp, FpOk X pins H b) (hlt : ∀ b ∈ fp, b < s₃.heap.objs.size)
    (k : ∀ b o, s₃.heap.get? b = some o → h₄.get? b = some o) (hn : h₄.Ns s₃.heap.objs.size m) :
    Inv (X.comp scope N' s₃ H fp s₃.heap.objs.size) [] (compSt own.length fr σ) H { s₃ with heap := h₄, toks := t₄ } := by
  have hlen : fr.length = fnames.length := by simpa using congrArg List.length S.fr
  refine ⟨comp_ok S I (Nat.le_refl _) hf hlt, rfl, I.bare, Un.kept k, ⟨m, hn, fun i x v e1 e2 e3 => ?_⟩, fun y c h => ?_, I.hok.fresh (Nat.le_refl _), fun y c h => I.freeC y c (S.cell I.ok h), fun p hp => absurd (show p ∈ ([] : List (Addr × Obj)) from hp) (by simp), I.hok.kept k, ?_⟩
  · have e1' : (own ++ fnames)[i]? = some x := by rw [← S.N]; exact e1
    have hi : own.length ≤ i := by
      refine Nat.le_of_not_lt fun z => ?_
      unfold compSt at e2
      rw [List.getElem?_append_left (by simpa using z), List.getElem?_replicate, if_pos z] at e2
      cases e2
    unfold compSt at e2
    rw [List.getElem?_append_right (by simpa using hi), List.length_replicate, List.getElem?_map] at e2
    rw [List.getElem?_append_right hi] at e1'
    cases q : fr[i - own.length]? with
    | none => rw [q] at e2; cases e2
    | some t =>
      rw [q] at e2
      have e2' : (σ[t]?).getD none = some v := Option.some.inj e2
      have hσ : σ[t]? = some (some v) := by
        cases z : σ[t]? with
        | none => rw [z] at e2'; cases e2'
        | some o => rw [z] at e2'; exact congrArg some e2'
      have hN : X.N[t]? = some x := by
        have z := congrArg (fun l => l[i - own.length]?) S.fr
        simp only [List.getElem?_map, q, e1', Option.map_some] at z
        exact Option.some.inj z
      have hx : x ∈ fnames := List.mem_of_getElem? e1'
      have hk := List.all_eq_true.mp S.fn x hx
      simp only [Bool.and_eq_true, beq_iff_eq] at hk
      obtain ⟨mX, _, hl⟩ := I.loc
      obtain ⟨u, r, l⟩ := hl t x v hN hσ (.inr (.inl hk.1))
      refine ⟨u, r, ?_⟩
      rcases l with ⟨kl, _⟩ | ⟨_, c, hc, o, ho, hd⟩
      · rw [hk.1] at kl; cases kl
      · obtain ⟨d, hd'⟩ := cl_mem (env := X.env) (acc := []) (.inr (S.names hk.2 (.inl rfl)))
        obtain ⟨c', hc'⟩ := lookup_some_of_mem hd'
        have z := S.cell I.ok hc'
        rw [hc] at z
        cases z
        exact .inr ⟨.inl hk.2, c, hc', o, k c o ho, hd⟩
  · obtain ⟨v, o, ho, hd⟩ := I.cell y c (S.cell I.ok h)
    exact ⟨v, o, k c o ho, hd⟩
  · unfold compSt
    show _ = N'.length
    rw [S.N, List.length_append, List.length_append, List.length_replicate, List.length_map, hlen]

/-- the block: what is wanted of its turns -/
def tBlk (k : Nat) (fr : List Nat) (g : TG) (tt : TT) (te : TE) (J : It) (σ : St) (H1 : Hp) (Q : VK) : Prop :=
  ∀ D, H1 D = none → ∃ W : Nat → Nat → St → Hp → Prop, (∃ m, W 0 m (compSt k fr σ) (upd H1 D (.lst []))) ∧ ∀ i m σ' H', W i m σ' H' →
    (J.stop i H' ∧ Q (.ref D) H') ∨ (J.go i H' ∧ ∃ N : St → Hp → Prop, (∀ σ2 H2, N σ2 H2 → ∃ m', m' < m ∧ W (i + 1) m' σ2 H2) ∧ ∀ x H2, J.yld i H' x H2 →
      g x σ' H2 fun σ2 H3 => tt σ2 H3 fun b H4 => if b = true then te σ2 H4 fun v H5 => ∃ xs, H5 D = some (.lst xs) ∧ xs.length < sizeLine ∧ N σ2 (upd H5 D (.lst (xs ++ [v]))) else N σ2 H4)
def tComp (wi : TI) (k : Nat) (fr : List Nat) (g : TG) (tt : TT) (te : TE) : TE := fun σ H Q => wi σ H fun J H1 => tBlk k fr g tt te J σ H1 Q

theorem comp_run {elt tg iter : Expr} {ifs : List Expr} {pos : Pos} {g : TG} {tt : TT} {te : TE} {s₂ : Shared} {H2 : Hp} {J : It} {it : Addr} {tn : Nat → Heap → Prop} {RR : Value → Addr → Result → Shared → Prop} {E : Value → Shared → Prop} {Q : VK}
    (S : CompSc X scope N' own fnames fr) (hc : X.calm = true)
    (hb : ∀ (s₀ : Shared) (H₀ : Hp) (fp : List Addr) (C : Addr), PG (X.comp scope N' s₀ H₀ fp C) tg g ∧ PTs (X.comp scope N' s₀ H₀ fp C) ifs tt ∧ PE (X.comp scope N' s₀ H₀ fp C) elt te)
    (I2 : Inv X pins σ H2 s₂) (T : Turn X.prog X.w X.K tg J fp it tn) (st2 : tn 0 s₂.heap) (f2 : ∀ b ∈ fp, FpOk X pins H2 b) (hq : tBlk own.length fr g tt te J σ H2 Q)
    (hRR : ∀ D C H' s', Inv X pins σ H' s' → (∃ m, s'.heap.Ns C m) → FpOk X pins H' C → Q (.ref D) H' → RR (.ref D) C (.ok .next) s') :
    wpAny (model X.prog X.w) X.A (newList []) (fun acc s₃ => wpAny (model X.prog X.w) X.A (newFunctionEnv scope X.env.globals (clOf scope.names X.env) [] X.env.qual none .none (some X.env)) (fun cenv s₄ =>
      codeAny (model X.prog X.w) X.A (.compStart (.ListComp elt [⟨tg, iter, ifs, 0⟩] scope pos) 0 (.ref it) acc { cenv with scope := relabel scope X.env }) (RR acc cenv.locals) s₄) E s₃) E s₂ := by
  have nocell : ∀ y ∈ scope.names, y.2 ≠ .cell := fun y hy z => by
    have := List.all_eq_true.mp S.nocell y hy
    rw [z] at this
    simp at this
  refine wpAny_newObj_type (wpAny_newFunctionEnv nocell (by intro y hy; simp at hy) (fun h₁ hns₁ hsb₁ => ?_) S.kind)
  have hlt2 : ∀ b ∈ fp, b < s₂.heap.objs.size := fun b hb' => by
    obtain ⟨o, e, _⟩ := T.obj _ _ st2 b hb'
    exact Heap.lt_size e
  have I3 : Inv X pins σ (upd H2 s₂.heap.objs.size (.lst [])) { s₂ with heap := s₂.heap.push { cls := .type "list", data := .seq ([] : List Value).toArray }, toks := s₂.toks } := I2.lnew (its := []) (ys := []) .nil (Nat.zero_le _)
  have hD : H2 s₂.heap.objs.size = none := I2.fresh
  obtain ⟨W, ⟨m0, w0⟩, turn⟩ := hq _ hD
  generalize hs3 : ({ s₂ with heap := s₂.heap.push { cls := .type "list", data := .seq ([] : List Value).toArray }, toks := s₂.toks } : Shared) = s₃ at I3
  have eh : s₃.heap = s₂.heap.push { cls := .type "list", data := .seq ([] : List Value).toArray } := by rw [← hs3]
  have hsz : s₃.heap.objs.size = s₂.heap.objs.size + 1 := by rw [eh, Heap.size_push]
  have f3 : ∀ b ∈ fp, FpOk X pins (upd H2 s₂.heap.objs.size (.lst [])) b := fun b hb' => by
    refine ⟨?_, (f2 b hb').2⟩
    rw [upd_ne (Nat.ne_of_lt (hlt2 b hb'))]
    exact (f2 b hb').1
  have hlt3 : ∀ b ∈ fp, b < s₃.heap.objs.size := fun b hb' => by rw [hsz]; exact Nat.lt_succ_of_lt (hlt2 b hb')
  have old : ∀ b o, s₃.heap.get? b = some o → h₁.get? b = some o := fun b o e => by
    have hb1 : b ≠ s₃.heap.objs.size := Nat.ne_of_lt (Heap.lt_size e)
    refine hsb₁.extBut b o ?_ ?_
    · show b ≠ (s₂.heap.push _).objs.size
      rw [← eh]; exact hb1
    · show (Heap.push (s₂.heap.push _) _).get? b = some o
      rw [← eh]
      exact Heap.get?_push_of_some _ e
  have hns : ∃ m, h₁.Ns s₃.heap.objs.size m := ⟨_, by rw [eh]; exact hns₁⟩
  obtain ⟨m1, hns⟩ := hns
  have I4 : Inv (X.comp scope N' s₃ (upd H2 s₂.heap.objs.size (.lst [])) fp s₃.heap.objs.size) [] (compSt own.length fr σ) (upd H2 s₂.heap.objs.size (.lst [])) { s₃ with heap := h₁, toks := s₂.toks + ([] : List (Str × Value)).length } :=
    comp_start S I3 f3 hlt3 old hns
  have st4 : tn 0 h₁ := T.keep _ _ _ st2 fun b hb' o e => old b o (by rw [eh]; exact Heap.get?_push_of_some _ e)
  obtain ⟨hpg, hpt, hpe⟩ := hb s₃ (upd H2 s₂.heap.objs.size (.lst [])) fp s₃.heap.objs.size
  have fpok : ∀ {H' : Hp}, (∀ b ∈ fp, H' b = none) → ∀ b ∈ fp, FpOk (X.comp scope N' s₃ (upd H2 s₂.heap.objs.size (.lst [])) fp s₃.heap.objs.size) [] H' b := fun hn b hb' =>
    ⟨hn b hb', fun z => by
        have h1 := hlt3 b hb'
        have z' : b = s₃.heap.objs.size := z
        rw [z'] at h1
        exact absurd h1 (Nat.lt_irrefl _), fun z => I4.ok.exfs b hb' z, .inl hb', fun x c e => (I4.ok.exf b hb').2 x c e, fun p hp => absurd (show p ∈ ([] : List (Addr × Obj)) from hp) (by simp)⟩
  have loop : ∀ s4 : Shared, s4 = { s₃ with heap := h₁, toks := s₂.toks + ([] : List (Str × Value)).length } →
      codeAny (model X.prog X.w) X.A (.compLoop (.ListComp elt [⟨tg, iter, ifs, 0⟩] scope pos) 0 (.ref it) (.ref s₂.heap.objs.size) (compEnvC scope (clOf scope.names X.env) s₃.heap.objs.size X.env)) (RR (.ref s₂.heap.objs.size) s₃.heap.objs.size) s4 := by
    rintro s4 rfl
    refine codeAny_loop rfl (fun n s => ∃ i σ' H', Inv (X.comp scope N' s₃ (upd H2 s₂.heap.objs.size (.lst [])) fp s₃.heap.objs.size) [] σ' H' s ∧ tn i s.heap ∧ (∀ b ∈ fp, H' b = none) ∧ W i n σ' H') ?_ m0
      ⟨0, _, _, I4, st4, fun b hb' => (f3 b hb').1, w0⟩
    rintro n s5 ⟨i, σ5, H5, I5, st5, fr5, w5⟩
    show wpAny _ X.A ((compTurn (.ListComp elt [⟨tg, iter, ifs, 0⟩] scope pos) 0 (.ref it) (.ref s₂.heap.objs.size) (compEnvC scope (clOf scope.names X.env) s₃.heap.objs.size X.env)).onRaise (fun x => do noteFrame x (compEnvC scope (clOf scope.names X.env) s₃.heap.objs.size X.env); theTreesLotGoes x)) _ _ s5
    refine wpAny_noted ?_
    rw [compTurn_list]
    refine wpAny_bind (wpAny_standAt (wpAny_bind ?_))
    rcases turn i n σ5 H5 w5 with ⟨stop, q⟩ | ⟨go, N, hN, step⟩
    · refine wpAny_mono (T.done (X.comp scope N' s₃ (upd H2 s₂.heap.objs.size (.lst [])) fp s₃.heap.objs.size) rfl rfl rfl hc i [] s5 σ5 H5 (fun _ _ => False) I5 (fpok fr5) st5 stop) (fun r s6 hr => ?_) fun _ _ z => z.elim
      obtain ⟨rfl, I6⟩ := hr
      refine wpAny_pure ?_
      obtain ⟨m6, hn6, _⟩ := id I6.loc
      have I7 : Inv X pins σ H5 s6 := I3.call' (ch := fp) I6.os I6.base I6.hok I6.bare fun b hb' => by
        obtain ⟨_, h1, _, h3, h4, h5⟩ := f3 b hb'
        exact ⟨h3, h1, h4, h5⟩
      exact hRR _ _ H5 s6 I7 ⟨m6, hn6⟩ (I3.fpOk (Nat.le_refl _) I6.free) q
    · refine wpAny_mono (T.item (X.comp scope N' s₃ (upd H2 s₂.heap.objs.size (.lst [])) fp s₃.heap.objs.size) rfl rfl rfl hc i [] s5 σ5 H5 (fun _ _ => False) I5 (fpok fr5) st5 go) (fun r s6 hr => ?_) fun _ _ z => z.elim
      obtain ⟨u, rfl, h6⟩ := hr
      refine wpAny_bind (wpAny_mono h6 (fun _ s7 h7 => ?_) fun _ _ z => z.elim)
      obtain ⟨x, H7, I7, r7, y7, st7, fr7⟩ := h7
      have I7' := I7.pinned (fpok fr7) (T.obj _ _ st7)
      refine wpAny_bind (wpAny_mono (hpg _ s7 σ5 H7 x u _ I7' r7 (step x H7 y7)) (fun _ s8 h8 => ?_) fun _ _ z => z.elim)
      obtain ⟨σ8, H8, I8, q8⟩ := h8
      have again' : ∀ {σ9 : St} {H9 : Hp} {s9 : Shared}, Inv (X.comp scope N' s₃ (upd H2 s₂.heap.objs.size (.lst [])) fp s₃.heap.objs.size) ([] ++ pinsAt fp s7.heap) σ9 H9 s9 → N σ9 H9 →
          ∃ m, m < n ∧ ∃ i σ' H', Inv (X.comp scope N' s₃ (upd H2 s₂.heap.objs.size (.lst [])) fp s₃.heap.objs.size) [] σ' H' s9 ∧ tn i s9.heap ∧ (∀ b ∈ fp, H' b = none) ∧ W i m σ' H' := fun {σ9 H9 s9} I9 n9 => by
        obtain ⟨m', hm, w9⟩ := hN σ9 H9 n9
        refine ⟨m', hm, i + 1, σ9, H9, I9.unpinned, T.keep _ _ _ st7 fun b hb' o e => (I9.pin (b, o) (List.mem_append_right _ (List.mem_append_right _ (mem_pinsAt hb' e)))).1, fun b hb' => ?_, w9⟩
        obtain ⟨o, e, d⟩ := T.obj _ _ st7 b hb'
        exact (I9.pin (b, o) (List.mem_append_right _ (List.mem_append_right _ (mem_pinsAt hb' e)))).2.1
      refine wpAny_bind (wpAny_mono (hpt _ s8 σ8 H8 _ I8 q8) (fun b s9 h9 => ?_) fun _ _ z => z.elim)
      obtain ⟨H9, I9, q9⟩ := h9
      cases b with
      | false =>
        rw [if_neg Bool.false_ne_true] at q9
        exact wpAny_pure ⟨rfl, again' I9 q9⟩
      | true =>
        rw [if_pos rfl] at q9
        refine wpAny_bind (wpAny_bind (wpAny_mono (hpe _ s9 σ8 H9 _ I9 q9) (fun v s10 h10 => ?_) fun _ _ z => z.elim))
        obtain ⟨y, H10, I10, r10, xs, hx, hz, q10⟩ := h10
        refine wpAny_bind (wpAny_mono (mt_append (X := X.comp scope N' s₃ (upd H2 s₂.heap.objs.size (.lst [])) fp s₃.heap.objs.size) _ s10 σ8 H10 (.ref s₂.heap.objs.size) [y] (.ref s₂.heap.objs.size) [v] (fun _ H' => N σ8 H') I10 rfl (.cons r10 .nil) ⟨_, xs, y, rfl, rfl, hx, hz, q10⟩) (fun r s11 h11 => ?_) fun _ _ z => z.elim)
        obtain ⟨_, H11, I11, _, q11⟩ := h11
        exact wpAny_pure (wpAny_pure ⟨rfl, again' I11 q11⟩)
  have e3 : ({ s₂ with heap := s₂.heap.push { cls := .type "list", data := .seq ([] : List Value).toArray } } : Shared) = s₃ := hs3
  have go4 := codeAny_compStart_list (loop _ rfl) (T.self X.A 0 _ _ _ st4 (loop _ rfl))
  subst hs3
  exact go4
theorem pe_comp {elt tg iter : Expr} {ifs : List Expr} {pos : Pos} {wi : TI} {g : TG} {tt : TT} {te : TE} (S : CompSc X scope N' own fnames fr) (hc : X.calm = true) (hi : PI X tg iter wi)
    (hb : ∀ (s₀ : Shared) (H₀ : Hp) (fp : List Addr) (C : Addr), PG (X.comp scope N' s₀ H₀ fp C) tg g ∧ PTs (X.comp scope N' s₀ H₀ fp C) ifs tt ∧ PE (X.comp scope N' s₀ H₀ fp C) elt te)
    (hs : ∀ x, foldedSetIterable iter X.env x = pure x := by intro _; rfl) : PE X (.ListComp elt [⟨tg, iter, ifs, 0⟩] scope pos) (tComp wi own.length fr g tt te) := by
  intro pins s σ H Q I h
  rw [eval_ListComp]
  refine wpAny_comprehension_free (use := none) rfl hs (closure_is (S.has I.ok)) S.kind (fun y hy hl => ?_) (wpAny_mono (hi pins s σ H _ I h) (fun xv s₁ h₁ => wpAny_mono h₁ (fun itv s₂ h₂ => ?_) fun _ _ e => e) fun _ _ e => e)
  · have := List.all_eq_true.mp S.loc y hy
    rw [hl] at this
    simpa using this
  · obtain ⟨it, fp, tn, J, H2, rfl, I2, T, st2, f2, q2⟩ := h₂
    refine comp_run S hc hb I2 T st2 f2 q2 (RR := fun acc C => compPost (model X.prog X.w) X.A X.xe none (EP X pins σ Q) acc C) fun D C H' s' I' hn fC q => ?_
    obtain ⟨m, hn⟩ := hn
    obtain ⟨f0, f1, f2', f3, f4, f5⟩ := fC
    exact ⟨m, hn, fun h' hs' => ⟨.ref D, H', I'.turned (t' := s'.toks) (fun b o hb' e => (hs'.2 b hb').trans e) f0 f1 f3 f4 f5, rfl, q⟩⟩
/-- x = [..]: the name is stored ahead of the block's end -/
theorem ps_comp {i : Nat} {x : Str} {pos' spos : Pos} {elt tg iter : Expr} {ifs : List Expr} {pos : Pos} {wi : TI} {g : TG} {tt : TT} {te : TE} (hN : X.N.Nodup) (hi' : X.N[i]? = some x) (hx : X.env.scope.names.lookup x = some .local) (S : CompSc X scope N' own fnames fr) (hc : X.calm = true) (hi : PI X tg iter wi)
    (hb : ∀ (s₀ : Shared) (H₀ : Hp) (fp : List Addr) (C : Addr), PG (X.comp scope N' s₀ H₀ fp C) tg g ∧ PTs (X.comp scope N' s₀ H₀ fp C) ifs tt ∧ PE (X.comp scope N' s₀ H₀ fp C) elt te)
    (hsw : swapsWith (.ListComp elt [⟨tg, iter, ifs, 0⟩] scope pos) (some (.Name x pos')) spos.line X.env = pure true := by rfl)
    (hs : ∀ x, foldedSetIterable iter X.env x = pure x := by intro _; rfl) : PS X (.Assign [.Name x pos'] (.ListComp elt [⟨tg, iter, ifs, 0⟩] scope pos) spos) (tAsg (tComp wi own.length fr g tt te) (gName i)) := by
  intro pins s σ H D I h
  rw [exec_Assign_Name_used _ _ _ _ hsw]
  refine wpAny_bind (wpAny_standAt (wpAny_bind ?_))
  show wpAny _ X.A (do let _ ← comprehension (.ListComp elt [⟨tg, iter, ifs, 0⟩] scope pos) scope X.env _ (newList []) false (eval iter X.env) (some (assign (.Name x pos') X.env))) _ _ s
  refine wpAny_bind (wpAny_mono (wpAny_comprehension_free (use := some (assign (.Name x pos') X.env)) (Q := fun _ s' => SP X pins D .next s') rfl hs (closure_is (S.has I.ok)) S.kind (fun y hy hl => ?_)
    (wpAny_mono (hi pins s σ H _ I h) (fun xv s₁ h₁ => wpAny_mono h₁ (fun itv s₂ h₂ => ?_) fun _ _ e => e) fun _ _ e => e)) (fun _ s' hq => wpAny_pure (wpAny_pure hq)) fun _ _ e => e)
  · have := List.all_eq_true.mp S.loc y hy
    rw [hl] at this
    simpa using this
  · obtain ⟨it, fp, tn, J, H2, rfl, I2, T, st2, f2, q2⟩ := h₂
    refine comp_run S hc hb I2 T st2 f2 q2 (RR := fun acc C => compPost (model X.prog X.w) X.A X.xe (some (assign (.Name x pos') X.env)) (fun _ s' => SP X pins D .next s') acc C) fun D' C H' s' I' hn fC q => ?_
    obtain ⟨m, hn⟩ := hn
    obtain ⟨f0, f1, f2', f3, f4, f5⟩ := fC
    show wpAny _ X.A (assign (.Name x pos') X.env (.ref D')) _ _ _
    refine wpAny_assign_Name (store_ok2 I' hN hi' (.inl hx) (v := .ref D') rfl (fun s'' I'' hch => ?_) (.inr hx))
    obtain ⟨a, hsa, hca⟩ := hch
    have hCa : C ≠ a := by
      rcases hca with z | z
      · rw [z]; exact f1
      · exact fun e => f4 x a z e.symm
    refine ⟨m, hn.sameBut hsa hCa, fun h' hs' => ⟨_, H', I''.turned (t' := s''.toks) (fun b o hb' e => (hs'.2 b hb').trans e) f0 f1 f3 f4 f5, q⟩⟩
end
end L2

set_option Elab.async false
set_option linter.all false
set_option maxRecDepth 100000
set_option maxHeartbeats 4000000
namespace L2
open PySem PySem.Spec PyProof.Rows
inductive DV where
  | int (i : Int) | bl (b : Bool) | str (x : Str) | non | lst (xs : List DV) | tup (xs : List DV)
def Den (K : PySem.W.Frag) (H : Hp) : Nat → V → DV → Prop
  | _, .int i, .int j => i = j
  | _, .bl i, .bl j => i = j
  | _, .str i, .str j => i = j
  | _, .non, .non => True
  | n + 1, .ref a, .lst ds => ∃ xs, SqL K H a xs ∧ Paired (Den K H n) xs ds
  | n + 1, .ref a, .tup ds => ∃ xs, SqT K H a xs ∧ Paired (Den K H n) xs ds
  | _, _, _ => False
/-- two data that are compared place by place -/
def Like : Nat → DV → DV → Prop
  | _, .int _, .int _ => True
  | _, .bl _, .bl _ => True
  | _, .str _, .str _ => True
  | _, .non, .non => True
  | n + 1, .lst ds, .lst es => ds.length = es.length → ∀ (i : Nat) d e, ds[i]? = some d → es[i]? = some e → Like n d e
  | n + 1, .tup ds, .tup es => ∀ (i : Nat) d e, ds[i]? = some d → es[i]? = some e → Like n d e
  | _, _, _ => False
theorem Paired.get' {α β : Type} {F : α → β → Prop} : ∀ {xs : List α} {ys : List β} {i : Nat} {x : α}, Paired F xs ys → xs[i]? = some x → ∃ y, ys[i]? = some y ∧ F x y
  | _, _, _, _, .nil, e => by simp at e
  | _, _, 0, _, .cons r _, e => by simp at e; subst e; exact ⟨_, rfl, r⟩
  | _, _, i + 1, x, .cons _ t, e => by
    obtain ⟨u, h1, h2⟩ := Paired.get' (i := i) (x := x) t (by simpa using e)
    exact ⟨u, by simpa using h1, h2⟩
section
variable {X : Cx} {pins : List (Addr × Obj)} {σ : St} {H : Hp} {s : Shared}
theorem paired_inj {α β : Type} {F : α → β → Prop} (hF : ∀ x d e, F x d → F x e → d = e) : ∀ {xs : List α} {ds es : List β}, Paired F xs ds → Paired F xs es → ds = es
  | _, _, _, .nil, .nil => rfl
  | _, _, _, .cons a b, .cons c d => by rw [hF _ _ _ a c, paired_inj hF b d]
theorem not_both (I : Inv X pins σ H s) {a : Addr} {xs ys : List V} (h : SqL X.K H a xs) (h' : SqT X.K H a ys) : False := by
  obtain ⟨its, _, ⟨o, n, e, c, _⟩, _⟩ := I.list h
  obtain ⟨its', _, ⟨o', e', c', _⟩, _⟩ := I.tuple h'
  rw [e] at e'; cases e'
  rw [c] at c'
  exact absurd c' (by decide)
theorem den_inj (I : Inv X pins σ H s) : ∀ (n : Nat) (x : V) (d e : DV), Den X.K H n x d → Den X.K H n x e → d = e := by
  intro n
  induction n with
  | zero =>
    intro x d e h1 h2
    cases x <;> cases d <;> simp only [Den] at h1 <;> cases e <;> simp only [Den] at h2 <;> first | rfl | (subst h1; subst h2; rfl)
  | succ n ih =>
    intro x d e h1 h2
    cases x with
    | ref a =>
      cases d with
      | lst ds =>
        obtain ⟨xs, hs, hp⟩ : ∃ xs, SqL X.K H a xs ∧ Paired (Den X.K H n) xs ds := h1
        cases e with
        | lst es =>
          obtain ⟨ys, hs', hp'⟩ : ∃ xs, SqL X.K H a xs ∧ Paired (Den X.K H n) xs es := h2
          rw [I.list_inj hs' hs] at hp'
          rw [paired_inj ih hp hp']
        | tup es =>
          obtain ⟨ys, hs', hp'⟩ : ∃ xs, SqT X.K H a xs ∧ Paired (Den X.K H n) xs es := h2
          exact (not_both I hs hs').elim
        | _ => exact False.elim h2
      | tup ds =>
        obtain ⟨xs, hs, hp⟩ : ∃ xs, SqT X.K H a xs ∧ Paired (Den X.K H n) xs ds := h1
        cases e with
        | tup es =>
          obtain ⟨ys, hs', hp'⟩ : ∃ xs, SqT X.K H a xs ∧ Paired (Den X.K H n) xs es := h2
          rw [I.tuple_inj hs' hs] at hp'
          rw [paired_inj ih hp hp']
        | lst es =>
          obtain ⟨ys, hs', hp'⟩ : ∃ xs, SqL X.K H a xs ∧ Paired (Den X.K H n) xs es := h2
          exact (not_both I hs' hs).elim
        | _ => exact False.elim h2
      | _ => exact False.elim h1
    | int i => cases d <;> simp only [Den] at h1 <;> cases e <;> simp only [Den] at h2 <;> (subst h1; subst h2; rfl)
    | bl i => cases d <;> simp only [Den] at h1 <;> cases e <;> simp only [Den] at h2 <;> (subst h1; subst h2; rfl)
    | str i => cases d <;> simp only [Den] at h1 <;> cases e <;> simp only [Den] at h2 <;> (subst h1; subst h2; rfl)
    | non => cases d <;> simp only [Den] at h1 <;> cases e <;> simp only [Den] at h2 <;> rfl
    | _ => cases d <;> exact False.elim h1
open Classical in
/-- the answer of == -/
noncomputable def eqD (d e : DV) : Bool := decide (d = e)
theorem eqD_same (d : DV) : eqD d d = true := by simp [eqD]
theorem all_places {ds es : List DV} (h : ds.length = es.length) : ((List.range ds.length).all fun j => eqD (ds[j]?.getD (.int 0)) (es[j]?.getD (.int 0))) = eqD (.lst ds) (.lst es) := by
  rw [Bool.eq_iff_iff]
  simp only [List.all_eq_true, List.mem_range, eqD, decide_eq_true_eq, DV.lst.injEq]
  constructor
  · intro hj
    refine List.ext_getElem? fun i => ?_
    by_cases hi : i < ds.length
    · have := hj i hi
      rw [List.getElem?_eq_getElem hi, List.getElem?_eq_getElem (by omega : i < es.length)] at this ⊢
      simpa using this
    · rw [List.getElem?_eq_none (by omega), List.getElem?_eq_none (by omega)]
  · rintro rfl j _
    rfl
theorem all_placesT {ds es : List DV} : (((List.range (min ds.length es.length)).all fun j => eqD (ds[j]?.getD (.int 0)) (es[j]?.getD (.int 0))) && ds.length == es.length) = eqD (.tup ds) (.tup es) := by
  by_cases h : ds.length = es.length
  · have e : eqD (.tup ds) (.tup es) = eqD (.lst ds) (.lst es) := by simp [eqD]
    rw [e, ← all_places h, h]
    simp [h]
  · have : ¬ ds = es := fun e => h (congrArg List.length e)
    have e : eqD (.tup ds) (.tup es) = false := by simp [eqD, this]
    rw [e]
    simp [h]
theorem eqAt_D (I : Inv X pins σ H s) : ∀ (n : Nat) (A : Around) (x y : V) (d e : DV) (u v : Value), Den X.K H n x d → Den X.K H n y e → Like n d e → RelV x u → RelV y v → A.units + n < cLine → SeqAt.EqAt A s u v (eqD d e) := by
  intro n
  have leaf : ∀ (n : Nat) (A : Around) (x y : V) (d e : DV) (u v : Value), (∀ a, x ≠ .ref a) → Den X.K H n x d → Den X.K H n y e → Like n d e → RelV x u → RelV y v → SeqAt.EqAt A s u v (eqD d e) := by
    intro n A x y d e u v hx h1 h2 hl r1 r2
    cases x with
    | ref a => exact absurd rfl (hx a)
    | non =>
      cases d <;> simp only [Den] at h1
      cases e <;> simp only [Like] at hl
      cases y <;> simp only [Den] at h2
      cases r1
      cases r2
      rw [eqD_same]
      exact SeqAt.EqAt.same _
    | int i =>
      cases d <;> simp only [Den] at h1
      subst h1
      cases e <;> simp only [Like] at hl
      cases y <;> simp only [Den] at h2
      subst h2
      obtain ⟨t, rfl⟩ := r1
      obtain ⟨t', rfl⟩ := r2
      rename_i j
      have e1 : eqD (.int i) (.int j) = (i == j) := by
        rw [Bool.eq_iff_iff]; simp [eqD]
      rw [e1]
      exact SeqAt.EqAt.int_int i t j t'
    | bl i =>
      cases d <;> simp only [Den] at h1
      subst h1
      cases e <;> simp only [Like] at hl
      cases y <;> simp only [Den] at h2
      subst h2
      cases r1
      cases r2
      rename_i j
      have e1 : eqD (.bl i) (.bl j) = (i == j) := by
        rw [Bool.eq_iff_iff]; simp [eqD]
      rw [e1]
      exact SeqAt.EqAt.bool_bool i j
    | str i =>
      cases d <;> simp only [Den] at h1
      subst h1
      cases e <;> simp only [Like] at hl
      cases y <;> simp only [Den] at h2
      subst h2
      obtain ⟨t, rfl⟩ := r1
      obtain ⟨t', rfl⟩ := r2
      rename_i j
      have e1 : eqD (.str i) (.str j) = (i == j) := by
        rw [Bool.eq_iff_iff]; simp [eqD]
      rw [e1]
      exact SeqAt.EqAt.str_str i t j t'
    | _ => cases n <;> cases d <;> exact False.elim h1
  induction n with
  | zero =>
    intro A x y d e u v h1 h2 hl r1 r2 hu
    refine leaf 0 A x y d e u v (fun a z => ?_) h1 h2 hl r1 r2
    subst z
    cases d <;> exact False.elim h1
  | succ n ih =>
    intro A x y d e u v h1 h2 hl r1 r2 hu
    cases x with
    | ref a =>
      cases r1
      cases d with
      | lst ds =>
        obtain ⟨xs, hs, hp⟩ : ∃ xs, SqL X.K H a xs ∧ Paired (Den X.K H n) xs ds := h1
        cases e with
        | lst es =>
          cases y with
          | ref b =>
            cases r2
            obtain ⟨ys, hs', hp'⟩ : ∃ xs, SqL X.K H b xs ∧ Paired (Den X.K H n) xs es := h2
            by_cases hab : a = b
            · subst hab
              rw [I.list_inj hs' hs] at hp'
              rw [paired_inj (den_inj I n) hp hp', eqD_same]
              exact SeqAt.EqAt.same _
            · refine SeqAt.EqAt.of_refs hab ?_
              obtain ⟨its, ri, pl, _⟩ := I.list hs
              obtain ⟨its', ri', pl', _⟩ := I.list hs'
              have l1 := ri.length
              have l2 := ri'.length
              have l3 : xs.length = ds.length := Paired.length hp
              have l4 : ys.length = es.length := Paired.length hp'
              by_cases hlen : ds.length = es.length
              · rw [← all_places hlen]
                have hsz : its.toArray.size = its'.toArray.size := by rw [List.size_toArray, List.size_toArray]; omega
                have := SeqAt.RcAt.lists (e := fun j => eqD (ds[j]?.getD (.int 0)) (es[j]?.getD (.int 0))) pl.isList pl'.isList hsz (by omega : A.units < cLine) (fun j h1' h2' => ?_)
                · rw [List.size_toArray, ← l1, l3] at this
                  exact this
                · rw [List.size_toArray] at h1' h2'
                  have hj1 : xs[j]? = some xs[j] := List.getElem?_eq_getElem (by omega)
                  have hj2 : ys[j]? = some ys[j] := List.getElem?_eq_getElem (by omega)
                  obtain ⟨d', hd, hdd⟩ := Paired.get' hp hj1
                  obtain ⟨e', he, hee⟩ := Paired.get' hp' hj2
                  obtain ⟨u', hu', ru'⟩ := ri.get hj1
                  obtain ⟨v', hv', rv'⟩ := ri'.get hj2
                  have eu : its.toArray[j] = u' := by
                    have : its[j]? = some its[j] := List.getElem?_eq_getElem h1'
                    rw [this] at hu'; simpa using Option.some.inj hu'
                  have ev : its'.toArray[j] = v' := by
                    have : its'[j]? = some its'[j] := List.getElem?_eq_getElem h2'
                    rw [this] at hv'; simpa using Option.some.inj hv'
                  rw [eu, ev, hd, he]
                  exact ih A.in1 _ _ d' e' u' v' hdd hee (hl hlen j d' e' hd he) ru' rv' (by show A.units + 1 + n < cLine; omega)
              · have hne : ¬ ds = es := fun z => hlen (congrArg List.length z)
                have e1 : eqD (.lst ds) (.lst es) = false := by simp [eqD, hne]
                rw [e1]
                exact SeqAt.RcAt.lists_lengths pl.isList pl'.isList (by simp only [List.size_toArray, bne_iff_ne, ne_eq]; omega) (by omega)
          | _ => exact False.elim h2
        | _ => exact False.elim hl
      | tup ds =>
        obtain ⟨xs, hs, hp⟩ : ∃ xs, SqT X.K H a xs ∧ Paired (Den X.K H n) xs ds := h1
        cases e with
        | tup es =>
          cases y with
          | ref b =>
            cases r2
            obtain ⟨ys, hs', hp'⟩ : ∃ xs, SqT X.K H b xs ∧ Paired (Den X.K H n) xs es := h2
            by_cases hab : a = b
            · subst hab
              rw [I.tuple_inj hs' hs] at hp'
              rw [paired_inj (den_inj I n) hp hp', eqD_same]
              exact SeqAt.EqAt.same _
            · refine SeqAt.EqAt.of_refs hab ?_
              obtain ⟨its, ri, pl, _⟩ := I.tuple hs
              obtain ⟨its', ri', pl', _⟩ := I.tuple hs'
              have l1 := ri.length
              have l2 := ri'.length
              have l3 : xs.length = ds.length := Paired.length hp
              have l4 : ys.length = es.length := Paired.length hp'
              rw [← all_placesT]
              have := SeqAt.RcAt.tuples (e := fun j => eqD (ds[j]?.getD (.int 0)) (es[j]?.getD (.int 0))) (show s.heap.IsTuple a its.toArray from pl) (show s.heap.IsTuple b its'.toArray from pl') (by omega : A.units < cLine) (fun j h1' h2' => ?_)
              · rw [List.size_toArray, List.size_toArray, ← l1, l3, ← l2, l4] at this
                exact this
              · rw [List.size_toArray] at h1' h2'
                have hj1 : xs[j]? = some xs[j] := List.getElem?_eq_getElem (by omega)
                have hj2 : ys[j]? = some ys[j] := List.getElem?_eq_getElem (by omega)
                obtain ⟨d', hd, hdd⟩ := Paired.get' hp hj1
                obtain ⟨e', he, hee⟩ := Paired.get' hp' hj2
                obtain ⟨u', hu', ru'⟩ := ri.get hj1
                obtain ⟨v', hv', rv'⟩ := ri'.get hj2
                have eu : its.toArray[j] = u' := by
                  have : its[j]? = some its[j] := List.getElem?_eq_getElem h1'
                  rw [this] at hu'; simpa using Option.some.inj hu'
                have ev : its'.toArray[j] = v' := by
                  have : its'[j]? = some its'[j] := List.getElem?_eq_getElem h2'
                  rw [this] at hv'; simpa using Option.some.inj hv'
                rw [eu, ev, hd, he]
                exact ih A.in1 _ _ d' e' u' v' hdd hee (hl j d' e' hd he) ru' rv' (by show A.units + 1 + n < cLine; omega)
          | _ => exact False.elim h2
        | _ => exact False.elim hl
      | _ => exact False.elim h1
    | int i => exact leaf (n + 1) A (.int i) y d e u v (fun _ z => nomatch z) h1 h2 hl r1 r2
    | bl i => exact leaf (n + 1) A (.bl i) y d e u v (fun _ z => nomatch z) h1 h2 hl r1 r2
    | str i => exact leaf (n + 1) A (.str i) y d e u v (fun _ z => nomatch z) h1 h2 hl r1 r2
    | non => exact leaf (n + 1) A .non y d e u v (fun _ z => nomatch z) h1 h2 hl r1 r2
    | _ => cases d <;> exact False.elim h1
end
section
variable {X : Cx} {pins : List (Addr × Obj)} {σ : St} {H : Hp} {s : Shared}
theorem rc_lists (I : Inv X pins σ H s) {n : Nat} {A : Around} {a b : Addr} {ds es : List DV} (h1 : Den X.K H (n + 1) (.ref a) (.lst ds)) (h2 : Den X.K H (n + 1) (.ref b) (.lst es)) (hl : Like (n + 1) (.lst ds) (.lst es)) (hu : A.units + n + 1 < cLine) :
    SeqAt.RcAt A s (.ref a) (.ref b) (eqD (.lst ds) (.lst es)) ∧ SeqAt.RcNeAt A s (.ref a) (.ref b) (!eqD (.lst ds) (.lst es)) := by
  obtain ⟨xs, hs, hp⟩ : ∃ xs, SqL X.K H a xs ∧ Paired (Den X.K H n) xs ds := h1
  obtain ⟨ys, hs', hp'⟩ : ∃ xs, SqL X.K H b xs ∧ Paired (Den X.K H n) xs es := h2
  obtain ⟨its, ri, pl, _⟩ := I.list hs
  obtain ⟨its', ri', pl', _⟩ := I.list hs'
  have l1 := ri.length
  have l2 := ri'.length
  have l3 : xs.length = ds.length := Paired.length hp
  have l4 : ys.length = es.length := Paired.length hp'
  have go : ∀ j (h1' : j < its.toArray.size) (h2' : j < its'.toArray.size), ds.length = es.length → SeqAt.EqAt A.in1 s its.toArray[j] its'.toArray[j] (eqD (ds[j]?.getD (.int 0)) (es[j]?.getD (.int 0))) := fun j h1' h2' hlen => by
    rw [List.size_toArray] at h1' h2'
    have hj1 : xs[j]? = some xs[j] := List.getElem?_eq_getElem (by omega)
    have hj2 : ys[j]? = some ys[j] := List.getElem?_eq_getElem (by omega)
    obtain ⟨d', hd, hdd⟩ := Paired.get' hp hj1
    obtain ⟨e', he, hee⟩ := Paired.get' hp' hj2
    obtain ⟨u', hu', ru'⟩ := ri.get hj1
    obtain ⟨v', hv', rv'⟩ := ri'.get hj2
    have eu : its.toArray[j] = u' := by
      have : its[j]? = some its[j] := List.getElem?_eq_getElem h1'
      rw [this] at hu'; simpa using Option.some.inj hu'
    have ev : its'.toArray[j] = v' := by
      have : its'[j]? = some its'[j] := List.getElem?_eq_getElem h2'
      rw [this] at hv'; simpa using Option.some.inj hv'
    rw [eu, ev, hd, he]
    exact eqAt_D I n A.in1 _ _ d' e' u' v' hdd hee (hl hlen j d' e' hd he) ru' rv' (by show A.units + 1 + n < cLine; omega)
  by_cases hlen : ds.length = es.length
  · rw [← all_places hlen]
    have hsz : its.toArray.size = its'.toArray.size := by rw [List.size_toArray, List.size_toArray]; omega
    have r1 := SeqAt.RcAt.lists (e := fun j => eqD (ds[j]?.getD (.int 0)) (es[j]?.getD (.int 0))) pl.isList pl'.isList hsz (by omega : A.units < cLine) (fun j h1' h2' => go j h1' h2' hlen)
    have r2 := SeqAt.RcNeAt.lists (e := fun j => eqD (ds[j]?.getD (.int 0)) (es[j]?.getD (.int 0))) pl.isList pl'.isList hsz (by omega : A.units < cLine) (fun j h1' h2' => go j h1' h2' hlen)
    rw [List.size_toArray, ← l1, l3] at r1 r2
    exact ⟨r1, r2⟩
  · have hne : ¬ ds = es := fun z => hlen (congrArg List.length z)
    have e1 : eqD (.lst ds) (.lst es) = false := by simp [eqD, hne]
    rw [e1]
    exact ⟨SeqAt.RcAt.lists_lengths pl.isList pl'.isList (by simp only [List.size_toArray, bne_iff_ne, ne_eq]; omega) (by omega), SeqAt.RcNeAt.lists_lengths pl.isList pl'.isList (by simp only [List.size_toArray, bne_iff_ne, ne_eq]; omega) (by omega)⟩
theorem rc_tuples (I : Inv X pins σ H s) {n : Nat} {A : Around} {a b : Addr} {ds es : List DV} (h1 : Den X.K H (n + 1) (.ref a) (.tup ds)) (h2 : Den X.K H (n + 1) (.ref b) (.tup es)) (hl : Like (n + 1) (.tup ds) (.tup es)) (hu : A.units + n + 1 < cLine) :
    SeqAt.RcAt A s (.ref a) (.ref b) (eqD (.tup ds) (.tup es)) ∧ SeqAt.RcNeAt A s (.ref a) (.ref b) (!eqD (.tup ds) (.tup es)) := by
  obtain ⟨xs, hs, hp⟩ : ∃ xs, SqT X.K H a xs ∧ Paired (Den X.K H n) xs ds := h1
  obtain ⟨ys, hs', hp'⟩ : ∃ xs, SqT X.K H b xs ∧ Paired (Den X.K H n) xs es := h2
  obtain ⟨its, ri, pl, _⟩ := I.tuple hs
  obtain ⟨its', ri', pl', _⟩ := I.tuple hs'
  have l1 := ri.length
  have l2 := ri'.length
  have l3 : xs.length = ds.length := Paired.length hp
  have l4 : ys.length = es.length := Paired.length hp'
  have go : ∀ j (h1' : j < its.toArray.size) (h2' : j < its'.toArray.size), SeqAt.EqAt A.in1 s its.toArray[j] its'.toArray[j] (eqD (ds[j]?.getD (.int 0)) (es[j]?.getD (.int 0))) := fun j h1' h2' => by
    rw [List.size_toArray] at h1' h2'
    have hj1 : xs[j]? = some xs[j] := List.getElem?_eq_getElem (by omega)
    have hj2 : ys[j]? = some ys[j] := List.getElem?_eq_getElem (by omega)
    obtain ⟨d', hd, hdd⟩ := Paired.get' hp hj1
    obtain ⟨e', he, hee⟩ := Paired.get' hp' hj2
    obtain ⟨u', hu', ru'⟩ := ri.get hj1
    obtain ⟨v', hv', rv'⟩ := ri'.get hj2
    have eu : its.toArray[j] = u' := by
      have : its[j]? = some its[j] := List.getElem?_eq_getElem h1'
      rw [this] at hu'; simpa using Option.some.inj hu'
    have ev : its'.toArray[j] = v' := by
      have : its'[j]? = some its'[j] := List.getElem?_eq_getElem h2'
      rw [this] at hv'; simpa using Option.some.inj hv'
    rw [eu, ev, hd, he]
    exact eqAt_D I n A.in1 _ _ d' e' u' v' hdd hee (hl j d' e' hd he) ru' rv' (by show A.units + 1 + n < cLine; omega)
  rw [← all_placesT]
  have r1 := SeqAt.RcAt.tuples (e := fun j => eqD (ds[j]?.getD (.int 0)) (es[j]?.getD (.int 0))) (show s.heap.IsTuple a its.toArray from pl) (show s.heap.IsTuple b its'.toArray from pl') (by omega : A.units < cLine) go
  have r2 := SeqAt.RcNeAt.tuples (e := fun j => eqD (ds[j]?.getD (.int 0)) (es[j]?.getD (.int 0))) (show s.heap.IsTuple a its.toArray from pl) (show s.heap.IsTuple b its'.toArray from pl') (by omega : A.units < cLine) go
  rw [List.size_toArray, List.size_toArray, ← l1, l3, ← l2, l4] at r1 r2
  exact ⟨r1, r2⟩
end
/-- == of two lists, two tuples by what they hold -/
def rEqD (K : PySem.W.Frag) (n : Nat) : R2 := fun x y H Q => ∃ a b d e, x = .ref a ∧ y = .ref b ∧ Den K H (n + 1) (.ref a) d ∧ Den K H (n + 1) (.ref b) e ∧ Like (n + 1) d e ∧ Q (.bl (eqD d e)) H
def rNeD (K : PySem.W.Frag) (n : Nat) : R2 := fun x y H Q => ∃ a b d e, x = .ref a ∧ y = .ref b ∧ Den K H (n + 1) (.ref a) d ∧ Den K H (n + 1) (.ref b) e ∧ Like (n + 1) d e ∧ Q (.bl (!eqD d e)) H
theorem op_eqD {X : Cx} {k : Nat} (n : Nat) (hr : Room k X.A) (hn : n ≤ 9 := by decide) : OpR X (compareOp .Eq) (rEqD X.K n) := by
  intro pins s σ H x y v u Q I rx ry h
  obtain ⟨a, b, d, e, rfl, rfl, hd, he, hl, q⟩ := h
  cases rx; cases ry
  have hu := hr.units
  cases d with
  | lst ds =>
    cases e with
    | lst es => exact (rc_lists I (A := X.A) hd he hl (by omega)).1 _ _ _ _ ⟨.bl _, H, I, rfl, q⟩
    | _ => exact False.elim hl
  | tup ds =>
    cases e with
    | tup es => exact (rc_tuples I (A := X.A) hd he hl (by omega)).1 _ _ _ _ ⟨.bl _, H, I, rfl, q⟩
    | _ => exact False.elim hl
  | _ => exact False.elim hd
theorem op_neD {X : Cx} {k : Nat} (n : Nat) (hr : Room k X.A) (hn : n ≤ 9 := by decide) : OpR X (compareOp .NotEq) (rNeD X.K n) := by
  intro pins s σ H x y v u Q I rx ry h
  obtain ⟨a, b, d, e, rfl, rfl, hd, he, hl, q⟩ := h
  cases rx; cases ry
  have hu := hr.units
  cases d with
  | lst ds =>
    cases e with
    | lst es => exact (rc_lists I (A := X.A) hd he hl (by omega)).2 _ _ _ _ ⟨.bl _, H, I, rfl, q⟩
    | _ => exact False.elim hl
  | tup ds =>
    cases e with
    | tup es => exact (rc_tuples I (A := X.A) hd he hl (by omega)).2 _ _ _ _ ⟨.bl _, H, I, rfl, q⟩
    | _ => exact False.elim hl
  | _ => exact False.elim hd
theorem paired_ints {F : V → DV → Prop} (hF : ∀ i : Int, F (.int i) (.int i)) : ∀ ns : List Int, Paired F (ns.map V.int) (ns.map DV.int)
  | [] => .nil
  | i :: r => .cons (hF i) (paired_ints hF r)
theorem den_int {K : PySem.W.Frag} {H : Hp} {n : Nat} {i : Int} : Den K H n (.int i) (.int i) := by cases n <;> rfl
theorem den_ints {K : PySem.W.Frag} {H : Hp} {n : Nat} {a : Addr} {ns : List Int} (h : SqL K H a (ns.map V.int)) : Den K H (n + 1) (.ref a) (.lst (ns.map DV.int)) := ⟨_, h, paired_ints (fun _ => den_int) ns⟩
end L2

set_option Elab.async false
set_option linter.all false
set_option maxRecDepth 100000
set_option maxHeartbeats 4000000
namespace L2
open PySem PySem.Spec PyProof.Rows
section
variable {X : Cx}
theorem call_all (hc : X.calm = true) : CallR X (.builtin "all") (fun xs H Q => ∃ (p : Addr) (bs : List Bool), xs = [.ref p] ∧ SqL X.K H p (bs.map V.bl) ∧ Q (.bl (bs.all id)) H) := by
  intro pins s σ H xs us Q I r h
  obtain ⟨p, bs, rfl, hp, q⟩ := h
  obtain ⟨u, rfl, ru⟩ := vals1 r
  cases ru
  obtain ⟨its, ri, pl, hz⟩ := I.list hp
  have hl := ri.length
  rw [List.length_map] at hl
  refine call_all_walk (wpAny_pyIter_list pl.isList ?_)
  have hlt : p < s.heap.objs.size := by obtain ⟨o, e, _⟩ := pl.isList; exact Heap.lt_size e
  refine ⟨s.heap.objs.size, _, _, _, _, _, fun i => bs[i]?.getD true, rfl, Walks.list (A := X.A.in1) (I.ok.hd hc) s.heap.objs.size p (Nat.ne_of_lt hlt) its.toArray, ⟨⟨_, Heap.get?_push_size _ rfl, rfl, rfl⟩, pl.isList.at fun o e => Heap.get?_push_of_some _ e⟩, ?_, ?_⟩
  · intro i v s' Q' E' hv hq
    have hv' : its[i]? = some v := by simpa using hv
    have hi : i < its.length := (List.getElem?_eq_some_iff.mp hv').1
    have hb : (bs.map V.bl)[i]? = some (.bl (bs[i]'(by omega))) := by rw [List.getElem?_map, List.getElem?_eq_getElem (by omega)]; rfl
    obtain ⟨w', e, rw'⟩ := ri.get hb
    rw [hv'] at e
    cases e
    obtain rfl : v = Value.bool _ := rw'
    dsimp only at hq
    rw [List.getElem?_eq_getElem (by omega)] at hq
    exact wpAny_truthy_bool hq
  · intro h' tk hk
    have e : (List.range its.toArray.size).all (fun i => bs[i]?.getD true) = bs.all id := by
      rw [List.size_toArray, ← hl, Bool.eq_iff_iff]
      simp only [List.all_eq_true, List.mem_range, id]
      constructor
      · intro h x hx
        obtain ⟨i, hi, e⟩ := List.getElem_of_mem hx
        have := h i hi
        rw [List.getElem?_eq_getElem hi] at this
        rw [← e]; exact this
      · intro h i hi
        rw [List.getElem?_eq_getElem hi]
        exact h _ (List.getElem_mem hi)
    rw [e]
    refine ⟨.bl _, H, I.kept fun b o e => hk b o ?_ (Heap.get?_push_of_some _ e), rfl, q⟩
    intro z
    have z' : b = s.heap.objs.size := by simpa using z
    exact absurd (Heap.lt_size e) (by rw [z']; exact Nat.lt_irrefl _)
theorem preSum_take (ns : List Int) : ∀ j : Nat, j ≤ ns.length → preSum (fun i => ns[i]?.getD 0) j = (ns.take j).sum
  | 0, _ => by simp [preSum]
  | j + 1, h => by
    rw [preSum, preSum_take ns j (by omega), ← List.take_append_getElem (by omega : j < ns.length), List.sum_append, List.getElem?_eq_getElem (by omega : j < ns.length)]
    simp
end
end L2

set_option Elab.async false
set_option linter.all false
set_option maxRecDepth 100000
set_option maxHeartbeats 4000000
namespace L2
open PySem PySem.Spec PyProof.Rows
section
variable {prog : Program} {w : World} {A : Around} {E : Value → Shared → Prop} {s : Shared}
end
section
variable {prog : Program} {w : World} {A : Around} {E : Value → Shared → Prop} {s : Shared}
end
end L2

set_option Elab.async false
set_option linter.all false
set_option maxRecDepth 100000
set_option maxHeartbeats 400000
namespace L2
open PySem PySem.Spec PyProof.Rows
def Iten (S : Hp → Addr → List V → Prop) (a : Addr) (k : Nat) : It :=
  ⟨fun i H => ∃ xs x, S H a xs ∧ xs[i]? = some x, fun i H x H' => ∃ t y, x = .ref t ∧ H t = none ∧ H' = upd H t (.tup [.int (((k + i : Nat)) : Int), y]) ∧ ∀ xs, S H a xs → xs[i]? = some y, fun i H => ∃ xs, S H a xs ∧ xs.length = i⟩
section
variable {X : Cx} {pins : List (Addr × Obj)} {σ : St} {H : Hp} {s : Shared}
/-- two records turn, a pair is laid -/
theorem Inv.pair {e it t : Addr} {g : Heap} {tk : Nat} {o : HO} (I : Inv X pins σ H s) (fe : FpOk X pins H e) (fi : FpOk X pins H it) (ht : s.heap.objs.size ≤ t)
    (k : ∀ b o, b ≠ e → b ≠ it → s.heap.get? b = some o → g.get? b = some o) (new : ObjOk X.prog X.w (upd H t o) g t o) : Inv X pins σ (upd H t o) { s with heap := g, toks := tk } := by
  have hn : H t = none := I.hok.fresh ht
  obtain ⟨e0, e1, e2, e3, e4, e5⟩ := fe
  obtain ⟨i0, i1, i2, i3, i4, i5⟩ := fi
  have nt : ∀ b o, s.heap.get? b = some o → b ≠ t := fun b o q z => by
    subst z
    exact absurd (Nat.lt_of_lt_of_le (Heap.lt_size q) ht) (Nat.lt_irrefl _)
  have nch : ∀ b, b ∉ [e, it] → b ≠ e ∧ b ≠ it := fun b hb => ⟨fun z => hb (by simp [z]), fun z => hb (by simp [z])⟩
  have ne : ∀ b u, H b = some u → b ≠ e ∧ b ≠ it := fun b u q => ⟨ne_of_none q e0, ne_of_none q i0⟩
  refine I.step (g' := s.gens) (d' := s.drawn) (ch := [e, it]) (fun b hb => ?_) (fun b o _ _ hc q _ => k b o (nch b hc).1 (nch b hc).2 q) (fun b o _ _ hc q _ => ⟨o.slots, k b o (nch b hc).1 (nch b hc).2 q⟩) (fun b o _ q n => by rw [upd_ne (nt b o q)]; exact n)
    (fun b o hc q => ⟨o, k b o (nch b hc).1 (nch b hc).2 q⟩) (fun b xs q => by rw [upd_ne (ne_of_none q hn)]; exact q) (fun b o u q => by rw [upd_ne (ne_of_none q hn)]; exact q) (fun b ps q => ⟨#[], by rw [upd_ne (ne_of_none q hn), q]; simp⟩) (fun m hm => ?_) (fun b u q => ?_) I.bare
  · rcases List.mem_cons.mp hb with z | z
    · subst z; exact ⟨e3, e1, e4, e5⟩
    · have z' : b = it := by simpa using z
      subst z'; exact ⟨i3, i1, i4, i5⟩
  · obtain ⟨ol, es, ep, ho, r⟩ := hm
    exact ⟨ol, es, ep, k _ ol (Ne.symm e1) (Ne.symm i1) ho, r⟩
  · by_cases hb : b = t
    · subst hb; rw [upd_same] at q; cases q; exact new
    · rw [upd_ne hb] at q
      refine (I.hok b u q).stay (fun c v hc z => k c v ?_ ?_ z) (fun c z => by rw [upd_ne (ne_of_none z hn)]; exact z) fun c xs z => by rw [upd_ne (ne_of_none z hn)]; exact z
      · rcases hc with z' | z'
        · rw [z']; exact (ne b u q).1
        · exact (ne c _ z').1
      · rcases hc with z' | z'
        · rw [z']; exact (ne b u q).2
        · exact (ne c _ z').2
end
/-- what draws from the sequence at a by the iterator at it -/
structure SrcOk (P : Program) (w : World) (K : PySem.W.Frag) (S : Hp → Addr → List V → Prop) (a it : Addr) (sq : Heap → Array Value → Prop) (ti : Nat → Heap → Prop) : Prop where
  obj : ∀ i h, ti i h → ∃ o, h.get? it = some o ∧ ∀ v, o.data ≠ .cell v
  keep : ∀ i h h', ti i h → (∀ o, h.get? it = some o → h'.get? it = some o) → ti i h'
  sk : ∀ h h' vs, sq h vs → (∀ o, h.get? a = some o → h'.get? a = some o) → sq h' vs
  ne : ∀ h vs i, sq h vs → ti i h → a ≠ it
  nee : ∀ h vs e j old, sq h vs → IsEnum h e it j old → a ≠ e
  abs : ∀ (X : Cx) (pins : List (Addr × Obj)) (σ : St) (H : Hp) (s : Shared) (xs : List V), X.K = K → Inv X pins σ H s → S H a xs → ∃ its : List Value, Vals xs its ∧ sq s.heap its.toArray
  one : ∀ (X : Cx) (pins : List (Addr × Obj)) (σ : St) (H : Hp) (s : Shared) (xs ys : List V), X.K = K → Inv X pins σ H s → S H a xs → S H a ys → xs = ys
  item : ∀ (A : Around) (i : Nat) (s : Shared) (vs : Array Value) (u : Value) (Q : Value → Shared → Prop) (E : Value → Shared → Prop), ti i s.heap → sq s.heap vs → vs[i]? = some u →
    (∀ g, ti (i + 1) g → Heap.SameBut it s.heap g → Q u { s with heap := g }) → wpAny (model P w) A (Builtin.SmallTypes.nextOf (.ref it)) Q E s
  done : ∀ (A : Around) (i : Nat) (s : Shared) (vs : Array Value) (Q : Value → Shared → Prop) (E : Value → Shared → Prop), A.handled = none → ti i s.heap → sq s.heap vs → vs[i]? = none →
    (∀ g e, Heap.ExtBut it s.heap g → (∃ o, g.get? e = some o ∧ o.cls = .type "StopIteration") → E (.ref e) { s with heap := g }) → wpAny (model P w) A (Builtin.SmallTypes.nextOf (.ref it)) Q E s
theorem src_list {P : Program} {w : World} {K : PySem.W.Frag} (a it : Addr) : SrcOk P w K (SqL K) a it (fun h vs => h.IsList a vs) (fun i h => h.IsListIter it a i) where
  obj := fun i h st => by
    obtain ⟨o, e, c, d⟩ := st
    exact ⟨o, e, fun v z => by rw [d] at z; cases z⟩
  keep := fun i h h' st k => st.at k
  sk := fun h h' vs q k => q.at k
  ne := fun h vs i q st z => by
    obtain ⟨o, e, c, _⟩ := q
    obtain ⟨o', e', c', _⟩ := st
    rw [z, e'] at e
    cases e
    rw [c'] at c
    exact absurd (Value.type.inj c) (by decide)
  nee := fun h vs e j old q en z => by
    obtain ⟨o, q, c, _⟩ := q
    subst z
    rw [show h.get? a = _ from en] at q
    cases q
    exact absurd (Value.type.inj c) (by decide)
  abs := fun X pins σ H s xs hK I hq => by
    subst hK
    obtain ⟨its, rv, p, hz⟩ := I.list hq
    exact ⟨its, rv, p.isList⟩
  one := fun X pins σ H s xs ys hK I h1 h2 => by subst hK; exact I.list_inj h1 h2
  item := fun A i s vs u Q E st q hx k => wpAny_nextOf_list_item st q hx k
  done := fun A i s vs Q E hh st q hx k => wpAny_nextOf_list_end hh st q hx k
theorem SrcOk.draws {P : Program} {w : World} {K : PySem.W.Frag} {S : Hp → Addr → List V → Prop} {a it : Addr} {sq : Heap → Array Value → Prop} {ti : Nat → Heap → Prop} (O : SrcOk P w K S a it sq ti) {A : Around} (hh : A.handled = none) (k : Nat) (vs : Array Value) :
    Draws P w A it [it, a] (k + vs.size) (fun j y => ∃ i, j = k + i ∧ vs[i]? = some y) (fun j h => ∃ i, j = k + i ∧ ti i h ∧ sq h vs) where
  live := fun j h q => by
    obtain ⟨i, _, st, _⟩ := q
    obtain ⟨o, e, _⟩ := O.obj i h st
    exact ⟨o, e⟩
  frame := fun j h h' q kk => by
    obtain ⟨i, e, st, sv⟩ := q
    exact ⟨i, e, O.keep i h h' st fun o z => kk it (by simp) o z, O.sk h h' vs sv fun o z => kk a (by simp) o z⟩
  item := fun j s Q E hj q kq => by
    obtain ⟨i, rfl, st, sv⟩ := q
    have hi : i < vs.size := by omega
    refine O.item A i s vs vs[i] Q E st sv (by simp [hi]) fun g st' sb => ?_
    exact kq _ g s.toks ⟨i, rfl, by simp [hi]⟩ ⟨i + 1, by omega, st', O.sk _ _ vs sv fun o z => (sb.2 a (O.ne _ vs i sv st)).trans z⟩ sb
  done := fun s Q E q kq => by
    obtain ⟨i, hi, st, sv⟩ := q
    have : i = vs.size := by omega
    subst this
    exact O.done A _ s vs Q E hh st sv (by simp) kq
theorem turn_enum {P : Program} {w : World} {K : PySem.W.Frag} {S : Hp → Addr → List V → Prop} {elts : List Expr} {x1 : Nat} {tp : Pos} (a e it : Addr) (k : Nat) (hei : e ≠ it) {sq : Heap → Array Value → Prop} {ti : Nat → Heap → Prop} (O : SrcOk P w K S a it sq ti) :
    Turn P w K (.Tuple elts x1 tp) (Iten S a k) [e, it] e (fun i h => (∃ old, IsEnum h e it (((k + i : Nat)) : Int) old) ∧ ti i h) where
  mem := by simp
  obj := fun i h st b hb => by
    obtain ⟨⟨old, he⟩, st⟩ := st
    rcases List.mem_cons.mp hb with z | z
    · subst z
      exact ⟨_, he, fun v z => by
        have z' : Data.fields _ = Data.cell v := z
        cases z'⟩
    · have z' : b = it := by simpa using z
      subst z'
      exact O.obj i h st
  keep := fun i h h' st kk => by
    obtain ⟨⟨old, he⟩, st⟩ := st
    exact ⟨⟨old, kk e (by simp) _ he⟩, O.keep i h h' st fun o q => kk it (by simp) o q⟩
  item := by
    intro X hP hw hK hc i pins s σ H E I hf st hg
    obtain ⟨⟨old, he⟩, st⟩ := st
    obtain ⟨xs, x, hq, hx⟩ := hg
    have fe := hf e (by simp)
    have fi := hf it (by simp)
    obtain ⟨its, rv, sv⟩ := O.abs X pins σ H s xs hK I hq
    obtain ⟨u, hu, ru⟩ := rv.get hx
    have hlt : i < its.toArray.size := by
      rw [List.size_toArray]
      exact (List.getElem?_eq_some_iff.mp hu).1
    have hef : e ∉ [it, a] := fun z => by
      rcases List.mem_cons.mp z with z | z
      · exact hei z
      · exact O.nee _ _ _ _ _ sv he (by simpa using z : e = a).symm
    have hel : e < s.heap.objs.size := Heap.lt_size he
    have hil : it < s.heap.objs.size := by obtain ⟨o, q, _⟩ := O.obj i _ st; exact Heap.lt_size q
    refine wpAny_pyNext_enum_itemD (O.draws (A := X.A.in1) (I.ok.hd hc) k its.toArray) he ⟨i, rfl, st, sv⟩ (by omega) hei hef fun y g tk hy ho hst hT hsz hk => ?_
    obtain ⟨i', e1, hy⟩ := hy
    have e2 : i' = i := by omega
    subst e2
    have e3 : y = u := by
      have hu' : its.toArray[i']? = some u := by simpa using hu
      rw [hu'] at hy
      exact (Option.some.inj hy).symm
    subst e3
    refine ⟨_, rfl, wpAny_letOwnedTupleGo_enum ho fun g2 he2 hs2 => ?_⟩
    have nse : s.heap.objs.size ≠ e := Nat.ne_of_gt hel
    have hT2 : g2.get? s.heap.objs.size = some { cls := .type "tuple", data := .seq #[.int ((k + i' : Nat) : Int) tk, y] } := (hs2.2 _ nse).trans hT
    have I2 : Inv X pins σ (upd H s.heap.objs.size (.tup [.int (((k + i' : Nat)) : Int), x])) { s with heap := g2, toks := tk + 1 } := by
      refine I.pair fe fi (Nat.le_refl _) (fun b o h1 h2 q => (hs2.2 b h1).trans (hk b o h1 h2 q)) ?_
      exact ⟨by show 2 ≤ sizeLine; decide, [.int ((k + i' : Nat) : Int) tk, y], .cons ⟨tk, rfl⟩ (.cons ru .nil), ⟨_, hT2, rfl, 0, rfl⟩⟩
    obtain ⟨i2, e4, st2, _⟩ := hst
    have e5 : i2 = i' + 1 := by omega
    subst e5
    refine ⟨.ref s.heap.objs.size, _, I2, rfl, ⟨_, x, rfl, I.fresh, rfl, fun ys hys => ?_⟩, ⟨⟨y, ?_⟩, O.keep _ _ _ st2 fun o q => (hs2.2 it (Ne.symm hei)).trans q⟩, fun b hb => ?_⟩
    · rw [O.one X pins σ H s ys xs hK I hys hq]
      exact hx
    · have : (((k + (i' + 1) : Nat)) : Int) = ((k + i' : Nat) : Int) + 1 := by omega
      rw [this]
      exact he2
    · rcases List.mem_cons.mp hb with z | z
      · subst z
        rw [upd_ne (Ne.symm nse)]
        exact fe.1
      · have z' : b = it := by simpa using z
        subst z'
        rw [upd_ne (Nat.ne_of_lt hil)]
        exact fi.1
  done := by
    intro X hP hw hK hc i pins s σ H E I hf st hg
    obtain ⟨⟨old, he⟩, st⟩ := st
    obtain ⟨xs, hq, hx⟩ := hg
    obtain ⟨its, rv, sv⟩ := O.abs X pins σ H s xs hK I hq
    have hl := rv.length
    obtain ⟨f0, f1, f2, f3, f4, f5⟩ := hf it (by simp)
    exact wpAny_pyNext_enum_endD (O.draws (A := X.A.in1) (I.ok.hd hc) k its.toArray) he ⟨i, by simp; omega, st, sv⟩ fun g eb => ⟨rfl, I.turned (t' := s.toks) (fun b o hb q => eb b o hb q) f0 f1 f3 f4 f5⟩
  self := fun A i s Q E st h => by
    obtain ⟨⟨old, he⟩, st⟩ := st
    exact wpAny_pyIter_enum he h
theorem for_enumW {S : Hp → Addr → List V → Prop} {a : Addr} {k : Nat} {xs : List V} {σ : St} {H : Hp} {DN : St → Hp → Prop} {B : (St → Hp → Prop) → V → St → Hp → Prop} (Pv : Nat → St → Hp → Prop) (h0 : Pv 0 σ H)
    (hl : ∀ i σ H, i ≤ xs.length → Pv i σ H → S H a xs)
    (hs : ∀ i x σ H t, xs[i]? = some x → Pv i σ H → H t = none → B (Pv (i + 1)) (.ref t) σ (upd H t (.tup [.int (((k + i : Nat)) : Int), x]))) (hd : ∀ σ H, Pv xs.length σ H → DN σ H) :
    ∃ W : Nat → Nat → St → Hp → Prop, (∃ m, W 0 m σ H) ∧ ∀ i m σ H, W i m σ H →
      ((Iten S a k).stop i H ∧ DN σ H) ∨ ((Iten S a k).go i H ∧ ∃ N : St → Hp → Prop, (∀ σ' H', N σ' H' → ∃ m', m' < m ∧ W (i + 1) m' σ' H') ∧ ∀ x H', (Iten S a k).yld i H x H' → B N x σ H') := by
  refine ⟨fun i m σ H => m = xs.length - i ∧ i ≤ xs.length ∧ Pv i σ H, ⟨xs.length, by simp, Nat.zero_le _, h0⟩, ?_⟩
  rintro i m σ H ⟨rfl, hi, p⟩
  have q := hl i σ H hi p
  by_cases hlt : i < xs.length
  · refine .inr ⟨⟨xs, xs[i], q, by simp [hlt]⟩, Pv (i + 1), fun σ' H' p' => ⟨xs.length - (i + 1), by omega, rfl, hlt, p'⟩, fun x H' y => ?_⟩
    obtain ⟨t, y, e, ht, e', hy⟩ := y
    subst e e'
    exact hs i y σ _ t (hy xs q) p ht
  · have e : i = xs.length := by omega
    subst e
    exact .inl ⟨⟨xs, q, rfl⟩, hd σ H p⟩
def iEnL (K : PySem.W.Frag) (k : Nat) (te : TE) : TI := fun σ H R => te σ H fun x H1 => ∃ a, x = .ref a ∧ (∃ xs, SqL K H1 a xs) ∧ R (Iten (SqL K) a k) H1
def iEnT (K : PySem.W.Frag) (k : Nat) (te : TE) : TI := fun σ H R => te σ H fun x H1 => ∃ a, x = .ref a ∧ (∃ xs, SqT K H1 a xs) ∧ R (Iten (SqT K) a k) H1
section
variable {X : Cx} {elts : List Expr} {x1 : Nat} {tp : Pos}
/-- an enumerate object has come, over the iterator at it -/
theorem enum_pie {S : Hp → Addr → List V → Prop} {sq : Heap → Array Value → Prop} {ti : Nat → Heap → Prop} {pins : List (Addr × Obj)} {σ : St} {H : Hp} {s : Shared} {R : It → Hp → Prop} {E : Value → Shared → Prop} {a : Addr} {k : Nat} {g : Heap} {c : Int} (I : Inv X pins σ H s)
    (O : SrcOk X.prog X.w X.K S a s.heap.objs.size sq ti) (hc : c = (k : Int)) (he : IsEnum g (s.heap.objs.size + 1) s.heap.objs.size c .none) (hi : ti 0 g) (hk : ∀ b o, s.heap.get? b = some o → g.get? b = some o) (q : R (Iten S a k) H) :
    wpAny (model X.prog X.w) X.A (pyIter (.ref (s.heap.objs.size + 1))) (PIE X pins σ (.Tuple elts x1 tp) R) E { s with heap := g } := by
  subst hc
  refine wpAny_pyIter_enum he ⟨s.heap.objs.size + 1, [s.heap.objs.size + 1, s.heap.objs.size], _, _, H, rfl, I.kept (t' := s.toks) hk, turn_enum a _ _ k (Nat.succ_ne_self _) O, ⟨⟨_, he⟩, hi⟩, fun b hb => ?_, q⟩
  rcases List.mem_cons.mp hb with z | z
  · subst z
    exact I.fpOk (Nat.le_succ _) (I.hok.fresh (Nat.le_succ _))
  · have z' : b = s.heap.objs.size := by simpa using z
    subst z'
    exact I.fpOk (Nat.le_refl _) (I.hok.fresh (Nat.le_refl _))
theorem pi_enum_list {e : Expr} {te : TE} {p pos : Pos} (hg : Gl X "enumerate") (hm : X.mg "enumerate" = none) (he : PE X e te) (hs : starEach [e] X.env = [(false, eval e X.env)] := by rfl) : PI X (.Tuple elts x1 tp) (.Call (.Name "enumerate" p) [e] [] pos) (iEnL X.K 0 te) := by
  intro pins s σ H R I h
  refine Call_ (ld_blt I hg hm boot_enumerate (PyProof.Rows.callWith_type1 ?_ hs rfl))
  rw [hs]
  refine Calls.spliced_cons (thn (he pins s σ H _ I h) fun v s1 ⟨x, H1, I1, rx, q1⟩ => Calls.spliced_nil ?_)
  obtain ⟨a, rfl, ⟨xs, hq⟩, q⟩ := q1
  cases rx
  obtain ⟨its, rv, pl, _⟩ := I1.list hq
  exact call_enumerate_list pl.isList fun g e1 e2 _ hk => enum_pie I1 (src_list a _) rfl e1 e2 hk q
end
structure CalI (P : Program) (w : World) (K : PySem.W.Frag) (mg : Str → Option Value) (base : Heap) (x : Str) (C : Addr) (ps : List Str) (k : Nat) (sp : Sp) : Prop where
  ex : ∃ (f : Addr) (fd : FuncData), FnOk P w K mg base CX0 k f fd ps sp ∧ Binds K fd ps [] ∧ Mk K C f ∧ mg x = some (.ref C)
structure CalM (P : Program) (w : World) (K : PySem.W.Frag) (mg : Str → Option Value) (base : Heap) (C : Addr) (m : Str) (ps : List Str) (k : Nat) (sp : Sp) : Prop where
  ex : ∃ (f : Addr) (fd : FuncData), FnOk P w K mg base CX0 k f fd ps sp ∧ Binds K fd ps [] ∧ Meth K C m f ∧ Cls K C
def rInsert : V → List V → Hp → VK → Prop := fun x vs H Q => ∃ l xs i y, x = .ref l ∧ vs = [.int i, y] ∧ H l = some (.lst xs) ∧ 0 ≤ i ∧ i ≤ xs.length ∧ xs.length < sizeLine ∧ Q .non (upd H l (.lst (xs.take i.toNat ++ y :: xs.drop i.toNat)))
theorem fits_line {i : Int} (h0 : 0 ≤ i) (h1 : i ≤ (sizeLine : Nat)) : Builtin.List.listFitsIndex i = true := by
  have := line63
  have e : ((2 ^ 63 : Nat) : Int) = 9223372036854775808 := by decide
  refine fitsIndex_both ?_ ?_ <;> omega
theorem mt_insert {X : Cx} : MtM X "list.insert" rInsert := by
  intro pins s σ H x vs v us Q I rx rv h
  obtain ⟨l, xs, i, y, rfl, rfl, hH, i0, i1, hz, q⟩ := h
  cases rx
  obtain ⟨u, u', rfl, ru, ru'⟩ := rv.two
  obtain ⟨t, rfl⟩ := ru
  obtain ⟨z, its, n, r, hl, e⟩ := I.lstM hH
  refine call_meets F.slot_list_insert ⟨_, e, rfl⟩ F.entry_list_insert (F.args_list_insert_3 _ _ _) (AutoSeq1.list_insert_list_int_val_1 l its.toArray n i t u' (by rw [fits_line i0 (by omega)]; decide) (by rw [List.size_toArray]; omega)) ⟨e, ?_⟩
  refine ⟨.non, _, I.lset (its' := its.take i.toNat ++ u' :: its.drop i.toNat) hH e ?_ ((r.take i.toNat).append (.cons ru' (r.drop i.toNat))) ?_, rfl, q⟩
  · have e1 : ¬ i < 0 := by omega
    have e2 : min i.toNat its.toArray.size = i.toNat := by rw [List.size_toArray]; omega
    simp only [if_neg e1, e2]
    apply Array.toList_inj.mp
    simp
    exact List.take_of_length_le (by rw [List.length_drop]; omega)
  · rw [List.length_append, List.length_cons, List.length_take, List.length_drop]
    omega
end L2
namespace L2
open PySem PySem.Spec PyProof.Rows
section
variable {X : Cx} {K : PySem.W.Frag}
theorem ix_listK (hK : X.K = K) : IxR X (rIxL K) := by subst hK; exact ix_list
theorem ix_tupK (hK : X.K = K) : IxR X (rIxT K) := by subst hK; exact ix_tup
theorem pg_tupK {es : List Expr} {k : Nat} {t : TGs} {n : Nat} {pos : Pos} (hK : X.K = K) (hc : X.calm = true) (h : PGs X es t) (hn : (assignEach es X.env).length = n := by rfl) (hst : (assignEach es X.env).findIdx? (·.1) = none := by rfl) : PG X (.Tuple es k pos) (gTup K n t) := by
  subst hK; exact pg_tup hc h hn hst
theorem op_in_seqK (hK : X.K = K) : OpR X (compareOp .In) (rIn K false) := by subst hK; exact op_in_seq
def rLen (K : PySem.W.Frag) : List V → Hp → VK → Prop := fun xs H Q => ∃ p ys, xs = [.ref p] ∧ (SqL K H p ys ∨ SqT K H p ys) ∧ Q (.int ys.length) H
theorem call_lenK (hK : X.K = K) : CallR X (.builtin "len") (rLen K) := by subst hK; exact call_len_seq
def rListOf (K : PySem.W.Frag) : List V → Hp → VK → Prop := fun xs H Q => ∃ p ys, xs = [.ref p] ∧ (SqL K H p ys ∨ SqT K H p ys) ∧ ∀ l, H l = none → Q (.ref l) (upd H l (.lst ys))
theorem call_listK (hK : X.K = K) : CallR X (.type "list") (rListOf K) := by subst hK; exact call_list_of
def rTupL (K : PySem.W.Frag) : List V → Hp → VK → Prop := fun xs H Q => ∃ p ys, xs = [.ref p] ∧ SqL K H p ys ∧ ∀ l, H l = none → Q (.ref l) (upd H l (.tup ys))
end
theorem SqL.off {K : PySem.W.Frag} {H : Hp} {a x : Addr} {xs : List V} {o : HO} (h : SqL K H a xs) (h1 : ∀ ys, H x ≠ some (.lst ys)) (h2 : ∀ v u, H x ≠ some (.frz v u)) : SqL K (upd H x o) a xs := by
  rcases h with (h | ⟨v, h⟩) | h
  · have ne : a ≠ x := fun z => h1 _ (z ▸ h)
    exact .inl (.inl (by rw [upd_ne ne]; exact h))
  · have ne : a ≠ x := fun z => h2 _ _ (z ▸ h)
    exact .inl (.inr ⟨v, by rw [upd_ne ne]; exact h⟩)
  · exact .inr h
end L2
namespace L2
/-- one statement of a block; the rest waits under a name -/
theorem seq_of {t u : TS} {D : Ends} {σ : St} {H : Hp} (h : ∀ U : TS, U = u → t { D with nx := U D } σ H) : tSeq t u D σ H := h u rfl
end L2

set_option Elab.async false
set_option linter.all false
set_option maxRecDepth 100000
set_option maxHeartbeats 1000000
namespace L2
open PySem PySem.Spec PyProof.Rows
def Itz (K : PySem.W.Frag) (a b : Addr) : It :=
  ⟨fun i H => ∃ xs ys x y, SqL K H a xs ∧ SqL K H b ys ∧ xs[i]? = some x ∧ ys[i]? = some y,
   fun i H v H' => ∃ t x y, v = .ref t ∧ H t = none ∧ H' = upd H t (.tup [x, y]) ∧ (∀ xs, SqL K H a xs → xs[i]? = some x) ∧ (∀ ys, SqL K H b ys → ys[i]? = some y),
   fun i H => ∃ xs ys, SqL K H a xs ∧ SqL K H b ys ∧ (xs[i]? = none ∨ ys[i]? = none)⟩
section
variable {X : Cx} {pins : List (Addr × Obj)} {σ : St} {H : Hp} {s : Shared}
/-- some records turn -/
theorem Inv.turns {ch : List Addr} {g : Heap} {tk : Nat} (I : Inv X pins σ H s) (fc : ∀ b ∈ ch, FpOk X pins H b)
    (k : ∀ b o, b ∉ ch → s.heap.get? b = some o → g.get? b = some o) : Inv X pins σ H { s with heap := g, toks := tk } := by
  have nit : ∀ b u, H b = some u → b ∉ ch := fun b u e z => by rw [(fc b z).1] at e; cases e
  refine I.step (g' := s.gens) (d' := s.drawn) (ch := ch) (fun b hb => ?_) (fun b o _ _ hc e _ => k b o hc e) (fun b o _ _ hc e _ => ⟨o.slots, k b o hc e⟩) (fun _ _ _ _ n => n)
    (fun b o hc e => ⟨o, k b o hc e⟩) (fun _ _ e => e) (fun _ _ _ e => e) (fun b ps e => ⟨#[], by rw [e]; simp⟩) (fun m hm => ?_) (fun b u e => ?_) I.bare
  · obtain ⟨e0, e1, e2, e3, e4, e5⟩ := fc b hb
    exact ⟨e3, e1, e4, e5⟩
  · obtain ⟨o, es, ep, ho, r⟩ := hm
    exact ⟨o, es, ep, k _ o (fun z => (fc _ z).2.1 rfl) ho, r⟩
  · refine (I.hok b u e).stay (fun c v hc q => k c v ?_ q) (fun _ q => q) fun _ _ q => q
    rcases hc with z | z
    · rw [z]; exact nit b u e
    · exact nit c _ z
/-- some records turn, an object is laid -/
theorem Inv.turnsL {ch : List Addr} {t : Addr} {g : Heap} {tk : Nat} {o : HO} (I : Inv X pins σ H s) (fc : ∀ b ∈ ch, FpOk X pins H b) (ht : s.heap.objs.size ≤ t)
    (k : ∀ b o, b ∉ ch → s.heap.get? b = some o → g.get? b = some o) (new : ObjOk X.prog X.w (upd H t o) g t o) : Inv X pins σ (upd H t o) { s with heap := g, toks := tk } := by
  have hn : H t = none := I.hok.fresh ht
  have nt : ∀ b o, s.heap.get? b = some o → b ≠ t := fun b o q z => by
    subst z
    exact absurd (Nat.lt_of_lt_of_le (Heap.lt_size q) ht) (Nat.lt_irrefl _)
  have nit : ∀ b u, H b = some u → b ∉ ch := fun b u e z => by rw [(fc b z).1] at e; cases e
  refine I.step (g' := s.gens) (d' := s.drawn) (ch := ch) (fun b hb => ?_) (fun b o _ _ hc q _ => k b o hc q) (fun b o _ _ hc q _ => ⟨o.slots, k b o hc q⟩) (fun b o _ q n => by rw [upd_ne (nt b o q)]; exact n)
    (fun b o hc q => ⟨o, k b o hc q⟩) (fun b xs q => by rw [upd_ne (ne_of_none q hn)]; exact q) (fun b o u q => by rw [upd_ne (ne_of_none q hn)]; exact q) (fun b ps q => ⟨#[], by rw [upd_ne (ne_of_none q hn), q]; simp⟩) (fun m hm => ?_) (fun b u q => ?_) I.bare
  · obtain ⟨e0, e1, e2, e3, e4, e5⟩ := fc b hb
    exact ⟨e3, e1, e4, e5⟩
  · obtain ⟨ol, es, ep, ho, r⟩ := hm
    exact ⟨ol, es, ep, k _ ol (fun z => (fc _ z).2.1 rfl) ho, r⟩
  · by_cases hb : b = t
    · subst hb; rw [upd_same] at q; cases q; exact new
    · rw [upd_ne hb] at q
      refine (I.hok b u q).stay (fun c v hc z => k c v ?_ z) (fun c z => by rw [upd_ne (ne_of_none z hn)]; exact z) fun c xs z => by rw [upd_ne (ne_of_none z hn)]; exact z
      rcases hc with z' | z'
      · rw [z']; exact nit b u q
      · exact nit c _ z'
end
theorem turn_zip {P : Program} {w : World} {K : PySem.W.Frag} {elts : List Expr} {x1 : Nat} {tp : Pos} {z TI TO i1 i2 l1 l2 : Addr} (D : ZipApart z TI TO i1 i2 l1 l2) :
    Turn P w K (.Tuple elts x1 tp) (Itz K l1 l2) [z, TI, TO, i1, i2] z (fun i h => IsZip h z TI TO .none ∧ IsPair h TI (.ref i1) (.ref i2) ∧ (∃ a b, IsPair h TO a b) ∧ h.IsListIter i1 l1 i ∧ h.IsListIter i2 l2 i) where
  mem := by simp
  obj := fun i h st b hb => by
    obtain ⟨hz, hTI, ⟨a, c, hTO⟩, ⟨o1, e1, c1, d1⟩, ⟨o2, e2, c2, d2⟩⟩ := st
    have hb' : b = z ∨ b = TI ∨ b = TO ∨ b = i1 ∨ b = i2 := by simpa using hb
    rcases hb' with rfl | rfl | rfl | rfl | rfl
    · exact ⟨_, hz, fun v z => by
        have z' : Data.fields _ = Data.cell v := z
        cases z'⟩
    · exact ⟨_, hTI, fun v z => by
        have z' : Data.seq _ _ = Data.cell v := z
        cases z'⟩
    · exact ⟨_, hTO, fun v z => by
        have z' : Data.seq _ _ = Data.cell v := z
        cases z'⟩
    · exact ⟨o1, e1, fun v z => by rw [d1] at z; cases z⟩
    · exact ⟨o2, e2, fun v z => by rw [d2] at z; cases z⟩
  keep := fun i h h' st kk => by
    obtain ⟨hz, hTI, ⟨a, c, hTO⟩, h1, h2⟩ := st
    exact ⟨kk z (by simp) _ hz, kk TI (by simp) _ hTI, ⟨a, c, kk TO (by simp) _ hTO⟩, h1.at fun o e => kk i1 (by simp) o e, h2.at fun o e => kk i2 (by simp) o e⟩
  item := by
    intro X hP hw hK hc i pins s σ H E I hf st hg
    subst hP hw hK
    obtain ⟨hz, hTI, ⟨a, c, hTO⟩, h1, h2⟩ := st
    obtain ⟨xs, ys, x, y, hq1, hq2, hx, hy⟩ := hg
    obtain ⟨its1, rv1, p1, _⟩ := I.list hq1
    obtain ⟨its2, rv2, p2, _⟩ := I.list hq2
    obtain ⟨u1, hu1, ru1⟩ := rv1.get hx
    obtain ⟨u2, hu2, ru2⟩ := rv2.get hy
    refine wpAny_pyNext_zip_item D hz hTI hTO h1 h2 p1.isList p2.isList (x := u1) (y := u2) (by simpa using hu1) (by simpa using hu2) fun g a1 a2 a3 a4 a5 a6 hk => ?_
    refine ⟨_, rfl, wpAny_letOwnedTupleGo_zip a1 fun g2 hz2 hs2 => ?_⟩
    have hzl : z < s.heap.objs.size := Heap.lt_size hz
    have nse : s.heap.objs.size ≠ z := Nat.ne_of_gt hzl
    have hT2 : g2.get? s.heap.objs.size = some { cls := .type "tuple", data := .seq #[u1, u2] } := (hs2.2 _ nse).trans a5
    have I2 : Inv X pins σ (upd H s.heap.objs.size (.tup [x, y])) { s with heap := g2, toks := s.toks } := by
      refine I.turnsL (ch := [z, TI, TO, i1, i2]) hf (Nat.le_refl _) (fun b o hb q => ?_) ?_
      · have nb : b ≠ z ∧ b ≠ TO ∧ b ≠ i1 ∧ b ≠ i2 := ⟨fun e => hb (by simp [e]), fun e => hb (by simp [e]), fun e => hb (by simp [e]), fun e => hb (by simp [e])⟩
        exact (hs2.2 b nb.1).trans (hk b o nb.1 nb.2.1 nb.2.2.1 nb.2.2.2 q)
      · exact ⟨by show 2 ≤ sizeLine; decide, [u1, u2], .cons ru1 (.cons ru2 .nil), ⟨_, hT2, rfl, 0, rfl⟩⟩
    refine ⟨.ref s.heap.objs.size, _, I2, rfl, ⟨_, x, y, rfl, I.fresh, rfl, fun zs hzs => ?_, fun zs hzs => ?_⟩, ⟨hz2, ?_, ⟨u1, u2, ?_⟩, ?_, ?_⟩, fun b hb => ?_⟩
    · rw [I.list_inj hzs hq1]
      exact hx
    · rw [I.list_inj hzs hq2]
      exact hy
    · exact (hs2.2 _ D.TIz).trans (hk _ _ D.TIz D.TITO D.TIi1 D.TIi2 hTI)
    · exact (hs2.2 _ D.TOz).trans a2
    · exact a3.at fun o e => (hs2.2 _ D.i1z).trans e
    · exact a4.at fun o e => (hs2.2 _ D.i2z).trans e
    · have hbl : b < s.heap.objs.size := by
        obtain ⟨o1, e1, _⟩ := h1
        obtain ⟨o2, e2, _⟩ := h2
        have hb' : b = z ∨ b = TI ∨ b = TO ∨ b = i1 ∨ b = i2 := by simpa using hb
        rcases hb' with rfl | rfl | rfl | rfl | rfl
        · exact hzl
        · exact Heap.lt_size hTI
        · exact Heap.lt_size hTO
        · exact Heap.lt_size e1
        · exact Heap.lt_size e2
      rw [upd_ne (Nat.ne_of_lt hbl)]
      exact (hf b hb).1
  done := by
    intro X hP hw hK hc i pins s σ H E I hf st hg
    subst hP hw hK
    obtain ⟨hz, hTI, ⟨a, c, hTO⟩, h1, h2⟩ := st
    obtain ⟨xs, ys, hq1, hq2, hx⟩ := hg
    obtain ⟨its1, rv1, p1, _⟩ := I.list hq1
    obtain ⟨its2, rv2, p2, _⟩ := I.list hq2
    refine wpAny_pyNext_zip_end (I.ok.hd hc) D hz hTI hTO h1 h2 p1.isList p2.isList ?_ fun g hk => ⟨rfl, I.turns (tk := s.toks) (ch := [z, TI, TO, i1, i2]) hf fun b o hb q => ?_⟩
    · rcases hx with e | e
      · exact .inl (by simpa using rv1.none_of e)
      · exact .inr (by simpa using rv2.none_of e)
    · exact hk b o (fun e => hb (by simp [e])) (fun e => hb (by simp [e])) (fun e => hb (by simp [e])) (fun e => hb (by simp [e])) q
  self := fun A i s Q E st h => wpAny_pyIter_zip st.1 h
theorem for_zipW {K : PySem.W.Frag} {a b : Addr} {xs ys : List V} {σ : St} {H : Hp} {DN : St → Hp → Prop} {B : (St → Hp → Prop) → V → St → Hp → Prop} (Pv : Nat → St → Hp → Prop) (hxy : xs.length = ys.length) (h0 : Pv 0 σ H)
    (hl : ∀ i σ H, i ≤ xs.length → Pv i σ H → SqL K H a xs ∧ SqL K H b ys)
    (hs : ∀ i x y σ H t, xs[i]? = some x → ys[i]? = some y → Pv i σ H → H t = none → B (Pv (i + 1)) (.ref t) σ (upd H t (.tup [x, y]))) (hd : ∀ σ H, Pv xs.length σ H → DN σ H) :
    ∃ W : Nat → Nat → St → Hp → Prop, (∃ m, W 0 m σ H) ∧ ∀ i m σ H, W i m σ H →
      ((Itz K a b).stop i H ∧ DN σ H) ∨ ((Itz K a b).go i H ∧ ∃ N : St → Hp → Prop, (∀ σ' H', N σ' H' → ∃ m', m' < m ∧ W (i + 1) m' σ' H') ∧ ∀ x H', (Itz K a b).yld i H x H' → B N x σ H') := by
  refine ⟨fun i m σ H => m = xs.length - i ∧ i ≤ xs.length ∧ Pv i σ H, ⟨xs.length, by simp, Nat.zero_le _, h0⟩, ?_⟩
  rintro i m σ H ⟨rfl, hi, p⟩
  obtain ⟨q1, q2⟩ := hl i σ H hi p
  by_cases hlt : i < xs.length
  · have hlt2 : i < ys.length := by omega
    refine .inr ⟨⟨xs, ys, xs[i], ys[i], q1, q2, by simp [hlt], by simp [hlt2]⟩, Pv (i + 1), fun σ' H' p' => ⟨xs.length - (i + 1), by omega, rfl, hlt, p'⟩, fun x H' y => ?_⟩
    obtain ⟨t, x, y, e, ht, e', hx, hy⟩ := y
    subst e e'
    exact hs i x y σ _ t (hx xs q1) (hy ys q2) p ht
  · have e : i = xs.length := by omega
    subst e
    exact .inl ⟨⟨xs, ys, q1, q2, .inl (by simp)⟩, hd σ H p⟩
def iZip (K : PySem.W.Frag) (ta : TA) : TI := fun σ H R => ta σ H fun vs H1 => ∃ a b, vs = [.ref a, .ref b] ∧ (∃ xs, SqL K H1 a xs) ∧ (∃ ys, SqL K H1 b ys) ∧ R (Itz K a b) H1
theorem pi_zip {X : Cx} {elts : List Expr} {x1 : Nat} {tp : Pos} {a b : Expr} {ta : TA} {p pos : Pos} (hg : Gl X "zip") (hm : X.mg "zip" = none) (ha : PA X [a, b] ta) (hs : starEach [a, b] X.env = [(false, eval a X.env), (false, eval b X.env)] := by rfl) (hs2 : starEach [b] X.env = [(false, eval b X.env)] := by rfl) :
    PI X (.Tuple elts x1 tp) (.Call (.Name "zip" p) [a, b] [] pos) (iZip X.K ta) := by
  intro pins s σ H R I h
  refine Call_ (ld_blt I hg hm boot_zip (PyProof.Rows.callWith_type1 (thn (ha pos pins s σ H _ I h) fun us s1 ⟨vs, H1, I1, r1, q1⟩ => ?_) (by rw [hs, hs2]) (by rw [hs2]; rfl)))
  obtain ⟨l1, l2, e, ⟨xs, hq1⟩, ⟨ys, hq2⟩, q⟩ := q1
  subst e
  cases r1 with
  | cons r rr =>
    cases rr with
    | cons r' rr =>
      cases rr
      cases r
      cases r'
      obtain ⟨its1, rv1, p1, _⟩ := I1.list hq1
      obtain ⟨its2, rv2, p2, _⟩ := I1.list hq2
      have a1 : l1 < s1.heap.objs.size := by obtain ⟨_, e, _⟩ := p1.isList; exact Heap.lt_size e
      have a2 : l2 < s1.heap.objs.size := by obtain ⟨_, e, _⟩ := p2.isList; exact Heap.lt_size e
      refine call_zip_2 p1.isList p2.isList fun h' hz hTI hTO hi1 hi2 _ hk => wpAny_pyIter_zip hz ?_
      refine ⟨_, _, _, _, H1, rfl, I1.kept (t' := s1.toks) hk, turn_zip (zipApart_new a1 a2), ⟨hz, hTI, ⟨_, _, hTO⟩, hi1, hi2⟩, fun b hb => ?_, q⟩
      have hb' : b = s1.heap.objs.size + 4 ∨ b = s1.heap.objs.size + 2 ∨ b = s1.heap.objs.size + 3 ∨ b = s1.heap.objs.size ∨ b = s1.heap.objs.size + 1 := by simpa using hb
      have hle : s1.heap.objs.size ≤ b := by
        rcases hb' with rfl | rfl | rfl | rfl | rfl
        · exact Nat.le_add_right _ _
        · exact Nat.le_add_right _ _
        · exact Nat.le_add_right _ _
        · exact Nat.le_refl _
        · exact Nat.le_add_right _ _
      exact I1.fpOk hle (I1.hok.fresh hle)
end L2

set_option Elab.async false
set_option linter.all false
set_option maxRecDepth 100000
set_option maxHeartbeats 1000000
namespace L2
open PySem PySem.Spec PyProof.Rows
section
variable {prog : Program} {w : World} {A : Around} {E : Value → Shared → Prop} {s : Shared}
end
def tLRev (K : PySem.W.Frag) (te : TE) : TE := fun σ H Q => te σ H fun x H1 => ∃ a xs, x = .ref a ∧ SqL K H1 a xs ∧ ∀ l, H1 l = none → Q (.ref l) (upd H1 l (.lst xs.reverse))
end L2

set_option Elab.async false
set_option linter.all false
set_option maxRecDepth 100000
set_option maxHeartbeats 400000
namespace L2
open PySem PySem.Spec PyProof.Rows
/-- what of the heap ahead (s) and of the tracked (H') the part B that stays has -/
structure Flies (P : Program) (w : World) (l : List Env) (H : Hp) (s : Shared) (H' : Hp) (B : Heap) (a : Addr) (cls a0 : Value) (s' : Shared) : Prop where
  os : s'.os = s.os
  bare : AllBare s'.gens
  un : Un (frs l) [] H H' s.heap s'.heap
  hok : HOk P w H' s'.heap
  fly : Heap.FlyingW B l a cls a0 s'.heap
  cov : ∀ b o, s.heap.get? b = some o → b ∉ frs l → ∃ o', B.get? b = some o'
  trk : ∀ b u, H' b = some u → ∃ o', B.get? b = some o'
  own : ∀ b u, H' b = some u → b ∉ frs l
def CX1 (P : Program) (w : World) : CXT := fun outer H s E e s' => ∃ (a : Addr) (cls : Value) (H' : Hp) (B : Heap) (a0 : Value), e = .ref a ∧ Flies P w outer H s H' B a cls a0 s' ∧ E cls none H'
theorem ObjOk.there {P : Program} {w : World} {H : Hp} {h : Heap} {a : Addr} {o : HO} (x : ObjOk P w H h a o) : ∃ ob, h.get? a = some ob := by
  cases o with
  | lst xs => obtain ⟨_, _, _, _, e⟩ := x; exact ⟨_, e⟩
  | tup xs => obtain ⟨_, _, _, ob, e, _⟩ := x; exact ⟨_, e⟩
  | dK kvs => obtain ⟨_, _, _, _, o, _, _, e, _⟩ := x; exact ⟨_, e⟩
  | dT kvs => obtain ⟨_, _, _, _, o, _, _, e, _⟩ := x; exact ⟨_, e⟩
  | set S n => obtain ⟨o, _, _, _, e, _⟩ := x; exact ⟨_, e⟩
  | ins C dx fs => obtain ⟨_, _, _, e, _⟩ := x; exact ⟨_, e⟩
  | own y => exact x
  | xd fs => obtain ⟨_, ⟨o, _, _, e, _⟩, _⟩ := x; exact ⟨_, e⟩
  | rng lo hi => obtain ⟨_, _, _, e⟩ := x; exact ⟨_, e⟩
  | frz ob u => exact ⟨_, x.1⟩
  | tbl ps => exact ⟨_, x⟩
  | met f y => exact ⟨_, x⟩
  | ext φ => exact x.2.1
section
variable {P : Program} {w : World} {l : List Env} {H H' : Hp} {s s' : Shared} {B h'' : Heap} {a : Addr} {cls a0 : Value}
theorem Flies.same (F : Flies P w l H s H' B a cls a0 s') {b : Addr} {o o' : Obj} (e : B.get? b = some o') (q : s'.heap.get? b = some o) : o' = o := by
  have z := F.fly.1 b o' e
  rw [q] at z
  exact (Option.some.inj z).symm
/-- B stays, the frames keep all but slots: the same of another heap -/
theorem Flies.next (F : Flies P w l H s H' B a cls a0 s') (st : B.StaysIn h'') (us : s'.heap.UpToSlots h'') : Un (frs l) [] H H' s.heap h'' ∧ HOk P w H' h'' := by
  have keep : ∀ b o, s.heap.get? b = some o → H b = none → b ∉ frs l → b ∉ ([] : List Addr) → h''.get? b = some o := fun b o e n hb hx => by
    obtain ⟨o', eb⟩ := F.cov b o e hb
    have q := F.un.keep b o e n hb hx
    rw [F.same eb q] at eb
    exact st b o eb
  have fr : ∀ b ∈ frs l, ∀ o, s'.heap.get? b = some o → ∃ sl, h''.get? b = some { o with slots := sl } := fun b hb o e => by
    obtain ⟨_, o', e', nf⟩ := F.fly.2.2.1.mem hb
    rw [e] at e'
    cases e'
    exact us b o e nf
  refine ⟨⟨keep, fun b o e n hb hx => ?_, F.un.free, fun b o e hx => ?_, F.un.tups, F.un.frzs, F.un.tbls⟩, fun b u e => ?_⟩
  · obtain ⟨sl, e1⟩ := F.un.slot b o e n hb hx
    obtain ⟨sl', e2⟩ := fr b hb _ e1
    exact ⟨sl', e2⟩
  · by_cases hb : b ∈ frs l
    · obtain ⟨o', e1⟩ := F.un.there b o e hx
      obtain ⟨sl, e2⟩ := fr b hb _ e1
      exact ⟨_, e2⟩
    · obtain ⟨o', eb⟩ := F.cov b o e hb
      exact ⟨o', st b o' eb⟩
  · have one : ∀ c v, (∃ u, H' c = some u) → s'.heap.get? c = some v → h''.get? c = some v := fun c v ⟨u, hc⟩ q => by
      obtain ⟨o', eb⟩ := F.trk c u hc
      rw [F.same eb q] at eb
      exact st c v eb
    refine (F.hok b u e).stay (fun c v hc q => one c v ?_ q) (fun _ q => q) fun _ _ q => q
    rcases hc with z | z
    · exact ⟨u, by rw [z]; exact e⟩
    · exact ⟨_, z⟩
end
/-- a def's body as its entry lays it -/
structure Body (X : Cx) : Prop where
  st : X.stack = X.env :: X.outer
  fr : X.env.frame = some X.env.locals
  ex : X.ex = []
section
variable {X : Cx} {pins : List (Addr × Obj)} {σ : St} {H H' : Hp} {s s' : Shared} {B : Heap} {a : Addr} {cls a0 : Value}
theorem Body.frs (b : Body X) : frs X.stack = X.env.locals :: X.fs := by
  rw [b.st]
  unfold L2.frs
  rw [List.filterMap_cons, b.fr]
  rfl
theorem body_ne (I : Inv X pins σ H s) {b : Addr} {o : Obj} (e : X.s₀.heap.get? b = some o) : b ≠ X.env.locals := Nat.ne_of_lt (Nat.lt_of_lt_of_le (Heap.lt_size e) I.ok.above)
/-- an exception of a callee flies on: what is known at this body's entry -/
theorem Flies.up (hb : Body X) (I : Inv X pins σ H s) (F : Flies X.prog X.w X.stack H s H' B a cls a0 s') {h'' : Heap} (fly : Heap.FlyingW B X.outer a cls a0 h'') (us : s'.heap.UpToSlots h'') :
    Flies X.prog X.w X.outer X.H₀ X.s₀ H' B a cls a0 { s' with heap := h'' } := by
  obtain ⟨u, k⟩ := F.next fly.1 us
  have nf : ∀ b o, X.s₀.heap.get? b = some o → b ∉ X.fs → b ∉ L2.frs X.stack := fun b o e hn z => by
    rw [hb.frs] at z
    rcases List.mem_cons.mp z with z | z
    · exact body_ne I e z
    · exact hn z
  have ib := I.base
  rw [hb.ex] at ib
  refine ⟨F.os.trans I.os, F.bare, ⟨fun b o e n hn hx => ?_, fun b o e n hn hx => ?_, fun b o e n hx => ?_, fun b o e hx => ?_, fun b xs e => u.tups b xs (ib.tups b xs e), fun b o v e => u.frzs b o v (ib.frzs b o v e), fun b ps e => ?_⟩, k, fly, fun b o e hn => ?_, F.trk, fun b v e z => F.own b v e ?_⟩
  · exact u.keep b o (ib.keep b o e n hn hx) (ib.free b o e n hx) (nf b o e hn) hx
  · obtain ⟨sl, e1⟩ := ib.slot b o e n hn hx
    obtain ⟨sl', e2⟩ := u.slot b _ e1 (ib.free b o e n hx) (by rw [hb.frs]; exact List.mem_cons_of_mem _ hn) hx
    exact ⟨sl', e2⟩
  · obtain ⟨o', e1⟩ := ib.there b o e hx
    exact u.free b o' e1 (ib.free b o e n hx) hx
  · obtain ⟨o', e1⟩ := ib.there b o e hx
    exact u.there b o' e1 hx
  · obtain ⟨m1, e1⟩ := ib.tbls b ps e
    obtain ⟨m2, e2⟩ := u.tbls b _ e1
    exact ⟨m1 ++ m2, by rw [e2, Array.append_assoc]⟩
  · obtain ⟨o', e1⟩ := ib.there b o e (by simp)
    exact F.cov b o' e1 (nf b o e hn)
  · rw [hb.frs]
    exact List.mem_cons_of_mem _ z
/-- an exception that is just made, in this body -/
theorem Flies.made (hb : Body X) (I : Inv X pins σ H s) {h' h'' : Heap} {t : Nat} (mk : ∀ b o, s.heap.get? b = some o → h'.get? b = some o) (fly : Heap.FlyingW (PySem.W.hideAll s.heap (L2.frs X.stack)) X.outer a cls a0 h'') (us : h'.UpToSlots h'') :
    Flies X.prog X.w X.outer X.H₀ X.s₀ H (PySem.W.hideAll s.heap (L2.frs X.stack)) a cls a0 { s with heap := h'', toks := t } := by
  have inB : ∀ b o, s.heap.get? b = some o → b ∉ L2.frs X.stack → (PySem.W.hideAll s.heap (L2.frs X.stack)).get? b = some o := fun b o e n => PySem.W.hideAll_get _ e n
  have own : ∀ b u, H b = some u → b ∉ L2.frs X.stack := fun b u e z => by rw [I.stkFree b z] at e; cases e
  have nf : ∀ b o, X.s₀.heap.get? b = some o → b ∉ X.fs → b ∉ L2.frs X.stack := fun b o e hn z => by
    rw [hb.frs] at z
    rcases List.mem_cons.mp z with z | z
    · exact body_ne I e z
    · exact hn z
  have fr : ∀ b ∈ X.fs, ∀ o, s.heap.get? b = some o → ∃ sl, h''.get? b = some { o with slots := sl } := fun b hb' o e => by
    obtain ⟨_, o', e', nfd⟩ := I.funs.mem hb'
    rw [e] at e'
    cases e'
    exact us b o (mk b o e) nfd
  have ib := I.base
  rw [hb.ex] at ib
  refine ⟨I.os, I.bare, ⟨fun b o e n hn hx => fly.1 b o (inB b o (ib.keep b o e n hn hx) (nf b o e hn)), fun b o e n hn hx => ?_, ib.free, fun b o e hx => ?_, ib.tups, ib.frzs, ib.tbls⟩, fun b u e => ?_, fly, fun b o e hn => ?_, fun b u e => ?_, fun b u e z => own b u e ?_⟩
  · obtain ⟨sl, e1⟩ := ib.slot b o e n hn hx
    obtain ⟨sl', e2⟩ := fr b hn _ e1
    exact ⟨sl', e2⟩
  · obtain ⟨o', e1⟩ := ib.there b o e hx
    by_cases hn : b ∈ X.fs
    · obtain ⟨sl, e2⟩ := fr b hn _ e1
      exact ⟨_, e2⟩
    · exact ⟨o', fly.1 b o' (inB b o' e1 (nf b o e hn))⟩
  · refine (I.hok b u e).stay (fun c v hc q => fly.1 c v (inB c v q ?_)) (fun _ q => q) fun _ _ q => q
    rcases hc with z | z
    · rw [z]; exact own b u e
    · exact own c _ z
  · obtain ⟨o', e1⟩ := ib.there b o e (by simp)
    exact ⟨o', inB b o' e1 (nf b o e hn)⟩
  · obtain ⟨o', e1⟩ := (I.hok b u e).there
    exact ⟨o', inB b o' e1 (own b u e)⟩
  · rw [hb.frs]
    exact List.mem_cons_of_mem _ z
end
section
variable {P : Program} {w : World} {K : PySem.W.Frag} {mg : Str → Option Value} {base : Heap} {N : List Str} {qual : Str} {scope : Scope} {f : Addr} {cd : Value} {A : Around} {outer : List Env} {s₀ : Shared} {H₀ : Hp} {E : XK}
end
abbrev bmV : List Value := [.type "ValueError", .type "Exception", .type "BaseException", .type "object"]
structure ExcC (K : PySem.W.Frag) (mg : Str → Option Value) (x : Str) (C : Addr) : Prop where
  at_ : mg x = some (.ref C)
  ok : PySem.W.excIn K C bmV "ValueError.__new__" = true
theorem ExcC.obj {K : PySem.W.Frag} {mg : Str → Option Value} {x : Str} {C : Addr} (c : ExcC K mg x C) {h : Heap} (X : K.In h) : ∃ bm N nm q bs hdct sn sub ab col dd k0 k1 k2 k3 k5 mN, h.get? C = some (excClassObj nm q C N bs bm hdct sn sub ab col dd k0 k1 k2 k3 k5 "ValueError.__new__") ∧ h.Ns N mN ∧ mN "__init__" = none ∧ OwnTail h bmV bm := by
  have z := c.ok
  unfold PySem.W.excIn at z
  split at z
  · rename_i dd cd sl ho
    split at z
    · rename_i C' bm k0 k1 k2 k3 n k5 hm hs
      simp only [Bool.and_eq_true, beq_iff_eq, Bool.not_eq_true'] at z
      obtain ⟨⟨⟨⟨⟨e1, e2⟩, e3⟩, e4⟩, e5⟩, e6⟩ := z
      subst e1 e2
      obtain ⟨nm, bs, mro, ns, qn, hd, sn, sub, ab, col, del⟩ := cd
      dsimp only at hm e3 e5 e6
      subst hm e3
      obtain ⟨sl⟩ := sl
      have hs' : sl = [k0, k1, k2, k3, some (.builtin "ValueError.__new__"), k5] := hs
      subst hs'
      exact ⟨bm, ns, nm, qn, bs, hd, sn, sub, ab, col, dd, k0, k1, k2, k3, k5, _, X _ _ ho, .of_isNs (PySem.W.isNs_of_in X e5), PySem.W.nsMap_none_of_in X e5 e6, PySem.W.tail_of_in X e4⟩
    · cases z
  · cases z
def tRaise (E : XK) (C : Addr) (ta : TA) : TS := fun _ σ H => ta σ H fun vs H1 => vs.length ≤ sizeLine ∧ E (.ref C) none H1
structure CalX (P : Program) (w : World) (K : PySem.W.Frag) (mg : Str → Option Value) (base : Heap) (x : Str) (ps : List Str) (k : Nat) (sp : Sp) : Prop where
  ex : ∃ (f : Addr) (fd : FuncData), FnOk P w K mg base (CX1 P w) k f fd ps sp ∧ Binds K fd ps [] ∧ PySem.W.keepIn K (.ref f) = true ∧ mg x = some (.ref f)
def tCallX (sp : Sp) (t : TA) : St → Hp → VK → XK → Prop := fun σ H Q E => t σ H fun vs H1 => sp (vs ++ []) H1 Q E
def tDropX (te : St → Hp → VK → XK → Prop) : Ends → St → Hp → XK → Prop := fun D σ H E => te σ H (fun _ H1 => D.nx σ H1) E
def tSetX (i : Nat) (te : St → Hp → VK → XK → Prop) : Ends → St → Hp → XK → Prop := fun D σ H E => te σ H (fun v H1 => D.nx (σ.set i (some v)) H1) E
def tTry0 (C : Addr) (tb : Ends → St → Hp → XK → Prop) (ts to : TS) : TS := fun D σ H => tb { D with nx := to D } σ H fun cls _ H' => cls = .ref C ∧ ts D σ H'
end L2

set_option Elab.async false
set_option linter.all false
set_option maxRecDepth 100000
set_option maxHeartbeats 400000
namespace L2
open PySem PySem.Spec PySem.Calls PyProof.Rows
/-- what of an own exception class is looked at -/
structure ExcG (K : PySem.W.Frag) (C : Addr) : Prop where
  ga : PySem.W.findIn K (.ref C) "__getattribute__" = some (some (.builtin "BaseException.__getattribute__"))
  cl : PySem.W.findIn K (.ref C) "__class__" = some (some (.builtin "object.__class__"))
  no : PySem.W.findIn K (.ref C) "__getattr__" = some none
  be : PySem.W.mroIn K C (.type "BaseException") = some true
  ob : PySem.W.mroIn K C (.type "object") = some true
section
variable {K : PySem.W.Frag} {prog : Program} {w : World} {A : Around} {E : Value → Shared → Prop} {h : Heap} {g : Array GenState} {d : Drawn} {t : Nat} {os : OsState} {a C : Addr} {o : Obj}
end

theorem ExcG.cls {K : PySem.W.Frag} {C : Addr} (Z : ExcG K C) : ∃ c' d' cd sl, K.lookup C = some ⟨c', d', .cls cd, sl⟩ := by
  have e := Z.be
  unfold PySem.W.mroIn PySem.W.clsIn at e
  split at e
  · rename_i c' d' cd' sl' ho
    exact ⟨_, _, _, _, ho⟩
  · cases e
abbrev IsExc (a C : Addr) (h : Heap) : Prop := ∃ o, h.get? a = some o ∧ o.cls = .ref C
abbrev excO (a C : Addr) : HO := .ext (IsExc a C)
def vO : V → Value
  | .ref a => .ref a
  | .ty n => .type n
  | _ => .none
def rIsx (K : PySem.W.Frag) : List V → Hp → VK → Prop := fun xs H Q => ∃ a D c b, xs = [.ref a, c] ∧ H a = some (excO a D) ∧ ExcG K D ∧ PySem.W.kitOne K (.ref D) (vO c) = some b ∧ Q (.bl b) H
def rExc (C : Addr) : List V → Hp → VK → Prop := fun xs H Q => xs.length ≤ sizeLine ∧ ∀ a, H a = none → Q (.ref a) (upd H a (excO a C))
end L2

set_option Elab.async false
set_option linter.all false
set_option maxRecDepth 100000
set_option maxHeartbeats 400000
namespace L2
open PySem PySem.Spec PySem.Calls PyProof.Rows
/-- what an except looks at: the class W of the text, the class C that flies -/
structure ExcM (K : PySem.W.Frag) (mg : Str → Option Value) (x : Str) (W C : Addr) : Prop where
  at_ : mg x = some (.ref W)
  ty : PySem.W.typeIn K (.ref W) = some (.type "type")
  be : PySem.W.mroIn K W (.type "BaseException") = some true
  sub : PySem.W.mroIn K C (.ref W) = some true
section
variable {X : Cx} {pins : List (Addr × Obj)} {σ : St} {H H' : Hp} {s s' : Shared} {B : Heap} {a : Addr} {cls a0 : Value}
end
/-- the name of an except is gone behind it -/
def Ends.gone (D : Ends) (i : Nat) : Ends := { nx := fun σ H => D.nx (σ.set i none) H, rt := D.rt, bk := fun σ H => D.bk (σ.set i none) H, ct := fun σ H => D.ct (σ.set i none) H }
def tTryA (i : Nat) (K : PySem.W.Frag) (mg : Str → Option Value) (x : Str) (W : Addr) (tb : Ends → St → Hp → XK → Prop) (ts to : TS) : TS := fun D σ H =>
  tb { D with nx := to D } σ H fun cls _ H' => ∃ C, cls = .ref C ∧ ExcM K mg x W C ∧ ∀ a, H' a = none → ts (D.gone i) (σ.set i (some (.ref a))) (upd H' a (excO a C))
end L2

set_option Elab.async false
set_option linter.all false
set_option maxRecDepth 100000
set_option maxHeartbeats 4000000
namespace My
open PySem L2
theorem same_new {H : Hp} {p : Addr} (h : H p = none) (o : HO) : Same H (upd H p o) := fun b u q => by rw [upd_ne (ne_of_none q h)]; exact q
theorem same_upd {H H' : Hp} {p : Addr} (h : H p = none) (g : Same H H') (o : HO) : Same H (upd H' p o) := fun b u q => by rw [upd_ne (ne_of_none q h)]; exact g b u q
theorem item_of {ns : List Int} {k : Int} (h0 : 0 ≤ k) (h : k < (ns.length : Int)) : ∃ v : Int, atI (ns.map V.int) k = some (.int v) := by
  have hk : k.toNat < ns.length := by omega
  have q : atI (ns.map V.int) ((k.toNat : Nat) : Int) = some (.int ns[k.toNat]) := atI_nat (by rw [List.getElem?_map, List.getElem?_eq_getElem hk] <;> rfl)
  rw [show ((k.toNat : Nat) : Int) = k by omega] at q
  exact ⟨_, q⟩
theorem small1000' {n : Nat} (h : n ≤ 1000) : n ≤ sizeLine := Nat.le_of_lt (small1000 h)
abbrev Pst := Int × Int × Int
def PostV (H : Hp) (v : V) (q : Pst) : Prop := ∃ t, v = .ref t ∧ H t = some (.tup [.int q.1, .int q.2.1, .int q.2.2])
def okH (h : Int) : Prop := 0 ≤ h ∧ h < 1073741824
def okP (q : Pst) : Prop := (0 ≤ q.1 ∧ q.1 < 1073741824) ∧ (0 ≤ q.2.1 ∧ q.2.1 ≤ 1000000000) ∧ (0 ≤ q.2.2 ∧ q.2.2 ≤ 1)
structure Ok (d : Int) (hs : List Int) (ps : List Pst) : Prop where
  d1 : 1 ≤ d
  d2 : d ≤ 31
  h : ∀ x ∈ hs, okH x
  hl : hs.length ≤ 8
  p : ∀ q ∈ ps, okP q
  pl : ps.length ≤ 6
theorem PostV.mono {H H' : Hp} {v : V} {q : Pst} (g : Same H H') (h : PostV H v q) : PostV H' v q := by
  obtain ⟨t, e, h⟩ := h
  exact ⟨t, e, g _ _ h⟩
abbrev Posts (H : Hp) : List V → List Pst → Prop := Paired (PostV H)
theorem Posts.mono {H H' : Hp} (g : Same H H') {ts : List V} {ps : List Pst} (h : Posts H ts ps) : Posts H' ts ps := Paired.mapP h fun _ _ => PostV.mono g
theorem Posts.off {H : Hp} {l : Addr} {o : HO} {ts : List V} {ps : List Pst} (hl : ∀ xs, H l ≠ some (.tup xs)) (h : Posts H ts ps) : Posts (upd H l o) ts ps := Paired.mapP h fun _ _ ⟨t, e, q⟩ => ⟨t, e, by
  have ne : t ≠ l := fun z => hl _ (z ▸ q)
  rw [upd_ne ne]
  exact q⟩
theorem Posts.at' {H : Hp} {ts : List V} {ps : List Pst} (h : Posts H ts ps) {i : Nat} {v : V} (e : ts[i]? = some v) : ∃ q, ps[i]? = some q ∧ PostV H v q := Paired.get' h e
theorem Posts.len {H : Hp} {ts : List V} {ps : List Pst} (h : Posts H ts ps) : ts.length = ps.length := Paired.length h
theorem Posts.get {H : Hp} {ts : List V} {ps : List Pst} (h : Posts H ts ps) {i : Nat} {q : Pst} (e : ps[i]? = some q) : ∃ t, ts[i]? = some (.ref t) ∧ H t = some (.tup [.int q.1, .int q.2.1, .int q.2.2]) := by
  have hi : i < ts.length := by rw [h.len]; exact (List.getElem?_eq_some_iff.mp e).1
  have e1 : ts[i]? = some ts[i] := List.getElem?_eq_getElem hi
  obtain ⟨q', e2, t, et, ht⟩ := h.at' e1
  rw [e] at e2
  cases e2
  exact ⟨t, by rw [e1, et], ht⟩
theorem Posts.snoc {H : Hp} {ts : List V} {ps : List Pst} {v : V} {q : Pst} (h : Posts H ts ps) (hv : PostV H v q) : Posts H (ts ++ [v]) (ps ++ [q]) := by
  induction h with
  | nil => exact .cons hv .nil
  | cons a _ ih => exact .cons a ih
theorem n1 : ¬ (("days" : Str) = "hands") := by decide +kernel
theorem n2 : ¬ (("days" : Str) = "posts") := by decide +kernel
theorem n3 : ¬ (("hands" : Str) = "posts") := by decide +kernel
def wf (d : Int) (h p : Addr) : List (Str × V) := putF "posts" (.ref p) (putF "hands" (.ref h) (putF "days" (.int d) []))
/-- a ward stands at x -/
structure WardAt (C : Addr) (H : Hp) (x : Addr) (d : Int) (hs : List Int) (ps : List Pst) : Prop where
  ex : ∃ dx ha pa ts, H x = some (.ins C dx (wf d ha pa)) ∧ H ha = some (.tup (hs.map V.int)) ∧ H pa = some (.tup ts) ∧ Posts H ts ps
theorem WardAt.mono {C : Addr} {H H' : Hp} {x : Addr} {d : Int} {hs : List Int} {ps : List Pst} (g : Same H H') (w : WardAt C H x d hs ps) : WardAt C H' x d hs ps := by
  obtain ⟨dx, ha, pa, ts, h1, h2, h3, h4⟩ := w.ex
  exact ⟨dx, ha, pa, ts, g _ _ h1, g _ _ h2, g _ _ h3, h4.mono g⟩
theorem WardAt.off {C : Addr} {H : Hp} {x : Addr} {d : Int} {hs : List Int} {ps : List Pst} {l : Addr} {xs : List V} {o : HO} (hl : H l = some (.lst xs)) (w : WardAt C H x d hs ps) : WardAt C (upd H l o) x d hs ps := by
  obtain ⟨dx, ha, pa, ts, h1, h2, h3, h4⟩ := w.ex
  refine ⟨dx, ha, pa, ts, ?_, ?_, ?_, h4.off fun ys z => by rw [hl] at z; cases z⟩
  · rw [upd_ne (ne_of h1 hl (by intro z; cases z))]; exact h1
  · rw [upd_ne (ne_of h2 hl (by intro z; cases z))]; exact h2
  · rw [upd_ne (ne_of h3 hl (by intro z; cases z))]; exact h3
def cv (h n : Int) : Bool := decide (Builtin.bitAnd h n = n)
def post0 : Pst := (0, 0, 0)
def chI (h : Int) (ps : List Pst) (i : Nat) : List Int := ((List.range i).filter fun j => cv h (ps[j]?.getD post0).1).map fun j : Nat => (j : Int) + 1
def ch (h : Int) (ps : List Pst) : List Int := 0 :: chI h ps ps.length
def tb (d : Int) (hs : List Int) (ps : List Pst) : Nat → Int
  | 0 => 1
  | i + 1 => tb d hs ps i * ((ch (hs[i]?.getD 0) ps).length : Int) ^ d.toNat
theorem Paired.getR {α β : Type} {F : α → β → Prop} : ∀ {xs : List α} {ys : List β} {i : Nat} {y : β}, Paired F xs ys → ys[i]? = some y → ∃ x, xs[i]? = some x ∧ F x y
  | _, _, _, _, .nil, e => by simp at e
  | _, _, 0, _, .cons r _, e => by simp at e; subst e; exact ⟨_, rfl, r⟩
  | _, _, i + 1, y, .cons _ t, e => by
    obtain ⟨u, h1, h2⟩ := Paired.getR (i := i) (y := y) t (by simpa using e)
    exact ⟨u, by simpa using h1, h2⟩
theorem like_den {K : PySem.W.Frag} {H : Hp} : ∀ (n : Nat) (x : V) (d : DV), Den K H n x d → Like n d d := by
  intro n
  induction n with
  | zero =>
    intro x d h
    cases d with
    | lst ds => cases x <;> exact False.elim h
    | tup ds => cases x <;> exact False.elim h
    | _ => exact True.intro
  | succ n ih =>
    intro x d h
    cases d with
    | lst ds =>
      cases x with
      | ref a =>
        obtain ⟨xs, _, hp⟩ : ∃ xs, SqL K H a xs ∧ Paired (Den K H n) xs ds := h
        intro _ i d e h1 h2
        rw [h1] at h2
        cases h2
        obtain ⟨y, _, hy⟩ := Paired.getR hp h1
        exact ih y d hy
      | _ => exact False.elim h
    | tup ds =>
      cases x with
      | ref a =>
        obtain ⟨xs, _, hp⟩ : ∃ xs, SqT K H a xs ∧ Paired (Den K H n) xs ds := h
        intro i d e h1 h2
        rw [h1] at h2
        cases h2
        obtain ⟨y, _, hy⟩ := Paired.getR hp h1
        exact ih y d hy
      | _ => exact False.elim h
    | _ => exact True.intro
end My

set_option Elab.async false
set_option linter.all false
set_option maxRecDepth 100000
set_option maxHeartbeats 1000000
namespace My
open PySem L2
def RowV (H : Hp) (v : V) (row : List Int) : Prop := ∃ t, v = .ref t ∧ H t = some (.lst (row.map V.int))
abbrev Rows (H : Hp) : List V → List (List Int) → Prop := Paired (RowV H)
theorem Rows.mono {H H' : Hp} (g : Same H H') {ts : List V} {rows : List (List Int)} (h : Rows H ts rows) : Rows H' ts rows := Paired.mapP h fun _ _ ⟨t, e, q⟩ => ⟨t, e, g _ _ q⟩
theorem Rows.len {H : Hp} {ts : List V} {rows : List (List Int)} (h : Rows H ts rows) : ts.length = rows.length := Paired.length h
theorem Rows.at' {H : Hp} {ts : List V} {rows : List (List Int)} (h : Rows H ts rows) {i : Nat} {v : V} (e : ts[i]? = some v) : ∃ row, rows[i]? = some row ∧ RowV H v row := Paired.get' h e
theorem Rows.get {H : Hp} {ts : List V} {rows : List (List Int)} (h : Rows H ts rows) {i : Nat} {row : List Int} (e : rows[i]? = some row) : ∃ t, ts[i]? = some (.ref t) ∧ H t = some (.lst (row.map V.int)) := by
  obtain ⟨v, e1, t, rfl, q⟩ := Paired.getR h e
  exact ⟨t, e1, q⟩
theorem Rows.snoc {H : Hp} {ts : List V} {rows : List (List Int)} {v : V} {row : List Int} (h : Rows H ts rows) (hv : RowV H v row) : Rows H (ts ++ [v]) (rows ++ [row]) := by
  induction h with
  | nil => exact .cons hv .nil
  | cons a _ ih => exact .cons a ih
theorem Rows.off {H : Hp} {ts : List V} {rows : List (List Int)} {l : Addr} {o : HO} (h : Rows H ts rows) (hl : V.ref l ∉ ts) : Rows (upd H l o) ts rows := by
  induction h with
  | nil => exact .nil
  | cons a _ ih =>
    obtain ⟨t, rfl, q⟩ := a
    have ne : t ≠ l := fun z => hl (by rw [z]; exact List.mem_cons_self)
    exact .cons ⟨t, rfl, by rw [upd_ne ne]; exact q⟩ (ih fun z => hl (List.mem_cons_of_mem _ z))
theorem Rows.tracked {H : Hp} {ts : List V} {rows : List (List Int)} (h : Rows H ts rows) {l : Addr} (hl : V.ref l ∈ ts) : ∃ row : List Int, H l = some (.lst (row.map V.int)) := by
  induction h with
  | nil => cases hl
  | cons a _ ih =>
    obtain ⟨t, rfl, q⟩ := a
    rcases List.mem_cons.mp hl with z | z
    · cases z
      exact ⟨_, q⟩
    · exact ih z
theorem Rows.notin {H : Hp} {ts : List V} {rows : List (List Int)} (h : Rows H ts rows) {l : Addr} (hl : H l = none) : V.ref l ∉ ts := fun z => by
  obtain ⟨row, q⟩ := h.tracked z
  rw [hl] at q
  cases q
/-- row i's list is changed -/
theorem Rows.put {H : Hp} : ∀ {ts : List V} {rows : List (List Int)} {i : Nat} {t : Addr} {row : List Int}, Rows H ts rows → ts.Nodup → ts[i]? = some (.ref t) → Rows (upd H t (.lst (row.map V.int))) ts (rows.set i row)
  | _, _, _, _, _, .nil, _, e => by simp at e
  | _, _, 0, t, row, .cons a r, nd, e => by
    simp at e
    subst e
    have hn := (List.nodup_cons.mp nd).1
    exact .cons ⟨t, rfl, upd_same⟩ (Rows.off r hn)
  | v :: ts, _ :: rows, i + 1, t, row, .cons a r, nd, e => by
    have hn := (List.nodup_cons.mp nd)
    obtain ⟨t', rfl, q⟩ := a
    have e' : ts[i]? = some (.ref t) := by simpa using e
    have ne : t' ≠ t := fun z => hn.1 (by rw [z]; exact List.mem_of_getElem? e')
    exact .cons ⟨t', rfl, by rw [upd_ne ne]; exact q⟩ (Rows.put r hn.2 e')
theorem like_nil {n : Nat} {ds : List DV} : Like (n + 1) (.lst ds) (.lst []) := fun _ i d e _ h2 => by simp at h2
structure RotaOk (d : Int) (n m : Nat) (rows : List (List Int)) : Prop where
  len : rows.length = n
  rl : ∀ r ∈ rows, (r.length : Int) = d
  v : ∀ r ∈ rows, ∀ x ∈ r, 0 ≤ x ∧ x ≤ (m : Int)
def val (rows : List (List Int)) (j day : Nat) : Int := ((rows[j]?.getD [])[day]?).getD 0
def held (rows : List (List Int)) (day : Nat) (post : Int) (i : Nat) : List Int := ((List.range i).filter fun j => decide (val rows j day = post)).map fun j : Nat => (j : Int)
structure CopyI (H : Hp) (D : Addr) (rows : List (List Int)) (i : Nat) (H' : Hp) : Prop where
  ex : ∃ us' : List V, us'.length = i ∧ Same H H' ∧ H' D = some (.lst us') ∧ Rows H' us' (rows.take i) ∧ us'.Nodup ∧ ∀ t, V.ref t ∈ us' → t ≠ D ∧ H t = none
theorem CopyI.start {H : Hp} {D : Addr} {rows : List (List Int)} (hD : H D = none) : CopyI H D rows 0 (upd H D (.lst [])) :=
  ⟨[], rfl, same_new hD _, upd_same, by rw [List.take_zero]; exact .nil, List.nodup_nil, fun t z => by cases z⟩
theorem CopyI.same {H H' : Hp} {D : Addr} {rows : List (List Int)} {i : Nat} (h : CopyI H D rows i H') : Same H H' := by
  obtain ⟨_, _, g, _⟩ := h.ex
  exact g
theorem CopyI.step {H H' : Hp} {D l : Addr} {rows : List (List Int)} {i : Nat} {row : List Int} (h : CopyI H D rows i H') (hD : H D = none) (hrow : rows[i]? = some row) (hl : H' l = none) (hi : i ≤ 900) :
    ∃ xs, upd H' l (.lst (row.map V.int)) D = some (.lst xs) ∧ xs.length < sizeLine ∧ CopyI H D rows (i + 1) (upd (upd H' l (.lst (row.map V.int))) D (.lst (xs ++ [.ref l]))) := by
  obtain ⟨us', hu, g, e, hR, nd, fr⟩ := h.ex
  have g2 := same_new hl (.lst (row.map V.int))
  have ne : D ≠ l := ne_of_none e hl
  have hlu : V.ref l ∉ us' := hR.notin hl
  refine ⟨us', g2 _ _ e, small1000 (by omega), us' ++ [.ref l], by rw [List.length_append, hu]; rfl, same_upd hD (g.trans g2) _, upd_same, ?_, ?_, fun t ht => ?_⟩
  · refine Rows.off ?_ ?_
    · rw [List.take_add_one, hrow]
      exact Rows.snoc (hR.mono g2) ⟨l, rfl, upd_same⟩
    · intro z
      rcases List.mem_append.mp z with z | z
      · exact (fr D z).1 rfl
      · exact ne (V.ref.inj (List.mem_singleton.mp z))
  · rw [List.nodup_append]
    refine ⟨nd, by simp, fun a ha b hb => ?_⟩
    rw [List.mem_singleton.mp hb]
    exact fun z => hlu (z ▸ ha)
  · rcases List.mem_append.mp ht with z | z
    · exact fr t z
    · have : t = l := V.ref.inj (List.mem_singleton.mp z)
      subst this
      exact ⟨ne.symm, g.free hl⟩
theorem CopyI.done {H H' : Hp} {D : Addr} {rows : List (List Int)} {i : Nat} (h : CopyI H D rows i H') (hi : i = rows.length) :
    ∃ us' : List V, Same H H' ∧ H' D = some (.lst us') ∧ Rows H' us' rows ∧ us'.Nodup ∧ ∀ t, V.ref t ∈ us' → t ≠ D ∧ H t = none := by
  obtain ⟨us', hu, g, e, hR, nd, fr⟩ := h.ex
  rw [hi, List.take_length] at hR
  exact ⟨us', g, e, hR, nd, fr⟩
theorem RotaOk.day {d : Int} {n m : Nat} {rows : List (List Int)} (h : RotaOk d n m rows) {day : Nat} (hd : (day : Int) < d) : ∀ row ∈ rows, day < row.length := fun row hr => by
  have := h.rl row hr
  omega
end My

set_option Elab.async false
set_option linter.all false
set_option maxRecDepth 100000
set_option maxHeartbeats 1000000
namespace My
open PySem L2
def isRow (d : Int) (h : Int) (ps : List Pst) (row : List Int) : Bool := decide ((row.length : Int) = d) && row.all fun v => decide (v ∈ ch h ps)
def rowB (d : Int) (hs : List Int) (ps : List Pst) (rows : List (List Int)) (j : Nat) : Bool := isRow d (hs[j]?.getD 0) ps (rows[j]?.getD [])
theorem flat_ints (ps : List Int) : (ps.map V.int).all flatV = true := by simp [List.all_eq_true, flatV]
theorem all_map_id (f : Nat → Bool) (n : Nat) : ((List.range n).map f).all id = (List.range n).all f := by
  simp [List.all_map]
theorem cut_take (xs : List V) (k : Nat) : cutV xs none (some (k : Int)) = xs.take k := by
  unfold cutV
  rw [HT.sIx_none, HT.sIx_nat, List.drop_zero, Nat.sub_zero]
  by_cases h : k ≤ xs.length
  · rw [Nat.min_eq_left h]
  · rw [Nat.min_eq_right (by omega), List.take_length, List.take_of_length_le (by omega)]
theorem paired_take {α β : Type} {F : α → β → Prop} : ∀ {xs : List α} {ys : List β} (n : Nat), Paired F xs ys → Paired F (xs.take n) (ys.take n)
  | _, _, 0, _ => by simp only [List.take_zero]; exact .nil
  | _, _, _ + 1, .nil => .nil
  | _, _, n + 1, .cons a r => .cons a (paired_take n r)
theorem Ok.cut {d : Int} {hs : List Int} {ps : List Pst} (h : Ok d hs ps) : ∀ d' : Int, 1 ≤ d' → d' ≤ 31 → Ok d' (hs.take 4) (ps.take 2) := fun d' h1 h2 =>
  ⟨h1, h2, fun x hx => h.h x (List.mem_of_mem_take hx), by rw [List.length_take]; have := h.hl; omega, fun x hx => h.p x (List.mem_of_mem_take hx), by rw [List.length_take]; have := h.pl; omega⟩
end My

set_option Elab.async false
set_option linter.all false
set_option maxRecDepth 100000
set_option maxHeartbeats 1000000
namespace My
open PySem L2
structure RotaT (d : Int) (hs : List Int) (ps : List Pst) (i : Nat) (rows : List (List Int)) : Prop where
  len : rows.length = i
  ok : ∀ j, j < i → rowB d hs ps rows j = true
section
variable {d : Int} {hs : List Int} {ps : List Pst} {i : Nat} {rows : List (List Int)} {row : List Int} {x : Int}
theorem RotaT.snoc (h : RotaT d hs ps i rows) (hh : hs[i]? = some x) (hr : isRow d x ps row = true) : RotaT d hs ps (i + 1) (rows ++ [row]) := by
  refine ⟨by rw [List.length_append, h.len]; rfl, fun j hj => ?_⟩
  unfold rowB
  by_cases e : j = i
  · subst e
    rw [hh, ← h.len, List.getElem?_append_right (Nat.le_refl _), Nat.sub_self]
    exact hr
  · have hj' : j < i := by omega
    rw [List.getElem?_append_left (by rw [h.len]; exact hj')]
    exact h.ok j hj'
end
section
variable {H : Hp} {us : List V} {rows : List (List Int)} {v : V} {row : List Int}
theorem Rows.ins : ∀ (k : Nat) {us : List V} {rows : List (List Int)}, Rows H us rows → RowV H v row → Rows H (us.take k ++ v :: us.drop k) (rows.take k ++ row :: rows.drop k)
  | 0, _, _, h, hv => .cons hv h
  | _ + 1, _, _, .nil, hv => .cons hv .nil
  | k + 1, _, _, .cons a r, hv => .cons a (Rows.ins k r hv)
theorem Rows.del : ∀ (k : Nat) {us : List V} {rows : List (List Int)}, Rows H us rows → Rows H (us.eraseIdx k) (rows.eraseIdx k)
  | _, _, _, .nil => by simp only [List.eraseIdx_nil]; exact .nil
  | 0, _, _, .cons _ r => r
  | k + 1, _, _, .cons a r => .cons a (Rows.del k r)
theorem nodup_ins {α : Type} {us : List α} {v : α} (k : Nat) (nd : us.Nodup) (hv : v ∉ us) : (us.take k ++ v :: us.drop k).Nodup := by
  refine (List.perm_middle.nodup_iff).mpr ?_
  rw [List.take_append_drop]
  exact List.nodup_cons.mpr ⟨hv, nd⟩
theorem mem_ins {α : Type} {us : List α} {v x : α} {k : Nat} (h : x ∈ us.take k ++ v :: us.drop k) : x = v ∨ x ∈ us := by
  rcases List.mem_append.mp h with z | z
  · exact .inr (List.mem_of_mem_take z)
  · rcases List.mem_cons.mp z with z | z
    · exact .inl z
    · exact .inr (List.mem_of_mem_drop z)
theorem len_ins {α : Type} {us : List α} {v : α} {k : Nat} : (us.take k ++ v :: us.drop k).length = us.length + 1 := by
  rw [List.length_append, List.length_cons, List.length_take, List.length_drop]
  omega
end
def CellV (H : Hp) (v : V) (q : Int × Int) : Prop := ∃ t, v = .ref t ∧ H t = some (.tup [.int q.1, .int q.2])
abbrev Cells (H : Hp) : List V → List (Int × Int) → Prop := Paired (CellV H)
theorem Cells.mono {H H' : Hp} (g : Same H H') {ts : List V} {qs : List (Int × Int)} (h : Cells H ts qs) : Cells H' ts qs := Paired.mapP h fun _ _ ⟨t, e, q⟩ => ⟨t, e, g _ _ q⟩
theorem Cells.len {H : Hp} {ts : List V} {qs : List (Int × Int)} (h : Cells H ts qs) : ts.length = qs.length := Paired.length h
theorem Cells.snoc {H : Hp} {ts : List V} {qs : List (Int × Int)} {v : V} {q : Int × Int} (h : Cells H ts qs) (hv : CellV H v q) : Cells H (ts ++ [v]) (qs ++ [q]) := by
  induction h with
  | nil => exact .cons hv .nil
  | cons a _ ih => exact .cons a ih
theorem Cells.get' {H : Hp} {ts : List V} {qs : List (Int × Int)} (h : Cells H ts qs) {i : Nat} {v : V} (e : ts[i]? = some v) : ∃ q, qs[i]? = some q ∧ CellV H v q := Paired.get' h e
theorem Cells.off {H : Hp} {ts : List V} {qs : List (Int × Int)} {l : Addr} {o : HO} (h : Cells H ts qs) (hl : ∀ xs, H l ≠ some (.tup xs)) : Cells (upd H l o) ts qs := Paired.mapP h fun _ _ ⟨t, e, q⟩ => ⟨t, e, by rw [upd_ne fun z => hl _ (by rw [← z]; exact q)]; exact q⟩
def cl (n k : Nat) : List (Int × Int) := (List.range k).map fun j => (((j % n : Nat) : Int), ((j / n : Nat) : Int))
structure Flt (H : Hp) (r : Addr) (us : List V) (n L : Nat) (H' : Hp) (us' : List V) (rows' : List (List Int)) : Prop where
  fr : ∀ c o, H c = some o → c ≠ r → V.ref c ∉ us → H' c = some o
  at_ : H' r = some (.lst us')
  rs : Rows H' us' rows'
  nd : us'.Nodup
  mem : ∀ t, V.ref t ∈ us' → V.ref t ∈ us ∨ H t = none
  nr : V.ref r ∉ us'
  len : rows'.length ≤ n
  rl : ∀ row ∈ rows', row.length ≤ L
section
variable {H H' H'' : Hp} {r : Addr} {us us' : List V} {rows rows' : List (List Int)} {n L : Nat}
theorem Rows.nor (hE : H r = some (.lst us)) (hR : Rows H us rows) : V.ref r ∉ us := fun z => by
  obtain ⟨row, e⟩ := hR.tracked z
  rw [hE] at e
  have e' : us = row.map V.int := by cases e; rfl
  rw [e'] at z
  obtain ⟨_, _, q⟩ := List.mem_map.mp z
  cases q
theorem Flt.start (hE : H r = some (.lst us)) (hR : Rows H us rows) (nd : us.Nodup) (hl : rows.length ≤ n) (hr : ∀ row ∈ rows, row.length ≤ L) : Flt H r us n L H us rows :=
  ⟨fun _ _ h _ _ => h, hE, hR, nd, fun _ h => .inl h, hR.nor hE, hl, hr⟩
theorem Flt.mono (F : Flt H r us n L H' us' rows') (g : Same H' H'') : Flt H r us n L H'' us' rows' :=
  ⟨fun c o h1 h2 h3 => g _ _ (F.fr c o h1 h2 h3), g _ _ F.at_, F.rs.mono g, F.nd, F.mem, F.nr, F.len, F.rl⟩
theorem Flt.more {m M : Nat} (F : Flt H r us n L H' us' rows') (h1 : n ≤ m) (h2 : L ≤ M) : Flt H r us m M H' us' rows' :=
  ⟨F.fr, F.at_, F.rs, F.nd, F.mem, F.nr, Nat.le_trans F.len h1, fun row h => Nat.le_trans (F.rl row h) h2⟩
theorem Flt.ins {p : Addr} {row : List Int} (k : Nat) (F : Flt H r us n L H' us' rows') (hp : H' p = none) (hr : row.length ≤ L) :
    Flt H r us (n + 1) L (upd (upd H' p (.lst (row.map V.int))) r (.lst (us'.take k ++ .ref p :: us'.drop k))) (us'.take k ++ .ref p :: us'.drop k) (rows'.take k ++ row :: rows'.drop k) := by
  have g := same_new hp (.lst (row.map V.int))
  have npr : p ≠ r := fun z => by rw [z, F.at_] at hp; cases hp
  have hnp : V.ref p ∉ us' := F.rs.notin hp
  have hnr : V.ref r ∉ us'.take k ++ .ref p :: us'.drop k := fun z => by
    rcases mem_ins z with z | z
    · exact npr (V.ref.inj z).symm
    · exact F.nr z
  refine ⟨fun c o h1 h2 h3 => ?_, upd_same, Rows.off (Rows.ins k (F.rs.mono g) ⟨p, rfl, upd_same⟩) hnr, nodup_ins k F.nd hnp, fun t ht => ?_, hnr, ?_, fun y hy => ?_⟩
  · rw [upd_ne h2]
    exact g _ _ (F.fr c o h1 h2 h3)
  · rcases mem_ins ht with z | z
    · have e : t = p := V.ref.inj z
      subst e
      by_cases hu : V.ref t ∈ us
      · exact .inl hu
      · refine .inr ?_
        cases e : H t with
        | none => rfl
        | some o => have := F.fr t o e npr hu; rw [hp] at this; cases this
    · exact F.mem t z
  · rw [len_ins]
    exact Nat.succ_le_succ F.len
  · rcases mem_ins hy with z | z
    · rw [z]; exact hr
    · exact F.rl y z
theorem Flt.del (k : Nat) (F : Flt H r us n L H' us' rows') : Flt H r us n L (upd H' r (.lst (us'.eraseIdx k))) (us'.eraseIdx k) (rows'.eraseIdx k) := by
  have hnr : V.ref r ∉ us'.eraseIdx k := fun z => F.nr (List.mem_of_mem_eraseIdx z)
  refine ⟨fun c o h1 h2 h3 => by rw [upd_ne h2]; exact F.fr c o h1 h2 h3, upd_same, Rows.off (F.rs.del k) hnr, F.nd.sublist (List.eraseIdx_sublist us' k), fun t ht => F.mem t (List.mem_of_mem_eraseIdx ht), hnr, ?_, fun y hy => F.rl y (List.mem_of_mem_eraseIdx hy)⟩
  exact Nat.le_trans (List.eraseIdx_sublist rows' k).length_le F.len
end
end My

set_option Elab.async false
set_option linter.all false
set_option maxRecDepth 100000
set_option maxHeartbeats 1000000
namespace My
open PySem L2 PySem.Spec PyProof.Rows
structure InsG (K : PySem.W.Frag) (C : Addr) : Prop where
  ha : PySem.W.findIn K (.ref C) "__class__" = some (some (.builtin "object.__class__"))
  hn : PySem.W.specialIn K (.builtin "object.__class__") "__get__" = some (some (.builtin "getset_descriptor.__get__"))
  htk : PySem.W.takesIn K (.builtin "object.__class__") = some true
  hm : PySem.W.mroIn K C (.type "object") = some true
section
variable {X : Cx}
end
end My
namespace My
open PySem L2
end My

set_option Elab.async false
set_option linter.all false
set_option maxRecDepth 100000
set_option maxHeartbeats 1000000
namespace My
open PySem L2
theorem paired_snoc {α β : Type} {F : α → β → Prop} {xs : List α} {ys : List β} {x : α} {y : β} (h : Paired F xs ys) (hx : F x y) : Paired F (xs ++ [x]) (ys ++ [y]) := by
  induction h with
  | nil => exact .cons hx .nil
  | cons a _ ih => exact .cons a ih
theorem paired_app {α β : Type} {F : α → β → Prop} {xs xs' : List α} {ys ys' : List β} (h : Paired F xs ys) (h' : Paired F xs' ys') : Paired F (xs ++ xs') (ys ++ ys') := by
  induction h with
  | nil => exact h'
  | cons a _ ih => exact .cons a ih
theorem take_one {α : Type} {xs : List α} {i : Nat} {x : α} (h : xs[i]? = some x) : xs.take (i + 1) = xs.take i ++ [x] := by
  rw [List.take_succ, h]
  rfl
def Tups (H H' : Hp) : Prop := ∀ a xs, H a = some (.tup xs) → H' a = some (.tup xs)
theorem Tups.trans {H H' H'' : Hp} (g : Tups H H') (g' : Tups H' H'') : Tups H H'' := fun a xs e => g' _ _ (g _ _ e)
structure Prt where
  h : Int
  d : Int
  p : Int
  n : Int
def PrtV (H : Hp) (v : V) (q : Prt) : Prop := ∃ t, v = .ref t ∧ H t = some (.tup [.int q.h, .int q.d, .int q.p, .int q.n])
abbrev Prts (H : Hp) : List V → List Prt → Prop := Paired (PrtV H)
theorem Prts.mono {H H' : Hp} (g : Tups H H') {ts : List V} {qs : List Prt} (h : Prts H ts qs) : Prts H' ts qs := Paired.mapP h fun _ _ ⟨t, e, q⟩ => ⟨t, e, g _ _ q⟩
structure Lin where
  ps : List Prt
  b : Int
def LinV (H : Hp) (v : V) (l : Lin) : Prop := ∃ t u ts, v = .ref t ∧ H t = some (.tup [.ref u, .int l.b]) ∧ H u = some (.tup ts) ∧ Prts H ts l.ps
abbrev Lins (H : Hp) : List V → List Lin → Prop := Paired (LinV H)
theorem LinV.mono {H H' : Hp} (g : Tups H H') {v : V} {l : Lin} (h : LinV H v l) : LinV H' v l := by
  obtain ⟨t, u, ts, e, h1, h2, h3⟩ := h
  exact ⟨t, u, ts, e, g _ _ h1, g _ _ h2, h3.mono g⟩
theorem Lins.mono {H H' : Hp} (g : Tups H H') {ts : List V} {ls : List Lin} (h : Lins H ts ls) : Lins H' ts ls := Paired.mapP h fun _ _ => LinV.mono g
end My
namespace My
open PySem L2
def hm (h m : Int) : List (Str × V) := putF "many" (.int m) (putF "hand" (.int h) [])
end My
namespace My
open PySem L2
end My
namespace My
open PySem L2
end My

set_option Elab.async false
set_option linter.all false
set_option maxRecDepth 100000
set_option maxHeartbeats 1000000
namespace My
open PySem L2
def at_ (bs : List Bool) (j : Nat) : Bool := bs[j]?.getD false
end My
namespace My
open PySem L2
theorem RotaOk.cut {d : Int} {n m : Nat} {rows : List (List Int)} (h : RotaOk (d + 1) n m rows) (hd : 0 ≤ d) : RotaOk d n m (rows.map fun r => r.take d.toNat) := by
  refine ⟨by rw [List.length_map]; exact h.len, fun r hr => ?_, fun r hr x hx => ?_⟩
  · obtain ⟨r0, h0, rfl⟩ := List.mem_map.mp hr
    have := h.rl r0 h0
    rw [List.length_take]
    omega
  · obtain ⟨r0, h0, rfl⟩ := List.mem_map.mp hr
    exact h.v r0 h0 x (List.mem_of_mem_take hx)
/-- a ward, a table of it and its posts -/
def AskV (C : Addr) (n : Nat) (H : Hp) (v : V) : Prop := ∃ (t y r pa : Addr) (d : Int) (hs : List Int) (ps : List Pst) (ts us : List V) (rows : List (List Int)), v = .ref t ∧ H t = some (.tup [.ref y, .ref r, .ref pa]) ∧ WardAt C H y d hs ps ∧ Ok d hs ps ∧ H r = some (.lst us) ∧ Rows H us rows ∧ RotaOk d hs.length ps.length rows ∧ H pa = some (.lst ts) ∧ Posts H ts ps ∧ hs.length = n
theorem AskV.mono {C : Addr} {n : Nat} {H H' : Hp} {v : V} (g : Same H H') (h : AskV C n H v) : AskV C n H' v := by
  obtain ⟨t, y, r, pa, d, hs, ps, ts, us, rows, e, h1, h2, h3, h4, h5, h6, h7, h8, h9⟩ := h
  exact ⟨t, y, r, pa, d, hs, ps, ts, us, rows, e, g _ _ h1, h2.mono g, h3, g _ _ h4, h5.mono g, h6, g _ _ h7, h8.mono g, h9⟩
theorem ixN_lt {n e : Nat} (h : e < n) : ixN n (e : Int) = some e := by
  unfold ixN
  rw [if_pos (by omega), if_pos (by omega), Int.toNat_natCast]
/-- a table's rows, each cut -/
structure CutI (H : Hp) (D : Addr) (rows : List (List Int)) (n i : Nat) (H' : Hp) : Prop where
  ex : ∃ us, Same H H' ∧ H' D = some (.lst us) ∧ Rows H' us ((rows.take i).map fun r => r.take n) ∧ ∀ t, V.ref t ∈ us → t ≠ D
theorem CutI.start {H : Hp} {D : Addr} {rows : List (List Int)} {n : Nat} (hD : H D = none) : CutI H D rows n 0 (upd H D (.lst [])) := ⟨[], same_new hD _, upd_same, .nil, fun t z => by cases z⟩
theorem CutI.step {H H' : Hp} {D l : Addr} {rows : List (List Int)} {n i : Nat} {row : List Int} (h : CutI H D rows n i H') (hD : H D = none) (hrow : rows[i]? = some row) (hl : H' l = none) (hi : i ≤ 900) :
    ∃ xs, upd H' l (.lst ((row.take n).map V.int)) D = some (.lst xs) ∧ xs.length < sizeLine ∧ CutI H D rows n (i + 1) (upd (upd H' l (.lst ((row.take n).map V.int))) D (.lst (xs ++ [.ref l]))) := by
  obtain ⟨us, g, e, hR, fr⟩ := h.ex
  have gl := same_new hl (.lst ((row.take n).map V.int))
  have hul := hR.len
  rw [List.length_map, List.length_take] at hul
  refine ⟨us, gl _ _ e, small1000 (by omega), us ++ [.ref l], same_upd hD (g.trans gl) _, upd_same, ?_, fun t ht => ?_⟩
  · rw [take_one hrow, List.map_append]
    refine Rows.off (Rows.snoc (hR.mono gl) ⟨l, rfl, upd_same⟩) fun z => ?_
    rcases List.mem_append.mp z with z | z
    · exact fr D z rfl
    · exact ne_of_none e hl (V.ref.inj (List.mem_singleton.mp z))
  · rcases List.mem_append.mp ht with z | z
    · exact fr t z
    · rw [V.ref.inj (List.mem_singleton.mp z)]
      exact (ne_of_none e hl).symm
end My
namespace My
open PySem L2
end My
namespace My
open PySem L2
theorem for_of {wi : TI} {g : TG} {tb : TS} {D : Ends} {σ : St} {H : Hp} (h : ∀ B : TS, B = tb → tFor wi g B D σ H) : tFor wi g tb D σ H := h tb rfl
end My

set_option Elab.async false
set_option linter.all false
set_option maxRecDepth 100000
namespace L2
open PySem PySem.Spec PyProof.Rows

section
variable {κ : Type} [DecidableEq κ]
def valV (kvs : List (κ × V)) (k : κ) : Option V := (kvs.find? fun kv => decide (kv.1 = k)).map (·.2)
/-- in its place, or at the end -/
def putK (kvs : List (κ × V)) (k : κ) (v : V) : List (κ × V) :=
  if (kvs.any fun kv => decide (kv.1 = k)) = true then kvs.map (fun kv => if kv.1 = k then (kv.1, v) else kv) else kvs ++ [(k, v)]
def dropK (kvs : List (κ × V)) (k : κ) : List (κ × V) := kvs.filter fun kv => decide (kv.1 ≠ k)

theorem valV_pos {p : κ × V} {r : List (κ × V)} {k : κ} (e : p.1 = k) : valV (p :: r) k = some p.2 := by simp [valV, List.find?_cons, e]
theorem valV_neg {p : κ × V} {r : List (κ × V)} {k : κ} (e : ¬ p.1 = k) : valV (p :: r) k = valV r k := by simp [valV, List.find?_cons, e]
theorem valV_any (k : κ) : ∀ kvs : List (κ × V), (kvs.any fun kv => decide (kv.1 = k)) = (valV kvs k).isSome
  | [] => rfl
  | p :: r => by
    rw [List.any_cons]
    by_cases e : p.1 = k
    · simp only [valV_pos e, decide_eq_true e, Bool.true_or, Option.isSome_some]
    · rw [valV_neg e, decide_eq_false e, Bool.false_or]; exact valV_any k r
theorem RelO.isSome_eq {o : Option V} {u : Option Value} (r : RelO o u) : o.isSome = u.isSome := by
  cases o with
  | none => cases u with
    | none => rfl
    | some _ => exact (show False from r).elim
  | some _ => cases u with
    | none => exact (show False from r).elim
    | some _ => rfl
theorem RelO.getD {o : Option V} {u : Option Value} {d : V} {d' : Value} (r : RelO o u) (rd : RelV d d') : RelV (o.getD d) (u.getD d') := by
  cases o with
  | none => cases u with
    | none => exact rd
    | some _ => exact (show False from r).elim
  | some _ => cases u with
    | none => exact (show False from r).elim
    | some _ => exact r

/-- raw tables of the same keys -/
theorem KV.val {kvs : List (κ × V)} {vs : List (κ × Value)} (r : KV kvs vs) (k : κ) : RelO (valV kvs k) (valueAt vs k) := by
  unfold KV at r
  induction r with
  | nil => exact True.intro
  | @cons p q ps qs h t ih =>
    obtain ⟨h1, h2⟩ := h
    by_cases e : p.1 = k
    · have e' : q.1 = k := h1.symm.trans e
      have b : valueAt (q :: qs) k = some q.2 := by simp [valueAt, List.find?_cons, e']
      rw [valV_pos e, b]; exact h2
    · have e' : ¬ q.1 = k := fun z => e (h1.trans z)
      have b : valueAt (q :: qs) k = valueAt qs k := by simp [valueAt, List.find?_cons, e']
      rw [valV_neg e, b]; exact ih
theorem KV.any {kvs : List (κ × V)} {vs : List (κ × Value)} (r : KV kvs vs) (k : κ) : (kvs.any fun kv => decide (kv.1 = k)) = vs.any fun kv => decide (kv.1 = k) := by
  unfold KV at r
  induction r with
  | nil => rfl
  | cons h t ih => rw [List.any_cons, List.any_cons, ih, h.1]
theorem KV.repl {kvs : List (κ × V)} {vs : List (κ × Value)} (r : KV kvs vs) (k : κ) {y : V} {u : Value} (ry : RelV y u) :
    KV (kvs.map fun kv => if kv.1 = k then (kv.1, y) else kv) (vs.map fun kv => if kv.1 = k then (kv.1, u) else kv) := by
  unfold KV at r ⊢
  induction r with
  | nil => exact .nil
  | @cons p q ps qs h t ih =>
    rw [List.map_cons, List.map_cons]
    refine .cons ?_ ih
    obtain ⟨h1, h2⟩ := h
    by_cases e : p.1 = k
    · rw [if_pos e, if_pos (h1.symm.trans e)]; exact ⟨h1, ry⟩
    · rw [if_neg e, if_neg (fun z => e (h1.trans z))]; exact ⟨h1, h2⟩
theorem KV.put {kvs : List (κ × V)} {vs : List (κ × Value)} (r : KV kvs vs) (k : κ) {y : V} {u : Value} (ry : RelV y u) : KV (putK kvs k y) (stored vs k u) := by
  unfold putK stored
  rw [r.any k]
  by_cases e : (vs.any fun kv => decide (kv.1 = k)) = true
  · rw [if_pos e, if_pos e]; exact r.repl k ry
  · rw [if_neg e, if_neg e]; exact Paired.snoc r ⟨rfl, ry⟩
theorem KV.drop {kvs : List (κ × V)} {vs : List (κ × Value)} (r : KV kvs vs) (k : κ) : KV (dropK kvs k) (without vs k) := by
  unfold KV at r ⊢
  unfold dropK without
  induction r with
  | nil => exact .nil
  | @cons p q ps qs h t ih =>
    obtain ⟨h1, h2⟩ := h
    rw [List.filter_cons, List.filter_cons]
    by_cases e : p.1 = k
    · have a : ¬ decide (p.1 ≠ k) = true := by simp [e]
      have b : ¬ decide (q.1 ≠ k) = true := by simp [h1.symm.trans e]
      rw [if_neg a, if_neg b]; exact ih
    · have e' : ¬ q.1 = k := fun z => e (h1.trans z)
      have a : decide (p.1 ≠ k) = true := by simp [e]
      have b : decide (q.1 ≠ k) = true := by simp [e']
      rw [if_pos a, if_pos b]; exact .cons ⟨h1, h2⟩ ih
theorem KV.keys {kvs : List (κ × V)} {vs : List (κ × Value)} (r : KV kvs vs) : kvs.map (·.1) = vs.map (·.1) := by
  unfold KV at r
  induction r with
  | nil => rfl
  | cons h t ih => rw [List.map_cons, List.map_cons, ih, h.1]
theorem KV.length {kvs : List (κ × V)} {vs : List (κ × Value)} (r : KV kvs vs) : kvs.length = vs.length := Paired.length r
end


/-- raw entries of a dict with tuple keys -/
abbrev KT (H : Hp) : List (List Key × V) → List (List Key × Addr × Value) → Prop := Paired fun p q => p.1 = q.1 ∧ H q.2.1 = some (.tup (p.1.map kV)) ∧ RelV p.2 q.2.2
theorem KT.val {H : Hp} {kvs : List (List Key × V)} {xs : List (List Key × Addr × Value)} (r : KT H kvs xs) (k : List Key) : RelO (valV kvs k) ((atKey xs k).map (·.2)) := by
  induction r with
  | nil => exact True.intro
  | @cons p q ps qs h t ih =>
    obtain ⟨h1, _, h2⟩ := h
    by_cases e : p.1 = k
    · have e' : q.1 = k := h1.symm.trans e
      have b : atKey (q :: qs) k = some q.2 := by simp [atKey, List.find?_cons, e']
      rw [valV_pos e, b]; exact h2
    · have e' : ¬ q.1 = k := fun z => e (h1.trans z)
      have b : atKey (q :: qs) k = atKey qs k := by simp [atKey, List.find?_cons, e']
      rw [valV_neg e, b]; exact ih
theorem KT.repl {H : Hp} {kvs : List (List Key × V)} {xs : List (List Key × Addr × Value)} (r : KT H kvs xs) (k : List Key) {y : V} {u : Value} (ry : RelV y u) :
    KT H (kvs.map fun kv => if kv.1 = k then (kv.1, y) else kv) (xs.map (putAt k u)) := by
  induction r with
  | nil => exact .nil
  | @cons p q ps qs h t ih =>
    rw [List.map_cons, List.map_cons]
    refine .cons ?_ ih
    obtain ⟨h1, h2, h3⟩ := h
    unfold putAt
    by_cases e : p.1 = k
    · rw [if_pos e, if_pos (h1.symm.trans e)]; exact ⟨h1, h2, ry⟩
    · rw [if_neg e, if_neg (fun z => e (h1.trans z))]; exact ⟨h1, h2, h3⟩
theorem KT.put {H : Hp} {kvs : List (List Key × V)} {xs : List (List Key × Addr × Value)} (r : KT H kvs xs) (k : List Key) {b : Addr} {y : V} {u : Value} (hb : H b = some (.tup (k.map kV))) (ry : RelV y u) :
    KT H (putK kvs k y) (storedH xs k b u) := by
  have e : (kvs.any fun kv => decide (kv.1 = k)) = (atKey xs k).isSome := by
    rw [valV_any, (r.val k).isSome_eq, Option.isSome_map]
  unfold putK storedH
  rw [e]
  by_cases q : (atKey xs k).isSome = true
  · rw [if_pos q, if_pos q]; exact r.repl k ry
  · rw [if_neg q, if_neg q]; exact Paired.snoc r ⟨rfl, hb, ry⟩
theorem KT.keeps {H H' : Hp} {kvs : List (List Key × V)} {xs : List (List Key × Addr × Value)} (r : KT H kvs xs) (ht : ∀ b ys, H b = some (.tup ys) → H' b = some (.tup ys)) : KT H' kvs xs :=
  Paired.mapP r fun _ _ z => ⟨z.1, ht _ _ z.2.1, z.2.2⟩

section
variable {P : Program} {w : World} {H : Hp} {h : Heap} {a : Addr}
end

/-- what the dict at a holds at the key y -/
def DGet (H : Hp) (a : Addr) (y : V) (r : Option V) : Prop :=
  (∃ kvs k, Rd H a (.dK kvs) ∧ y = kV k ∧ r = valV kvs k) ∨ ∃ kvs k b, Rd H a (.dT kvs) ∧ y = .ref b ∧ H b = some (.tup (k.map kV)) ∧ r = valV kvs k
/-- the heap behind a[y] = v -/
def DPut (H : Hp) (a : Addr) (y v : V) (H' : Hp) : Prop :=
  (∃ kvs k, H a = some (.dK kvs) ∧ y = kV k ∧ kvs.length < sizeLine ∧ H' = upd H a (.dK (putK kvs k v))) ∨
  ∃ kvs k b, H a = some (.dT kvs) ∧ y = .ref b ∧ H b = some (.tup (k.map kV)) ∧ kvs.length < sizeLine ∧ H' = upd H a (.dT (putK kvs k v))
theorem DGet.k {H : Hp} {a : Addr} {kvs : List (Key × V)} {k : Key} (e : H a = some (.dK kvs)) : DGet H a (kV k) (valV kvs k) := .inl ⟨kvs, k, .inl e, rfl, rfl⟩
theorem DGet.t {H : Hp} {a b : Addr} {kvs : List (List Key × V)} {k : List Key} (e : H a = some (.dT kvs)) (eb : H b = some (.tup (k.map kV))) : DGet H a (.ref b) (valV kvs k) := .inr ⟨kvs, k, b, .inl e, rfl, eb, rfl⟩
theorem DPut.k {H : Hp} {a : Addr} {kvs : List (Key × V)} {k : Key} {v : V} (e : H a = some (.dK kvs)) (hl : kvs.length < sizeLine) : DPut H a (kV k) v (upd H a (.dK (putK kvs k v))) := .inl ⟨kvs, k, e, rfl, hl, rfl⟩
theorem DPut.t {H : Hp} {a b : Addr} {kvs : List (List Key × V)} {k : List Key} {v : V} (e : H a = some (.dT kvs)) (eb : H b = some (.tup (k.map kV))) (hl : kvs.length < sizeLine) :
    DPut H a (.ref b) v (upd H a (.dT (putK kvs k v))) := .inr ⟨kvs, k, b, e, rfl, eb, hl, rfl⟩


section
variable {X : Cx} {pins : List (Addr × Obj)} {σ : St} {H : Hp} {s : Shared} {a : Addr} {y v : V} {u r : Value} {o : Option V} {A : Around} {E : Value → Shared → Prop}

end

section
variable {X : Cx} {pins : List (Addr × Obj)} {σ : St} {H : Hp} {s : Shared} {a : Addr} {kvs : List (Key × V)} {k : Key} {u : Value} {A : Around} {E : Value → Shared → Prop}
end


section
variable {X : Cx} {o i e value : Expr} {pos pos' tpos : Pos} {td ty tv : TE}
end


section
variable {X : Cx} {pos : Pos}
end

/-- a method call o.m(e) of a built-in, with one argument: what must be seen of the text -/
structure M1 (X : Cx) (o : Expr) (m : Str) (apos : Pos) (e : Expr) (cpos : Pos) : Prop where
  base : attributeBase o m X.env (eval o X.env) = eval o X.env
  few : ((backTo cpos (starEach [e] X.env)).all (fun x => !x.1) && (backToKw cpos (keywordEach [] X.env)).all (fun x => x.1.isSome)
    && decide (([e] : List Expr).length + ([] : List Keyword).length + (if ([] : List Keyword).isEmpty then 0 else 1) < 30)) = true
  line : (apos.endLine == cpos.line) = true
  trees : backTo cpos (starEach [e] X.env) = [(false, eval e X.env)]
structure M2 (X : Cx) (o : Expr) (m : Str) (apos : Pos) (e f : Expr) (cpos : Pos) : Prop where
  base : attributeBase o m X.env (eval o X.env) = eval o X.env
  few : ((backTo cpos (starEach [e, f] X.env)).all (fun x => !x.1) && (backToKw cpos (keywordEach [] X.env)).all (fun x => x.1.isSome)
    && decide (([e, f] : List Expr).length + ([] : List Keyword).length + (if ([] : List Keyword).isEmpty then 0 else 1) < 30)) = true
  line : (apos.endLine == cpos.line) = true
  trees : backTo cpos (starEach [e, f] X.env) = [(false, eval e X.env), (false, eval f X.env)]

section
variable {X : Cx} {pins : List (Addr × Obj)} {σ : St} {H : Hp} {s : Shared} {a : Addr} {y d : V} {u r : Value} {o : Option V} {A : Around} {E : Value → Shared → Prop}
end

section
variable {X : Cx} {o e f : Expr} {apos cpos : Pos} {td ty tx : TE}
end

section
variable {X : Cx} {pins : List (Addr × Obj)} {σ : St} {H : Hp} {s : Shared} {a : Addr} {kvs : List (Key × V)} {A : Around} {E : Value → Shared → Prop}
end


section
variable {X : Cx} {pins : List (Addr × Obj)} {σ : St} {H : Hp} {s : Shared} {a : Addr} {y : V} {u : Value} {A : Around} {E : Value → Shared → Prop}
end
end L2

set_option Elab.async false
set_option linter.all false
set_option maxRecDepth 100000
set_option maxHeartbeats 1000000
namespace L2
open PySem PySem.Spec PyProof.Rows
section
variable {prog : Program} {w : World} {A : Around} {E : Value → Shared → Prop} {s : Shared} {it d : Addr} {i ep : Nat} {es : Array DictEntry} {o : Obj}
end
section
variable {X : Cx} {pins : List (Addr × Obj)} {σ : St} {H : Hp} {s : Shared} {d : Addr} {kvs : List (List Key × V)}
end
end L2
namespace My
open PySem L2
end My

set_option Elab.async false
set_option linter.all false
set_option maxRecDepth 100000
set_option maxHeartbeats 1000000
namespace L2
open PySem PySem.Spec PyProof.Rows
variable {X : Cx}
theorem call_sumG (hc : X.calm = true) : CallR X (.builtin "sum") (fun xs H Q => ∃ (p : Addr) (ns : List Int), xs = [.ref p] ∧ SqL X.K H p (ns.map V.int) ∧ Q (.int ns.sum) H) := by
  intro pins s σ H xs us Q I r h
  obtain ⟨p, ns, rfl, hp, q⟩ := h
  obtain ⟨u, rfl, ru⟩ := vals1 r
  cases ru
  obtain ⟨its, ri, pl, hz⟩ := I.list hp
  have hl := ri.length
  rw [List.length_map] at hl
  refine call_sum_walkG (wpAny_pyIter_list pl.isList ?_)
  have hlt : p < s.heap.objs.size := by obtain ⟨o, e, _⟩ := pl.isList; exact Heap.lt_size e
  refine ⟨s.heap.objs.size, _, _, _, _, _, fun i => ns[i]?.getD 0, rfl, Walks.list (A := X.A.in1) (I.ok.hd hc) s.heap.objs.size p (Nat.ne_of_lt hlt) its.toArray, ⟨⟨_, Heap.get?_push_size _ rfl, rfl, rfl⟩, pl.isList.at fun o e => Heap.get?_push_of_some _ e⟩, ?_, ?_, ?_⟩
  · intro b hb
    have : b = s.heap.objs.size ∨ b = p := by simpa using hb
    rcases this with rfl | rfl
    · show _ < (Heap.push _ _).objs.size
      rw [Heap.size_push]; exact Nat.lt_succ_self _
    · show _ < (Heap.push _ _).objs.size
      rw [Heap.size_push]; exact Nat.lt_succ_of_lt hlt
  · intro i v hv
    have hv' : its[i]? = some v := by simpa using hv
    have hi : i < its.length := (List.getElem?_eq_some_iff.mp hv').1
    have hb : (ns.map V.int)[i]? = some (.int (ns[i]'(by omega))) := by rw [List.getElem?_map, List.getElem?_eq_getElem (by omega)]; rfl
    obtain ⟨w', e, rw'⟩ := ri.get hb
    rw [hv'] at e
    cases e
    obtain ⟨t, rfl⟩ := rw'
    exact ⟨t, by dsimp only; rw [List.getElem?_eq_getElem (by omega)]; rfl⟩
  · intro h' tk t' hk
    have e : preSum (fun i => ns[i]?.getD 0) its.toArray.size = ns.sum := by
      rw [List.size_toArray, ← hl, preSum_take ns _ (Nat.le_refl _), List.take_length]
    rw [e]
    refine ⟨.int _, H, I.kept fun b o e => hk b o ?_ (Heap.get?_push_of_some _ e), ⟨_, rfl⟩, q⟩
    intro z
    have z' : b = s.heap.objs.size := by simpa using z
    exact absurd (Heap.lt_size e) (by rw [z']; exact Nat.lt_irrefl _)
end L2

set_option Elab.async false
set_option linter.all false
set_option maxRecDepth 100000
set_option maxHeartbeats 1000000
namespace L2
open PySem
/-- the ints g 0 .. g (n - 1) -/
def il (n : Nat) (g : Nat → Int) : List Int := (List.range n).map g
theorem il_len (n : Nat) (g : Nat → Int) : (il n g).length = n := by unfold il; simp
theorem il_get {n : Nat} {g : Nat → Int} {k : Nat} (h : k < n) : (il n g)[k]? = some (g k) := by unfold il; simp [h]
theorem il_congr {n : Nat} {g f : Nat → Int} (h : ∀ k, k < n → g k = f k) : il n g = il n f := by
  unfold il
  exact List.map_congr_left fun k hk => h k (List.mem_range.mp hk)
theorem il_set (n : Nat) (g : Nat → Int) (k : Nat) (v : Int) : (il n g).set k v = il n fun x => if x = k then v else g x := by
  refine List.ext_getElem? fun i => ?_
  rw [List.getElem?_set]
  unfold il
  simp only [List.getElem?_map, List.length_map, List.length_range]
  by_cases hi : i < n
  · simp only [List.getElem?_range hi, Option.map_some]
    by_cases e : k = i
    · subst e; simp [hi]
    · have e' : ¬ i = k := fun z => e z.symm
      simp [e, e']
  · rw [List.getElem?_eq_none (by simpa using hi)]
    by_cases e : k = i
    · subst e; simp [hi]
    · simp [e]
theorem il_snoc (n : Nat) (g : Nat → Int) : il (n + 1) g = il n g ++ [g n] := by
  unfold il
  rw [List.range_succ, List.map_append]
  rfl
/-- the lists of a stage -/
structure Stg (seats : List (List Int)) (qs : List (Int × Int)) (lim : List Int) : Prop where
  sl : seats.length ≤ 200
  ql : qs.length ≤ 20
  ll : lim.length ≤ 20
  row : ∀ row ∈ seats, row.Nodup ∧ row.length ≤ 20 ∧ ∀ x ∈ row, 0 ≤ x ∧ x < (qs.length : Int)
  own : ∀ q ∈ qs, 0 ≤ q.1 ∧ q.1 < (lim.length : Int)
theorem cut_from (xs : List V) (k : Nat) : cutV xs (some (k : Int)) none = xs.drop k := by
  unfold cutV
  rw [HT.sIx_none, HT.sIx_nat]
  by_cases h : k ≤ xs.length
  · rw [Nat.min_eq_left h, List.take_of_length_le (by rw [List.length_drop]; omega)]
  · rw [Nat.min_eq_right (by omega), Nat.sub_self, List.take_zero, List.drop_of_length_le (by omega)]
theorem cut_map (ns : List Int) (lo hi : Option Int) : ∃ ms : List Int, cutV (ns.map V.int) lo hi = ms.map V.int ∧ ms.length ≤ ns.length := by
  refine ⟨(ns.drop (HT.sIx (ns.map V.int).length 0 lo)).take (HT.sIx (ns.map V.int).length (ns.map V.int).length hi - HT.sIx (ns.map V.int).length 0 lo), by unfold cutV; rw [List.map_take, List.map_drop], ?_⟩
  rw [List.length_take, List.length_drop]
  omega
end L2
namespace L2
open PySem
theorem set_ints (ns : List Int) (k : Nat) (v : Int) : (ns.map V.int).set k (V.int v) = (ns.set k v).map V.int := by rw [List.map_set]
theorem getD_of {α : Type} {l : List α} {n : Nat} {a d : α} (h : l[n]? = some a) : l.getD n d = a := by
  rw [List.getD_eq_getElem?_getD, h]
  rfl
theorem filter_snoc {α : Type} (p : α → Bool) (xs : List α) (a : α) : (xs ++ [a]).filter p = xs.filter p ++ if p a = true then [a] else [] := by
  rw [List.filter_append]
  congr 1
  by_cases h : p a = true
  · simp [h]
  · simp [h]
end L2
namespace My
open PySem L2
/-- a list of lists under way -/
structure Gath (H : Hp) (L : Addr) (Pr : List Int → Prop) (i : Nat) (H' : Hp) : Prop where
  ex : ∃ (us : List V) (rows : List (List Int)), rows.length = i ∧ Same H H' ∧ H' L = some (.lst us) ∧ Rows H' us rows ∧ (∀ row ∈ rows, Pr row) ∧ ∀ t, V.ref t ∈ us → t ≠ L ∧ H t = none
theorem Gath.start {H : Hp} {L : Addr} {Pr : List Int → Prop} (hL : H L = none) : Gath H L Pr 0 (upd H L (.lst [])) :=
  ⟨[], [], rfl, same_new hL _, upd_same, .nil, (fun r z => by cases z), fun t z => by cases z⟩
theorem Gath.same {H H' : Hp} {L : Addr} {Pr : List Int → Prop} {i : Nat} (h : Gath H L Pr i H') : Same H H' := by
  obtain ⟨_, _, _, g, _⟩ := h.ex
  exact g
theorem Gath.step {H H' H2 : Hp} {L l : Addr} {Pr : List Int → Prop} {i : Nat} {row : List Int} (h : Gath H L Pr i H') (hL : H L = none) (hi : i ≤ 900) (g2 : Same H' H2) (hl : H' l = none) (hl2 : H2 l = some (.lst (row.map V.int))) (hp : Pr row) :
    ∃ xs, H2 L = some (.lst xs) ∧ xs.length < sizeLine ∧ Gath H L Pr (i + 1) (upd H2 L (.lst (xs ++ [.ref l]))) := by
  obtain ⟨us, rows, hr, g, e, hR, hP, fr⟩ := h.ex
  have hul := hR.len
  have ne : L ≠ l := ne_of_none e hl
  refine ⟨us, g2 _ _ e, small1000 (by omega), us ++ [.ref l], rows ++ [row], by rw [List.length_append, hr]; rfl, same_upd hL (g.trans g2) _, upd_same, ?_, fun r hr' => ?_, fun t ht => ?_⟩
  · refine Rows.off (Rows.snoc (hR.mono g2) ⟨l, rfl, hl2⟩) fun z => ?_
    rcases List.mem_append.mp z with z | z
    · exact (fr L z).1 rfl
    · exact ne (V.ref.inj (List.mem_singleton.mp z))
  · rcases List.mem_append.mp hr' with z | z
    · exact hP r z
    · rw [List.mem_singleton.mp z]; exact hp
  · rcases List.mem_append.mp ht with z | z
    · exact fr t z
    · rw [V.ref.inj (List.mem_singleton.mp z)]
      exact ⟨ne.symm, g.free hl⟩
/-- a list of pairs under way -/
structure GatC (H : Hp) (L : Addr) (Pr : Int × Int → Prop) (i : Nat) (H' : Hp) : Prop where
  ex : ∃ (ts : List V) (qs : List (Int × Int)), qs.length = i ∧ Same H H' ∧ H' L = some (.lst ts) ∧ Cells H' ts qs ∧ ∀ q ∈ qs, Pr q
theorem GatC.start {H : Hp} {L : Addr} {Pr : Int × Int → Prop} (hL : H L = none) : GatC H L Pr 0 (upd H L (.lst [])) :=
  ⟨[], [], rfl, same_new hL _, upd_same, .nil, (fun r z => by cases z)⟩
theorem GatC.same {H H' : Hp} {L : Addr} {Pr : Int × Int → Prop} {i : Nat} (h : GatC H L Pr i H') : Same H H' := by
  obtain ⟨_, _, _, g, _⟩ := h.ex
  exact g
theorem GatC.step {H H' : Hp} {L t : Addr} {Pr : Int × Int → Prop} {i : Nat} {a b : Int} (h : GatC H L Pr i H') (hL : H L = none) (hi : i ≤ 900) (ht : H' t = none) (hp : Pr (a, b)) :
    ∃ xs, upd H' t (.tup [.int a, .int b]) L = some (.lst xs) ∧ xs.length < sizeLine ∧ GatC H L Pr (i + 1) (upd (upd H' t (.tup [.int a, .int b])) L (.lst (xs ++ [.ref t]))) := by
  obtain ⟨ts, qs, hr, g, e, hC, hP⟩ := h.ex
  have htl := hC.len
  have gt := same_new ht (.tup [.int a, .int b])
  refine ⟨ts, gt _ _ e, small1000 (by omega), ts ++ [.ref t], qs ++ [(a, b)], by rw [List.length_append, hr]; rfl, same_upd hL (g.trans gt) _, upd_same, ?_, fun r hr' => ?_⟩
  · refine Cells.off (Cells.snoc (hC.mono gt) ⟨t, rfl, upd_same⟩) fun xs z => ?_
    rw [gt _ _ e] at z
    cases z
  · rcases List.mem_append.mp hr' with z | z
    · exact hP r z
    · rw [List.mem_singleton.mp z]; exact hp
theorem map_item {ns : List Int} {i : Nat} {v : V} (h : (ns.map V.int)[i]? = some v) : ∃ x, ns[i]? = some x ∧ v = .int x := by
  rw [List.getElem?_map] at h
  cases hz : ns[i]? with
  | none => rw [hz] at h; cases h
  | some x => rw [hz] at h; exact ⟨x, rfl, (Option.some.inj h).symm⟩
/-- a row of a stage -/
def RowOk (m : Nat) (row : List Int) : Prop := row.Nodup ∧ row.length ≤ 20 ∧ ∀ x ∈ row, 0 ≤ x ∧ x < (m : Int)
theorem RowOk.take {m : Nat} {row : List Int} (h : RowOk m row) (k : Nat) : RowOk m (row.take k) :=
  ⟨h.1.sublist (List.take_sublist _ _), Nat.le_trans (by rw [List.length_take]; omega) h.2.1, fun x hx => h.2.2 x (List.mem_of_mem_take hx)⟩
end My
namespace My
open PySem L2
end My

set_option Elab.async false
set_option linter.all false
set_option maxRecDepth 100000
set_option maxHeartbeats 1000000
namespace My
open PySem L2
theorem Rows.keep {H H' : Hp} {ts : List V} {rows : List (List Int)} (h : Rows H ts rows) : (∀ t o, V.ref t ∈ ts → H t = some o → H' t = some o) → Rows H' ts rows := by
  induction h with
  | nil => exact fun _ => .nil
  | cons a _ ih =>
    obtain ⟨t, rfl, q⟩ := a
    exact fun k => .cons ⟨t, rfl, k t _ (List.mem_cons_self ..) q⟩ (ih fun t o ht => k t o (List.mem_cons_of_mem _ ht))
theorem Rows.self {H : Hp} {s : Addr} {us : List V} {rows : List (List Int)} (h : Rows H us rows) (e : H s = some (.lst us)) : V.ref s ∉ us := fun z => by
  obtain ⟨row, q⟩ := h.tracked z
  rw [e] at q
  have q' : us = row.map V.int := HO.lst.inj (Option.some.inj q)
  rw [q'] at z
  obtain ⟨x, _, e'⟩ := List.mem_map.mp z
  cases e'
theorem not_nil {ds : List DV} (h : (!eqD (.lst ds) (.lst (([] : List Int).map DV.int))) = true) : ds ≠ [] := fun z => by
  subst z
  rw [show (DV.lst (([] : List Int).map DV.int)) = DV.lst [] from rfl, eqD_same] at h
  cases h
end My

set_option Elab.async false
set_option linter.all false
set_option maxRecDepth 100000
set_option maxHeartbeats 1000000
namespace L2
open PySem PySem.Spec PyProof.Rows
section
variable {X : Cx}
theorem count_eqU {x : V} : ∀ {xs : List V} {us : List Value}, Vals xs us → xs.all flatV = true → us.countP (eqU x) = xs.countP fun y => eqV y x
  | _, _, .nil, _ => rfl
  | y :: xs, u :: us, .cons r t, f => by
    rw [List.all_cons, Bool.and_eq_true] at f
    rw [List.countP_cons, List.countP_cons, eqU_of r f.1, count_eqU t f.2]
def rCount : V → List V → Hp → VK → Prop := fun x vs H Q => ∃ l xs y, x = .ref l ∧ vs = [y] ∧ H l = some (.lst xs) ∧ flatV y = true ∧ xs.all flatV = true ∧ Q (.int ((xs.countP fun z => eqV z y : Nat) : Int)) H
theorem mt_count : MtM X "list.count" rCount := by
  intro pins s σ H x vs v us Q I rx rv h
  obtain ⟨l, xs, y, rfl, rfl, hH, fy, fs, q⟩ := h
  cases rx
  obtain ⟨u, rfl, ru⟩ := vals1 rv
  obtain ⟨z, its, n, r, hl, e⟩ := I.lstM hH
  refine call_meets F.slot_list_count ⟨_, e, rfl⟩ F.entry_list_count (F.args_list_count_2 _ _) (SeqAt.list_countAt l its.toArray n none #[] u (eqU y)) ⟨e, fun w hw => mem_eqAt ru fy r fs w (by simpa using hw), ?_⟩
  refine ⟨.int _, H, I.tok _, ⟨_, rfl⟩, ?_⟩
  rw [show its.toArray.toList = its by simp, count_eqU r fs]
  exact q
end
end L2
namespace My
abbrev Off := Option Int × Int
structure Spt where
  o : Int
  fs : List Off
structure SpOk (M O : Nat) (s : Spt) : Prop where
  ne : s.fs ≠ []
  len : s.fs.length ≤ 30
  nd : (s.fs.map (·.1)).Nodup
  col : ∀ f ∈ s.fs, ∀ c : Int, f.1 = some c → 0 ≤ c ∧ c < (M : Int)
  own : 0 ≤ s.o ∧ s.o < (O : Int)
def costAt (s : Spt) (c : Option Int) : Int := ((s.fs.filter fun f => decide (f.1 = c)).map (·.2)).sum
def costOf : List Spt → List (Option Int) → Int
  | s :: ss, c :: cs => costAt s c + costOf ss cs
  | _, _ => 0
theorem costOf_snoc : ∀ (ss : List Spt) (cs : List (Option Int)) (s : Spt) (c : Option Int), ss.length = cs.length → costOf (ss ++ [s]) (cs ++ [c]) = costOf ss cs + costAt s c
  | [], [], s, c, _ => by simp [costOf]
  | [], _ :: _, _, _, h => by simp at h
  | _ :: _, [], _, _, h => by simp at h
  | a :: ss, b :: cs, s, c, h => by
    simp only [List.cons_append, costOf]
    rw [costOf_snoc ss cs s c (by simpa using h)]
    omega
/-- the one offer of a column -/
theorem filter_one {s : Spt} (nd : (s.fs.map (·.1)).Nodup) {f : Off} (hf : f ∈ s.fs) : (s.fs.filter fun g => decide (g.1 = f.1)) = [f] := by
  obtain ⟨o, fs⟩ := s
  dsimp only at *
  induction fs with
  | nil => cases hf
  | cons g fs ih =>
    rw [List.map_cons, List.nodup_cons] at nd
    rcases List.mem_cons.mp hf with rfl | h
    · rw [List.filter_cons_of_pos (by simp)]
      congr 1
      rw [List.filter_eq_nil_iff]
      intro a ha z
      exact nd.1 (by rw [← of_decide_eq_true z]; exact List.mem_map_of_mem ha)
    · rw [List.filter_cons_of_neg (by
        intro z
        have e := of_decide_eq_true z
        exact nd.1 (by rw [e]; exact List.mem_map_of_mem h))]
      exact ih nd.2 h
theorem costAt_one {s : Spt} (nd : (s.fs.map (·.1)).Nodup) {f : Off} (hf : f ∈ s.fs) : costAt s f.1 = f.2 := by
  unfold costAt
  rw [filter_one nd hf]
  simp
def gotN (cs : List (Option Int)) (k : Nat) : Int := ((cs.countP fun c => decide (c = some (k : Int)) : Nat) : Int)
def busyN : List Spt → List (Option Int) → Nat → Int
  | s :: ss, c :: cs, o => (if c.isSome ∧ s.o = (o : Int) then 1 else 0) + busyN ss cs o
  | _, _, _ => 0
theorem busyN_snoc : ∀ (ss : List Spt) (cs : List (Option Int)) (s : Spt) (c : Option Int) (o : Nat), ss.length = cs.length → busyN (ss ++ [s]) (cs ++ [c]) o = busyN ss cs o + if c.isSome ∧ s.o = (o : Int) then 1 else 0
  | [], [], s, c, o, _ => by simp [busyN]
  | [], _ :: _, _, _, _, h => by simp at h
  | _ :: _, [], _, _, _, h => by simp at h
  | a :: ss, b :: cs, s, c, o, h => by
    simp only [List.cons_append, busyN]
    rw [busyN_snoc ss cs s c o (by simpa using h)]
    omega
theorem busyN_le : ∀ (ss : List Spt) (cs : List (Option Int)) (o : Nat), busyN ss cs o ≤ ss.length ∧ 0 ≤ busyN ss cs o
  | [], _, _ => by simp [busyN]
  | _ :: _, [], _ => by simp [busyN]; omega
  | s :: ss, c :: cs, o => by
    have := busyN_le ss cs o
    simp only [busyN, List.length_cons]
    split <;> omega
end My
namespace My
open PySem L2
def oV : Option Int → V
  | none => .non
  | some i => .int i
theorem oV_flat (o : Option Int) : flatV (oV o) = true := by cases o <;> rfl
theorem oV_eq (a b : Option Int) : eqV (oV a) (oV b) = decide (a = b) := by
  cases a <;> cases b
  · rfl
  · rfl
  · rfl
  · rename_i i j
    show (i == j) = _
    rw [Bool.eq_iff_iff]
    simp
theorem oV_scal (a b : Option Int) : scal (oV a) (oV b) = true := by cases a <;> cases b <;> rfl
theorem oV_dec (a b : Option Int) : decide (oV a = oV b) = decide (a = b) := by
  cases a <;> cases b <;> simp [oV]
def OffV (H : Hp) (v : V) (f : Off) : Prop := ∃ t, v = .ref t ∧ H t = some (.tup [oV f.1, .int f.2])
abbrev Offs (H : Hp) : List V → List Off → Prop := Paired (OffV H)
theorem Offs.mono {H H' : Hp} (g : Same H H') {ts : List V} {fs : List Off} (h : Offs H ts fs) : Offs H' ts fs := Paired.mapP h fun _ _ ⟨t, e, q⟩ => ⟨t, e, g _ _ q⟩
theorem Offs.off {H : Hp} {ts : List V} {fs : List Off} {l : Addr} {o : HO} (h : Offs H ts fs) (hl : ∀ xs, H l ≠ some (.tup xs)) : Offs (upd H l o) ts fs := Paired.mapP h fun _ _ ⟨t, e, q⟩ => ⟨t, e, by rw [upd_ne fun z => hl _ (by rw [← z]; exact q)]; exact q⟩
def SpV (H : Hp) (v : V) (s : Spt) : Prop := ∃ t l ts, v = .ref t ∧ H t = some (.tup [.int s.o, .ref l]) ∧ H l = some (.lst ts) ∧ Offs H ts s.fs
abbrev Spts (H : Hp) : List V → List Spt → Prop := Paired (SpV H)
theorem SpV.mono {H H' : Hp} (g : Same H H') {v : V} {s : Spt} (h : SpV H v s) : SpV H' v s := by
  obtain ⟨t, l, ts, e, h1, h2, h3⟩ := h
  exact ⟨t, l, ts, e, g _ _ h1, g _ _ h2, h3.mono g⟩
theorem Spts.mono {H H' : Hp} (g : Same H H') {ts : List V} {ss : List Spt} (h : Spts H ts ss) : Spts H' ts ss := Paired.mapP h fun _ _ => SpV.mono g
def fD (f : Off) : DV := .tup [(match f.1 with | none => .non | some i => .int i), .int f.2]
def sD (s : Spt) : DV := .tup [.int s.o, .lst (s.fs.map fD)]
theorem den_non {K : PySem.W.Frag} {H : Hp} {n : Nat} : Den K H n .non .non := by cases n <;> trivial
theorem den_oV {K : PySem.W.Frag} {H : Hp} {n : Nat} (o : Option Int) : Den K H n (oV o) (match o with | none => .non | some i => .int i) := by
  cases o
  · exact den_non
  · exact den_int
theorem den_offs {K : PySem.W.Frag} {H : Hp} {n : Nat} {a : Addr} {ts : List V} {fs : List Off} (h : SqL K H a ts) (hT : Offs H ts fs) : Den K H (n + 2) (.ref a) (.lst (fs.map fD)) := by
  refine ⟨_, h, ?_⟩
  clear h
  induction hT with
  | nil => exact .nil
  | cons a _ ih =>
    obtain ⟨t, rfl, q⟩ := a
    exact .cons ⟨_, SqT.of q, .cons (den_oV _) (.cons den_int .nil)⟩ ih
theorem den_spts {K : PySem.W.Frag} {H : Hp} {n : Nat} {a : Addr} {ts : List V} {ss : List Spt} (h : SqL K H a ts) (hT : Spts H ts ss) : Den K H (n + 4) (.ref a) (.lst (ss.map sD)) := by
  refine ⟨_, h, ?_⟩
  clear h
  induction hT with
  | nil => exact .nil
  | cons a _ ih =>
    obtain ⟨t, l, us, rfl, q1, q2, q3⟩ := a
    exact .cons ⟨_, SqT.of q1, .cons den_int (.cons (den_offs (SqL.of q2) q3) .nil)⟩ ih
theorem os_flat (cs : List (Option Int)) : (cs.map oV).all flatV = true := by simp [List.all_eq_true, oV_flat]
theorem os_count (cs : List (Option Int)) (k : Nat) : (((cs.map oV).countP fun z => eqV z (.int (k : Int)) : Nat) : Int) = gotN cs k := by
  unfold gotN
  rw [List.countP_map]
  congr 2
  funext c
  exact oV_eq c (some (k : Int))
theorem os_item {cs : List (Option Int)} {i : Nat} {v : V} (h : (cs.map oV)[i]? = some v) : ∃ c, cs[i]? = some c ∧ v = oV c := by
  rw [List.getElem?_map] at h
  cases hz : cs[i]? with
  | none => rw [hz] at h; cases h
  | some x => rw [hz] at h; exact ⟨x, rfl, (Option.some.inj h).symm⟩
end My

set_option Elab.async false
set_option linter.all false
set_option maxRecDepth 100000
set_option maxHeartbeats 1000000
namespace My
open PySem L2
/-- xs[t:] + xs[:t], whatever the items -/
theorem turned_ofV {K : PySem.W.Frag} {H : Hp} {L : Addr} {ts : List V} {t : Nat} {Q : Addr → Hp → Prop} (e : H L = some (.lst ts)) (hl : ts.length ≤ 400)
    (q : ∀ p H', Same H H' → H p = none → H' p = some (.lst (ts.drop t ++ ts.take t)) → Q p H') :
    ∃ x1, SqL K H L x1 ∧ ∀ p, H p = none → ∃ x2, SqL K (upd H p (.lst (cutV x1 (some (t : Int)) none))) L x2 ∧ ∀ p1, upd H p (.lst (cutV x1 (some (t : Int)) none)) p1 = none →
      ∃ x3, upd (upd H p (.lst (cutV x1 (some (t : Int)) none))) p1 (.lst (cutV x2 none (some (t : Int)))) p = some (.lst x3) ∧ ∃ x4, upd (upd H p (.lst (cutV x1 (some (t : Int)) none))) p1 (.lst (cutV x2 none (some (t : Int)))) p1 = some (.lst x4) ∧
        x3.length + x4.length ≤ sizeLine ∧ ∀ p2, upd (upd H p (.lst (cutV x1 (some (t : Int)) none))) p1 (.lst (cutV x2 none (some (t : Int)))) p2 = none →
          Q p2 (upd (upd (upd H p (.lst (cutV x1 (some (t : Int)) none))) p1 (.lst (cutV x2 none (some (t : Int))))) p2 (.lst (x3 ++ x4))) := by
  refine ⟨_, SqL.of e, fun p hp => ⟨_, SqL.of (same_new hp _ _ _ e), fun p1 hp1 => ?_⟩⟩
  have g1 := same_new hp (.lst (cutV ts (some (t : Int)) none))
  have g2 := g1.trans (same_new hp1 (.lst (cutV ts none (some (t : Int)))))
  refine ⟨_, by rw [upd_ne (ne_of_none upd_same hp1)]; exact upd_same, _, upd_same, ?_, fun p2 hp2 => q p2 _ (g2.trans (same_new hp2 _)) (g2.free hp2) ?_⟩
  · have h1 := cutV_length ts (some (t : Int)) none
    have h2 := cutV_length ts none (some (t : Int))
    exact small1000' (by omega)
  · rw [upd_same, cut_from, cut_take]
/-- the numbers of a pricing -/
structure Pcs (ss : List Spt) (cols lim ys zs : List Int) : Prop where
  ok : ∀ s ∈ ss, SpOk cols.length lim.length s
  sl : ss.length ≤ 20
  yl : cols.length = ys.length
  zl : lim.length = zs.length
  cl : cols.length ≤ 30
  ll : lim.length ≤ 30
  cb : ∀ c ∈ cols, -(2 ^ 60) < c ∧ c < 2 ^ 60
  lb : ∀ c ∈ lim, -(2 ^ 60) < c ∧ c < 2 ^ 60
end My
namespace My
open PySem L2
theorem oV_inj {a b : Option Int} (h : oV a = oV b) : a = b := by
  have := oV_dec a b
  rw [decide_eq_true h] at this
  exact of_decide_eq_true this.symm
theorem Offs.get {H : Hp} {ts : List V} {fs : List Off} (h : Offs H ts fs) {i : Nat} {f : Off} (e : fs[i]? = some f) : ∃ t, ts[i]? = some (.ref t) ∧ H t = some (.tup [oV f.1, .int f.2]) := by
  obtain ⟨v, hv, t, rfl, q⟩ := Paired.getR h e
  exact ⟨t, hv, q⟩
theorem Spts.get {H : Hp} {us : List V} {ss : List Spt} (h : Spts H us ss) {i : Nat} {s : Spt} (e : ss[i]? = some s) : ∃ t l ts, us[i]? = some (.ref t) ∧ H t = some (.tup [.int s.o, .ref l]) ∧ H l = some (.lst ts) ∧ Offs H ts s.fs := by
  obtain ⟨v, hv, t, l, ts, rfl, q⟩ := Paired.getR h e
  exact ⟨t, l, ts, hv, q⟩
/-- spots stay where a list that none of them has is written -/
theorem Spts.off {H : Hp} {us : List V} {ss : List Spt} {L : Addr} {o : HO} (h : Spts H us ss) (hl : ∀ xs, H L ≠ some (.tup xs)) (hn : ∀ t a l, V.ref t ∈ us → H t = some (.tup [.int a, .ref l]) → l ≠ L) : Spts (upd H L o) us ss := by
  induction h with
  | nil => exact .nil
  | cons a _ ih =>
    obtain ⟨t, l, ts, rfl, h1, h2, h3⟩ := a
    refine .cons ⟨t, l, ts, rfl, ?_, ?_, h3.off hl⟩ (ih fun t a l ht => hn t a l (List.mem_cons_of_mem _ ht))
    · rw [upd_ne fun z => hl _ (by rw [← z]; exact h1)]; exact h1
    · rw [upd_ne (hn t _ l (List.mem_cons_self ..) h1)]; exact h2
end My
namespace My
open PySem L2
theorem Spts.tup {H : Hp} {us : List V} {ss : List Spt} (h : Spts H us ss) {t : Addr} (ht : V.ref t ∈ us) : ∃ a l, H t = some (.tup [.int a, .ref l]) := by
  induction h with
  | nil => cases ht
  | cons a _ ih =>
    obtain ⟨t', l, ts, rfl, h1, h2, h3⟩ := a
    rcases List.mem_cons.mp ht with z | z
    · cases z
      exact ⟨_, _, h1⟩
    · exact ih z
end My
namespace L2
open PySem PySem.Spec PyProof.Rows
theorem pe_bmK {X : Cx} {K : PySem.W.Frag} {o e : Expr} {es : List Expr} {to : TE} {t : TA} {name : Str} {apos cpos : Pos} {T id : String} {r : V → List V → Hp → VK → Prop} (hK : X.K = K) (pa : PlainAttrs T) (slot : Slot T name id) (hty : typeOf (.builtin id) = pure (.type "method_descriptor")) (hm : MtR X id r) (ho : PE X o to) (ha : PA X (e :: es) t)
    (hbase : attributeBase o name X.env (eval o X.env) = eval o X.env := by rfl)
    (hfew : ((backTo cpos (starEach (e :: es) X.env)).all (fun x => !x.1) && (backToKw cpos (keywordEach [] X.env)).all (fun x => x.1.isSome)
      && decide ((e :: es).length + ([] : List Keyword).length + (if ([] : List Keyword).isEmpty then 0 else 1) < 30)) = true := by rfl)
    (hline : (apos.endLine == cpos.line) = true := by rfl) (hs : starEach (e :: es) X.env = (false, eval e X.env) :: starEach es X.env := by rfl) (hplain : (backTo cpos (starEach es X.env)).any (·.1) = false := by rfl) :
    PE X (.Call (.Attribute o name apos) (e :: es) [] cpos) (tBM K T r to t) := by
  subst hK
  exact pe_bm pa slot hty hm ho ha hbase hfew hline hs hplain
end L2
namespace My
open PySem L2
theorem busy_set {O o : Nat} {ss : List Spt} {cs : List (Option Int)} {s : Spt} {x : Int} (hl : ss.length = cs.length) (ho : s.o = (o : Int)) :
    (il O (busyN ss cs)).set o (busyN ss cs o + 1) = il O (busyN (ss ++ [s]) (cs ++ [some x])) := by
  rw [il_set]
  refine il_congr fun k _ => ?_
  rw [busyN_snoc _ _ _ _ _ hl, ho]
  by_cases z : k = o
  · subst z; simp
  · rw [if_neg z, if_neg (by simp; omega)]; omega
theorem busy_none {O : Nat} {ss : List Spt} {cs : List (Option Int)} {s : Spt} (hl : ss.length = cs.length) : il O (busyN (ss ++ [s]) (cs ++ [none])) = il O (busyN ss cs) := by
  refine il_congr fun k _ => ?_
  rw [busyN_snoc _ _ _ _ _ hl]
  simp
end My
namespace My
open PySem L2
theorem paired_drop {α β : Type} {F : α → β → Prop} : ∀ {xs : List α} {ys : List β} (k : Nat), Paired F xs ys → Paired F (xs.drop k) (ys.drop k)
  | _, _, 0, h => h
  | _, _, _ + 1, .nil => .nil
  | _, _, k + 1, .cons _ t => paired_drop k t
theorem SpOk.perm {M O : Nat} {s : Spt} (h : SpOk M O s) {fs : List Off} (p : fs.Perm s.fs) : SpOk M O ⟨s.o, fs⟩ :=
  ⟨fun z => h.ne (by rw [show fs = [] from z] at p; exact p.symm.eq_nil), by rw [show (Spt.mk s.o fs).fs = fs from rfl, p.length_eq]; exact h.len, (p.map _).nodup_iff.mpr h.nd, fun f hf c hc => h.col f (p.mem_iff.mp hf) c hc, h.own⟩
theorem turn_permA {α : Type} (xs : List α) (k : Nat) : (xs.drop k ++ xs.take k).Perm xs := by
  refine List.perm_append_comm.trans ?_
  rw [List.take_append_drop]
theorem ins_perm {α : Type} (xs : List α) (a : α) (k : Nat) : (xs.take k ++ a :: xs.drop k).Perm (a :: xs) := by
  refine List.perm_middle.trans ?_
  rw [List.take_append_drop]
/-- one more spot -/
theorem Spts.grow {H' H2 : Hp} {L t l : Addr} {us ts : List V} {ss : List Spt} {s : Spt} (e : H' L = some (.lst us)) (hS : Spts H' us ss) (fr : ∀ t a l, V.ref t ∈ us → H' t = some (.tup [.int a, .ref l]) → l ≠ L) (g : Same H' H2) (hl : H' l = none)
    (e1 : H2 t = some (.tup [.int s.o, .ref l])) (e2 : H2 l = some (.lst ts)) (hO : Offs H2 ts s.fs) :
    Spts (upd H2 L (.lst (us ++ [.ref t]))) (us ++ [.ref t]) (ss ++ [s]) ∧ ∀ t' a' l', V.ref t' ∈ us ++ [.ref t] → upd H2 L (.lst (us ++ [.ref t])) t' = some (.tup [.int a', .ref l']) → l' ≠ L := by
  have nLl : l ≠ L := (ne_of_none e hl).symm
  have key : ∀ t' a' l', V.ref t' ∈ us ++ [.ref t] → H2 t' = some (.tup [.int a', .ref l']) → l' ≠ L := by
    intro t' a' l' ht' e'
    rcases List.mem_append.mp ht' with z | z
    · obtain ⟨a3, l3, e3⟩ := hS.tup z
      rw [g _ _ e3] at e'
      cases e'
      exact fr t' _ _ z e3
    · cases List.mem_singleton.mp z
      rw [e1] at e'
      cases e'
      exact nLl
  refine ⟨Spts.off (paired_snoc (hS.mono g) ⟨t, l, ts, rfl, e1, e2, hO⟩) (fun xs z => by rw [g _ _ e] at z; cases z) key, fun t' a' l' ht' e' => key t' a' l' ht' ?_⟩
  by_cases z : t' = L
  · subst z
    rw [upd_same] at e'
    cases e'
  · rw [upd_ne z] at e'
    exact e'
end My
namespace My
open PySem L2
theorem ins_ok {M : Nat} {H : Hp} {ts : List V} {fs : List Off} {t : Addr} {v : Int} (k : Nat) (hF : Offs H ts fs) (et : H t = some (.tup [.non, .int v])) (hl : fs.length ≤ 24) (nd : (fs.map (·.1)).Nodup) (hb : ∀ f ∈ fs, ∃ c : Int, f.1 = some c ∧ 0 ≤ c ∧ c < (M : Int)) :
    Offs H (ts.take k ++ .ref t :: ts.drop k) (fs.take k ++ (none, v) :: fs.drop k) ∧ fs.take k ++ (none, v) :: fs.drop k ≠ [] ∧ (fs.take k ++ (none, v) :: fs.drop k).length ≤ 25 ∧ ((fs.take k ++ (none, v) :: fs.drop k).map (·.1)).Nodup ∧ ∀ f ∈ fs.take k ++ (none, v) :: fs.drop k, ∀ c : Int, f.1 = some c → 0 ≤ c ∧ c < (M : Int) := by
  have p : (fs.take k ++ (none, v) :: fs.drop k).Perm ((none, v) :: fs) := ins_perm fs (none, v) k
  refine ⟨paired_app (paired_take k hF) (.cons ⟨t, rfl, et⟩ (paired_drop k hF)), by simp, by rw [p.length_eq, List.length_cons]; omega, (p.map _).nodup_iff.mpr ?_, fun f hf c hc => ?_⟩
  · rw [List.map_cons, List.nodup_cons]
    refine ⟨fun z => ?_, nd⟩
    obtain ⟨f, hf, e⟩ := List.mem_map.mp z
    obtain ⟨c, h1, _⟩ := hb f hf
    rw [h1] at e
    cases e
  · rcases List.mem_cons.mp (p.mem_iff.mp hf) with rfl | h
    · cases hc
    · obtain ⟨c', h1, h2⟩ := hb f h
      rw [h1] at hc
      cases hc
      exact h2
theorem off_step {i : Nat} {fs : List Off} {v : Int} (nd : (fs.map (·.1)).Nodup) (hb : ∀ f ∈ fs, ∃ c : Int, f.1 = some c ∧ 0 ≤ c ∧ c < (i : Int)) :
    ((fs ++ [(some (i : Int), v)]).map (·.1)).Nodup ∧ ∀ f ∈ fs ++ [(some (i : Int), v)], ∃ c : Int, f.1 = some c ∧ 0 ≤ c ∧ c < ((i + 1 : Nat) : Int) := by
  refine ⟨?_, fun f hf => ?_⟩
  · rw [List.map_append, List.nodup_append]
    refine ⟨nd, by simp, fun a ha b hb2 => ?_⟩
    obtain ⟨f, hf, e⟩ := List.mem_map.mp ha
    obtain ⟨c, h1, h2, h3⟩ := hb f hf
    have e2 : b = some (i : Int) := by simpa using hb2
    intro z
    rw [← e, h1, e2] at z
    have := Option.some.inj z
    omega
  · rcases List.mem_append.mp hf with z | z
    · obtain ⟨c, h1, h2, h3⟩ := hb f z
      exact ⟨c, h1, h2, by omega⟩
    · rw [List.mem_singleton.mp z]
      exact ⟨i, rfl, by omega, by omega⟩
end My
namespace My
open PySem L2
def oD : Option Int → DV
  | none => .non
  | some i => .int i
theorem den_oD {K : PySem.W.Frag} {H : Hp} {n : Nat} {a : Addr} {cs : List (Option Int)} (h : SqL K H a (cs.map oV)) : Den K H (n + 1) (.ref a) (.lst (cs.map oD)) := by
  refine ⟨_, h, ?_⟩
  clear h
  induction cs with
  | nil => exact .nil
  | cons a _ ih => exact .cons (by cases a; exact den_non; exact den_int) ih
theorem snoc_lt {l : List Int} {a : Int} {k : Nat} (h : k < l.length) : (l ++ [a]).getD k 0 = l.getD k 0 := by
  rw [List.getD_eq_getElem?_getD, List.getD_eq_getElem?_getD, List.getElem?_append_left h]
theorem snoc_eq {l : List Int} {a : Int} {k : Nat} (h : k = l.length) : (l ++ [a]).getD k 0 = a := by
  subst h
  rw [List.getD_eq_getElem?_getD, List.getElem?_append_right (Nat.le_refl _), Nat.sub_self]
  rfl
theorem gotN_le (cs : List (Option Int)) (k : Nat) : 0 ≤ gotN cs k ∧ gotN cs k ≤ cs.length := by
  unfold gotN
  have := List.countP_le_length (p := fun c => decide (c = some (k : Int))) (l := cs)
  omega
end My

set_option Elab.async false
set_option linter.all false
set_option maxRecDepth 100000
set_option maxHeartbeats 1000000
namespace My
open PySem L2
def offAt (ss : List Spt) (cs : List (Option Int)) (i : Nat) : Bool := decide (cs.getD i none ∈ (ss.getD i ⟨0, []⟩).fs.map (·.1))
def enAt (cols : List Int) (cs : List (Option Int)) (k : Nat) : Bool := decide (cols.getD k 0 ≤ gotN cs k)
def boAt (ss : List Spt) (lim : List Int) (cs : List (Option Int)) (o : Nat) : Bool := decide (busyN ss cs o ≤ lim.getD o 0)
def offB (ss : List Spt) (cs : List (Option Int)) : Bool := decide (cs.length = ss.length) && (List.range ss.length).all (offAt ss cs)
def enB (cols : List Int) (cs : List (Option Int)) : Bool := (List.range cols.length).all (enAt cols cs)
def boB (ss : List Spt) (lim : List Int) (cs : List (Option Int)) : Bool := (List.range lim.length).all (boAt ss lim cs)
def dealB (ss : List Spt) (cols lim : List Int) (cs : List (Option Int)) : Bool := offB ss cs && (enB cols cs && boB ss lim cs)
def workL : List Spt → List (Option Int) → List Int
  | s :: ss, c :: cs => (if c.isSome then [s.o] else []) ++ workL ss cs
  | _, _ => []
theorem workL_snoc : ∀ (ss : List Spt) (cs : List (Option Int)) (s : Spt) (c : Option Int), ss.length = cs.length → workL (ss ++ [s]) (cs ++ [c]) = workL ss cs ++ if c.isSome then [s.o] else []
  | [], [], s, c, _ => by simp [workL]
  | [], _ :: _, _, _, h => by simp at h
  | _ :: _, [], _, _, h => by simp at h
  | a :: ss, b :: cs, s, c, h => by
    simp only [List.cons_append, workL]
    rw [workL_snoc ss cs s c (by simpa using h), List.append_assoc]
theorem workL_len : ∀ (ss : List Spt) (cs : List (Option Int)), (workL ss cs).length ≤ ss.length
  | [], _ => by simp [workL]
  | _ :: _, [] => by simp [workL]
  | s :: ss, c :: cs => by
    have := workL_len ss cs
    simp only [workL, List.length_append, List.length_cons]
    split
    · simp; omega
    · simp; omega
theorem eqV_int (i j : Int) : eqV (.int i) (.int j) = decide (i = j) := by
  show (i == j) = _
  rw [Bool.eq_iff_iff]
  simp
theorem workL_count : ∀ (ss : List Spt) (cs : List (Option Int)) (o : Nat), ((((workL ss cs).map V.int).countP fun z => eqV z (.int (o : Int)) : Nat) : Int) = busyN ss cs o
  | [], _, _ => by simp [workL, busyN]
  | _ :: _, [], _ => by simp [workL, busyN]
  | s :: ss, c :: cs, o => by
    have ih := workL_count ss cs o
    simp only [workL, busyN]
    rw [List.map_append, List.countP_append]
    cases c with
    | none => simpa using ih
    | some x =>
      simp only [Option.isSome_some, if_true, true_and, List.map_cons, List.map_nil, List.countP_cons, List.countP_nil, eqV_int]
      by_cases z : s.o = (o : Int)
      · simp only [z, decide_true, if_true]
        omega
      · simp only [z, decide_false, if_false, Bool.false_eq_true]
        omega
theorem all_false {f : Nat → Bool} {n i : Nat} (hi : i < n) (h : f i = false) : (List.range n).all f = false := by
  cases e : (List.range n).all f with
  | false => rfl
  | true =>
    have := List.all_eq_true.mp e i (List.mem_range.mpr hi)
    rw [h] at this
    cases this
theorem all_true {f : Nat → Bool} {n : Nat} (h : ∀ i, i < n → f i = true) : (List.range n).all f = true := List.all_eq_true.mpr fun i hi => h i (List.mem_range.mp hi)
theorem all_get {f : Nat → Bool} {n i : Nat} (h : (List.range n).all f = true) (hi : i < n) : f i = true := List.all_eq_true.mp h i (List.mem_range.mpr hi)
theorem offAt_of {ss : List Spt} {cs : List (Option Int)} {i : Nat} {s : Spt} {c : Option Int} (hs : ss[i]? = some s) (hc : cs[i]? = some c) : offAt ss cs i = decide (c ∈ s.fs.map (·.1)) := by
  unfold offAt
  rw [getD_of hs, getD_of hc]
theorem offB_in {ss : List Spt} {cs : List (Option Int)} (h : offB ss cs = true) : ss.length = cs.length ∧ ∀ (i : Nat) s c, ss[i]? = some s → cs[i]? = some c → c ∈ s.fs.map (·.1) := by
  unfold offB at h
  rw [Bool.and_eq_true] at h
  refine ⟨(of_decide_eq_true h.1).symm, fun i s c hs hc => ?_⟩
  have := all_get h.2 (List.getElem?_eq_some_iff.mp hs).1
  rw [offAt_of hs hc] at this
  exact of_decide_eq_true this
theorem inOs (c : Option Int) (xs : List (Option Int)) : inV (oV c) (xs.map oV) = decide (c ∈ xs) := by
  unfold inV
  rw [List.any_map, Bool.eq_iff_iff, List.any_eq_true, decide_eq_true_eq]
  constructor
  · rintro ⟨x, hx, e⟩
    have e' : eqV (oV x) (oV c) = true := e
    rw [oV_eq] at e'
    rw [← of_decide_eq_true e']
    exact hx
  · intro h
    exact ⟨c, h, by show eqV (oV c) (oV c) = true; rw [oV_eq]; simp⟩
theorem range_snoc (f : Nat → Bool) (i : Nat) : (List.range (i + 1)).map f = (List.range i).map f ++ [f i] := by
  rw [List.range_succ, List.map_append]
  rfl
/-- the lists that are spoilt -/
structure SpS (H : Hp) (pc pl r : Addr) (nc nl nd : Nat) (H' : Hp) : Prop where
  ex : ∃ (cols lim : List Int) (cs : List (Option Int)), (∀ a o, H a = some o → a ≠ pc → a ≠ pl → a ≠ r → H' a = some o) ∧ H' pc = some (.lst (cols.map V.int)) ∧ H' pl = some (.lst (lim.map V.int)) ∧ H' r = some (.lst (cs.map oV)) ∧ cols.length = nc ∧ lim.length = nl ∧ cs.length ≤ nd
theorem SpS.mono {H H1 H' : Hp} {pc pl r : Addr} {nc nl nd : Nat} (h : SpS H pc pl r nc nl nd H1) (g : Same H1 H') : SpS H pc pl r nc nl nd H' := by
  obtain ⟨cols, lim, cs, f, h1, h2, h3, r⟩ := h.ex
  exact ⟨cols, lim, cs, fun a o e n1 n2 n3 => g _ _ (f a o e n1 n2 n3), g _ _ h1, g _ _ h2, g _ _ h3, r⟩
theorem map_set_oV (cs : List (Option Int)) (k : Nat) (c : Option Int) : (cs.map oV).set k (oV c) = (cs.set k c).map oV := by rw [List.map_set]
end My
namespace L2
open PySem PySem.Spec PyProof.Rows
theorem pi_listK {X : Cx} {K : PySem.W.Frag} {tg l : Expr} {tl : TE} (hK : X.K = K) (hl : PE X l tl) : PI X tg l (iList K tl) := by subst hK; exact pi_list hl
end L2
namespace My
open PySem L2
theorem emod_nat (n : Int) {m : Nat} (h : 0 < m) : ∃ k : Nat, n % (m : Int) = k ∧ k < m := by
  have h1 := Int.emod_nonneg n (b := (m : Int)) (by omega)
  have h2 := Int.emod_lt_of_pos n (b := (m : Int)) (by omega)
  exact ⟨(n % (m : Int)).toNat, by omega, by omega⟩
structure SpK (H : Hp) (pc pl r : Addr) (nc nl nd : Nat) (w : Int) (k : Nat) (H' : Hp) : Prop where
  ex : ∃ (cols lim : List Int) (cs : List (Option Int)), (∀ a o, H a = some o → a ≠ pc → a ≠ pl → a ≠ r → H' a = some o) ∧ H' pc = some (.lst (cols.map V.int)) ∧ H' pl = some (.lst (lim.map V.int)) ∧ H' r = some (.lst (cs.map oV)) ∧ cols.length = nc ∧ lim.length = nl ∧ cs.length ≤ nd ∧ (w = 3 ∨ k < cs.length)
theorem SpK.toS {H H' : Hp} {pc pl r : Addr} {nc nl nd : Nat} {w : Int} {k : Nat} (h : SpK H pc pl r nc nl nd w k H') : SpS H pc pl r nc nl nd H' := by
  obtain ⟨cols, lim, cs, f, h1, h2, h3, h4, h5, h6, _⟩ := h.ex
  exact ⟨cols, lim, cs, f, h1, h2, h3, h4, h5, h6⟩
/-- a cell is written -/
theorem SpK.put {H H' : Hp} {pc pl r : Addr} {nc nl nd : Nat} {w : Int} {k : Nat} (h : SpK H pc pl r nc nl nd w k H') (hw : w ≠ 3) (n1 : pc ≠ r) (n2 : pl ≠ r) (c : Option Int) : ∃ xs, H' r = some (.lst xs) ∧ ixN xs.length (k : Int) = some k ∧ SpK H pc pl r nc nl nd w k (upd H' r (.lst (xs.set k (oV c)))) := by
  obtain ⟨cols, lim, cs, f, h1, h2, h3, h4, h5, h6, h7⟩ := h.ex
  have hk : k < cs.length := h7.resolve_left hw
  refine ⟨_, h3, by rw [List.length_map]; exact ixN_lt hk, cols, lim, cs.set k c, fun a o e x y z => by rw [upd_ne z]; exact f a o e x y z, by rw [upd_ne n1]; exact h1, by rw [upd_ne n2]; exact h2, by rw [upd_same, map_set_oV], h4, h5, by rw [List.length_set]; exact h6, .inr (by rw [List.length_set]; exact hk)⟩
end My
namespace My
open PySem L2
theorem era_oV : ∀ (cs : List (Option Int)) (k : Nat), (cs.map oV).eraseIdx k = (cs.eraseIdx k).map oV
  | [], _ => rfl
  | _ :: _, 0 => rfl
  | a :: cs, k + 1 => by
    show oV a :: (cs.map oV).eraseIdx k = oV a :: (cs.eraseIdx k).map oV
    rw [era_oV cs k]
theorem deal_off {ss : List Spt} {cols lim : List Int} {cs : List (Option Int)} (h : offB ss cs = false) : dealB ss cols lim cs = false := by unfold dealB; rw [h, Bool.false_and]
theorem deal_en {ss : List Spt} {cols lim : List Int} {cs : List (Option Int)} (h : enB cols cs = false) : dealB ss cols lim cs = false := by unfold dealB; rw [h, Bool.false_and, Bool.and_false]
theorem deal_bo {ss : List Spt} {cols lim : List Int} {cs : List (Option Int)} (h : boB ss lim cs = false) : dealB ss cols lim cs = false := by unfold dealB; rw [h, Bool.and_false, Bool.and_false]
theorem off_len {ss : List Spt} {cs : List (Option Int)} (h : ¬ cs.length = ss.length) : offB ss cs = false := by unfold offB; rw [decide_eq_false h, Bool.false_and]
theorem off_at {ss : List Spt} {cs : List (Option Int)} {i : Nat} (hi : i < ss.length) (h : offAt ss cs i = false) : offB ss cs = false := by unfold offB; rw [all_false hi h, Bool.and_false]
end My

set_option Elab.async false
set_option linter.all false
set_option maxRecDepth 100000
set_option maxHeartbeats 1000000
namespace My
open PySem L2
def top (i : Nat) : Stmt := PySem.Challenge.pw_rotaward_k47_what_is_a_dealing.main.body.getD i (.Pass ⟨0, 0, 0, 0⟩)
abbrev s_cost_of : Stmt := top 1
abbrev s_cost_at : Stmt := top 2
abbrev s_is_dealing : Stmt := top 3
abbrev s_are_offered : Stmt := top 4
abbrev s_is_enough : Stmt := top 5
abbrev s_is_borne : Stmt := top 6
abbrev s__law_cell_at : Stmt := top 8
abbrev s__law_stream : Stmt := top 9
abbrev s__law_whole : Stmt := top 10
abbrev s__law_spot : Stmt := top 11
abbrev s__law_cost : Stmt := top 12
abbrev s__law_spots : Stmt := top 13
abbrev s__law_copy : Stmt := top 14
abbrev s__law_limit : Stmt := top 15
abbrev s__law_picked : Stmt := top 16
abbrev s__law_counts : Stmt := top 17
abbrev s__law_cost_of : Stmt := top 18
abbrev s__law_dealing : Stmt := top 19
abbrev s__law_spoilt : Stmt := top 20
abbrev s__law_good : Stmt := top 21
abbrev s_law : Stmt := top 22
structure Txt (mg : Str → Option Value) : Prop where
  all : mg "all" = none
  bool : mg "bool" = none
  enumerate : mg "enumerate" = none
  int : mg "int" = none
  isinstance : mg "isinstance" = none
  len : mg "len" = none
  list : mg "list" = none
  max : mg "max" = none
  range : mg "range" = none
  sum : mg "sum" = none
  zip : mg "zip" = none
section
variable {P : Program} {w : World} {K : PySem.W.Frag} {mg : Str → Option Value} {base : Heap}
local macro_rules | `(tactic| walk_at "rd") => `(tactic| try simp only [tSeq, tRet, tRetN, tIfS, tNext, tDrop, tOp, tUn, tVar, tC, rI0, rI, rU, rEq, rNe, L2.start, tAsg, gName, tTest, tB, tCB, tCons, tNil, rIxL, rIxT, tNot, tAnd, tOr, tNotV, tAndV, tOrV, tCall, rIsi, iRng1, iRng2, tFor, tWhile, tChain, tIf, tTup, tLst, tComp, tBlk, compSt, tTrue, Cx.comp, List.replicate_one, List.replicate_zero, Option.getD_some, tBM, tBM0, rLen, rListOf, rTupL, tRaise, tCallX, tDropX, tSetX, tTry0, tTryA, Ends.gone, rIsx, rExc, vO, tFld, tMeth, tMake, sFld, iEnL, iEnT, gTup, gCons, gNil, gSub, rSetL, rCat, rInsert, tSl, tNoPart, tPart, rSlL, rAppend, rClear, iList, iTup, cxOf, Cx.nox, Cx.wish, List.map_cons, List.map_nil, List.length_cons, List.length_nil, Nat.reduceAdd, Nat.reduceSub, List.reduceReplicate, List.cons_append, List.nil_append, List.append_nil, List.getElem?_cons_zero, List.getElem?_cons_succ, List.set_cons_zero, List.set_cons_succ, Option.some.injEq, V.int.injEq, V.bl.injEq, V.ref.injEq, V.str.injEq, V.ty.injEq, List.cons.injEq, and_true, true_and, and_assoc, exists_eq_left, exists_eq_left', exists_eq_right, exists_eq, exists_eq', exists_and_left, exists_const, decide_eq_true_eq, scal_ii, scal_bb, scal_ss, tEqI', Bool.not_eq_true', Bool.not_eq_true, decide_eq_false_iff_not, if_true, if_false, Bool.false_eq_true, reduceIte, tyN_int, tyN_bl, tyN_str, tyN_ref, okT_int, okT_bool, okT_str, okT_list, okT_tuple, subN_ii, subN_ib, subN_bb, subN_bi, subN_ss, subN_ll, subN_tt, Bool.not_true, Bool.not_false, not_true_eq_false, Bool.true_eq_false, rRep, iZip, tLRev, rIn, rCount, rPopAt])
end
end My

set_option Elab.async false
set_option linter.all false
set_option maxRecDepth 100000
set_option maxHeartbeats 4000000
namespace My
open PySem L2
section
variable {P : Program} {w : World} {K : PySem.W.Frag} {mg : Str → Option Value} {base : Heap}
local macro_rules | `(tactic| walk_at "rd") => `(tactic| try simp only [tSeq, tRet, tRetN, tIfS, tNext, tDrop, tOp, tUn, tVar, tC, rI0, rI, rU, rEq, rNe, L2.start, tAsg, gName, tTest, tB, tCB, tCons, tNil, rIxL, rIxT, tNot, tAnd, tOr, tNotV, tAndV, tOrV, tCall, rIsi, iRng1, iRng2, tFor, tWhile, tChain, tIf, tTup, tLst, tComp, tBlk, compSt, tTrue, Cx.comp, List.replicate_one, List.replicate_zero, Option.getD_some, tBM, tBM0, rLen, rListOf, rTupL, tRaise, tCallX, tDropX, tSetX, tTry0, tTryA, Ends.gone, rIsx, rExc, vO, tFld, tMeth, tMake, sFld, iEnL, iEnT, gTup, gCons, gNil, gSub, rSetL, rCat, rInsert, tSl, tNoPart, tPart, rSlL, rAppend, rClear, iList, iTup, cxOf, Cx.nox, Cx.wish, List.map_cons, List.map_nil, List.length_cons, List.length_nil, Nat.reduceAdd, Nat.reduceSub, List.reduceReplicate, List.cons_append, List.nil_append, List.append_nil, List.getElem?_cons_zero, List.getElem?_cons_succ, List.set_cons_zero, List.set_cons_succ, Option.some.injEq, V.int.injEq, V.bl.injEq, V.ref.injEq, V.str.injEq, V.ty.injEq, List.cons.injEq, and_true, true_and, and_assoc, exists_eq_left, exists_eq_left', exists_eq_right, exists_eq, exists_eq', exists_and_left, exists_const, decide_eq_true_eq, scal_ii, scal_bb, scal_ss, tEqI', Bool.not_eq_true', Bool.not_eq_true, decide_eq_false_iff_not, if_true, if_false, Bool.false_eq_true, reduceIte, tyN_int, tyN_bl, tyN_str, tyN_ref, okT_int, okT_bool, okT_str, okT_list, okT_tuple, subN_ii, subN_ib, subN_bb, subN_bi, subN_ss, subN_ll, subN_tt, Bool.not_true, Bool.not_false, not_true_eq_false, Bool.true_eq_false, rRep, iZip, tLRev, rIn, rCount, rPopAt])
def sp_are_offered (K : PySem.W.Frag)  : Sp := fun vs H Q _ => ∃ (p d : Addr) (us : List V) (ss : List Spt) (cs : List (Option Int)), vs = [.ref p, .ref d] ∧ H p = some (.lst us) ∧ Spts H us ss ∧ H d = some (.lst (cs.map oV)) ∧ ss.length ≤ 20 ∧ cs.length ≤ 40 ∧ (∀ s ∈ ss, s.fs.length ≤ 30) ∧ ∀ H', Same H H' → Q (.bl (offB ss cs)) H'
theorem sc_are_offered : FnScope ["spots", "dealt"] ["spots", "dealt"] (defScope s_are_offered) := ⟨rfl, rfl, rfl, by decide +kernel, rfl, by decide +kernel, by decide +kernel⟩
theorem ok_are_offered {f : Addr} {fd : FuncData} (F : Fun K "are_offered" "are_offered" s_are_offered f fd) (T : Txt mg)  : FnOk P w K mg base CX0 1 f fd ["spots", "dealt"] (sp_are_offered K) := by
  refine F.ok sc_are_offered (fun vs H Q E h => ?_) (fun cdv A outer s H vs Q E hr h => ?_)
  · obtain ⟨p, d, us, ss, cs, rfl, _⟩ := h
    rfl
  · obtain ⟨p, d, us, ss, cs, rfl, hp, hS, hd, hn, hcn, hf, q⟩ := h
    refine ⟨_, (pss_cons (ps_if (pt_cmpR op_ne (pe_callB (call_lenK (K := K) rfl) (by rfl) T.len PySem.boot_len (pa_cons (pv 1) pa_nil)) (pe_callB (call_lenK (K := K) rfl) (by rfl) T.len PySem.boot_len (pa_cons (pv 0) pa_nil)) (nomark _)) (pss_one (ps_ret pe_bl)) pss_nil)
    (pss_one (ps_ret (pe_callB (call_all rfl) (by rfl) T.all PyProof.Rows.boot_all (pa_cons (pe_comp (own := ["spot", "column"]) (fnames := []) (fr := []) (N' := ["spot", "column"]) ⟨rfl, rfl, rfl, rfl, rfl, rfl, rfl⟩ rfl (pi_zip rfl T.zip (pa_cons (pv 0) (pa_cons (pv 1) pa_nil))) (fun s0 H0 fp0 C0 => ⟨(pg_tupK (K := K) (n := 2) rfl rfl (pgs_cons (pg_name (i := 0) (by show (["spot", "column"] : List Str).Nodup; decide +kernel) rfl (Or.inl rfl)) (pgs_cons (pg_name (i := 1) (by show (["spot", "column"] : List Str).Nodup; decide +kernel) rfl (Or.inl rfl)) pgs_nil))), pts_nil, (pe_cmpR (op_in_seqK (K := K) rfl) (pv 1) (pe_comp (own := ["offer"]) (fnames := []) (fr := []) (N' := ["offer"]) ⟨rfl, rfl, rfl, rfl, rfl, rfl, rfl⟩ rfl (pi_listK (K := K) rfl (pe_ix (ix_tupK (K := K) rfl) (pv 0) pe_int (fun _ _ => rfl))) (fun s0 H0 fp0 C0 => ⟨(pg_name (i := 0) (by show (["offer"] : List Str).Nodup; decide +kernel) rfl (Or.inl rfl)), pts_nil, (pe_ix (ix_tupK (K := K) rfl) (pv 0) pe_int (fun _ _ => rfl))⟩)) (by with_unfolding_all rfl))⟩)) pa_nil))))), ?_⟩
    have hul := Paired.length hS
    refine seq_of fun U1 u1 => ?_
    walk_at "rd"
    refine ⟨_, .inl (SqL.of hd), _, .inl (SqL.of hp), ?_⟩
    rw [List.length_map, hul]
    by_cases hlen : cs.length = ss.length
    · rw [if_neg (fun w => w (by rw [hlen]))]
      rw [u1]; clear u1
      walk_at "rd"
      refine ⟨⟨_, SqL.of hp⟩, ⟨_, SqL.of hd⟩, fun L hL => for_zipW (xs := us) (ys := cs.map oV) (fun i σ H' => Same H H' ∧ H' L = some (.lst (((List.range i).map (offAt ss cs)).map V.bl)) ∧ ∃ v0 v1, σ = [v0, v1]) (by rw [List.length_map]; omega) ⟨same_new hL _, upd_same, none, none, rfl⟩ (fun i σ H' _ hh => ⟨SqL.of (hh.1 _ _ hp), SqL.of (hh.1 _ _ hd)⟩) ?_ ?_⟩
      · rintro i x y σ H' t hx1 hy1 ⟨g, e, v0, v1, rfl⟩ ht
        obtain ⟨s, hs, t2, l2, ts2, rfl, q1, q2, q3⟩ := Paired.get' hS hx1
        obtain ⟨c, hc, rfl⟩ := os_item hy1
        have hi := (List.getElem?_eq_some_iff.mp hs).1
        have gt := same_new ht (.tup [.ref t2, oV c])
        have gg := g.trans gt
        have htl := Paired.length q3
        have hfl := hf s (List.mem_of_getElem? hs)
        walk_at "rd"
        refine ⟨_, SqT.of upd_same, rfl, _, _, rfl, _, _, rfl, rfl, ?_⟩
        walk_at "rd"
        refine ⟨_, SqT.of (gg _ _ q1), _, rfl, l2, rfl, ⟨_, SqL.of (gg _ _ q2)⟩, fun D hD => for_listW (xs := ts2) (fun j σ H2 => Same (upd H' t (.tup [.ref t2, oV c])) H2 ∧ H2 D = some (.lst (((s.fs.take j).map (·.1)).map oV)) ∧ ∃ v0, σ = [v0]) ⟨same_new hD _, upd_same, none, rfl⟩ (fun j σ H2 _ hh => SqL.of (hh.1 _ _ (gg _ _ q2))) ?_ ?_⟩
        · rintro j v σ H2 hv ⟨g2, e2, v0, rfl⟩
          obtain ⟨f, hf', t3, rfl, q4⟩ := Paired.get' q3 hv
          have hj := (List.getElem?_eq_some_iff.mp hf').1
          walk_at "rd"
          refine ⟨_, SqT.of ((gg.trans g2) _ _ q4), _, rfl, _, e2, small1000 (by rw [List.length_map, List.length_map, List.length_take]; omega), same_upd hD g2 _, ?_⟩
          rw [upd_same, take_one hf', List.map_append, List.map_append]
          rfl
        rintro σ H2 ⟨g2, e2, v0, rfl⟩
        rw [htl, List.take_length] at e2
        refine ⟨_, .inl (SqL.of e2), oV_flat c, os_flat _, _, g2 _ _ (gt _ _ e), small1000 (by rw [List.length_map, List.length_map, List.length_range]; omega), same_upd hL (gg.trans g2) _, ?_⟩
        rw [upd_same, inOs, range_snoc, List.map_append, offAt_of hs hc]
        rfl
      rintro σ H' ⟨g, e, v0, v1, rfl⟩
      rw [hul] at e
      refine ⟨_, SqL.of e, ?_⟩
      rw [all_map_id, show (List.range ss.length).all (offAt ss cs) = offB ss cs by unfold offB; rw [decide_eq_true hlen, Bool.true_and]]
      exact q H' g
    · rw [if_pos (fun w => hlen (by omega)), show false = offB ss cs by unfold offB; rw [decide_eq_false hlen, Bool.false_and]]
      exact q H (Same.refl _)
end
end My

set_option Elab.async false
set_option linter.all false
set_option maxRecDepth 100000
set_option maxHeartbeats 4000000
namespace My
open PySem L2
section
variable {P : Program} {w : World} {K : PySem.W.Frag} {mg : Str → Option Value} {base : Heap}
local macro_rules | `(tactic| walk_at "rd") => `(tactic| try simp only [tSeq, tRet, tRetN, tIfS, tNext, tDrop, tOp, tUn, tVar, tC, rI0, rI, rU, rEq, rNe, L2.start, tAsg, gName, tTest, tB, tCB, tCons, tNil, rIxL, rIxT, tNot, tAnd, tOr, tNotV, tAndV, tOrV, tCall, rIsi, iRng1, iRng2, tFor, tWhile, tChain, tIf, tTup, tLst, tComp, tBlk, compSt, tTrue, Cx.comp, List.replicate_one, List.replicate_zero, Option.getD_some, tBM, tBM0, rLen, rListOf, rTupL, tRaise, tCallX, tDropX, tSetX, tTry0, tTryA, Ends.gone, rIsx, rExc, vO, tFld, tMeth, tMake, sFld, iEnL, iEnT, gTup, gCons, gNil, gSub, rSetL, rCat, rInsert, tSl, tNoPart, tPart, rSlL, rAppend, rClear, iList, iTup, cxOf, Cx.nox, Cx.wish, List.map_cons, List.map_nil, List.length_cons, List.length_nil, Nat.reduceAdd, Nat.reduceSub, List.reduceReplicate, List.cons_append, List.nil_append, List.append_nil, List.getElem?_cons_zero, List.getElem?_cons_succ, List.set_cons_zero, List.set_cons_succ, Option.some.injEq, V.int.injEq, V.bl.injEq, V.ref.injEq, V.str.injEq, V.ty.injEq, List.cons.injEq, and_true, true_and, and_assoc, exists_eq_left, exists_eq_left', exists_eq_right, exists_eq, exists_eq', exists_and_left, exists_const, decide_eq_true_eq, scal_ii, scal_bb, scal_ss, tEqI', Bool.not_eq_true', Bool.not_eq_true, decide_eq_false_iff_not, if_true, if_false, Bool.false_eq_true, reduceIte, tyN_int, tyN_bl, tyN_str, tyN_ref, okT_int, okT_bool, okT_str, okT_list, okT_tuple, subN_ii, subN_ib, subN_bb, subN_bi, subN_ss, subN_ll, subN_tt, Bool.not_true, Bool.not_false, not_true_eq_false, Bool.true_eq_false, rRep, iZip, tLRev, rIn, rCount, rPopAt])
def sp_is_enough (K : PySem.W.Frag)  : Sp := fun vs H Q _ => ∃ (c d : Addr) (cols : List Int) (cs : List (Option Int)), vs = [.ref c, .ref d] ∧ H c = some (.lst (cols.map V.int)) ∧ H d = some (.lst (cs.map oV)) ∧ cols.length ≤ 30 ∧ ∀ H', Same H H' → Q (.bl (enB cols cs)) H'
theorem sc_is_enough : FnScope ["columns", "dealt"] ["columns", "dealt"] (defScope s_is_enough) := ⟨rfl, rfl, rfl, by decide +kernel, rfl, by decide +kernel, by decide +kernel⟩
theorem ok_is_enough {f : Addr} {fd : FuncData} (F : Fun K "is_enough" "is_enough" s_is_enough f fd) (T : Txt mg)  : FnOk P w K mg base CX0 1 f fd ["columns", "dealt"] (sp_is_enough K) := by
  refine F.ok sc_is_enough (fun vs H Q E h => ?_) (fun cdv A outer s H vs Q E hr h => ?_)
  · obtain ⟨c, d, cols, cs, rfl, _⟩ := h
    rfl
  · obtain ⟨c, d, cols, cs, rfl, hc, hd, hn, q⟩ := h
    refine ⟨_, (pss_one (ps_ret (pe_callB (call_all rfl) (by rfl) T.all PyProof.Rows.boot_all (pa_cons (pe_comp (own := ["column", "need"]) (fnames := ["dealt"]) (fr := [1]) (N' := ["column", "need", "dealt"]) ⟨rfl, rfl, rfl, rfl, rfl, rfl, rfl⟩ rfl (pi_enum_list rfl T.enumerate (pv 0)) (fun s0 H0 fp0 C0 => ⟨(pg_tupK (K := K) (n := 2) rfl rfl (pgs_cons (pg_name (i := 0) (by show (["column", "need", "dealt"] : List Str).Nodup; decide +kernel) rfl (Or.inl rfl)) (pgs_cons (pg_name (i := 1) (by show (["column", "need", "dealt"] : List Str).Nodup; decide +kernel) rfl (Or.inl rfl)) pgs_nil))), pts_nil, (pe_cmpR op_ge (pe_bmK (K := K) rfl PySem.F.plainAttrs_list PySem.F.slot_list_count PySem.F.type_list_count mt_count (pv 2) (pa_cons (pv 0) pa_nil)) (pv 1) (nomark _))⟩)) pa_nil)))), ?_⟩
    walk_at "rd"
    refine ⟨⟨_, SqL.of hc⟩, fun L hL => for_enumW (xs := cols.map V.int) (fun i σ H' => Same H H' ∧ H' L = some (.lst (((List.range i).map (enAt cols cs)).map V.bl)) ∧ ∃ v0 v1, σ = [v0, v1, some (.ref d)]) ⟨same_new hL _, upd_same, none, none, rfl⟩ (fun i σ H' _ hh => SqL.of (hh.1 _ _ hc)) ?_ ?_⟩
    · rintro i x σ H' t hx ⟨g, e, v0, v1, rfl⟩ ht
      obtain ⟨y, hy, rfl⟩ := map_item hx
      have hi := (List.getElem?_eq_some_iff.mp hy).1
      have gt := same_new ht (.tup [.int ((0 + i : Nat) : Int), .int y])
      walk_at "rd"
      refine ⟨_, SqT.of upd_same, rfl, _, _, rfl, _, _, rfl, rfl, ?_⟩
      walk_at "rd"
      refine ⟨.inl ⟨rfl, _, SqL.of ((g.trans gt) _ _ hd)⟩, _, (g.trans gt) _ _ hd, rfl, os_flat cs, _, gt _ _ e, small1000 (by rw [List.length_map, List.length_map, List.length_range]; omega), same_upd hL (g.trans gt) _, ?_⟩
      rw [upd_same, os_count, range_snoc, List.map_append, Nat.zero_add]
      unfold enAt
      rw [getD_of hy]
      rfl
    rintro σ H' ⟨g, e, v0, v1, rfl⟩
    rw [List.length_map] at e
    refine ⟨_, SqL.of e, ?_⟩
    rw [all_map_id]
    exact q H' g
end
end My

set_option Elab.async false
set_option linter.all false
set_option maxRecDepth 100000
set_option maxHeartbeats 4000000
namespace My
open PySem L2
section
variable {P : Program} {w : World} {K : PySem.W.Frag} {mg : Str → Option Value} {base : Heap}
local macro_rules | `(tactic| walk_at "rd") => `(tactic| try simp only [tSeq, tRet, tRetN, tIfS, tNext, tDrop, tOp, tUn, tVar, tC, rI0, rI, rU, rEq, rNe, L2.start, tAsg, gName, tTest, tB, tCB, tCons, tNil, rIxL, rIxT, tNot, tAnd, tOr, tNotV, tAndV, tOrV, tCall, rIsi, iRng1, iRng2, tFor, tWhile, tChain, tIf, tTup, tLst, tComp, tBlk, compSt, tTrue, Cx.comp, List.replicate_one, List.replicate_zero, Option.getD_some, tBM, tBM0, rLen, rListOf, rTupL, tRaise, tCallX, tDropX, tSetX, tTry0, tTryA, Ends.gone, rIsx, rExc, vO, tFld, tMeth, tMake, sFld, iEnL, iEnT, gTup, gCons, gNil, gSub, rSetL, rCat, rInsert, tSl, tNoPart, tPart, rSlL, rAppend, rClear, iList, iTup, cxOf, Cx.nox, Cx.wish, List.map_cons, List.map_nil, List.length_cons, List.length_nil, Nat.reduceAdd, Nat.reduceSub, List.reduceReplicate, List.cons_append, List.nil_append, List.append_nil, List.getElem?_cons_zero, List.getElem?_cons_succ, List.set_cons_zero, List.set_cons_succ, Option.some.injEq, V.int.injEq, V.bl.injEq, V.ref.injEq, V.str.injEq, V.ty.injEq, List.cons.injEq, and_true, true_and, and_assoc, exists_eq_left, exists_eq_left', exists_eq_right, exists_eq, exists_eq', exists_and_left, exists_const, decide_eq_true_eq, scal_ii, scal_bb, scal_ss, tEqI', Bool.not_eq_true', Bool.not_eq_true, decide_eq_false_iff_not, if_true, if_false, Bool.false_eq_true, reduceIte, tyN_int, tyN_bl, tyN_str, tyN_ref, okT_int, okT_bool, okT_str, okT_list, okT_tuple, subN_ii, subN_ib, subN_bb, subN_bi, subN_ss, subN_ll, subN_tt, Bool.not_true, Bool.not_false, not_true_eq_false, Bool.true_eq_false, rRep, iZip, tLRev, rIn, rCount, rPopAt])
def sp_is_borne (K : PySem.W.Frag)  : Sp := fun vs H Q _ => ∃ (p l d : Addr) (us : List V) (ss : List Spt) (lim : List Int) (cs : List (Option Int)), vs = [.ref p, .ref l, .ref d] ∧ H p = some (.lst us) ∧ Spts H us ss ∧ H l = some (.lst (lim.map V.int)) ∧ H d = some (.lst (cs.map oV)) ∧ ss.length = cs.length ∧ ss.length ≤ 20 ∧ lim.length ≤ 30 ∧ ∀ H', Same H H' → Q (.bl (boB ss lim cs)) H'
theorem sc_is_borne : FnScope ["spots", "caps", "dealt", "working"] ["spots", "caps", "dealt"] (defScope s_is_borne) := ⟨rfl, rfl, rfl, by decide +kernel, rfl, by decide +kernel, by decide +kernel⟩
theorem ok_is_borne {f : Addr} {fd : FuncData} (F : Fun K "is_borne" "is_borne" s_is_borne f fd) (T : Txt mg)  : FnOk P w K mg base CX0 1 f fd ["spots", "caps", "dealt"] (sp_is_borne K) := by
  refine F.ok sc_is_borne (fun vs H Q E h => ?_) (fun cdv A outer s H vs Q E hr h => ?_)
  · obtain ⟨p, l, d, us, ss, lim, cs, rfl, _⟩ := h
    rfl
  · obtain ⟨p, l, d, us, ss, lim, cs, rfl, hp, hS, hl, hd, hlen, hn, hln, q⟩ := h
    refine ⟨_, (pss_cons (ps_set (i := 3) sc_is_borne.nd rfl (Or.inr rfl) (pe_comp (own := ["spot", "column"]) (fnames := []) (fr := []) (N' := ["spot", "column"]) ⟨rfl, rfl, rfl, rfl, rfl, rfl, rfl⟩ rfl (pi_zip rfl T.zip (pa_cons (pv 0) (pa_cons (pv 2) pa_nil))) (fun s0 H0 fp0 C0 => ⟨(pg_tupK (K := K) (n := 2) rfl rfl (pgs_cons (pg_name (i := 0) (by show (["spot", "column"] : List Str).Nodup; decide +kernel) rfl (Or.inl rfl)) (pgs_cons (pg_name (i := 1) (by show (["spot", "column"] : List Str).Nodup; decide +kernel) rfl (Or.inl rfl)) pgs_nil))), (pts_one (pt_cmpR op_notN (pv 1) pe_non (nomark _))), (pe_ix (ix_tupK (K := K) rfl) (pv 0) pe_int (fun _ _ => rfl))⟩)))
    (pss_one (ps_ret (pe_callB (call_all rfl) (by rfl) T.all PyProof.Rows.boot_all (pa_cons (pe_comp (own := ["owner", "cap"]) (fnames := ["working"]) (fr := [3]) (N' := ["owner", "cap", "working"]) ⟨rfl, rfl, rfl, rfl, rfl, rfl, rfl⟩ rfl (pi_enum_list rfl T.enumerate (pv 1)) (fun s0 H0 fp0 C0 => ⟨(pg_tupK (K := K) (n := 2) rfl rfl (pgs_cons (pg_name (i := 0) (by show (["owner", "cap", "working"] : List Str).Nodup; decide +kernel) rfl (Or.inl rfl)) (pgs_cons (pg_name (i := 1) (by show (["owner", "cap", "working"] : List Str).Nodup; decide +kernel) rfl (Or.inl rfl)) pgs_nil))), pts_nil, (pe_cmpR op_le (pe_bmK (K := K) rfl PySem.F.plainAttrs_list PySem.F.slot_list_count PySem.F.type_list_count mt_count (pv 2) (pa_cons (pv 0) pa_nil)) (pv 1) (nomark _))⟩)) pa_nil))))), ?_⟩
    have hul := Paired.length hS
    refine seq_of fun U1 u1 => ?_
    walk_at "rd"
    refine ⟨⟨_, SqL.of hp⟩, ⟨_, SqL.of hd⟩, fun L hL => for_zipW (xs := us) (ys := cs.map oV) (fun i σ H' => Same H H' ∧ H' L = some (.lst ((workL (ss.take i) (cs.take i)).map V.int)) ∧ ∃ v0 v1, σ = [v0, v1]) (by rw [List.length_map]; omega) ⟨same_new hL _, upd_same, none, none, rfl⟩ (fun i σ H' _ hh => ⟨SqL.of (hh.1 _ _ hp), SqL.of (hh.1 _ _ hd)⟩) ?_ ?_⟩
    · rintro i x y σ H' t hx1 hy1 ⟨g, e, v0, v1, rfl⟩ ht
      obtain ⟨s, hs, t2, l2, ts2, rfl, q1, q2, q3⟩ := Paired.get' hS hx1
      obtain ⟨c, hc, rfl⟩ := os_item hy1
      have hi := (List.getElem?_eq_some_iff.mp hs).1
      have gt := same_new ht (.tup [.ref t2, oV c])
      have hwl := workL_len (ss.take i) (cs.take i)
      rw [List.length_take] at hwl
      walk_at "rd"
      refine ⟨_, SqT.of upd_same, rfl, _, _, rfl, _, _, rfl, rfl, ?_⟩
      walk_at "rd"
      rw [take_one hs, take_one hc, workL_snoc _ _ _ _ (by rw [List.length_take, List.length_take]; omega)]
      cases c with
      | none =>
        rw [if_neg (fun w => w rfl)]
        exact ⟨g.trans gt, by rw [gt _ _ e]; simp⟩
      | some x =>
        rw [if_pos (by intro w; cases w)]
        exact ⟨_, SqT.of ((g.trans gt) _ _ q1), _, rfl, _, gt _ _ e, small1000 (by rw [List.length_map]; omega), same_upd hL (g.trans gt) _, by rw [upd_same, List.map_append]; rfl⟩
    rintro σ H1 ⟨g1, e1, v0, v1, rfl⟩
    rw [hul, List.take_length, hlen, List.take_length] at e1
    rw [u1]; clear u1
    walk_at "rd"
    refine ⟨⟨_, SqL.of (g1 _ _ hl)⟩, fun L2 hL2 => for_enumW (xs := lim.map V.int) (fun i σ H' => Same H1 H' ∧ H' L2 = some (.lst (((List.range i).map (boAt ss lim cs)).map V.bl)) ∧ ∃ v0 v1, σ = [v0, v1, some (.ref L)]) ⟨same_new hL2 _, upd_same, none, none, rfl⟩ (fun i σ H' _ hh => SqL.of (hh.1 _ _ (g1 _ _ hl))) ?_ ?_⟩
    · rintro i x σ H' t hx ⟨g, e, v0, v1, rfl⟩ ht
      obtain ⟨y, hy, rfl⟩ := map_item hx
      have hi := (List.getElem?_eq_some_iff.mp hy).1
      have gt := same_new ht (.tup [.int ((0 + i : Nat) : Int), .int y])
      walk_at "rd"
      refine ⟨_, SqT.of upd_same, rfl, _, _, rfl, _, _, rfl, rfl, ?_⟩
      walk_at "rd"
      refine ⟨.inl ⟨rfl, _, SqL.of ((g.trans gt) _ _ e1)⟩, _, (g.trans gt) _ _ e1, rfl, flat_ints _, _, gt _ _ e, small1000 (by rw [List.length_map, List.length_map, List.length_range]; omega), same_upd hL2 (g.trans gt) _, ?_⟩
      rw [upd_same, Nat.zero_add, workL_count, range_snoc, List.map_append]
      unfold boAt
      rw [getD_of hy]
      rfl
    rintro σ H' ⟨g, e, v0, v1, rfl⟩
    rw [List.length_map] at e
    refine ⟨_, SqL.of e, ?_⟩
    rw [all_map_id]
    exact q H' (g1.trans g)
end
end My

set_option Elab.async false
set_option linter.all false
set_option maxRecDepth 100000
set_option maxHeartbeats 4000000
namespace My
open PySem L2
section
variable {P : Program} {w : World} {K : PySem.W.Frag} {mg : Str → Option Value} {base : Heap}
local macro_rules | `(tactic| walk_at "rd") => `(tactic| try simp only [tSeq, tRet, tRetN, tIfS, tNext, tDrop, tOp, tUn, tVar, tC, rI0, rI, rU, rEq, rNe, L2.start, tAsg, gName, tTest, tB, tCB, tCons, tNil, rIxL, rIxT, tNot, tAnd, tOr, tNotV, tAndV, tOrV, tCall, rIsi, iRng1, iRng2, tFor, tWhile, tChain, tIf, tTup, tLst, tComp, tBlk, compSt, tTrue, Cx.comp, List.replicate_one, List.replicate_zero, Option.getD_some, tBM, tBM0, rLen, rListOf, rTupL, tRaise, tCallX, tDropX, tSetX, tTry0, tTryA, Ends.gone, rIsx, rExc, vO, tFld, tMeth, tMake, sFld, iEnL, iEnT, gTup, gCons, gNil, gSub, rSetL, rCat, rInsert, tSl, tNoPart, tPart, rSlL, rAppend, rClear, iList, iTup, cxOf, Cx.nox, Cx.wish, List.map_cons, List.map_nil, List.length_cons, List.length_nil, Nat.reduceAdd, Nat.reduceSub, List.reduceReplicate, List.cons_append, List.nil_append, List.append_nil, List.getElem?_cons_zero, List.getElem?_cons_succ, List.set_cons_zero, List.set_cons_succ, Option.some.injEq, V.int.injEq, V.bl.injEq, V.ref.injEq, V.str.injEq, V.ty.injEq, List.cons.injEq, and_true, true_and, and_assoc, exists_eq_left, exists_eq_left', exists_eq_right, exists_eq, exists_eq', exists_and_left, exists_const, decide_eq_true_eq, scal_ii, scal_bb, scal_ss, tEqI', Bool.not_eq_true', Bool.not_eq_true, decide_eq_false_iff_not, if_true, if_false, Bool.false_eq_true, reduceIte, tyN_int, tyN_bl, tyN_str, tyN_ref, okT_int, okT_bool, okT_str, okT_list, okT_tuple, subN_ii, subN_ib, subN_bb, subN_bi, subN_ss, subN_ll, subN_tt, Bool.not_true, Bool.not_false, not_true_eq_false, Bool.true_eq_false, rRep, iZip, tLRev, rIn, rCount, rPopAt])
def sp_is_dealing (K : PySem.W.Frag)  : Sp := fun vs H Q _ => ∃ (p c l d : Addr) (us : List V) (ss : List Spt) (cols lim : List Int) (cs : List (Option Int)), vs = [.ref p, .ref c, .ref l, .ref d] ∧ H p = some (.lst us) ∧ Spts H us ss ∧ H c = some (.lst (cols.map V.int)) ∧ H l = some (.lst (lim.map V.int)) ∧ H d = some (.lst (cs.map oV)) ∧ ss.length ≤ 20 ∧ cs.length ≤ 40 ∧ cols.length ≤ 30 ∧ lim.length ≤ 30 ∧ (∀ s ∈ ss, SpOk cols.length lim.length s) ∧ ∀ H', Same H H' → Q (.bl (dealB ss cols lim cs)) H'
theorem sc_is_dealing : FnScope ["spots", "columns", "caps", "dealt"] ["spots", "columns", "caps", "dealt"] (defScope s_is_dealing) := ⟨rfl, rfl, rfl, by decide +kernel, rfl, by decide +kernel, by decide +kernel⟩
theorem ok_is_dealing {f : Addr} {fd : FuncData} (F : Fun K "is_dealing" "is_dealing" s_is_dealing f fd) (T : Txt mg) (C_are_offered : Cal P w K mg base "are_offered" ["spots", "dealt"] 1 (sp_are_offered K)) (C_is_enough : Cal P w K mg base "is_enough" ["columns", "dealt"] 1 (sp_is_enough K)) (C_is_borne : Cal P w K mg base "is_borne" ["spots", "caps", "dealt"] 1 (sp_is_borne K)) : FnOk P w K mg base CX0 2 f fd ["spots", "columns", "caps", "dealt"] (sp_is_dealing K) := by
  refine F.ok sc_is_dealing (fun vs H Q E h => ?_) (fun cdv A outer s H vs Q E hr h => ?_)
  · obtain ⟨p, c, l, d, us, ss, cols, lim, cs, rfl, _⟩ := h
    rfl
  · obtain ⟨p, c, l, d, us, ss, cols, lim, cs, rfl, hp, hS, hc, hl, hd, n1, n2, n3, n4, hok, q⟩ := h
    refine ⟨_, (pss_one (ps_ret (pe_and (pe_cal C_are_offered (hr.mono (by decide)) rfl (pa_cons (pv 0) (pa_cons (pv 3) pa_nil))) (pe_and (pe_cal C_is_enough (hr.mono (by decide)) rfl (pa_cons (pv 1) (pa_cons (pv 3) pa_nil))) (pe_one (pe_cal C_is_borne (hr.mono (by decide)) rfl (pa_cons (pv 0) (pa_cons (pv 2) (pa_cons (pv 3) pa_nil))))))))), ?_⟩
    walk_at "rd"
    refine ⟨p, d, us, ss, cs, rfl, hp, hS, hd, n1, n2, fun s hs => (hok s hs).len, fun H1 g1 => ?_⟩
    refine ⟨_, rfl, ?_⟩
    unfold dealB at q
    cases ho : offB ss cs with
    | false =>
      rw [if_neg (by decide)]
      have := q H1 g1
      rw [ho] at this
      exact this
    | true =>
      rw [if_pos rfl]
      refine ⟨c, d, cols, cs, rfl, g1 _ _ hc, g1 _ _ hd, n3, fun H2 g2 => ⟨_, rfl, ?_⟩⟩
      have g12 := g1.trans g2
      cases he : enB cols cs with
      | false =>
        rw [if_neg (by decide)]
        have := q H2 g12
        rw [ho, he] at this
        exact this
      | true =>
        rw [if_pos rfl]
        refine ⟨p, l, d, us, ss, lim, cs, rfl, g12 _ _ hp, hS.mono g12, g12 _ _ hl, g12 _ _ hd, (offB_in ho).1, n1, n4, fun H3 g3 => ?_⟩
        have := q H3 (g12.trans g3)
        rw [ho, he] at this
        exact this
def sp_cost_at (K : PySem.W.Frag)  : Sp := fun vs H Q _ => ∃ (t l : Addr) (ts : List V) (s : Spt) (c : Option Int), vs = [.ref t, oV c] ∧ H t = some (.tup [.int s.o, .ref l]) ∧ H l = some (.lst ts) ∧ Offs H ts s.fs ∧ s.fs.length ≤ 30 ∧ ∀ H', Same H H' → Q (.int (costAt s c)) H'
theorem sc_cost_at : FnScope ["spot", "column"] ["spot", "column"] (defScope s_cost_at) := ⟨rfl, rfl, rfl, by decide +kernel, rfl, by decide +kernel, by decide +kernel⟩
theorem ok_cost_at {f : Addr} {fd : FuncData} (F : Fun K "cost_at" "cost_at" s_cost_at f fd) (T : Txt mg)  : FnOk P w K mg base CX0 1 f fd ["spot", "column"] (sp_cost_at K) := by
  refine F.ok sc_cost_at (fun vs H Q E h => ?_) (fun cdv A outer s H vs Q E hr h => ?_)
  · obtain ⟨t, l, ts, s, c, rfl, _⟩ := h
    rfl
  · obtain ⟨t, l, ts, s, c, rfl, ht, hl, hO, hn, q⟩ := h
    refine ⟨_, (pss_one (ps_ret (pe_callB (call_sumG rfl) (by rfl) T.sum PyProof.Rows.boot_sum (pa_cons (pe_comp (own := ["offered", "cost"]) (fnames := ["column"]) (fr := [1]) (N' := ["offered", "cost", "column"]) ⟨rfl, rfl, rfl, rfl, rfl, rfl, rfl⟩ rfl (pi_list (pe_ix ix_tup (pv 0) pe_int (fun _ _ => rfl))) (fun s0 H0 fp0 C0 => ⟨(pg_tupK (K := K) (n := 2) rfl rfl (pgs_cons (pg_name (i := 0) (by show (["offered", "cost", "column"] : List Str).Nodup; decide +kernel) rfl (Or.inl rfl)) (pgs_cons (pg_name (i := 1) (by show (["offered", "cost", "column"] : List Str).Nodup; decide +kernel) rfl (Or.inl rfl)) pgs_nil))), (pts_one (pt_cmpR op_eq (pv 0) (pv 2) (nomark _))), (pv 1)⟩)) pa_nil)))), ?_⟩
    have hul := Paired.length hO
    walk_at "rd"
    refine ⟨_, SqT.of ht, _, rfl, l, rfl, ⟨_, SqL.of hl⟩, fun L hL => for_listW (xs := ts) (fun i σ H' => Same H H' ∧ H' L = some (.lst ((((s.fs.take i).filter fun f => decide (f.1 = c)).map (·.2)).map V.int)) ∧ ∃ v0 v1, σ = [v0, v1, some (oV c)]) ⟨same_new hL _, upd_same, none, none, rfl⟩ (fun i σ H' _ hh => SqL.of (hh.1 _ _ hl)) ?_ ?_⟩
    · rintro i v σ H' hv ⟨g, e, v0, v1, rfl⟩
      obtain ⟨f, hf, t2, rfl, q2⟩ := Paired.get' hO hv
      have hi := (List.getElem?_eq_some_iff.mp hf).1
      walk_at "rd"
      refine ⟨_, SqT.of (g _ _ q2), rfl, _, _, rfl, _, _, rfl, rfl, ?_⟩
      walk_at "rd"
      refine ⟨oV_scal _ _, ?_⟩
      have hfl := List.length_filter_le (fun f : Off => decide (f.1 = c)) (s.fs.take i)
      rw [List.length_take] at hfl
      rw [take_one hf, filter_snoc]
      by_cases zc : f.1 = c
      · rw [if_pos (by rw [zc]), if_pos (decide_eq_true zc)]
        exact ⟨_, e, small1000 (by rw [List.length_map, List.length_map]; omega), same_upd hL g _, by rw [upd_same, List.map_append, List.map_append]; rfl⟩
      · rw [if_neg (fun w => zc (oV_inj w)), if_neg (fun w => zc (of_decide_eq_true w)), List.append_nil]
        exact ⟨g, e⟩
    rintro σ H' ⟨g, e, v0, v1, rfl⟩
    rw [hul, List.take_length] at e
    refine ⟨_, SqL.of e, ?_⟩
    exact q H' g
end
end My

set_option Elab.async false
set_option linter.all false
set_option maxRecDepth 100000
set_option maxHeartbeats 4000000
namespace My
open PySem L2
section
variable {P : Program} {w : World} {K : PySem.W.Frag} {mg : Str → Option Value} {base : Heap}
local macro_rules | `(tactic| walk_at "rd") => `(tactic| try simp only [tSeq, tRet, tRetN, tIfS, tNext, tDrop, tOp, tUn, tVar, tC, rI0, rI, rU, rEq, rNe, L2.start, tAsg, gName, tTest, tB, tCB, tCons, tNil, rIxL, rIxT, tNot, tAnd, tOr, tNotV, tAndV, tOrV, tCall, rIsi, iRng1, iRng2, tFor, tWhile, tChain, tIf, tTup, tLst, tComp, tBlk, compSt, tTrue, Cx.comp, List.replicate_one, List.replicate_zero, Option.getD_some, tBM, tBM0, rLen, rListOf, rTupL, tRaise, tCallX, tDropX, tSetX, tTry0, tTryA, Ends.gone, rIsx, rExc, vO, tFld, tMeth, tMake, sFld, iEnL, iEnT, gTup, gCons, gNil, gSub, rSetL, rCat, rInsert, tSl, tNoPart, tPart, rSlL, rAppend, rClear, iList, iTup, cxOf, Cx.nox, Cx.wish, List.map_cons, List.map_nil, List.length_cons, List.length_nil, Nat.reduceAdd, Nat.reduceSub, List.reduceReplicate, List.cons_append, List.nil_append, List.append_nil, List.getElem?_cons_zero, List.getElem?_cons_succ, List.set_cons_zero, List.set_cons_succ, Option.some.injEq, V.int.injEq, V.bl.injEq, V.ref.injEq, V.str.injEq, V.ty.injEq, List.cons.injEq, and_true, true_and, and_assoc, exists_eq_left, exists_eq_left', exists_eq_right, exists_eq, exists_eq', exists_and_left, exists_const, decide_eq_true_eq, scal_ii, scal_bb, scal_ss, tEqI', Bool.not_eq_true', Bool.not_eq_true, decide_eq_false_iff_not, if_true, if_false, Bool.false_eq_true, reduceIte, tyN_int, tyN_bl, tyN_str, tyN_ref, okT_int, okT_bool, okT_str, okT_list, okT_tuple, subN_ii, subN_ib, subN_bb, subN_bi, subN_ss, subN_ll, subN_tt, Bool.not_true, Bool.not_false, not_true_eq_false, Bool.true_eq_false, rRep, iZip, tLRev, rIn, rCount, rPopAt])
def sp_cost_of (K : PySem.W.Frag)  : Sp := fun vs H Q _ => ∃ (p d : Addr) (us : List V) (ss : List Spt) (cs : List (Option Int)), vs = [.ref p, .ref d] ∧ H p = some (.lst us) ∧ Spts H us ss ∧ H d = some (.lst (cs.map oV)) ∧ ss.length = cs.length ∧ ss.length ≤ 20 ∧ (∀ s ∈ ss, s.fs.length ≤ 30) ∧ ∀ H', Same H H' → Q (.int (costOf ss cs)) H'
theorem sc_cost_of : FnScope ["spots", "dealt"] ["spots", "dealt"] (defScope s_cost_of) := ⟨rfl, rfl, rfl, by decide +kernel, rfl, by decide +kernel, by decide +kernel⟩
theorem ok_cost_of {f : Addr} {fd : FuncData} (F : Fun K "cost_of" "cost_of" s_cost_of f fd) (T : Txt mg) (C_cost_at : Cal P w K mg base "cost_at" ["spot", "column"] 1 (sp_cost_at K)) : FnOk P w K mg base CX0 2 f fd ["spots", "dealt"] (sp_cost_of K) := by
  refine F.ok sc_cost_of (fun vs H Q E h => ?_) (fun cdv A outer s H vs Q E hr h => ?_)
  · obtain ⟨p, d, us, ss, cs, rfl, _⟩ := h
    rfl
  · obtain ⟨p, d, us, ss, cs, rfl, hp, hS, hd, hlen, hn, hf, q⟩ := h
    refine ⟨_, (pss_one (ps_ret (pe_callB (call_sumG rfl) (by rfl) T.sum PyProof.Rows.boot_sum (pa_cons (pe_comp (own := ["spot", "column"]) (fnames := []) (fr := []) (N' := ["spot", "column"]) ⟨rfl, rfl, rfl, rfl, rfl, rfl, rfl⟩ rfl (pi_zip rfl T.zip (pa_cons (pv 0) (pa_cons (pv 1) pa_nil))) (fun s0 H0 fp0 C0 => ⟨(pg_tupK (K := K) (n := 2) rfl rfl (pgs_cons (pg_name (i := 0) (by show (["spot", "column"] : List Str).Nodup; decide +kernel) rfl (Or.inl rfl)) (pgs_cons (pg_name (i := 1) (by show (["spot", "column"] : List Str).Nodup; decide +kernel) rfl (Or.inl rfl)) pgs_nil))), pts_nil, (pe_cal C_cost_at (hr.mono (by decide)) rfl (pa_cons (pv 0) (pa_cons (pv 1) pa_nil)))⟩)) pa_nil)))), ?_⟩
    have hul := Paired.length hS
    walk_at "rd"
    refine ⟨⟨_, SqL.of hp⟩, ⟨_, SqL.of hd⟩, fun L hL => for_zipW (xs := us) (ys := cs.map oV) (fun i σ H' => Same H H' ∧ (∃ ms : List Int, H' L = some (.lst (ms.map V.int)) ∧ ms.length = i ∧ ms.sum = costOf (ss.take i) (cs.take i)) ∧ ∃ v0 v1, σ = [v0, v1]) (by rw [List.length_map]; omega) ⟨same_new hL _, ⟨[], upd_same, rfl, by simp [costOf]⟩, none, none, rfl⟩ (fun i σ H' _ hh => ⟨SqL.of (hh.1 _ _ hp), SqL.of (hh.1 _ _ hd)⟩) ?_ ?_⟩
    · rintro i x y σ H' t hx1 hy1 ⟨g, ⟨ms, e, hml, hms⟩, v0, v1, rfl⟩ ht
      obtain ⟨s, hs, t2, l2, ts2, rfl, q1, q2, q3⟩ := Paired.get' hS hx1
      obtain ⟨c, hc, rfl⟩ := os_item hy1
      have hi := (List.getElem?_eq_some_iff.mp hs).1
      have gt := same_new ht (.tup [.ref t2, oV c])
      have gg := g.trans gt
      walk_at "rd"
      refine ⟨_, SqT.of upd_same, rfl, _, _, rfl, _, _, rfl, rfl, ?_⟩
      walk_at "rd"
      refine ⟨t2, l2, ts2, s, c, rfl, gg _ _ q1, gg _ _ q2, q3.mono gg, hf s (List.mem_of_getElem? hs), fun H2 g2 => ?_⟩
      refine ⟨_, g2 _ _ (gt _ _ e), small1000 (by rw [List.length_map]; omega), same_upd hL (gg.trans g2) _, ms ++ [costAt s c], by rw [upd_same, List.map_append]; rfl, by rw [List.length_append, hml]; rfl, ?_⟩
      rw [List.sum_append, hms, take_one hs, take_one hc, costOf_snoc _ _ _ _ (by rw [List.length_take, List.length_take]; omega)]
      simp
    rintro σ H' ⟨g, ⟨ms, e, hml, hms⟩, v0, v1, rfl⟩
    refine ⟨_, SqL.of e, ?_⟩
    rw [hms, hul, List.take_length, hlen, List.take_length]
    exact q H' g
def sp__law_cell_at (K : PySem.W.Frag)  : Sp := fun vs H Q _ => ∃ (a : Addr) (ns : List Int) (k : Int), vs = [.ref a, .int k] ∧ SqL K H a (ns.map V.int) ∧ 0 ≤ k ∧ ∀ v : Int, Q (.int v) H
theorem sc__law_cell_at : FnScope ["_law_script", "_law_k"] ["_law_script", "_law_k"] (defScope s__law_cell_at) := ⟨rfl, rfl, rfl, by decide +kernel, rfl, by decide +kernel, by decide +kernel⟩
theorem ok__law_cell_at {f : Addr} {fd : FuncData} (F : Fun K "_law_cell_at" "_law_cell_at" s__law_cell_at f fd) (T : Txt mg)  : FnOk P w K mg base CX0 1 f fd ["_law_script", "_law_k"] (sp__law_cell_at K) := by
  refine F.ok sc__law_cell_at (fun vs H Q E h => ?_) (fun cdv A outer s H vs Q E hr h => ?_)
  · obtain ⟨a, ns, k, rfl, _⟩ := h
    rfl
  · obtain ⟨a, ns, k, rfl, hS, k0, q⟩ := h
    refine ⟨_, (pss_cons (ps_if (pt_cmpR op_lt (pv 1) (pe_callB (call_lenK (K := K) rfl) (by rfl) T.len PySem.boot_len (pa_cons (pv 0) pa_nil)) (nomark _)) (pss_one (ps_ret (pe_ix ix_list (pv 0) (pv 1) (fun _ _ => rfl)))) pss_nil)
    (pss_one (ps_ret pe_int))), ?_⟩
    walk_at "rd"
    refine ⟨_, .inl hS, ?_⟩
    split
    · rename_i hk
      rw [List.length_map] at hk
      obtain ⟨v, hv⟩ := item_of k0 hk
      exact ⟨_, hS, _, hv, q v⟩
    · exact q 0
def sp__law_stream (_ : PySem.W.Frag)  : Sp := fun vs H Q _ => ∃ c n : Int, vs = [.int c, .int n] ∧ 0 ≤ n ∧ n ≤ 300 ∧ ∀ (r : Addr) (ns : List Int), H r = none → (ns.length : Int) = n → (∀ x ∈ ns, 0 ≤ x ∧ x < 2 ^ 31) → Q (.ref r) (upd H r (.lst (ns.map V.int)))
theorem sc__law_stream : FnScope ["_law_cell", "_law_many", "_law_found", "_law_number", "_law_k"] ["_law_cell", "_law_many"] (defScope s__law_stream) := ⟨rfl, rfl, rfl, by decide +kernel, rfl, by decide +kernel, by decide +kernel⟩
theorem ok__law_stream {f : Addr} {fd : FuncData} (F : Fun K "_law_stream" "_law_stream" s__law_stream f fd) (T : Txt mg)  : FnOk P w K mg base CX0 1 f fd ["_law_cell", "_law_many"] (sp__law_stream K) := by
  refine F.ok sc__law_stream (fun vs H Q E h => ?_) (fun cdv A outer s H vs Q E hr h => ?_)
  · obtain ⟨c, n, rfl, _⟩ := h
    rfl
  · obtain ⟨c, n, rfl, n0, n1, q⟩ := h
    refine ⟨_, (pss_cons (ps_set (i := 2) sc__law_stream.nd rfl (Or.inl rfl) (pe_lst pa_nil))
    (pss_cons (ps_set (i := 3) sc__law_stream.nd rfl (Or.inl rfl) (pe_op op_add (pe_op op_mod (pv 0) pe_int) pe_int))
    (pss_cons (ps_for PassesOwn.never rfl (pi_range1 rfl T.range (pa_cons (pv 1) pa_nil)) (pg_name (i := 4) sc__law_stream.nd rfl (Or.inl rfl))
      (pss_cons (ps_set (i := 3) sc__law_stream.nd rfl (Or.inl rfl) (pe_op op_mod (pe_op op_add (pe_op op_add (pe_op op_mul (pv 3) pe_int) (pe_op op_mul (pv 4) (pv 4))) pe_int) pe_int))
        (pss_one (ps_expr (pe_bm PySem.F.plainAttrs_list PySem.F.slot_list_append PySem.F.type_list_append mt_append (pv 2) (pa_cons (pe_op op_fdiv (pv 3) pe_int) pa_nil))))))
    (pss_one (ps_ret (pv 2)))))), ?_⟩
    refine seq_of fun U1 u1 => ?_
    walk_at "rd"
    refine ⟨Nat.zero_le _, fun p hp => ?_⟩
    rw [u1]; clear u1
    refine seq_of fun U1 u1 => ?_
    walk_at "rd"
    refine ⟨by decide, ?_⟩
    rw [u1]; clear u1
    refine seq_of fun U1 u1 => for_of fun B1 b1 => ?_
    walk_at "rd"
    refine ⟨by omega, by omega, for_rangeW (fun i σ H' => ∃ (ns : List Int) (x : Int) (v4 : Option V), H' = upd H p (.lst (ns.map V.int)) ∧ ns.length = i ∧ (∀ x ∈ ns, 0 ≤ x ∧ x < 2 ^ 31) ∧ σ = [some (.int c), some (.int n), some (.ref p), some (.int x), v4]) ⟨[], _, none, rfl, rfl, (fun x z => by cases z), rfl⟩ ?_ ?_⟩
    · rintro i σ H' hi ⟨ns, x, v4, rfl, hn, hb, rfl⟩
      rw [show (0 + (i : Int)) = i by omega]
      rw [b1]
      refine seq_of fun U2 u2 => ?_
      walk_at "rd"
      refine ⟨.inr ⟨by decide, by decide⟩, .inl ⟨by omega, by omega⟩, by decide, ?_⟩
      rw [u2]; clear u2
      walk_at "rd"
      refine ⟨.inl ⟨rfl, _, SqL.of upd_same⟩, ⟨by decide, by decide⟩, _, upd_same, small1000 (by rw [List.length_map]; omega), ns ++ [(x * 69621 + (i : Int) * (i : Int) + 1) % 2147483647 / 7], ?_, by rw [List.length_append, hn]; rfl, fun y hy => ?_⟩
      · rw [upd_upd, List.map_append]
        rfl
      · rcases List.mem_append.mp hy with z | z
        · exact hb y z
        · rw [List.mem_singleton.mp z]
          have h1 := Int.emod_nonneg (x * 69621 + (i : Int) * (i : Int) + 1) (b := 2147483647) (by decide)
          have h2 := Int.emod_lt_of_pos (x * 69621 + (i : Int) * (i : Int) + 1) (b := 2147483647) (by decide)
          omega
    rintro σ H' ⟨ns, x, v4, rfl, hn, hb, rfl⟩
    rw [u1]; clear u1
    walk_at "rd"
    exact q p ns hp (by omega) hb
def sp__law_cost (_ : PySem.W.Frag)  : Sp := fun vs H Q _ => ∃ (n : Int) (g : Bool), vs = [.int n, .bl g] ∧ ∀ v : Int, Q (.int v) H
theorem sc__law_cost : FnScope ["_law_number", "_law_great"] ["_law_number", "_law_great"] (defScope s__law_cost) := ⟨rfl, rfl, rfl, by decide +kernel, rfl, by decide +kernel, by decide +kernel⟩
theorem ok__law_cost {f : Addr} {fd : FuncData} (F : Fun K "_law_cost" "_law_cost" s__law_cost f fd) (T : Txt mg)  : FnOk P w K mg base CX0 1 f fd ["_law_number", "_law_great"] (sp__law_cost K) := by
  refine F.ok sc__law_cost (fun vs H Q E h => ?_) (fun cdv A outer s H vs Q E hr h => ?_)
  · obtain ⟨n, g, rfl, _⟩ := h
    rfl
  · obtain ⟨n, g, rfl, q⟩ := h
    refine ⟨_, (pss_cons (ps_if (PW.pt (pw_and (pt_val (pv 1)) (pw_and1 (pt_cmpR op_gt (pe_op op_mod (pv 0) pe_int) pe_int (nomark _))))) (pss_one (ps_ret (pe_op op_mod (pe_op op_mul (pv 0) pe_int) (pe_op op_add (pe_op op_pow pe_int pe_int) pe_int)))) pss_nil)
    (pss_one (ps_ret (pe_op op_mod (pe_op op_fdiv (pv 0) pe_int) pe_int)))), ?_⟩
    walk_at "rd"
    split
    · refine ⟨by decide, ?_⟩
      split
      · exact ⟨.inr ⟨by decide, by decide⟩, ⟨by decide, by decide, by decide⟩, by decide, q _⟩
      · exact ⟨⟨by decide, by decide⟩, by decide, q _⟩
    · exact ⟨⟨by decide, by decide⟩, by decide, q _⟩
end
end My

set_option Elab.async false
set_option linter.all false
set_option maxRecDepth 100000
set_option maxHeartbeats 4000000
namespace My
open PySem L2
section
variable {P : Program} {w : World} {K : PySem.W.Frag} {mg : Str → Option Value} {base : Heap}
local macro_rules | `(tactic| walk_at "rd") => `(tactic| try simp only [tSeq, tRet, tRetN, tIfS, tNext, tDrop, tOp, tUn, tVar, tC, rI0, rI, rU, rEq, rNe, L2.start, tAsg, gName, tTest, tB, tCB, tCons, tNil, rIxL, rIxT, tNot, tAnd, tOr, tNotV, tAndV, tOrV, tCall, rIsi, iRng1, iRng2, tFor, tWhile, tChain, tIf, tTup, tLst, tComp, tBlk, compSt, tTrue, Cx.comp, List.replicate_one, List.replicate_zero, Option.getD_some, tBM, tBM0, rLen, rListOf, rTupL, tRaise, tCallX, tDropX, tSetX, tTry0, tTryA, Ends.gone, rIsx, rExc, vO, tFld, tMeth, tMake, sFld, iEnL, iEnT, gTup, gCons, gNil, gSub, rSetL, rCat, rInsert, tSl, tNoPart, tPart, rSlL, rAppend, rClear, iList, iTup, cxOf, Cx.nox, Cx.wish, List.map_cons, List.map_nil, List.length_cons, List.length_nil, Nat.reduceAdd, Nat.reduceSub, List.reduceReplicate, List.cons_append, List.nil_append, List.append_nil, List.getElem?_cons_zero, List.getElem?_cons_succ, List.set_cons_zero, List.set_cons_succ, Option.some.injEq, V.int.injEq, V.bl.injEq, V.ref.injEq, V.str.injEq, V.ty.injEq, List.cons.injEq, and_true, true_and, and_assoc, exists_eq_left, exists_eq_left', exists_eq_right, exists_eq, exists_eq', exists_and_left, exists_const, decide_eq_true_eq, scal_ii, scal_bb, scal_ss, tEqI', Bool.not_eq_true', Bool.not_eq_true, decide_eq_false_iff_not, if_true, if_false, Bool.false_eq_true, reduceIte, tyN_int, tyN_bl, tyN_str, tyN_ref, okT_int, okT_bool, okT_str, okT_list, okT_tuple, subN_ii, subN_ib, subN_bb, subN_bi, subN_ss, subN_ll, subN_tt, Bool.not_true, Bool.not_false, not_true_eq_false, Bool.true_eq_false, rRep, iZip, tLRev, rIn, rCount, rPopAt])
def sp__law_spot (_ : PySem.W.Frag)  : Sp := fun vs H Q _ => ∃ (c : Int) (O M : Nat) (g : Bool), vs = [.int c, .int O, .int M, .bl g] ∧ 0 < O ∧ O ≤ 20 ∧ M ≤ 20 ∧ ∀ (t l : Addr) (ts : List V) (s : Spt) (H' : Hp), Same H H' → H l = none → H t = none → H' t = some (.tup [.int s.o, .ref l]) → H' l = some (.lst ts) → Offs H' ts s.fs → SpOk M O s → Q (.ref t) H'
theorem sc__law_spot : FnScope ["_law_cell", "_law_owners", "_law_many", "_law_great", "_law_xs", "_law_offers", "_law_column", "_law_turn"] ["_law_cell", "_law_owners", "_law_many", "_law_great"] (defScope s__law_spot) := ⟨rfl, rfl, rfl, by decide +kernel, rfl, by decide +kernel, by decide +kernel⟩
theorem ok__law_spot {f : Addr} {fd : FuncData} (F : Fun K "_law_spot" "_law_spot" s__law_spot f fd) (T : Txt mg) (C__law_stream : Cal P w K mg base "_law_stream" ["_law_cell", "_law_many"] 1 (sp__law_stream K)) (C__law_cost : Cal P w K mg base "_law_cost" ["_law_number", "_law_great"] 1 (sp__law_cost K)) : FnOk P w K mg base CX0 2 f fd ["_law_cell", "_law_owners", "_law_many", "_law_great"] (sp__law_spot K) := by
  refine F.ok sc__law_spot (fun vs H Q E h => ?_) (fun cdv A outer s H vs Q E hr h => ?_)
  · obtain ⟨c, O, M, g, rfl, _⟩ := h
    rfl
  · obtain ⟨c, O, M, gr, rfl, hO0, hO, hM, q⟩ := h
    refine ⟨_, (pss_cons (ps_set (i := 4) sc__law_spot.nd rfl (Or.inl rfl) (pe_cal C__law_stream (hr.mono (by decide)) rfl (pa_cons (pv 0) (pa_cons (pe_op op_add (pv 2) pe_int) pa_nil))))
    (pss_cons (ps_set (i := 5) sc__law_spot.nd rfl (Or.inl rfl) (pe_lst pa_nil))
    (pss_cons (ps_for PassesOwn.never rfl (pi_range1 rfl T.range (pa_cons (pv 2) pa_nil)) (pg_name (i := 6) sc__law_spot.nd rfl (Or.inl rfl))
      (pss_one (ps_if (pt_cmpR op_eq (pe_op op_and (pe_op op_shr (pv 0) (pv 6)) pe_int) pe_int (nomark _)) (pss_one (ps_expr (pe_bm PySem.F.plainAttrs_list PySem.F.slot_list_append PySem.F.type_list_append mt_append (pv 5) (pa_cons (pe_tup (pa_cons (pv 6) (pa_cons (pe_cal C__law_cost (hr.mono (by decide)) rfl (pa_cons (pe_ix ix_list (pv 4) (pv 6) (fun _ _ => rfl)) (pa_cons (pv 3) pa_nil))) pa_nil))) pa_nil)))) pss_nil)))
    (pss_cut (ps_if (PW.pt (pw_or (pt_cmpR op_gt (pe_op op_mod (pe_op op_fdiv (pv 0) pe_int) pe_int) pe_int (nomark _)) (pw_or1 (pt_cmpR (op_eqD 1 hr) (pv 5) (pe_lst pa_nil) (nomark _))))) (pss_one (ps_expr (pe_bm PySem.F.plainAttrs_list PySem.F.slot_list_insert PySem.F.type_list_insert mt_insert (pv 5) (pa_cons (pe_op op_mod (pe_ix ix_list (pv 4) (pv 2) (fun _ _ => rfl)) (pe_op op_add (pe_callB (call_lenK (K := K) rfl) (by rfl) T.len PySem.boot_len (pa_cons (pv 5) pa_nil)) pe_int)) (pa_cons (pe_tup (pa_cons pe_non (pa_cons (pe_cal C__law_cost (hr.mono (by decide)) rfl (pa_cons (pe_ix ix_list (pv 4) (pe_op op_add (pv 2) pe_int) (fun _ _ => rfl)) (pa_cons (pv 3) pa_nil))) pa_nil))) pa_nil))))) pss_nil)
    (pss_cons (ps_set (i := 7) sc__law_spot.nd rfl (Or.inl rfl) (pe_op op_mod (pe_op op_fdiv (pv 0) pe_int) pe_int))
    (pss_one (ps_ret (pe_tup (pa_cons (pe_op op_mod (pe_op op_fdiv (pv 0) pe_int) (pv 1)) (pa_cons (pe_op op_cat (pe_slice sl_list (pv 5) (po_some (pv 7)) po_none) (pe_slice sl_list (pv 5) po_none (po_some (pv 7)))) pa_nil)))))))))), ?_⟩
    refine seq_of fun U1 u1 => ?_
    walk_at "rd"
    refine ⟨_, _, rfl, by omega, by omega, fun px xs hpx hxl _ => ?_⟩
    have g0 := same_new hpx (.lst (xs.map V.int))
    rw [u1]; clear u1
    refine seq_of fun U1 u1 => ?_
    walk_at "rd"
    refine ⟨Nat.zero_le _, fun po hpo => ?_⟩
    have g1 := g0.trans (same_new hpo (.lst []))
    have ex : upd (upd H px (.lst (xs.map V.int))) po (.lst []) px = some (.lst (xs.map V.int)) := same_new hpo _ _ _ upd_same
    have eo : upd (upd H px (.lst (xs.map V.int))) po (.lst []) po = some (.lst []) := upd_same
    have hpo0 : H po = none := g0.free hpo
    have nxo : px ≠ po := ne_of_none upd_same hpo
    revert g1 ex eo
    generalize upd (upd H px (.lst (xs.map V.int))) po (.lst []) = H1
    intro g1 ex eo
    rw [u1]; clear u1
    refine seq_of fun U1 u1 => for_of fun B1 b1 => ?_
    walk_at "rd"
    refine ⟨by omega, by omega, for_rangeW (fun i σ H' => ∃ (ts : List V) (fs : List Off) (v6 : Option V), Same H H' ∧ H' px = some (.lst (xs.map V.int)) ∧ H' po = some (.lst ts) ∧ Offs H' ts fs ∧ fs.length ≤ i ∧ (fs.map (·.1)).Nodup ∧ (∀ f ∈ fs, ∃ c : Int, f.1 = some c ∧ 0 ≤ c ∧ c < (i : Int)) ∧ σ = [some (.int c), some (.int O), some (.int M), some (.bl gr), some (.ref px), some (.ref po), v6, none]) ⟨[], [], none, g1, ex, eo, .nil, Nat.le_refl _, List.nodup_nil, (fun f z => by cases z), rfl⟩ ?_ ?_⟩
    · rintro i σ H' hi ⟨ts, fs, v6, g, ex', eo', hF, hfl, nd, hb, rfl⟩
      rw [show (0 + (i : Int)) = i by omega]
      obtain ⟨y, hy⟩ := item_of (ns := xs) (k := (i : Int)) (by omega) (by omega)
      have htl := Paired.length hF
      rw [b1]
      walk_at "rd"
      refine ⟨by omega, ?_⟩
      split
      · refine ⟨.inl ⟨rfl, _, SqL.of eo'⟩, _, SqL.of ex', _, hy, _, _, rfl, fun v => ⟨by decide, fun t ht => ?_⟩⟩
        have gt := same_new ht (.tup [.int (i : Int), .int v])
        obtain ⟨s1, s2⟩ := off_step (v := v) nd hb
        exact ⟨ts, gt _ _ eo', small1000 (by omega), same_upd hpo0 (g.trans gt) _, by rw [upd_ne nxo]; exact gt _ _ ex', ts ++ [.ref t], upd_same, fs ++ [(some (i : Int), v)], Offs.off (paired_snoc (Offs.mono gt hF) ⟨t, rfl, upd_same⟩) (fun xs z => by rw [gt _ _ eo'] at z; cases z), by rw [List.length_append]; exact Nat.succ_le_succ hfl, s1, s2⟩
      · exact ⟨g, ex', ts, eo', fs, hF, by omega, nd, fun f hf => by obtain ⟨c', h1, h2, h3⟩ := hb f hf; exact ⟨c', h1, h2, by omega⟩⟩
    rintro σ H' ⟨ts, fs, v6, g, ex', eo', hF, hfl, nd, hb, rfl⟩
    rw [Int.toNat_natCast] at hfl hb
    have htl := Paired.length hF
    rw [u1]; clear u1
    refine cut_of (fun σ H2 => ∃ (ts : List V) (fs : List Off), Same H H2 ∧ H2 po = some (.lst ts) ∧ Offs H2 ts fs ∧ fs ≠ [] ∧ fs.length ≤ 25 ∧ (fs.map (·.1)).Nodup ∧ (∀ f ∈ fs, ∀ c : Int, f.1 = some c → 0 ≤ c ∧ c < (M : Int)) ∧ σ = [some (.int c), some (.int O), some (.int M), some (.bl gr), some (.ref px), some (.ref po), v6, none]) ?_ ?_
    · obtain ⟨y1, hy1⟩ := item_of (ns := xs) (k := (M : Int)) (by omega) (by omega)
      obtain ⟨y2, hy2⟩ := item_of (ns := xs) (k := (M : Int) + 1) (by omega) (by omega)
      walk_at "rd"
      refine ⟨⟨by decide, by decide⟩, by decide, ?_⟩
      split
      · have eo2 := eo'
        have ex2 := ex'
        have hF2' := hF
        have gH := g
        refine ⟨.inl ⟨rfl, _, SqL.of eo2⟩, _, SqL.of ex2, _, hy1, _, .inl (SqL.of eo2), _, rfl, by omega, _, SqL.of ex2, _, hy2, _, _, rfl, fun v => ⟨by decide, fun t ht => ?_⟩⟩
        have gt := same_new ht (.tup [.non, .int v])
        obtain ⟨k, ek, hk⟩ : ∃ k : Nat, y1 % ((ts.length : Int) + 1) = k ∧ k ≤ ts.length := ⟨(y1 % ((ts.length : Int) + 1)).toNat, by have := Int.emod_nonneg y1 (b := (ts.length : Int) + 1) (by omega); omega, by have := Int.emod_lt_of_pos y1 (b := (ts.length : Int) + 1) (by omega); have := Int.emod_nonneg y1 (b := (ts.length : Int) + 1) (by omega); omega⟩
        rw [ek, Int.toNat_natCast]
        obtain ⟨n1, n2, n3, n4, n5⟩ := ins_ok (M := M) k (Offs.mono gt hF2') (upd_same (o := .tup [.non, .int v])) (by omega) nd hb
        exact ⟨ts, gt _ _ eo2, by omega, by omega, small1000 (by omega), same_upd hpo0 (gH.trans gt) _, _, upd_same, _, Offs.off n1 (fun xs z => by rw [gt _ _ eo2] at z; cases z), n2, n3, n4, n5⟩
      · refine ⟨Nat.zero_le _, fun pe hpe => ?_⟩
        have ge := same_new hpe (.lst [])
        refine ⟨_, _, _, _, rfl, rfl, den_offs (SqL.of (ge _ _ eo')) (Offs.mono ge hF), den_ints (ns := []) (SqL.of upd_same), like_nil, _, rfl, ?_⟩
        have eo2 := ge _ _ eo'
        have ex2 := ge _ _ ex'
        have hF2' := Offs.mono ge hF
        have gH := g.trans ge
        split
        · refine ⟨.inl ⟨rfl, _, SqL.of eo2⟩, _, SqL.of ex2, _, hy1, _, .inl (SqL.of eo2), _, rfl, by omega, _, SqL.of ex2, _, hy2, _, _, rfl, fun v => ⟨by decide, fun t ht => ?_⟩⟩
          have gt := same_new ht (.tup [.non, .int v])
          obtain ⟨k, ek, hk⟩ : ∃ k : Nat, y1 % ((ts.length : Int) + 1) = k ∧ k ≤ ts.length := ⟨(y1 % ((ts.length : Int) + 1)).toNat, by have := Int.emod_nonneg y1 (b := (ts.length : Int) + 1) (by omega); omega, by have := Int.emod_lt_of_pos y1 (b := (ts.length : Int) + 1) (by omega); have := Int.emod_nonneg y1 (b := (ts.length : Int) + 1) (by omega); omega⟩
          rw [ek, Int.toNat_natCast]
          obtain ⟨n1, n2, n3, n4, n5⟩ := ins_ok (M := M) k (Offs.mono gt hF2') (upd_same (o := .tup [.non, .int v])) (by omega) nd hb
          exact ⟨ts, gt _ _ eo2, by omega, by omega, small1000 (by omega), same_upd hpo0 (gH.trans gt) _, _, upd_same, _, Offs.off n1 (fun xs z => by rw [gt _ _ eo2] at z; cases z), n2, n3, n4, n5⟩
        · rename_i hne
          refine ⟨gH, ts, eo2, fs, hF2', fun z => hne ?_, by omega, nd, fun f hf c' hc' => ?_⟩
          · rw [z]
            exact eqD_same _
          · obtain ⟨c2, h1, h2⟩ := hb f hf
            rw [h1] at hc'
            cases hc'
            exact h2
    rintro σ H2 ⟨ts2, fs2, g2, e2, hF2, ne2, fl2, nd2, cb2, rfl⟩
    refine seq_of fun U1 u1 => ?_
    walk_at "rd"
    refine ⟨⟨by decide, by decide⟩, by decide, ?_⟩
    obtain ⟨t, et⟩ : ∃ t : Nat, c / 256 % 7 = t := ⟨(c / 256 % 7).toNat, by omega⟩
    rw [et]
    rw [u1]; clear u1
    walk_at "rd"
    refine ⟨⟨by decide, by decide⟩, by omega, ?_⟩
    have htl2 := Paired.length hF2
    refine turned_ofV (Q := fun p H' => 2 ≤ sizeLine ∧ ∀ p2, H' p2 = none → Q (.ref p2) (upd H' p2 (.tup [.int (c / 1792 % (O : Int)), .ref p]))) e2 (by omega) fun l H3 g3 hl3 e3 => ⟨by decide, fun t4 ht4 => ?_⟩
    have gt := same_new ht4 (.tup [.int (c / 1792 % (O : Int)), .ref l])
    have gg := (g2.trans g3).trans gt
    refine q t4 l _ ⟨c / 1792 % (O : Int), fs2.drop t ++ fs2.take t⟩ _ gg (g2.free hl3) ((g2.trans g3).free ht4) upd_same (gt _ _ e3) (Offs.mono (g3.trans gt) (paired_app (paired_drop t hF2) (paired_take t hF2))) ?_
    exact SpOk.perm (s := ⟨c / 1792 % (O : Int), fs2⟩) ⟨ne2, by show fs2.length ≤ 30; omega, nd2, cb2, Int.emod_nonneg _ (by omega), Int.emod_lt_of_pos _ (by omega)⟩ (turn_permA fs2 t)
end
end My

set_option Elab.async false
set_option linter.all false
set_option maxRecDepth 100000
set_option maxHeartbeats 4000000
namespace My
open PySem L2
section
variable {P : Program} {w : World} {K : PySem.W.Frag} {mg : Str → Option Value} {base : Heap}
local macro_rules | `(tactic| walk_at "rd") => `(tactic| try simp only [tSeq, tRet, tRetN, tIfS, tNext, tDrop, tOp, tUn, tVar, tC, rI0, rI, rU, rEq, rNe, L2.start, tAsg, gName, tTest, tB, tCB, tCons, tNil, rIxL, rIxT, tNot, tAnd, tOr, tNotV, tAndV, tOrV, tCall, rIsi, iRng1, iRng2, tFor, tWhile, tChain, tIf, tTup, tLst, tComp, tBlk, compSt, tTrue, Cx.comp, List.replicate_one, List.replicate_zero, Option.getD_some, tBM, tBM0, rLen, rListOf, rTupL, tRaise, tCallX, tDropX, tSetX, tTry0, tTryA, Ends.gone, rIsx, rExc, vO, tFld, tMeth, tMake, sFld, iEnL, iEnT, gTup, gCons, gNil, gSub, rSetL, rCat, rInsert, tSl, tNoPart, tPart, rSlL, rAppend, rClear, iList, iTup, cxOf, Cx.nox, Cx.wish, List.map_cons, List.map_nil, List.length_cons, List.length_nil, Nat.reduceAdd, Nat.reduceSub, List.reduceReplicate, List.cons_append, List.nil_append, List.append_nil, List.getElem?_cons_zero, List.getElem?_cons_succ, List.set_cons_zero, List.set_cons_succ, Option.some.injEq, V.int.injEq, V.bl.injEq, V.ref.injEq, V.str.injEq, V.ty.injEq, List.cons.injEq, and_true, true_and, and_assoc, exists_eq_left, exists_eq_left', exists_eq_right, exists_eq, exists_eq', exists_and_left, exists_const, decide_eq_true_eq, scal_ii, scal_bb, scal_ss, tEqI', Bool.not_eq_true', Bool.not_eq_true, decide_eq_false_iff_not, if_true, if_false, Bool.false_eq_true, reduceIte, tyN_int, tyN_bl, tyN_str, tyN_ref, okT_int, okT_bool, okT_str, okT_list, okT_tuple, subN_ii, subN_ib, subN_bb, subN_bi, subN_ss, subN_ll, subN_tt, Bool.not_true, Bool.not_false, not_true_eq_false, Bool.true_eq_false, rRep, iZip, tLRev, rIn, rCount, rPopAt])
def sp__law_spots (K : PySem.W.Frag)  : Sp := fun vs H Q _ => ∃ (a : Addr) (ns : List Int), vs = [.ref a, .int 16] ∧ SqL K H a (ns.map V.int) ∧ ns.length ≤ 63 ∧ ∀ (t p : Addr) (us : List V) (ss : List Spt) (O M : Nat) (H' : Hp), Same H H' → H' t = some (.tup [.ref p, .int O, .int M]) → H' p = some (.lst us) → Spts H' us ss → ss.length ≤ 16 → (∀ s ∈ ss, SpOk M O s) → 1 ≤ O → O ≤ 4 → M ≤ 18 → Q (.ref t) H'
theorem sc__law_spots : FnScope ["_law_script", "_law_most", "_law_owners", "_law_many", "_law_great", "_law_extra", "_law_numbers"] ["_law_script", "_law_most"] (defScope s__law_spots) := ⟨rfl, rfl, rfl, by decide +kernel, rfl, by decide +kernel, by decide +kernel⟩
theorem ok__law_spots {f : Addr} {fd : FuncData} (F : Fun K "_law_spots" "_law_spots" s__law_spots f fd) (T : Txt mg) (C__law_cell_at : Cal P w K mg base "_law_cell_at" ["_law_script", "_law_k"] 1 (sp__law_cell_at K)) (C__law_stream : Cal P w K mg base "_law_stream" ["_law_cell", "_law_many"] 1 (sp__law_stream K)) (C__law_spot : Cal P w K mg base "_law_spot" ["_law_cell", "_law_owners", "_law_many", "_law_great"] 2 (sp__law_spot K)) : FnOk P w K mg base CX0 3 f fd ["_law_script", "_law_most"] (sp__law_spots K) := by
  refine F.ok sc__law_spots (fun vs H Q E h => ?_) (fun cdv A outer s H vs Q E hr h => ?_)
  · obtain ⟨a, ns, rfl, _⟩ := h
    rfl
  · obtain ⟨a, ns, rfl, hS, hn, q⟩ := h
    refine ⟨_, (pss_cons (ps_set (i := 2) sc__law_spots.nd rfl (Or.inr rfl) (pe_op op_add pe_int (pe_op op_mod (pe_cal C__law_cell_at (hr.mono (by decide)) rfl (pa_cons (pv 0) (pa_cons pe_int pa_nil))) pe_int)))
    (pss_cons (ps_set (i := 3) sc__law_spots.nd rfl (Or.inr rfl) (pe_op op_mod (pe_cal C__law_cell_at (hr.mono (by decide)) rfl (pa_cons (pv 0) (pa_cons pe_int pa_nil))) pe_int))
    (pss_cut (ps_if (pt_cmpR op_eq (pe_op op_mod (pe_op op_fdiv (pe_cal C__law_cell_at (hr.mono (by decide)) rfl (pa_cons (pv 0) (pa_cons pe_int pa_nil))) pe_int) pe_int) pe_int (nomark _)) (pss_one (ps_set (i := 3) sc__law_spots.nd rfl (Or.inr rfl) pe_int)) pss_nil)
    (pss_cons (ps_set (i := 4) sc__law_spots.nd rfl (Or.inr rfl) (pe_cmpR op_eq (pe_op op_mod (pe_op op_fdiv (pe_cal C__law_cell_at (hr.mono (by decide)) rfl (pa_cons (pv 0) (pa_cons pe_int pa_nil))) pe_int) pe_int) pe_int (nomark _)))
    (pss_cons (ps_set (i := 5) sc__law_spots.nd rfl (Or.inl rfl) (pe_op op_mod (pe_cal C__law_cell_at (hr.mono (by decide)) rfl (pa_cons (pv 0) (pa_cons pe_int pa_nil))) (pe_op op_pow pe_int pe_int)))
    (pss_cons (ps_set (i := 6) sc__law_spots.nd rfl (Or.inl rfl) (pe_op op_cat (pe_comp (own := ["_law_cell"]) (fnames := []) (fr := []) (N' := ["_law_cell"]) ⟨rfl, rfl, rfl, rfl, rfl, rfl, rfl⟩ rfl (pi_list (pe_slice sl_list (pv 0) (po_some pe_int) (po_some pe_int))) (fun s0 H0 fp0 C0 => ⟨(pg_name (i := 0) (by show (["_law_cell"] : List Str).Nodup; decide +kernel) rfl (Or.inl rfl)), pts_nil, (pe_op op_mod (pv 0) pe_int)⟩)) (pe_cal C__law_stream (hr.mono (by decide)) rfl (pa_cons (pv 5) (pa_cons (pe_op op_mod (pv 5) pe_int) pa_nil)))))
    (pss_one (ps_ret (pe_tup (pa_cons (pe_comp (own := ["_law_number"]) (fnames := ["_law_owners", "_law_many", "_law_great"]) (fr := [2, 3, 4]) (N' := ["_law_number", "_law_owners", "_law_many", "_law_great"]) ⟨rfl, rfl, rfl, rfl, rfl, rfl, rfl⟩ rfl (pi_list (pe_slice sl_list (pv 6) po_none (po_some (pv 1)))) (fun s0 H0 fp0 C0 => ⟨(pg_name (i := 0) (by show (["_law_number", "_law_owners", "_law_many", "_law_great"] : List Str).Nodup; decide +kernel) rfl (Or.inl rfl)), pts_nil, (pe_cal C__law_spot (hr.mono (by decide)) rfl (pa_cons (pv 0) (pa_cons (pv 1) (pa_cons (pv 2) (pa_cons (pv 3) pa_nil)))))⟩)) (pa_cons (pv 2) (pa_cons (pv 3) pa_nil)))))))))))), ?_⟩
    refine seq_of fun U1 u1 => ?_
    walk_at "rd"
    refine ⟨a, ns, _, rfl, hS, by decide, fun c0 => ?_⟩
    walk_at "rd"
    refine ⟨by decide, ?_⟩
    obtain ⟨o, ho, ho1, ho4⟩ : ∃ o : Nat, 1 + c0 % 4 = o ∧ 1 ≤ o ∧ o ≤ 4 := ⟨(1 + c0 % 4).toNat, by omega, by omega, by omega⟩
    rw [ho]
    rw [u1]; clear u1
    refine seq_of fun U1 u1 => ?_
    walk_at "rd"
    refine ⟨a, ns, _, rfl, hS, by decide, fun c1 => ?_⟩
    walk_at "rd"
    refine ⟨by decide, ?_⟩
    rw [u1]; clear u1
    refine cut_of (fun σ H' => H' = H ∧ ∃ m : Nat, m ≤ 18 ∧ σ = [some (.ref a), some (.int 16), some (.int o), some (.int m), none, none, none]) ?_ ?_
    · walk_at "rd"
      refine ⟨a, ns, _, rfl, hS, by decide, fun c2 => ?_⟩
      walk_at "rd"
      refine ⟨⟨by decide, by decide⟩, by decide, ?_⟩
      split
      · exact ⟨18, by decide, rfl⟩
      · exact ⟨(c1 % 6).toNat, by omega, by rw [Int.toNat_of_nonneg (by omega)]⟩
    rintro σ H' ⟨rfl, m, m18, rfl⟩
    refine seq_of fun U1 u1 => ?_
    walk_at "rd"
    refine ⟨a, ns, _, rfl, hS, by decide, fun c3 => ?_⟩
    walk_at "rd"
    refine ⟨⟨by decide, by decide⟩, by decide, ?_⟩
    generalize decide (c3 / 4 % 2 = 1) = gr
    rw [u1]; clear u1
    refine seq_of fun U1 u1 => ?_
    walk_at "rd"
    refine ⟨a, ns, _, rfl, hS, by decide, fun c4 => ?_⟩
    walk_at "rd"
    refine ⟨⟨by decide, by decide, by decide⟩, by decide, ?_⟩
    generalize c4 % 10 ^ Int.toNat 9 = ex
    rw [u1]; clear u1
    refine seq_of fun U1 u1 => ?_
    walk_at "rd"
    refine ⟨_, hS, fun p hp => ?_⟩
    obtain ⟨ms, ems, hms⟩ := cut_map ns (some 5) (some 17)
    rw [ems]
    have g5 := same_new hp (.lst (ms.map V.int))
    refine ⟨⟨_, SqL.of upd_same⟩, fun D hD => for_listW (xs := ms.map V.int) (fun i σ H6 => ∃ l6 : List Int, H6 = upd (upd H' p (.lst (ms.map V.int))) D (.lst (l6.map V.int)) ∧ l6.length = i ∧ ∃ v0, σ = [v0]) ⟨[], rfl, rfl, none, rfl⟩ (fun i σ H6 _ ⟨l6, e6, _⟩ => by rw [e6]; exact SqL.of (same_new hD _ _ _ upd_same)) ?_ ?_⟩
    · rintro i v σ H6 hv ⟨l6, rfl, hl6, v0, rfl⟩
      obtain ⟨y, hy, rfl⟩ := map_item hv
      have hi := (List.getElem?_eq_some_iff.mp hy).1
      walk_at "rd"
      exact ⟨by decide, _, upd_same, small1000 (by rw [List.length_map]; omega), l6 ++ [y % 1000003], by rw [upd_upd, List.map_append]; rfl, by rw [List.length_append, hl6]; rfl⟩
    rintro σ H6 ⟨l6, rfl, hl6, v0, rfl⟩
    rw [List.length_map] at hl6
    have g6 := g5.trans (same_new hD (.lst (l6.map V.int)))
    refine ⟨by decide, _, _, rfl, by omega, by omega, fun r ys hr hyl _ => ⟨_, rfl, _, same_new hr _ _ _ upd_same, _, upd_same, small1000' (by rw [List.length_map, List.length_map]; omega), fun pn hpn => ?_⟩⟩
    rw [← List.map_append]
    have g7 := (g6.trans (same_new hr (.lst (ys.map V.int)))).trans (same_new hpn (.lst ((l6 ++ ys).map V.int)))
    have en : upd (upd (upd (upd H' p (.lst (ms.map V.int))) D (.lst (l6.map V.int))) r (.lst (ys.map V.int))) pn (.lst ((l6 ++ ys).map V.int)) pn = some (.lst ((l6 ++ ys).map V.int)) := upd_same
    revert g7 en
    generalize upd (upd (upd (upd H' p (.lst (ms.map V.int))) D (.lst (l6.map V.int))) r (.lst (ys.map V.int))) pn (.lst ((l6 ++ ys).map V.int)) = HN
    generalize l6 ++ ys = zs
    intro g7 en
    rw [u1]; clear u1
    walk_at "rd"
    refine ⟨_, SqL.of en, fun p2 hp2 => ?_⟩
    have e16 := cut_take (zs.map V.int) 16
    rw [show (((16 : Nat)) : Int) = 16 from rfl] at e16
    rw [e16, ← List.map_take]
    have g8 := g7.trans (same_new hp2 (.lst ((zs.take 16).map V.int)))
    have e8 : upd HN p2 (.lst ((zs.take 16).map V.int)) p2 = some (.lst ((zs.take 16).map V.int)) := upd_same
    revert g8 e8
    generalize upd HN p2 (.lst ((zs.take 16).map V.int)) = H8
    intro g8 e8
    refine ⟨⟨_, SqL.of e8⟩, fun L hL => for_listW (xs := (zs.take 16).map V.int) (fun i σ H9 => Same H8 H9 ∧ (∃ (us : List V) (ss : List Spt), ss.length = i ∧ H9 L = some (.lst us) ∧ Spts H9 us ss ∧ (∀ s ∈ ss, SpOk m o s) ∧ ∀ t a l, V.ref t ∈ us → H9 t = some (.tup [.int a, .ref l]) → l ≠ L) ∧ ∃ v0, σ = [v0, some (.int o), some (.int m), some (.bl gr)]) ⟨same_new hL _, ⟨[], [], rfl, upd_same, .nil, (fun s z => by cases z), fun t a l z => by cases z⟩, none, rfl⟩ (fun i σ H9 _ hh => SqL.of (hh.1 _ _ e8)) ?_ ?_⟩
    · rintro i v σ H9 hv ⟨g9, ⟨us, ss, hsl, e9, hS9, hok9, fr9⟩, v0, rfl⟩
      obtain ⟨y, hy, rfl⟩ := map_item hv
      have hi := (List.getElem?_eq_some_iff.mp hy).1
      rw [List.length_take] at hi
      have hul := Paired.length hS9
      walk_at "rd"
      refine ⟨_, o, m, gr, rfl, by omega, by omega, by omega, fun t l ts s H3 g3 hl3 ht3 e1 e2 hO3 ok3 => ?_⟩
      obtain ⟨n1, n2⟩ := Spts.grow e9 hS9 fr9 g3 hl3 e1 e2 hO3
      refine ⟨us, g3 _ _ e9, small1000 (by omega), same_upd hL (g9.trans g3) _, us ++ [.ref t], ss ++ [s], by rw [List.length_append, hsl]; rfl, upd_same, n1, fun x hx => ?_, n2⟩
      rcases List.mem_append.mp hx with z | z
      · exact hok9 x z
      · rw [List.mem_singleton.mp z]
        exact ok3
    rintro σ H9 ⟨g9, ⟨us, ss, hsl, e9, hS9, hok9, fr9⟩, v0, rfl⟩
    rw [List.length_map, List.length_take] at hsl
    refine ⟨by decide, fun t ht => ?_⟩
    have gt := same_new ht (.tup [.ref L, .int o, .int m])
    exact q t L us ss o m _ ((g8.trans g9).trans gt) upd_same (gt _ _ e9) (hS9.mono gt) (by omega) hok9 ho1 ho4 m18
end
end My

set_option Elab.async false
set_option linter.all false
set_option maxRecDepth 100000
set_option maxHeartbeats 4000000
namespace My
open PySem L2
section
variable {P : Program} {w : World} {K : PySem.W.Frag} {mg : Str → Option Value} {base : Heap}
local macro_rules | `(tactic| walk_at "rd") => `(tactic| try simp only [tSeq, tRet, tRetN, tIfS, tNext, tDrop, tOp, tUn, tVar, tC, rI0, rI, rU, rEq, rNe, L2.start, tAsg, gName, tTest, tB, tCB, tCons, tNil, rIxL, rIxT, tNot, tAnd, tOr, tNotV, tAndV, tOrV, tCall, rIsi, iRng1, iRng2, tFor, tWhile, tChain, tIf, tTup, tLst, tComp, tBlk, compSt, tTrue, Cx.comp, List.replicate_one, List.replicate_zero, Option.getD_some, tBM, tBM0, rLen, rListOf, rTupL, tRaise, tCallX, tDropX, tSetX, tTry0, tTryA, Ends.gone, rIsx, rExc, vO, tFld, tMeth, tMake, sFld, iEnL, iEnT, gTup, gCons, gNil, gSub, rSetL, rCat, rInsert, tSl, tNoPart, tPart, rSlL, rAppend, rClear, iList, iTup, cxOf, Cx.nox, Cx.wish, List.map_cons, List.map_nil, List.length_cons, List.length_nil, Nat.reduceAdd, Nat.reduceSub, List.reduceReplicate, List.cons_append, List.nil_append, List.append_nil, List.getElem?_cons_zero, List.getElem?_cons_succ, List.set_cons_zero, List.set_cons_succ, Option.some.injEq, V.int.injEq, V.bl.injEq, V.ref.injEq, V.str.injEq, V.ty.injEq, List.cons.injEq, and_true, true_and, and_assoc, exists_eq_left, exists_eq_left', exists_eq_right, exists_eq, exists_eq', exists_and_left, exists_const, decide_eq_true_eq, scal_ii, scal_bb, scal_ss, tEqI', Bool.not_eq_true', Bool.not_eq_true, decide_eq_false_iff_not, if_true, if_false, Bool.false_eq_true, reduceIte, tyN_int, tyN_bl, tyN_str, tyN_ref, okT_int, okT_bool, okT_str, okT_list, okT_tuple, subN_ii, subN_ib, subN_bb, subN_bi, subN_ss, subN_ll, subN_tt, Bool.not_true, Bool.not_false, not_true_eq_false, Bool.true_eq_false, rRep, iZip, tLRev, rIn, rCount, rPopAt])
def sp__law_picked (_ : PySem.W.Frag)  : Sp := fun vs H Q _ => ∃ (p : Addr) (us : List V) (ss : List Spt) (c : Int), vs = [.ref p, .int c] ∧ H p = some (.lst us) ∧ Spts H us ss ∧ ss.length ≤ 20 ∧ (∀ s ∈ ss, s.fs ≠ [] ∧ s.fs.length ≤ 30) ∧ ∀ (r : Addr) (cs : List (Option Int)) (H' : Hp), Same H H' → H r = none → H' r = some (.lst (cs.map oV)) → ss.length = cs.length → (∀ (i : Nat) s c, ss[i]? = some s → cs[i]? = some c → c ∈ s.fs.map (·.1)) → Q (.ref r) H'
theorem sc__law_picked : FnScope ["_law_spots_here", "_law_cell", "_law_xs"] ["_law_spots_here", "_law_cell"] (defScope s__law_picked) := ⟨rfl, rfl, rfl, by decide +kernel, rfl, by decide +kernel, by decide +kernel⟩
theorem ok__law_picked {f : Addr} {fd : FuncData} (F : Fun K "_law_picked" "_law_picked" s__law_picked f fd) (T : Txt mg) (C__law_stream : Cal P w K mg base "_law_stream" ["_law_cell", "_law_many"] 1 (sp__law_stream K)) : FnOk P w K mg base CX0 2 f fd ["_law_spots_here", "_law_cell"] (sp__law_picked K) := by
  refine F.ok sc__law_picked (fun vs H Q E h => ?_) (fun cdv A outer s H vs Q E hr h => ?_)
  · obtain ⟨p, us, ss, c, rfl, _⟩ := h
    rfl
  · obtain ⟨p, us, ss, c, rfl, hp, hS, hn, hf, q⟩ := h
    refine ⟨_, (pss_cons (ps_set (i := 2) sc__law_picked.nd rfl (Or.inr rfl) (pe_cal C__law_stream (hr.mono (by decide)) rfl (pa_cons (pv 1) (pa_cons (pe_callB (call_lenK (K := K) rfl) (by rfl) T.len PySem.boot_len (pa_cons (pv 0) pa_nil)) pa_nil))))
    (pss_one (ps_ret (pe_comp (own := ["_law_k", "_law_spot_here"]) (fnames := ["_law_xs"]) (fr := [2]) (N' := ["_law_k", "_law_spot_here", "_law_xs"]) ⟨rfl, rfl, rfl, rfl, rfl, rfl, rfl⟩ rfl (pi_enum_list rfl T.enumerate (pv 0)) (fun s0 H0 fp0 C0 => ⟨(pg_tupK (K := K) (n := 2) rfl rfl (pgs_cons (pg_name (i := 0) (by show (["_law_k", "_law_spot_here", "_law_xs"] : List Str).Nodup; decide +kernel) rfl (Or.inl rfl)) (pgs_cons (pg_name (i := 1) (by show (["_law_k", "_law_spot_here", "_law_xs"] : List Str).Nodup; decide +kernel) rfl (Or.inl rfl)) pgs_nil))), pts_nil, (pe_ix (ix_tupK (K := K) rfl) (pe_ix (ix_listK (K := K) rfl) (pe_ix (ix_tupK (K := K) rfl) (pv 1) pe_int (fun _ _ => rfl)) (pe_op op_mod (pe_ix (ix_listK (K := K) rfl) (pv 2) (pv 0) (fun _ _ => rfl)) (pe_callB (call_lenK (K := K) rfl) (by rfl) T.len PySem.boot_len (pa_cons (pe_ix (ix_tupK (K := K) rfl) (pv 1) pe_int (fun _ _ => rfl)) pa_nil))) (fun _ _ => rfl)) pe_int (fun _ _ => rfl))⟩))))), ?_⟩
    have hul := Paired.length hS
    refine seq_of fun U1 u1 => ?_
    walk_at "rd"
    refine ⟨_, .inl (SqL.of hp), _, _, rfl, by omega, by omega, fun r xs hr hxl _ => ?_⟩
    have g1 := same_new hr (.lst (xs.map V.int))
    have er : upd H r (.lst (xs.map V.int)) r = some (.lst (xs.map V.int)) := upd_same
    revert g1 er
    generalize upd H r (.lst (xs.map V.int)) = H1
    intro g1 er
    rw [u1]; clear u1
    walk_at "rd"
    refine ⟨⟨_, SqL.of (g1 _ _ hp)⟩, fun L hL => for_enumW (xs := us) (fun i σ H' => Same H1 H' ∧ (∃ cs : List (Option Int), H' L = some (.lst (cs.map oV)) ∧ cs.length = i ∧ ∀ (j : Nat) s c, ss[j]? = some s → cs[j]? = some c → c ∈ s.fs.map (·.1)) ∧ ∃ v0 v1, σ = [v0, v1, some (.ref r)]) ⟨same_new hL _, ⟨[], upd_same, rfl, fun j s c _ z => by simp at z⟩, none, none, rfl⟩ (fun i σ H' _ hh => SqL.of (hh.1 _ _ (g1 _ _ hp))) ?_ ?_⟩
    · rintro i x σ H' t hx ⟨g, ⟨cs, e, hcl, hcc⟩, v0, v1, rfl⟩ ht
      obtain ⟨s, hs, t2, l2, ts2, rfl, q1, q2, q3⟩ := Paired.get' hS hx
      have hi := (List.getElem?_eq_some_iff.mp hs).1
      obtain ⟨f1, f2⟩ := hf s (List.mem_of_getElem? hs)
      have gt := same_new ht (.tup [.int ((0 + i : Nat) : Int), .ref t2])
      have gg := (g1.trans g).trans gt
      obtain ⟨y, hy⟩ := item_of (ns := xs) (k := ((0 + i : Nat) : Int)) (by omega) (by omega)
      have htl := Paired.length q3
      have hfp := List.length_pos_iff.mpr f1
      obtain ⟨n, en, hn2⟩ : ∃ n : Nat, y % (s.fs.length : Int) = n ∧ n < s.fs.length := ⟨(y % (s.fs.length : Int)).toNat, by have := Int.emod_nonneg y (b := (s.fs.length : Int)) (by omega); omega, by have := Int.emod_lt_of_pos y (b := (s.fs.length : Int)) (by omega); have := Int.emod_nonneg y (b := (s.fs.length : Int)) (by omega); omega⟩
      have hfn := List.getElem?_eq_getElem hn2
      obtain ⟨t3, hv3, q4⟩ := q3.get hfn
      walk_at "rd"
      refine ⟨_, SqT.of upd_same, rfl, _, _, rfl, _, _, rfl, rfl, ?_⟩
      walk_at "rd"
      have q1' := gg _ _ q1
      have q2' := gg _ _ q2
      refine ⟨_, SqT.of q1', _, rfl, _, SqL.of (gt _ _ (g _ _ er)), _, hy, _, SqT.of q1', _, rfl, l2, rfl, _, .inl (SqL.of q2'), y, rfl, by omega, l2, rfl, _, SqL.of q2', _, by rw [htl, en]; exact atI_nat hv3, t3, rfl, _, SqT.of (gg _ _ q4), _, rfl, _, gt _ _ e, small1000 (by rw [List.length_map]; omega), same_upd hL (g.trans gt) _, cs ++ [(s.fs[n]).1], by rw [upd_same, List.map_append]; rfl, by rw [List.length_append, hcl]; rfl, fun j s' c' h1 h2 => ?_⟩
      by_cases hj : j < cs.length
      · rw [List.getElem?_append_left hj] at h2
        exact hcc j s' c' h1 h2
      · rw [List.getElem?_append_right (by omega)] at h2
        have hj0 := (List.getElem?_eq_some_iff.mp h2).1
        have hj1 : j = i := by simp at hj0; omega
        subst hj1
        rw [hs] at h1
        cases h1
        rw [show j - cs.length = 0 by omega] at h2
        cases h2
        exact List.mem_map_of_mem (List.getElem_mem hn2)
    rintro σ H' ⟨g, ⟨cs, e, hcl, hcc⟩, v0, v1, rfl⟩
    exact q L cs H' (g1.trans g) (g1.free hL) e (by omega) hcc
end
end My

set_option Elab.async false
set_option linter.all false
set_option maxRecDepth 100000
set_option maxHeartbeats 4000000
namespace My
open PySem L2
section
variable {P : Program} {w : World} {K : PySem.W.Frag} {mg : Str → Option Value} {base : Heap}
local macro_rules | `(tactic| walk_at "rd") => `(tactic| try simp only [tSeq, tRet, tRetN, tIfS, tNext, tDrop, tOp, tUn, tVar, tC, rI0, rI, rU, rEq, rNe, L2.start, tAsg, gName, tTest, tB, tCB, tCons, tNil, rIxL, rIxT, tNot, tAnd, tOr, tNotV, tAndV, tOrV, tCall, rIsi, iRng1, iRng2, tFor, tWhile, tChain, tIf, tTup, tLst, tComp, tBlk, compSt, tTrue, Cx.comp, List.replicate_one, List.replicate_zero, Option.getD_some, tBM, tBM0, rLen, rListOf, rTupL, tRaise, tCallX, tDropX, tSetX, tTry0, tTryA, Ends.gone, rIsx, rExc, vO, tFld, tMeth, tMake, sFld, iEnL, iEnT, gTup, gCons, gNil, gSub, rSetL, rCat, rInsert, tSl, tNoPart, tPart, rSlL, rAppend, rClear, iList, iTup, cxOf, Cx.nox, Cx.wish, List.map_cons, List.map_nil, List.length_cons, List.length_nil, Nat.reduceAdd, Nat.reduceSub, List.reduceReplicate, List.cons_append, List.nil_append, List.append_nil, List.getElem?_cons_zero, List.getElem?_cons_succ, List.set_cons_zero, List.set_cons_succ, Option.some.injEq, V.int.injEq, V.bl.injEq, V.ref.injEq, V.str.injEq, V.ty.injEq, List.cons.injEq, and_true, true_and, and_assoc, exists_eq_left, exists_eq_left', exists_eq_right, exists_eq, exists_eq', exists_and_left, exists_const, decide_eq_true_eq, scal_ii, scal_bb, scal_ss, tEqI', Bool.not_eq_true', Bool.not_eq_true, decide_eq_false_iff_not, if_true, if_false, Bool.false_eq_true, reduceIte, tyN_int, tyN_bl, tyN_str, tyN_ref, okT_int, okT_bool, okT_str, okT_list, okT_tuple, subN_ii, subN_ib, subN_bb, subN_bi, subN_ss, subN_ll, subN_tt, Bool.not_true, Bool.not_false, not_true_eq_false, Bool.true_eq_false, rRep, iZip, tLRev, rIn, rCount, rPopAt])
def sp__law_counts (_ : PySem.W.Frag)  : Sp := fun vs H Q _ => ∃ (p d : Addr) (us : List V) (ss : List Spt) (cs : List (Option Int)) (O M : Nat), vs = [.ref p, .int O, .int M, .ref d] ∧ H p = some (.lst us) ∧ Spts H us ss ∧ H d = some (.lst (cs.map oV)) ∧ ss.length = cs.length ∧ ss.length ≤ 20 ∧ O ≤ 30 ∧ M ≤ 30 ∧ (∀ s ∈ ss, 0 ≤ s.o ∧ s.o < (O : Int)) ∧ ∀ (t g b : Addr) (H' : Hp), Same H H' → H' t = some (.tup [.ref g, .ref b]) → H' g = some (.lst ((il M (gotN cs)).map V.int)) → H' b = some (.lst ((il O (busyN ss cs)).map V.int)) → Q (.ref t) H'
theorem sc__law_counts : FnScope ["_law_spots_here", "_law_owners", "_law_many", "_law_dealt", "_law_got", "_law_busy", "_law_k", "_law_column"] ["_law_spots_here", "_law_owners", "_law_many", "_law_dealt"] (defScope s__law_counts) := ⟨rfl, rfl, rfl, by decide +kernel, rfl, by decide +kernel, by decide +kernel⟩
theorem ok__law_counts {f : Addr} {fd : FuncData} (F : Fun K "_law_counts" "_law_counts" s__law_counts f fd) (T : Txt mg)  : FnOk P w K mg base CX0 1 f fd ["_law_spots_here", "_law_owners", "_law_many", "_law_dealt"] (sp__law_counts K) := by
  refine F.ok sc__law_counts (fun vs H Q E h => ?_) (fun cdv A outer s H vs Q E hr h => ?_)
  · obtain ⟨p, d, us, ss, cs, O, M, rfl, _⟩ := h
    rfl
  · obtain ⟨p, d, us, ss, cs, O, M, rfl, hp, hS, hd, hlen, hn, hO, hM, ho, q⟩ := h
    refine ⟨_, (pss_cons (ps_comp (i := 4) sc__law_counts.nd rfl rfl (own := ["_law_column"]) (fnames := ["_law_dealt"]) (fr := [3]) (N' := ["_law_column", "_law_dealt"]) ⟨rfl, rfl, rfl, rfl, rfl, rfl, rfl⟩ rfl (pi_range1 rfl T.range (pa_cons (pv 2) pa_nil)) (fun s0 H0 fp0 C0 => ⟨(pg_name (i := 0) (by show (["_law_column", "_law_dealt"] : List Str).Nodup; decide +kernel) rfl (Or.inl rfl)), pts_nil, (pe_bmK (K := K) rfl PySem.F.plainAttrs_list PySem.F.slot_list_count PySem.F.type_list_count mt_count (pv 1) (pa_cons (pv 0) pa_nil))⟩))
    (pss_cons (ps_comp (i := 5) sc__law_counts.nd rfl rfl (own := ["_law_owner"]) (fnames := []) (fr := []) (N' := ["_law_owner"]) ⟨rfl, rfl, rfl, rfl, rfl, rfl, rfl⟩ rfl (pi_range1 rfl T.range (pa_cons (pv 1) pa_nil)) (fun s0 H0 fp0 C0 => ⟨(pg_name (i := 0) (by show (["_law_owner"] : List Str).Nodup; decide +kernel) rfl (Or.inl rfl)), pts_nil, pe_int⟩))
    (pss_cons (ps_for PassesOwn.never rfl (pi_enum_list rfl T.enumerate (pv 3)) (pg_tup (n := 2) rfl (pgs_cons (pg_name (i := 6) sc__law_counts.nd rfl (Or.inl rfl)) (pgs_cons (pg_name (i := 7) sc__law_counts.nd rfl (Or.inl rfl)) pgs_nil)))
      (pss_one (ps_if (pt_cmpR op_notN (pv 7) pe_non (nomark _)) (pss_one (ps_asg (pe_op op_add (pe_ix ix_list (pv 5) (pe_ix ix_tup (pe_ix ix_list (pv 0) (pv 6) (fun _ _ => rfl)) pe_int (fun _ _ => rfl)) (fun _ _ => rfl)) pe_int) (pg_sub (pv 5) (pe_ix ix_tup (pe_ix ix_list (pv 0) (pv 6) (fun _ _ => rfl)) pe_int (fun _ _ => rfl)) set_list))) pss_nil)))
    (pss_one (ps_ret (pe_tup (pa_cons (pv 4) (pa_cons (pv 5) pa_nil)))))))), ?_⟩
    have hul := Paired.length hS
    refine seq_of fun U1 u1 => ?_
    walk_at "rd"
    refine ⟨by omega, by omega, fun L hL => for_rangeW (fun i σ H' => H' = upd H L (.lst ((il i (gotN cs)).map V.int)) ∧ ∃ v0, σ = [v0, some (.ref d)]) ⟨rfl, none, rfl⟩ ?_ ?_⟩
    · rintro i σ H' hi ⟨rfl, v0, rfl⟩
      rw [show (0 + (i : Int)) = i by omega]
      have gL := same_new hL (.lst ((il i (gotN cs)).map V.int))
      walk_at "rd"
      refine ⟨.inl ⟨rfl, _, SqL.of (gL _ _ hd)⟩, _, gL _ _ hd, rfl, os_flat cs, _, upd_same, small1000 (by rw [List.length_map, il_len]; omega), ?_⟩
      rw [os_count, upd_upd, il_snoc, List.map_append]
      rfl
    rintro σ H1 ⟨rfl, v0, rfl⟩
    rw [Int.toNat_natCast]
    have g1 := same_new hL (.lst ((il M (gotN cs)).map V.int))
    have eL : upd H L (.lst ((il M (gotN cs)).map V.int)) L = some (.lst ((il M (gotN cs)).map V.int)) := upd_same
    revert g1 eL
    generalize upd H L (.lst ((il M (gotN cs)).map V.int)) = H1
    intro g1 eL
    rw [u1]; clear u1
    refine seq_of fun U1 u1 => ?_
    walk_at "rd"
    refine ⟨by omega, by omega, fun B hB => for_rangeW (fun i σ H' => H' = upd H1 B (.lst ((il i fun _ => 0).map V.int)) ∧ ∃ v0, σ = [v0]) ⟨rfl, none, rfl⟩ ?_ ?_⟩
    · rintro i σ H' hi ⟨rfl, v0, rfl⟩
      walk_at "rd"
      refine ⟨_, upd_same, small1000 (by rw [List.length_map, il_len]; omega), ?_⟩
      rw [upd_upd, il_snoc, List.map_append]
      rfl
    rintro σ H2 ⟨rfl, v0, rfl⟩
    rw [Int.toNat_natCast]
    have g2 := same_new hB (.lst ((il O fun _ => 0).map V.int))
    have hB0 : H B = none := g1.free hB
    have nBL : B ≠ L := (ne_of_none eL hB).symm
    rw [u1]; clear u1
    refine seq_of fun U1 u1 => for_of fun B1 b1 => ?_
    walk_at "rd"
    refine ⟨⟨_, SqL.of (g2 _ _ (g1 _ _ hd))⟩, for_enumW (xs := cs.map oV) (fun i σ H' => ∃ (v6 v7 : Option V), Same H H' ∧ H' L = some (.lst ((il M (gotN cs)).map V.int)) ∧ H' B = some (.lst ((il O (busyN (ss.take i) (cs.take i))).map V.int)) ∧ σ = [some (.ref p), some (.int O), some (.int M), some (.ref d), some (.ref L), some (.ref B), v6, v7]) ⟨none, none, g1.trans g2, g2 _ _ eL, upd_same, rfl⟩ (fun i σ H' _ ⟨_, _, g, _⟩ => SqL.of (g _ _ hd)) ?_ ?_⟩
    · rintro i x σ H' t hx ⟨v6, v7, g, e1, e2, rfl⟩ ht
      obtain ⟨c, hc, rfl⟩ := os_item hx
      have hi := (List.getElem?_eq_some_iff.mp hc).1
      have hsi := List.getElem?_eq_getElem (show i < ss.length by omega)
      obtain ⟨t2, l2, ts2, a2, q1, q2, q3⟩ := hS.get hsi
      obtain ⟨o0, o1⟩ := ho _ (List.mem_of_getElem? hsi)
      obtain ⟨o, eo⟩ : ∃ o : Nat, (ss[i]).o = o := ⟨(ss[i]).o.toNat, by omega⟩
      have hol : o < O := by omega
      have gt := same_new ht (.tup [.int ((0 + i : Nat) : Int), oV c])
      have gg := g.trans gt
      walk_at "rd"
      refine ⟨_, SqT.of upd_same, rfl, _, _, rfl, _, _, rfl, rfl, ?_⟩
      rw [b1]
      walk_at "rd"
      have hll : (ss.take i).length = (cs.take i).length := by rw [List.length_take, List.length_take]; omega
      have ai : atI us ((0 + i : Nat) : Int) = some (.ref t2) := by rw [Nat.zero_add]; exact atI_nat a2
      rw [take_one hsi, take_one hc]
      cases c with
      | none =>
        rw [if_neg (fun w => w rfl), busy_none hll]
        exact ⟨gg, gt _ _ e1, gt _ _ e2⟩
      | some x =>
        rw [if_pos (by intro w; cases w)]
        have e2' := gt _ _ e2
        have hp' := gg _ _ hp
        have q1' := gg _ _ q1
        refine ⟨_, SqL.of hp', _, ai, t2, rfl, _, SqT.of q1', _, rfl, _, _, rfl, SqL.of e2', .int (busyN (ss.take i) (cs.take i) o), by rw [eo]; exact atI_nat (by rw [List.getElem?_map, il_get hol]; rfl), _, rfl, _, SqL.of hp', _, ai, t2, rfl, _, SqT.of q1', _, rfl, _, _, rfl, e2', o, by rw [eo, List.length_map, il_len]; exact ixN_lt hol, same_upd hB0 gg _, by rw [upd_ne nBL.symm]; exact gt _ _ e1, ?_⟩
        rw [upd_same, set_ints, busy_set hll eo]
    rintro σ H' ⟨v6, v7, g, e1, e2, rfl⟩
    rw [List.length_map, List.take_length, ← hlen, List.take_length] at e2
    rw [u1]; clear u1
    walk_at "rd"
    refine ⟨by decide, fun t ht => ?_⟩
    have gt := same_new ht (.tup [.ref L, .ref B])
    exact q t L B _ (g.trans gt) upd_same (gt _ _ e1) (gt _ _ e2)
end
end My

set_option Elab.async false
set_option linter.all false
set_option maxRecDepth 100000
set_option maxHeartbeats 4000000
namespace My
open PySem L2
section
variable {P : Program} {w : World} {K : PySem.W.Frag} {mg : Str → Option Value} {base : Heap}
local macro_rules | `(tactic| walk_at "rd") => `(tactic| try simp only [tSeq, tRet, tRetN, tIfS, tNext, tDrop, tOp, tUn, tVar, tC, rI0, rI, rU, rEq, rNe, L2.start, tAsg, gName, tTest, tB, tCB, tCons, tNil, rIxL, rIxT, tNot, tAnd, tOr, tNotV, tAndV, tOrV, tCall, rIsi, iRng1, iRng2, tFor, tWhile, tChain, tIf, tTup, tLst, tComp, tBlk, compSt, tTrue, Cx.comp, List.replicate_one, List.replicate_zero, Option.getD_some, tBM, tBM0, rLen, rListOf, rTupL, tRaise, tCallX, tDropX, tSetX, tTry0, tTryA, Ends.gone, rIsx, rExc, vO, tFld, tMeth, tMake, sFld, iEnL, iEnT, gTup, gCons, gNil, gSub, rSetL, rCat, rInsert, tSl, tNoPart, tPart, rSlL, rAppend, rClear, iList, iTup, cxOf, Cx.nox, Cx.wish, List.map_cons, List.map_nil, List.length_cons, List.length_nil, Nat.reduceAdd, Nat.reduceSub, List.reduceReplicate, List.cons_append, List.nil_append, List.append_nil, List.getElem?_cons_zero, List.getElem?_cons_succ, List.set_cons_zero, List.set_cons_succ, Option.some.injEq, V.int.injEq, V.bl.injEq, V.ref.injEq, V.str.injEq, V.ty.injEq, List.cons.injEq, and_true, true_and, and_assoc, exists_eq_left, exists_eq_left', exists_eq_right, exists_eq, exists_eq', exists_and_left, exists_const, decide_eq_true_eq, scal_ii, scal_bb, scal_ss, tEqI', Bool.not_eq_true', Bool.not_eq_true, decide_eq_false_iff_not, if_true, if_false, Bool.false_eq_true, reduceIte, tyN_int, tyN_bl, tyN_str, tyN_ref, okT_int, okT_bool, okT_str, okT_list, okT_tuple, subN_ii, subN_ib, subN_bb, subN_bi, subN_ss, subN_ll, subN_tt, Bool.not_true, Bool.not_false, not_true_eq_false, Bool.true_eq_false, rRep, iZip, tLRev, rIn, rCount, rPopAt])
def sp__law_spoilt (K : PySem.W.Frag)  : Sp := fun vs H Q _ => ∃ (x : Int) (M : Nat) (c l d : Addr) (cols lim : List Int) (cs : List (Option Int)), vs = [.int x, .int M, .ref c, .ref l, .ref d] ∧ H c = some (.lst (cols.map V.int)) ∧ H l = some (.lst (lim.map V.int)) ∧ H d = some (.lst (cs.map oV)) ∧ c ≠ l ∧ c ≠ d ∧ l ≠ d ∧ cols.length = M ∧ M ≤ 30 ∧ 0 < lim.length ∧ lim.length ≤ 30 ∧ cs.length ≤ 25 ∧ ∀ H', SpS H c l d cols.length lim.length 26 H' → Q .non H'
theorem sc__law_spoilt : FnScope ["_law_cell", "_law_many", "_law_columns", "_law_limits", "_law_dealt", "_law_way", "_law_number", "_law_at"] ["_law_cell", "_law_many", "_law_columns", "_law_limits", "_law_dealt"] (defScope s__law_spoilt) := ⟨rfl, rfl, rfl, by decide +kernel, rfl, by decide +kernel, by decide +kernel⟩
theorem ok__law_spoilt {f : Addr} {fd : FuncData} (F : Fun K "_law_spoilt" "_law_spoilt" s__law_spoilt f fd) (T : Txt mg)  : FnOk P w K mg base CX0 1 f fd ["_law_cell", "_law_many", "_law_columns", "_law_limits", "_law_dealt"] (sp__law_spoilt K) := by
  refine F.ok sc__law_spoilt (fun vs H Q E h => ?_) (fun cdv A outer s H vs Q E hr h => ?_)
  · obtain ⟨x, M, c, l, d, cols, lim, cs, rfl, _⟩ := h
    rfl
  · obtain ⟨x, M, c, l, d, cols, lim, cs, rfl, hc, hl, hd, ncl, ncd, nld, hM, hM30, hl0, hl30, hcs, q⟩ := h
    refine ⟨_, (pss_cons (ps_set (i := 5) sc__law_spoilt.nd rfl (Or.inl rfl) (pe_op op_mod (pv 0) pe_int))
    (pss_cons (ps_set (i := 6) sc__law_spoilt.nd rfl (Or.inl rfl) (pe_op op_fdiv (pv 0) pe_int))
    (pss_cut (ps_if (pt_cmpR op_eq (pv 5) pe_int (nomark _)) (pss_one (ps_expr (pe_bm PySem.F.plainAttrs_list PySem.F.slot_list_insert PySem.F.type_list_insert mt_insert (pv 4) (pa_cons (pe_op op_mod (pv 6) (pe_op op_add (pe_callB (call_lenK (K := K) rfl) (by rfl) T.len PySem.boot_len (pa_cons (pv 4) pa_nil)) pe_int)) (pa_cons pe_non pa_nil))))) pss_nil)
    (pss_cut (ps_if (PW.pt (pw_and (pt_cmpR op_eq (pv 5) pe_int (nomark _)) (pw_and1 (pt_cmpR (op_neD 0 hr) (pv 2) (pe_lst pa_nil) (nomark _))))) (pss_one (ps_asg (pe_op op_add (pe_ix ix_list (pv 2) (pe_op op_mod (pv 6) (pv 1)) (fun _ _ => rfl)) pe_int) (pg_sub (pv 2) (pe_op op_mod (pv 6) (pv 1)) set_list))) pss_nil)
    (pss_cut (ps_if (pt_cmpR op_eq (pv 5) pe_int (nomark _)) (pss_one (ps_asg (pe_callB (call_max2 rfl) (by rfl) T.max PyProof.Rows.boot_max (pa_cons pe_int (pa_cons (pe_op op_sub (pe_ix ix_list (pv 3) (pe_op op_mod (pv 6) (pe_callB (call_lenK (K := K) rfl) (by rfl) T.len PySem.boot_len (pa_cons (pv 3) pa_nil))) (fun _ _ => rfl)) pe_int) pa_nil))) (pg_sub (pv 3) (pe_op op_mod (pv 6) (pe_callB (call_lenK (K := K) rfl) (by rfl) T.len PySem.boot_len (pa_cons (pv 3) pa_nil))) set_list))) pss_nil)
    (pss_cons (ps_if (pt_cmpR (op_eqD 0 hr) (pv 4) (pe_lst pa_nil) (nomark _)) (pss_one ps_retN) pss_nil)
    (pss_cons (ps_set (i := 7) sc__law_spoilt.nd rfl (Or.inl rfl) (pe_op op_mod (pv 6) (pe_callB (call_lenK (K := K) rfl) (by rfl) T.len PySem.boot_len (pa_cons (pv 4) pa_nil))))
    (pss_cut (ps_if (pt_cmpR op_eq (pv 5) pe_int (nomark _)) (pss_one (ps_expr (pe_bm PySem.F.plainAttrs_list PySem.F.slot_list_pop PySem.F.type_list_pop mt_popAt (pv 4) (pa_cons (pv 7) pa_nil)))) pss_nil)
    (pss_cut (ps_if (pt_cmpR op_eq (pv 5) pe_int (nomark _)) (pss_one (ps_asg (pe_op op_mod (pe_op op_fdiv (pv 6) pe_int) (pe_callB (call_max2 rfl) (by rfl) T.max PyProof.Rows.boot_max (pa_cons (pv 1) (pa_cons pe_int pa_nil)))) (pg_sub (pv 4) (pv 7) set_list))) pss_nil)
    (pss_cut (ps_if (pt_cmpR op_eq (pv 5) pe_int (nomark _)) (pss_one (ps_asg (pe_op op_sub (pe_un un_neg pe_int) (pe_op op_mod (pe_op op_fdiv (pv 6) pe_int) pe_int)) (pg_sub (pv 4) (pv 7) set_list))) pss_nil)
    (pss_cut (ps_if (pt_cmpR op_eq (pv 5) pe_int (nomark _)) (pss_one (ps_asg (pe_op op_add (pv 1) (pe_op op_mod (pe_op op_fdiv (pv 6) pe_int) pe_int)) (pg_sub (pv 4) (pv 7) set_list))) pss_nil)
    (pss_one (ps_if (pt_cmpR op_eq (pv 5) pe_int (nomark _)) (pss_one (ps_asg pe_non (pg_sub (pv 4) (pv 7) set_list))) pss_nil))))))))))))), ?_⟩
    refine seq_of fun U1 u1 => ?_
    walk_at "rd"
    refine ⟨by decide, ?_⟩
    obtain ⟨w, hw⟩ : ∃ w, x % 8 = w := ⟨_, rfl⟩
    rw [hw]
    rw [u1]; clear u1
    refine seq_of fun U1 u1 => ?_
    walk_at "rd"
    refine ⟨⟨by decide, by decide⟩, ?_⟩
    obtain ⟨n, hn⟩ : ∃ n, x / 8 = n := ⟨_, rfl⟩
    rw [hn]
    rw [u1]; clear u1
    refine cut_of (fun σ H' => SpS H c l d cols.length lim.length 26 H' ∧ σ = [some (.int x), some (.int M), some (.ref c), some (.ref l), some (.ref d), some (.int w), some (.int n), none]) ?_ ?_
    · obtain ⟨k, ek, hk⟩ := emod_nat n (show 0 < cs.length + 1 by omega)
      walk_at "rd"
      split
      · refine ⟨.inl ⟨rfl, _, SqL.of hd⟩, _, .inl (SqL.of hd), by omega, _, hd, ?_, ?_, small1000 (by rw [List.length_map]; omega), ?_⟩
        · rw [List.length_map, show n % ((cs.length : Int) + 1) = k from ek]
          omega
        · rw [List.length_map, show n % ((cs.length : Int) + 1) = k from ek]
          omega
        · rw [List.length_map, show n % ((cs.length : Int) + 1) = k from ek, Int.toNat_natCast]
          refine ⟨cols, lim, cs.take k ++ none :: cs.drop k, fun a o e x y z => by rw [upd_ne z]; exact e, by rw [upd_ne ncd]; exact hc, by rw [upd_ne nld]; exact hl, by rw [upd_same, List.map_append, List.map_cons, List.map_take, List.map_drop]; rfl, rfl, rfl, ?_⟩
          rw [List.length_append, List.length_cons, List.length_take, List.length_drop]
          omega
      · exact ⟨cols, lim, cs, fun a o e _ _ _ => e, hc, hl, hd, rfl, rfl, by omega⟩
    rintro σ H1 ⟨h1, rfl⟩
    refine cut_of (fun σ H' => SpS H c l d cols.length lim.length 26 H' ∧ σ = [some (.int x), some (.int M), some (.ref c), some (.ref l), some (.ref d), some (.int w), some (.int n), none]) ?_ ?_
    · obtain ⟨cols1, lim1, cs1, f1, a1, a2, a3, m1, m2, m3⟩ := h1.ex
      walk_at "rd"
      split
      · refine ⟨Nat.zero_le _, fun pe hpe => ?_⟩
        have ge := same_new hpe (.lst [])
        refine ⟨_, _, _, _, rfl, rfl, den_ints (SqL.of (ge _ _ a1)), den_ints (ns := []) (SqL.of upd_same), like_nil, _, rfl, ?_⟩
        split
        · rename_i hne
          have hcp : 0 < M := by
            have := List.length_pos_iff.mpr (not_nil hne)
            rw [List.length_map] at this
            omega
          obtain ⟨k, ek, hk⟩ := emod_nat n hcp
          have hk1 : k < cols1.length := by omega
          have e1 := List.getElem?_eq_getElem hk1
          rw [ek]
          refine ⟨by omega, _, SqL.of (ge _ _ a1), .int cols1[k], atI_nat (by rw [List.getElem?_map, e1]; rfl), _, rfl, by omega, _, ge _ _ a1, k, by rw [List.length_map]; exact ixN_lt hk1, ?_⟩
          exact ⟨cols1.set k (cols1[k] + 1), lim1, cs1, fun a o e x y z => by rw [upd_ne x]; exact ge _ _ (f1 a o e x y z), by rw [upd_same, set_ints], by rw [upd_ne ncl.symm]; exact ge _ _ a2, by rw [upd_ne ncd.symm]; exact ge _ _ a3, by rw [List.length_set]; exact m1, m2, m3⟩
        · exact h1.mono ge
      · exact h1
    rintro σ H2 ⟨h2, rfl⟩
    refine cut_of (fun σ H' => SpS H c l d cols.length lim.length 26 H' ∧ σ = [some (.int x), some (.int M), some (.ref c), some (.ref l), some (.ref d), some (.int w), some (.int n), none]) ?_ ?_
    · obtain ⟨cols1, lim1, cs1, f1, a1, a2, a3, m1, m2, m3⟩ := h2.ex
      obtain ⟨k, ek, hk⟩ := emod_nat n (show 0 < lim1.length by omega)
      have e1 := List.getElem?_eq_getElem hk
      walk_at "rd"
      split
      · refine ⟨_, .inl (SqL.of a2), by rw [List.length_map]; omega, _, SqL.of a2, .int lim1[k], by rw [List.length_map, ek]; exact atI_nat (by rw [List.getElem?_map, e1]; rfl), _, rfl, _, .inl (SqL.of a2), by rw [List.length_map]; omega, _, a2, k, by rw [List.length_map, ek]; exact ixN_lt hk, ?_⟩
        exact ⟨cols1, lim1.set k _, cs1, fun a o e x y z => by rw [upd_ne y]; exact f1 a o e x y z, by rw [upd_ne ncl]; exact a1, by rw [upd_same, set_ints], by rw [upd_ne nld.symm]; exact a3, m1, by rw [List.length_set]; exact m2, m3⟩
      · exact h2
    rintro σ H3 ⟨h3, rfl⟩
    obtain ⟨cols3, lim3, cs3, f3, a1, a2, a3, m1, m2, m3⟩ := h3.ex
    refine seq_of fun U1 u1 => ?_
    walk_at "rd"
    refine ⟨Nat.zero_le _, fun pe hpe => ?_⟩
    have ge := same_new hpe (.lst [])
    refine ⟨_, _, _, _, rfl, rfl, den_oD (SqL.of (ge _ _ a3)), den_ints (ns := []) (SqL.of upd_same), like_nil, _, rfl, ?_⟩
    split
    · exact q _ (h3.mono ge)
    · rename_i hne
      have hcp : 0 < cs3.length := by
        cases cs3 with
        | nil => exact absurd (eqD_same _) hne
        | cons a b => simp
      obtain ⟨kk, ek, hk⟩ := emod_nat n hcp
      rw [u1]; clear u1
      refine seq_of fun U1 u1 => ?_
      walk_at "rd"
      refine ⟨_, .inl (SqL.of (ge _ _ a3)), by rw [List.length_map]; omega, ?_⟩
      rw [List.length_map, ek]
      have h4 : SpK H c l d cols.length lim.length 26 w kk (upd H3 pe (.lst [])) := ⟨cols3, lim3, cs3, fun a o e x y z => ge _ _ (f3 a o e x y z), ge _ _ a1, ge _ _ a2, ge _ _ a3, m1, m2, m3, .inr hk⟩
      have y1 := ge _ _ a1
      have y2 := ge _ _ a2
      have y3 := ge _ _ a3
      have fy : ∀ a o, H a = some o → a ≠ c → a ≠ l → a ≠ d → upd H3 pe (.lst []) a = some o := fun a o e x y z => ge _ _ (f3 a o e x y z)
      revert h4 y1 y2 y3 fy
      generalize upd H3 pe (.lst []) = H4
      intro h4 y1 y2 y3 fy
      rw [u1]; clear u1
      refine cut_of (fun σ H' => SpK H c l d cols.length lim.length 26 w kk H' ∧ σ = [some (.int x), some (.int M), some (.ref c), some (.ref l), some (.ref d), some (.int w), some (.int n), some (.int kk)]) ?_ ?_
      · walk_at "rd"
        split
        · rename_i hw3
          refine ⟨.inl ⟨rfl, _, SqL.of y3⟩, _, y3, by omega, by omega, kk, by rw [seqIndex_of (by omega) (by rw [List.length_map]; omega), Int.toNat_natCast], oV cs3[kk], by rw [List.getElem?_map, List.getElem?_eq_getElem hk]; rfl, ?_⟩
          exact ⟨cols3, lim3, cs3.eraseIdx kk, fun a o e x y z => by rw [upd_ne z]; exact fy a o e x y z, by rw [upd_ne ncd]; exact y1, by rw [upd_ne nld]; exact y2, by rw [upd_same, era_oV], m1, m2, by have := List.length_eraseIdx_le cs3 kk; omega, .inl hw3⟩
        · exact h4
      rintro σ H5 ⟨h5, rfl⟩
      refine cut_of (fun σ H' => SpK H c l d cols.length lim.length 26 w kk H' ∧ σ = [some (.int x), some (.int M), some (.ref c), some (.ref l), some (.ref d), some (.int w), some (.int n), some (.int kk)]) ?_ ?_
      · walk_at "rd"
        split
        · rename_i hw4
          obtain ⟨xs5, x1, x2, x3⟩ := h5.put (by omega) ncd nld (some (n / 61 % (if 1 > (M : Int) then 1 else (M : Int))))
          refine ⟨⟨by decide, by decide⟩, ?_, _, x1, kk, x2, x3⟩
          split <;> omega
        · exact h5
      rintro σ H6 ⟨h6, rfl⟩
      refine cut_of (fun σ H' => SpK H c l d cols.length lim.length 26 w kk H' ∧ σ = [some (.int x), some (.int M), some (.ref c), some (.ref l), some (.ref d), some (.int w), some (.int n), some (.int kk)]) ?_ ?_
      · walk_at "rd"
        split
        · rename_i hw4
          obtain ⟨xs5, x1, x2, x3⟩ := h6.put (by omega) ncd nld (some (-1 - n / 61 % 9))
          exact ⟨⟨by decide, by decide⟩, by decide, _, x1, kk, x2, x3⟩
        · exact h6
      rintro σ H7 ⟨h7, rfl⟩
      refine cut_of (fun σ H' => SpK H c l d cols.length lim.length 26 w kk H' ∧ σ = [some (.int x), some (.int M), some (.ref c), some (.ref l), some (.ref d), some (.int w), some (.int n), some (.int kk)]) ?_ ?_
      · walk_at "rd"
        split
        · rename_i hw4
          obtain ⟨xs5, x1, x2, x3⟩ := h7.put (by omega) ncd nld (some ((M : Int) + n / 61 % 3))
          exact ⟨⟨by decide, by decide⟩, by decide, _, x1, kk, x2, x3⟩
        · exact h7
      rintro σ H8 ⟨h8, rfl⟩
      walk_at "rd"
      split
      · rename_i hw4
        obtain ⟨xs5, x1, x2, x3⟩ := h8.put (by omega) ncd nld none
        exact ⟨_, x1, kk, x2, q _ x3.toS⟩
      · exact q _ h8.toS
end
end My

set_option Elab.async false
set_option linter.all false
set_option maxRecDepth 100000
set_option maxHeartbeats 4000000
namespace My
open PySem L2
section
variable {P : Program} {w : World} {K : PySem.W.Frag} {mg : Str → Option Value} {base : Heap}
local macro_rules | `(tactic| walk_at "rd") => `(tactic| try simp only [tSeq, tRet, tRetN, tIfS, tNext, tDrop, tOp, tUn, tVar, tC, rI0, rI, rU, rEq, rNe, L2.start, tAsg, gName, tTest, tB, tCB, tCons, tNil, rIxL, rIxT, tNot, tAnd, tOr, tNotV, tAndV, tOrV, tCall, rIsi, iRng1, iRng2, tFor, tWhile, tChain, tIf, tTup, tLst, tComp, tBlk, compSt, tTrue, Cx.comp, List.replicate_one, List.replicate_zero, Option.getD_some, tBM, tBM0, rLen, rListOf, rTupL, tRaise, tCallX, tDropX, tSetX, tTry0, tTryA, Ends.gone, rIsx, rExc, vO, tFld, tMeth, tMake, sFld, iEnL, iEnT, gTup, gCons, gNil, gSub, rSetL, rCat, rInsert, tSl, tNoPart, tPart, rSlL, rAppend, rClear, iList, iTup, cxOf, Cx.nox, Cx.wish, List.map_cons, List.map_nil, List.length_cons, List.length_nil, Nat.reduceAdd, Nat.reduceSub, List.reduceReplicate, List.cons_append, List.nil_append, List.append_nil, List.getElem?_cons_zero, List.getElem?_cons_succ, List.set_cons_zero, List.set_cons_succ, Option.some.injEq, V.int.injEq, V.bl.injEq, V.ref.injEq, V.str.injEq, V.ty.injEq, List.cons.injEq, and_true, true_and, and_assoc, exists_eq_left, exists_eq_left', exists_eq_right, exists_eq, exists_eq', exists_and_left, exists_const, decide_eq_true_eq, scal_ii, scal_bb, scal_ss, tEqI', Bool.not_eq_true', Bool.not_eq_true, decide_eq_false_iff_not, if_true, if_false, Bool.false_eq_true, reduceIte, tyN_int, tyN_bl, tyN_str, tyN_ref, okT_int, okT_bool, okT_str, okT_list, okT_tuple, subN_ii, subN_ib, subN_bb, subN_bi, subN_ss, subN_ll, subN_tt, Bool.not_true, Bool.not_false, not_true_eq_false, Bool.true_eq_false, rRep, iZip, tLRev, rIn, rCount, rPopAt])
def sp__law_copy (_ : PySem.W.Frag)  : Sp := fun vs H Q _ => ∃ (p : Addr) (us : List V) (ss : List Spt), vs = [.ref p] ∧ H p = some (.lst us) ∧ Spts H us ss ∧ ss.length ≤ 20 ∧ ∀ (r : Addr) (us' : List V) (H' : Hp), Same H H' → H r = none → H' r = some (.lst us') → Spts H' us' ss → Q (.ref r) H'
theorem sc__law_copy : FnScope ["_law_spots_here"] ["_law_spots_here"] (defScope s__law_copy) := ⟨rfl, rfl, rfl, by decide +kernel, rfl, by decide +kernel, by decide +kernel⟩
theorem ok__law_copy {f : Addr} {fd : FuncData} (F : Fun K "_law_copy" "_law_copy" s__law_copy f fd) (T : Txt mg)  : FnOk P w K mg base CX0 1 f fd ["_law_spots_here"] (sp__law_copy K) := by
  refine F.ok sc__law_copy (fun vs H Q E h => ?_) (fun cdv A outer s H vs Q E hr h => ?_)
  · obtain ⟨p, us, ss, rfl, _⟩ := h
    rfl
  · obtain ⟨p, us, ss, rfl, hp, hS, hn, q⟩ := h
    refine ⟨_, (pss_one (ps_ret (pe_comp (own := ["_law_owner", "_law_offers"]) (fnames := []) (fr := []) (N' := ["_law_owner", "_law_offers"]) ⟨rfl, rfl, rfl, rfl, rfl, rfl, rfl⟩ rfl (pi_list (pv 0)) (fun s0 H0 fp0 C0 => ⟨(pg_tupK (K := K) (n := 2) rfl rfl (pgs_cons (pg_name (i := 0) (by show (["_law_owner", "_law_offers"] : List Str).Nodup; decide +kernel) rfl (Or.inl rfl)) (pgs_cons (pg_name (i := 1) (by show (["_law_owner", "_law_offers"] : List Str).Nodup; decide +kernel) rfl (Or.inl rfl)) pgs_nil))), pts_nil, (pe_tup (pa_cons (pv 0) (pa_cons (pe_callTy (call_listK (K := K) rfl) (by rfl) T.list PyProof.Rows.boot_list (pa_cons (pv 1) pa_nil)) pa_nil)))⟩)))), ?_⟩
    have hul := Paired.length hS
    walk_at "rd"
    refine ⟨⟨_, SqL.of hp⟩, fun L hL => for_listW (xs := us) (fun i σ H' => Same H H' ∧ (∃ us' : List V, us'.length = i ∧ H' L = some (.lst us') ∧ Spts H' us' (ss.take i) ∧ ∀ t a l, V.ref t ∈ us' → H' t = some (.tup [.int a, .ref l]) → l ≠ L) ∧ ∃ v0 v1, σ = [v0, v1]) ⟨same_new hL _, ⟨[], rfl, upd_same, .nil, fun t a l z => by cases z⟩, none, none, rfl⟩ (fun i σ H' _ hh => SqL.of (hh.1 _ _ hp)) ?_ ?_⟩
    · rintro i v σ H' hv ⟨g, ⟨us', hu', e, hS', fr⟩, v0, v1, rfl⟩
      obtain ⟨s, hs, t2, l2, ts2, rfl, q1, q2, q3⟩ := Paired.get' hS hv
      have hi := (List.getElem?_eq_some_iff.mp hs).1
      walk_at "rd"
      refine ⟨_, SqT.of (g _ _ q1), rfl, _, _, rfl, _, _, rfl, rfl, ?_⟩
      walk_at "rd"
      refine ⟨_, .inl (SqL.of (g _ _ q2)), fun l hl => ⟨by decide, fun t ht => ?_⟩⟩
      have a1 := same_new hl (.lst ts2)
      have a2 := a1.trans (same_new ht (.tup [.int s.o, .ref l]))
      have nLl : l ≠ L := (ne_of_none e hl).symm
      have key : ∀ t' a' l', V.ref t' ∈ us' ++ [.ref t] → upd (upd H' l (.lst ts2)) t (.tup [.int s.o, .ref l]) t' = some (.tup [.int a', .ref l']) → l' ≠ L := by
        intro t' a' l' ht' e'
        rcases List.mem_append.mp ht' with z | z
        · obtain ⟨a3, l3, e3⟩ := hS'.tup z
          rw [a2 _ _ e3] at e'
          cases e'
          exact fr t' _ _ z e3
        · cases List.mem_singleton.mp z
          rw [upd_same] at e'
          cases e'
          exact nLl
      refine ⟨us', a2 _ _ e, small1000 (by omega), same_upd hL (g.trans a2) _, us' ++ [.ref t], by rw [List.length_append, hu']; rfl, upd_same, ?_, fun t' a' l' ht' e' => key t' a' l' ht' ?_⟩
      · rw [take_one hs]
        exact Spts.off (paired_snoc (hS'.mono a2) ⟨t, l, ts2, rfl, upd_same, same_new ht _ _ _ upd_same, q3.mono (g.trans a2)⟩) (fun xs z => by rw [a2 _ _ e] at z; cases z) key
      · by_cases z : t' = L
        · subst z
          rw [upd_same] at e'
          cases e'
        · rw [upd_ne z] at e'
          exact e'
    rintro σ H' ⟨g, ⟨us', hu', e, hS', fr⟩, v0, v1, rfl⟩
    rw [hul, List.take_length] at hS'
    exact q L us' H' g hL e hS'
def sp__law_whole (_ : PySem.W.Frag)  : Sp := fun vs H Q _ => ∃ i : Int, vs = [.int i] ∧ Q (.bl true) H
theorem sc__law_whole : FnScope ["_law_found"] ["_law_found"] (defScope s__law_whole) := ⟨rfl, rfl, rfl, by decide +kernel, rfl, by decide +kernel, by decide +kernel⟩
theorem ok__law_whole {f : Addr} {fd : FuncData} (F : Fun K "_law_whole" "_law_whole" s__law_whole f fd) (T : Txt mg)  : FnOk P w K mg base CX0 1 f fd ["_law_found"] (sp__law_whole K) := by
  refine F.ok sc__law_whole (fun vs H Q E h => ?_) (fun cdv A outer s H vs Q E hr h => ?_)
  · obtain ⟨i, rfl, _⟩ := h
    rfl
  · obtain ⟨i, rfl, q⟩ := h
    refine ⟨_, (pss_one (ps_ret (pe_and (pe_callB call_isi (by rfl) T.isinstance PyProof.Rows.boot_isinstance (pa_cons (pv 0) (pa_cons (pe_bltn (v := .ty "int") rfl T.int PyProof.Rows.boot_int rfl) pa_nil))) (pe_one (pe_not (pe_callB call_isi (by rfl) T.isinstance PyProof.Rows.boot_isinstance (pa_cons (pv 0) (pa_cons (pe_bltn (v := .ty "bool") rfl T.bool PyProof.Rows.boot_bool rfl) pa_nil)))))))), ?_⟩
    walk_at "rd"
    exact q
end
end My

set_option Elab.async false
set_option linter.all false
set_option maxRecDepth 100000
set_option maxHeartbeats 4000000
namespace My
open PySem L2
section
variable {P : Program} {w : World} {K : PySem.W.Frag} {mg : Str → Option Value} {base : Heap}
local macro_rules | `(tactic| walk_at "rd") => `(tactic| try simp only [tSeq, tRet, tRetN, tIfS, tNext, tDrop, tOp, tUn, tVar, tC, rI0, rI, rU, rEq, rNe, L2.start, tAsg, gName, tTest, tB, tCB, tCons, tNil, rIxL, rIxT, tNot, tAnd, tOr, tNotV, tAndV, tOrV, tCall, rIsi, iRng1, iRng2, tFor, tWhile, tChain, tIf, tTup, tLst, tComp, tBlk, compSt, tTrue, Cx.comp, List.replicate_one, List.replicate_zero, Option.getD_some, tBM, tBM0, rLen, rListOf, rTupL, tRaise, tCallX, tDropX, tSetX, tTry0, tTryA, Ends.gone, rIsx, rExc, vO, tFld, tMeth, tMake, sFld, iEnL, iEnT, gTup, gCons, gNil, gSub, rSetL, rCat, rInsert, tSl, tNoPart, tPart, rSlL, rAppend, rClear, iList, iTup, cxOf, Cx.nox, Cx.wish, List.map_cons, List.map_nil, List.length_cons, List.length_nil, Nat.reduceAdd, Nat.reduceSub, List.reduceReplicate, List.cons_append, List.nil_append, List.append_nil, List.getElem?_cons_zero, List.getElem?_cons_succ, List.set_cons_zero, List.set_cons_succ, Option.some.injEq, V.int.injEq, V.bl.injEq, V.ref.injEq, V.str.injEq, V.ty.injEq, List.cons.injEq, and_true, true_and, and_assoc, exists_eq_left, exists_eq_left', exists_eq_right, exists_eq, exists_eq', exists_and_left, exists_const, decide_eq_true_eq, scal_ii, scal_bb, scal_ss, tEqI', Bool.not_eq_true', Bool.not_eq_true, decide_eq_false_iff_not, if_true, if_false, Bool.false_eq_true, reduceIte, tyN_int, tyN_bl, tyN_str, tyN_ref, okT_int, okT_bool, okT_str, okT_list, okT_tuple, subN_ii, subN_ib, subN_bb, subN_bi, subN_ss, subN_ll, subN_tt, Bool.not_true, Bool.not_false, not_true_eq_false, Bool.true_eq_false, rRep, iZip, tLRev, rIn, rCount, rPopAt])
def sp__law_dealing (K : PySem.W.Frag)  : Sp := fun vs H Q _ => ∃ (p c l d : Addr) (us : List V) (ss : List Spt) (cols lim : List Int) (cs : List (Option Int)), vs = [.ref p, .ref c, .ref l, .ref d] ∧ H p = some (.lst us) ∧ Spts H us ss ∧ H c = some (.lst (cols.map V.int)) ∧ H l = some (.lst (lim.map V.int)) ∧ H d = some (.lst (cs.map oV)) ∧ ss.length ≤ 20 ∧ cs.length ≤ 40 ∧ cols.length ≤ 30 ∧ lim.length ≤ 30 ∧ (∀ s ∈ ss, SpOk cols.length lim.length s) ∧ ∀ H', Same H H' → Q (.bl (dealB ss cols lim cs)) H'
theorem sc__law_dealing : FnScope ["_law_spots_here", "_law_columns", "_law_limits", "_law_dealt", "_law_k", "_law_got", "_law_busy"] ["_law_spots_here", "_law_columns", "_law_limits", "_law_dealt"] (defScope s__law_dealing) := ⟨rfl, rfl, rfl, by decide +kernel, rfl, by decide +kernel, by decide +kernel⟩
theorem ok__law_dealing {f : Addr} {fd : FuncData} (F : Fun K "_law_dealing" "_law_dealing" s__law_dealing f fd) (T : Txt mg) (C__law_counts : Cal P w K mg base "_law_counts" ["_law_spots_here", "_law_owners", "_law_many", "_law_dealt"] 1 (sp__law_counts K)) (C__law_whole : Cal P w K mg base "_law_whole" ["_law_found"] 1 (sp__law_whole K)) : FnOk P w K mg base CX0 2 f fd ["_law_spots_here", "_law_columns", "_law_limits", "_law_dealt"] (sp__law_dealing K) := by
  refine F.ok sc__law_dealing (fun vs H Q E h => ?_) (fun cdv A outer s H vs Q E hr h => ?_)
  · obtain ⟨p, c, l, d, us, ss, cols, lim, cs, rfl, _⟩ := h
    rfl
  · obtain ⟨p, c, l, d, us, ss, cols, lim, cs, rfl, hp, hS, hc, hl, hd, n1, n2, n3, n4, hok, q⟩ := h
    refine ⟨_, (pss_cons (ps_if (PW.pt (pw_or (pt_not (pt_val (pe_callB call_isi (by rfl) T.isinstance PyProof.Rows.boot_isinstance (pa_cons (pv 3) (pa_cons (pe_bltn (v := .ty "list") rfl T.list PyProof.Rows.boot_list rfl) pa_nil))))) (pw_or1 (pt_cmpR op_ne (pe_callB (call_lenK (K := K) rfl) (by rfl) T.len PySem.boot_len (pa_cons (pv 3) pa_nil)) (pe_callB (call_lenK (K := K) rfl) (by rfl) T.len PySem.boot_len (pa_cons (pv 0) pa_nil)) (nomark _))))) (pss_one (ps_ret pe_bl)) pss_nil)
    (pss_cons (ps_for PassesOwn.never rfl (pi_range1 rfl T.range (pa_cons (pe_callB (call_lenK (K := K) rfl) (by rfl) T.len PySem.boot_len (pa_cons (pv 0) pa_nil)) pa_nil)) (pg_name (i := 4) sc__law_dealing.nd rfl (Or.inl rfl))
      (pss_cons (ps_if (PW.pt (pw_and (pt_cmpR op_notN (pe_ix ix_list (pv 3) (pv 4) (fun _ _ => rfl)) pe_non (nomark _)) (pw_and1 (pt_not (pt_val (pe_cal C__law_whole (hr.mono (by decide)) rfl (pa_cons (pe_ix ix_list (pv 3) (pv 4) (fun _ _ => rfl)) pa_nil))))))) (pss_one (ps_ret pe_bl)) pss_nil)
        (pss_one (ps_if (pt_cmpR op_notIn_seq (pe_ix ix_list (pv 3) (pv 4) (fun _ _ => rfl)) (pe_comp (own := ["_law_offer"]) (fnames := []) (fr := []) (N' := ["_law_offer"]) ⟨rfl, rfl, rfl, rfl, rfl, rfl, rfl⟩ rfl (pi_list (pe_ix ix_tup (pe_ix ix_list (pv 0) (pv 4) (fun _ _ => rfl)) pe_int (fun _ _ => rfl))) (fun s0 H0 fp0 C0 => ⟨(pg_name (i := 0) (by show (["_law_offer"] : List Str).Nodup; decide +kernel) rfl (Or.inl rfl)), pts_nil, (pe_ix (ix_tupK (K := K) rfl) (pv 0) pe_int (fun _ _ => rfl))⟩)) (by with_unfolding_all rfl)) (pss_one (ps_ret pe_bl)) pss_nil))))
    (pss_cons (ps_asg (pe_cal C__law_counts (hr.mono (by decide)) rfl (pa_cons (pv 0) (pa_cons (pe_callB (call_lenK (K := K) rfl) (by rfl) T.len PySem.boot_len (pa_cons (pv 2) pa_nil)) (pa_cons (pe_callB (call_lenK (K := K) rfl) (by rfl) T.len PySem.boot_len (pa_cons (pv 1) pa_nil)) (pa_cons (pv 3) pa_nil))))) (pg_tup (n := 2) rfl (pgs_cons (pg_name (i := 5) sc__law_dealing.nd rfl (Or.inl rfl)) (pgs_cons (pg_name (i := 6) sc__law_dealing.nd rfl (Or.inl rfl)) pgs_nil))))
    (pss_cons (ps_for PassesOwn.never rfl (pi_range1 rfl T.range (pa_cons (pe_callB (call_lenK (K := K) rfl) (by rfl) T.len PySem.boot_len (pa_cons (pv 1) pa_nil)) pa_nil)) (pg_name (i := 4) sc__law_dealing.nd rfl (Or.inl rfl))
      (pss_one (ps_if (pt_cmpR op_lt (pe_ix ix_list (pv 5) (pv 4) (fun _ _ => rfl)) (pe_ix ix_list (pv 1) (pv 4) (fun _ _ => rfl)) (nomark _)) (pss_one (ps_ret pe_bl)) pss_nil)))
    (pss_cons (ps_for PassesOwn.never rfl (pi_range1 rfl T.range (pa_cons (pe_callB (call_lenK (K := K) rfl) (by rfl) T.len PySem.boot_len (pa_cons (pv 2) pa_nil)) pa_nil)) (pg_name (i := 4) sc__law_dealing.nd rfl (Or.inl rfl))
      (pss_one (ps_if (pt_cmpR op_gt (pe_ix ix_list (pv 6) (pv 4) (fun _ _ => rfl)) (pe_ix ix_list (pv 2) (pv 4) (fun _ _ => rfl)) (nomark _)) (pss_one (ps_ret pe_bl)) pss_nil)))
    (pss_one (ps_ret pe_bl))))))), ?_⟩
    have hul := Paired.length hS
    refine seq_of fun U1 u1 => ?_
    walk_at "rd"
    refine ⟨"list", .inl ⟨rfl, _, hd⟩, ?_⟩
    rw [if_neg (by decide)]
    refine ⟨_, .inl (SqL.of hd), _, .inl (SqL.of hp), ?_⟩
    rw [List.length_map, hul]
    by_cases hlen : cs.length = ss.length
    · rw [if_neg (fun w => w (by rw [hlen]))]
      rw [u1]; clear u1
      refine seq_of fun U1 u1 => for_of fun B1 b1 => ?_
      walk_at "rd"
      refine ⟨_, .inl (SqL.of hp), by omega, by omega, for_rangeW (fun i σ H' => ∃ v4 : Option V, Same H H' ∧ (∀ j, j < i → offAt ss cs j = true) ∧ σ = [some (.ref p), some (.ref c), some (.ref l), some (.ref d), v4, none, none]) ⟨none, Same.refl _, (fun j hj => by omega), rfl⟩ ?_ ?_⟩
      · rintro i σ H' hi ⟨v4, g, hof, rfl⟩
        rw [show (0 + (i : Int)) = i by omega]
        rw [hul, Int.toNat_natCast] at hi
        have hsi := List.getElem?_eq_getElem hi
        have hci := List.getElem?_eq_getElem (show i < cs.length by omega)
        have hcv : (cs.map oV)[i]? = some (oV cs[i]) := by rw [List.getElem?_map, hci]; rfl
        obtain ⟨t2, l2, ts2, a2, q1, q2, q3⟩ := hS.get hsi
        have htl := Paired.length q3
        have hfl := (hok _ (List.mem_of_getElem? hsi)).len
        rw [b1]
        refine seq_of fun U2 u2 => ?_
        walk_at "rd"
        refine ⟨_, SqL.of (g _ _ hd), _, atI_nat hcv, ?_⟩
        have hif : ∀ B : Hp → Prop, B H' → (if ¬ oV cs[i] = V.non then ∃ x, SqL K H' d x ∧ ∃ x_1, atI x ↑i = some x_1 ∧ sp__law_whole K [x_1] H' (fun x H1 => ∃ c_1, x = V.bl c_1 ∧ if c_1 = false then Q (V.bl false) H1 else B H1) E0 else B H') := by
          intro B hB
          by_cases z : oV cs[i] = V.non
          · rw [if_neg (fun w => w z)]
            exact hB
          · rw [if_pos z]
            obtain ⟨x, hx⟩ : ∃ x, cs[i] = some x := by
              cases hq : cs[i] with
              | none => exact absurd (by rw [hq]; rfl) z
              | some x => exact ⟨x, rfl⟩
            refine ⟨_, SqL.of (g _ _ hd), .int x, by rw [atI_nat hcv, hx]; rfl, x, rfl, true, rfl, ?_⟩
            rw [if_neg (by decide)]
            exact hB
        refine hif _ ?_
        clear hif
        rw [u2]; clear u2
        walk_at "rd"
        refine ⟨_, SqL.of (g _ _ hd), _, atI_nat hcv, _, SqL.of (g _ _ hp), _, atI_nat a2, t2, rfl, _, SqT.of (g _ _ q1), _, rfl, l2, rfl, ⟨_, SqL.of (g _ _ q2)⟩, fun D hD => for_listW (xs := ts2) (fun j σ H2 => Same H' H2 ∧ H2 D = some (.lst ((((ss[i]).fs.take j).map (·.1)).map oV)) ∧ ∃ v0, σ = [v0]) ⟨same_new hD _, upd_same, none, rfl⟩ (fun j σ H2 _ hh => SqL.of (hh.1 _ _ (g _ _ q2))) ?_ ?_⟩
        · rintro j v σ H2 hv ⟨g2, e2, v0, rfl⟩
          obtain ⟨f, hf', t3, rfl, q4⟩ := Paired.get' q3 hv
          have hj := (List.getElem?_eq_some_iff.mp hf').1
          walk_at "rd"
          refine ⟨_, SqT.of ((g.trans g2) _ _ q4), _, rfl, _, e2, small1000 (by rw [List.length_map, List.length_map, List.length_take]; omega), same_upd hD g2 _, ?_⟩
          rw [upd_same, take_one hf', List.map_append, List.map_append]
          rfl
        rintro σ H2 ⟨g2, e2, v0, rfl⟩
        rw [htl, List.take_length] at e2
        have hoa := offAt_of hsi hci
        refine ⟨_, .inl (SqL.of e2), oV_flat _, os_flat _, ?_⟩
        rw [inOs]
        by_cases z : cs[i] ∈ (ss[i]).fs.map (·.1)
        · rw [if_neg (by rw [decide_eq_true z]; decide)]
          refine ⟨g.trans g2, fun j hj => ?_⟩
          by_cases zj : j < i
          · exact hof j zj
          · have : j = i := by omega
            subst this
            rw [hoa]
            exact decide_eq_true z
        · rw [if_pos (decide_eq_false z), ← deal_off (cols := cols) (lim := lim) (off_at hi (by rw [hoa]; exact decide_eq_false z))]
          exact q _ (g.trans g2)
      rintro σ H1 ⟨v4, g1, hof, rfl⟩
      rw [hul, Int.toNat_natCast] at hof
      have ho : offB ss cs = true := by unfold offB; rw [decide_eq_true hlen, Bool.true_and]; exact all_true hof
      rw [u1]; clear u1
      refine seq_of fun U1 u1 => ?_
      walk_at "rd"
      refine ⟨_, .inl (SqL.of (g1 _ _ hl)), _, .inl (SqL.of (g1 _ _ hc)), p, d, us, ss, cs, lim.length, cols.length, by rw [List.length_map, List.length_map], g1 _ _ hp, hS.mono g1, g1 _ _ hd, hlen.symm, n1, n4, n3, fun s hs => (hok s hs).own, fun t pg pb H2 g2 ht hg hb => ?_⟩
      walk_at "rd"
      refine ⟨_, SqT.of ht, rfl, _, _, rfl, _, _, rfl, rfl, ?_⟩
      have g12 := g1.trans g2
      rw [u1]; clear u1
      refine seq_of fun U1 u1 => for_of fun B1 b1 => ?_
      walk_at "rd"
      refine ⟨_, .inl (SqL.of (g12 _ _ hc)), by omega, by rw [List.length_map]; omega, for_rangeW (fun i σ H' => ∃ v4 : Option V, H' = H2 ∧ (∀ j, j < i → enAt cols cs j = true) ∧ σ = [some (.ref p), some (.ref c), some (.ref l), some (.ref d), v4, some (.ref pg), some (.ref pb)]) ⟨_, rfl, (fun j hj => by omega), rfl⟩ ?_ ?_⟩
      · rintro i σ H' hi ⟨v4, rfl, hof', rfl⟩
        rw [show (0 + (i : Int)) = i by omega]
        rw [List.length_map, Int.toNat_natCast] at hi
        have e1 := List.getElem?_eq_getElem hi
        rw [b1]
        walk_at "rd"
        refine ⟨_, SqL.of hg, .int (gotN cs i), atI_nat (by rw [List.getElem?_map, il_get hi]; rfl), _, SqL.of (g12 _ _ hc), .int cols[i], atI_nat (by rw [List.getElem?_map, e1]; rfl), _, rfl, _, rfl, ?_⟩
        split
        · rename_i hlt
          rw [← deal_en (ss := ss) (lim := lim) (all_false hi (by unfold enAt; rw [getD_of e1]; exact decide_eq_false (Int.not_le.mpr hlt)))]
          exact q _ g12
        · rename_i hlt
          intro j hj
          by_cases z : j < i
          · exact hof' j z
          · have : j = i := by omega
            subst this
            unfold enAt
            rw [getD_of e1]
            exact decide_eq_true (Int.not_lt.mp hlt)
      rintro σ H' ⟨v4, rfl, hen, rfl⟩
      rw [List.length_map, Int.toNat_natCast] at hen
      have he : enB cols cs = true := all_true hen
      rw [u1]; clear u1
      refine seq_of fun U1 u1 => for_of fun B1 b1 => ?_
      walk_at "rd"
      refine ⟨_, .inl (SqL.of (g12 _ _ hl)), by omega, by rw [List.length_map]; omega, for_rangeW (fun i σ H2 => ∃ v4 : Option V, H2 = H' ∧ (∀ j, j < i → boAt ss lim cs j = true) ∧ σ = [some (.ref p), some (.ref c), some (.ref l), some (.ref d), v4, some (.ref pg), some (.ref pb)]) ⟨_, rfl, (fun j hj => by omega), rfl⟩ ?_ ?_⟩
      · rintro i σ H2 hi ⟨v4, rfl, hof', rfl⟩
        rw [show (0 + (i : Int)) = i by omega]
        rw [List.length_map, Int.toNat_natCast] at hi
        have e1 := List.getElem?_eq_getElem hi
        rw [b1]
        walk_at "rd"
        refine ⟨_, SqL.of hb, .int (busyN ss cs i), atI_nat (by rw [List.getElem?_map, il_get hi]; rfl), _, SqL.of (g12 _ _ hl), .int lim[i], atI_nat (by rw [List.getElem?_map, e1]; rfl), _, rfl, _, rfl, ?_⟩
        split
        · rename_i hlt
          rw [← deal_bo (cols := cols) (all_false hi (by unfold boAt; rw [getD_of e1]; exact decide_eq_false (Int.not_le.mpr hlt)))]
          exact q _ g12
        · rename_i hlt
          intro j hj
          by_cases z : j < i
          · exact hof' j z
          · have : j = i := by omega
            subst this
            unfold boAt
            rw [getD_of e1]
            exact decide_eq_true (Int.not_lt.mp hlt)
      rintro σ H2 ⟨v4, rfl, hbo, rfl⟩
      rw [List.length_map, Int.toNat_natCast] at hbo
      have hb2 : boB ss lim cs = true := all_true hbo
      rw [u1]; clear u1
      walk_at "rd"
      have := q _ g12
      unfold dealB at this
      rw [ho, he, hb2] at this
      exact this
    · rw [if_pos (fun w => hlen (by omega)), ← deal_off (cols := cols) (lim := lim) (off_len hlen)]
      exact q H (Same.refl _)
end
end My

set_option Elab.async false
set_option linter.all false
set_option maxRecDepth 100000
set_option maxHeartbeats 4000000
namespace My
open PySem L2
section
variable {P : Program} {w : World} {K : PySem.W.Frag} {mg : Str → Option Value} {base : Heap}
local macro_rules | `(tactic| walk_at "rd") => `(tactic| try simp only [tSeq, tRet, tRetN, tIfS, tNext, tDrop, tOp, tUn, tVar, tC, rI0, rI, rU, rEq, rNe, L2.start, tAsg, gName, tTest, tB, tCB, tCons, tNil, rIxL, rIxT, tNot, tAnd, tOr, tNotV, tAndV, tOrV, tCall, rIsi, iRng1, iRng2, tFor, tWhile, tChain, tIf, tTup, tLst, tComp, tBlk, compSt, tTrue, Cx.comp, List.replicate_one, List.replicate_zero, Option.getD_some, tBM, tBM0, rLen, rListOf, rTupL, tRaise, tCallX, tDropX, tSetX, tTry0, tTryA, Ends.gone, rIsx, rExc, vO, tFld, tMeth, tMake, sFld, iEnL, iEnT, gTup, gCons, gNil, gSub, rSetL, rCat, rInsert, tSl, tNoPart, tPart, rSlL, rAppend, rClear, iList, iTup, cxOf, Cx.nox, Cx.wish, List.map_cons, List.map_nil, List.length_cons, List.length_nil, Nat.reduceAdd, Nat.reduceSub, List.reduceReplicate, List.cons_append, List.nil_append, List.append_nil, List.getElem?_cons_zero, List.getElem?_cons_succ, List.set_cons_zero, List.set_cons_succ, Option.some.injEq, V.int.injEq, V.bl.injEq, V.ref.injEq, V.str.injEq, V.ty.injEq, List.cons.injEq, and_true, true_and, and_assoc, exists_eq_left, exists_eq_left', exists_eq_right, exists_eq, exists_eq', exists_and_left, exists_const, decide_eq_true_eq, scal_ii, scal_bb, scal_ss, tEqI', Bool.not_eq_true', Bool.not_eq_true, decide_eq_false_iff_not, if_true, if_false, Bool.false_eq_true, reduceIte, tyN_int, tyN_bl, tyN_str, tyN_ref, okT_int, okT_bool, okT_str, okT_list, okT_tuple, subN_ii, subN_ib, subN_bb, subN_bi, subN_ss, subN_ll, subN_tt, Bool.not_true, Bool.not_false, not_true_eq_false, Bool.true_eq_false, rRep, iZip, tLRev, rIn, rCount, rPopAt])
def sp__law_cost_of (K : PySem.W.Frag)  : Sp := fun vs H Q _ => ∃ (p d : Addr) (us : List V) (ss : List Spt) (cs : List (Option Int)), vs = [.ref p, .ref d] ∧ H p = some (.lst us) ∧ Spts H us ss ∧ H d = some (.lst (cs.map oV)) ∧ ss.length = cs.length ∧ ss.length ≤ 20 ∧ (∀ s ∈ ss, s.fs.length ≤ 30 ∧ (s.fs.map (·.1)).Nodup) ∧ (∀ (i : Nat) s c, ss[i]? = some s → cs[i]? = some c → c ∈ s.fs.map (·.1)) ∧ ∀ H', Same H H' → Q (.int (costOf ss cs)) H'
theorem sc__law_cost_of : FnScope ["_law_spots_here", "_law_dealt", "_law_due", "_law_k"] ["_law_spots_here", "_law_dealt"] (defScope s__law_cost_of) := ⟨rfl, rfl, rfl, by decide +kernel, rfl, by decide +kernel, by decide +kernel⟩
theorem ok__law_cost_of {f : Addr} {fd : FuncData} (F : Fun K "_law_cost_of" "_law_cost_of" s__law_cost_of f fd) (T : Txt mg)  : FnOk P w K mg base CX0 1 f fd ["_law_spots_here", "_law_dealt"] (sp__law_cost_of K) := by
  refine F.ok sc__law_cost_of (fun vs H Q E h => ?_) (fun cdv A outer s H vs Q E hr h => ?_)
  · obtain ⟨p, d, us, ss, cs, rfl, _⟩ := h
    rfl
  · obtain ⟨p, d, us, ss, cs, rfl, hp, hS, hd, hlen, hn, hf, hin, q⟩ := h
    refine ⟨_, (pss_cons (ps_set (i := 2) sc__law_cost_of.nd rfl (Or.inl rfl) pe_int)
    (pss_cons (ps_for PassesOwn.never rfl (pi_range1 rfl T.range (pa_cons (pe_callB (call_lenK (K := K) rfl) (by rfl) T.len PySem.boot_len (pa_cons (pv 0) pa_nil)) pa_nil)) (pg_name (i := 3) sc__law_cost_of.nd rfl (Or.inr rfl))
      (pss_one (ps_set (i := 2) sc__law_cost_of.nd rfl (Or.inl rfl) (pe_op op_add (pv 2) (pe_ix ix_list (pe_comp (own := ["_law_column", "_law_cost_here"]) (fnames := ["_law_dealt", "_law_k"]) (fr := [1, 3]) (N' := ["_law_column", "_law_cost_here", "_law_dealt", "_law_k"]) ⟨rfl, rfl, rfl, rfl, rfl, rfl, rfl⟩ rfl (pi_list (pe_ix ix_tup (pe_ix ix_list (pv 0) (pv 3) (fun _ _ => rfl)) pe_int (fun _ _ => rfl))) (fun s0 H0 fp0 C0 => ⟨(pg_tupK (K := K) (n := 2) rfl rfl (pgs_cons (pg_name (i := 0) (by show (["_law_column", "_law_cost_here", "_law_dealt", "_law_k"] : List Str).Nodup; decide +kernel) rfl (Or.inl rfl)) (pgs_cons (pg_name (i := 1) (by show (["_law_column", "_law_cost_here", "_law_dealt", "_law_k"] : List Str).Nodup; decide +kernel) rfl (Or.inl rfl)) pgs_nil))), (pts_one (pt_cmpR op_eq (pv 0) (pe_ix (ix_listK (K := K) rfl) (pv 2) (pv 3) (fun _ _ => rfl)) (nomark _))), (pv 1)⟩)) pe_int (fun _ _ => rfl))))))
    (pss_one (ps_ret (pv 2))))), ?_⟩
    have hul := Paired.length hS
    refine seq_of fun U1 u1 => ?_
    walk_at "rd"
    rw [u1]; clear u1
    refine seq_of fun U1 u1 => for_of fun B1 b1 => ?_
    walk_at "rd"
    refine ⟨_, .inl (SqL.of hp), by omega, by omega, for_rangeW (fun i σ H' => ∃ v3 : Option V, Same H H' ∧ σ = [some (.ref p), some (.ref d), some (.int (costOf (ss.take i) (cs.take i))), v3]) ⟨none, Same.refl _, by simp [costOf]⟩ ?_ ?_⟩
    · rintro i σ H' hi ⟨v3, g, rfl⟩
      rw [show (0 + (i : Int)) = i by omega]
      rw [hul, Int.toNat_natCast] at hi
      have hsi := List.getElem?_eq_getElem hi
      have hci := List.getElem?_eq_getElem (show i < cs.length by omega)
      obtain ⟨t2, l2, ts2, a2, q1, q2, q3⟩ := hS.get hsi
      have htl := Paired.length q3
      obtain ⟨f1, f2⟩ := hf _ (List.mem_of_getElem? hsi)
      obtain ⟨f, hff, hfc⟩ := List.mem_map.mp (hin i _ _ hsi hci)
      rw [b1]
      walk_at "rd"
      refine ⟨_, SqL.of (g _ _ hp), _, atI_nat a2, t2, rfl, _, SqT.of (g _ _ q1), _, rfl, l2, rfl, ⟨_, SqL.of (g _ _ q2)⟩, fun L hL => for_listW (xs := ts2) (fun j σ H2 => Same H' H2 ∧ H2 L = some (.lst (((((ss[i]).fs.take j).filter fun f => decide (f.1 = cs[i])).map (·.2)).map V.int)) ∧ ∃ v0 v1, σ = [v0, v1, some (.ref d), some (.int i)]) ⟨same_new hL _, upd_same, none, none, rfl⟩ (fun j σ H2 _ hh => SqL.of (hh.1 _ _ (g _ _ q2))) ?_ ?_⟩
      · rintro j v σ H2 hv ⟨g2, e2, v0, v1, rfl⟩
        obtain ⟨f', hf', t3, rfl, q4⟩ := Paired.get' q3 hv
        have hj := (List.getElem?_eq_some_iff.mp hf').1
        have gg := g.trans g2
        walk_at "rd"
        refine ⟨_, SqT.of (gg _ _ q4), rfl, _, _, rfl, _, _, rfl, rfl, ?_⟩
        walk_at "rd"
        refine ⟨_, SqL.of (gg _ _ hd), oV cs[i], atI_nat (by rw [List.getElem?_map, hci]; rfl), oV_scal _ _, ?_⟩
        have hfl := List.length_filter_le (fun f : Off => decide (f.1 = cs[i])) ((ss[i]).fs.take j)
        rw [List.length_take] at hfl
        rw [take_one hf', filter_snoc]
        by_cases zc : f'.1 = cs[i]
        · rw [if_pos (by rw [zc]), if_pos (decide_eq_true zc)]
          exact ⟨_, e2, small1000 (by rw [List.length_map, List.length_map]; omega), same_upd hL g2 _, by rw [upd_same, List.map_append, List.map_append]; rfl⟩
        · rw [if_neg (fun w => zc (oV_inj w)), if_neg (fun w => zc (of_decide_eq_true w)), List.append_nil]
          exact ⟨g2, e2⟩
      rintro σ H2 ⟨g2, e2, v0, v1, rfl⟩
      rw [htl, List.take_length, ← hfc, filter_one f2 hff] at e2
      refine ⟨_, SqL.of e2, .int f.2, rfl, _, rfl, g.trans g2, ?_⟩
      rw [take_one hsi, take_one hci, costOf_snoc _ _ _ _ (by rw [List.length_take, List.length_take]; omega), ← hfc, costAt_one f2 hff]
    rintro σ H' ⟨v3, g, rfl⟩
    rw [u1]; clear u1
    walk_at "rd"
    rw [hul, Int.toNat_natCast, List.take_length, hlen, List.take_length]
    exact q H' g
end
end My

set_option Elab.async false
set_option linter.all false
set_option maxRecDepth 100000
set_option maxHeartbeats 4000000
namespace My
open PySem L2
section
variable {P : Program} {w : World} {K : PySem.W.Frag} {mg : Str → Option Value} {base : Heap}
local macro_rules | `(tactic| walk_at "rd") => `(tactic| try simp only [tSeq, tRet, tRetN, tIfS, tNext, tDrop, tOp, tUn, tVar, tC, rI0, rI, rU, rEq, rNe, L2.start, tAsg, gName, tTest, tB, tCB, tCons, tNil, rIxL, rIxT, tNot, tAnd, tOr, tNotV, tAndV, tOrV, tCall, rIsi, iRng1, iRng2, tFor, tWhile, tChain, tIf, tTup, tLst, tComp, tBlk, compSt, tTrue, Cx.comp, List.replicate_one, List.replicate_zero, Option.getD_some, tBM, tBM0, rLen, rListOf, rTupL, tRaise, tCallX, tDropX, tSetX, tTry0, tTryA, Ends.gone, rIsx, rExc, vO, tFld, tMeth, tMake, sFld, iEnL, iEnT, gTup, gCons, gNil, gSub, rSetL, rCat, rInsert, tSl, tNoPart, tPart, rSlL, rAppend, rClear, iList, iTup, cxOf, Cx.nox, Cx.wish, List.map_cons, List.map_nil, List.length_cons, List.length_nil, Nat.reduceAdd, Nat.reduceSub, List.reduceReplicate, List.cons_append, List.nil_append, List.append_nil, List.getElem?_cons_zero, List.getElem?_cons_succ, List.set_cons_zero, List.set_cons_succ, Option.some.injEq, V.int.injEq, V.bl.injEq, V.ref.injEq, V.str.injEq, V.ty.injEq, List.cons.injEq, and_true, true_and, and_assoc, exists_eq_left, exists_eq_left', exists_eq_right, exists_eq, exists_eq', exists_and_left, exists_const, decide_eq_true_eq, scal_ii, scal_bb, scal_ss, tEqI', Bool.not_eq_true', Bool.not_eq_true, decide_eq_false_iff_not, if_true, if_false, Bool.false_eq_true, reduceIte, tyN_int, tyN_bl, tyN_str, tyN_ref, okT_int, okT_bool, okT_str, okT_list, okT_tuple, subN_ii, subN_ib, subN_bb, subN_bi, subN_ss, subN_ll, subN_tt, Bool.not_true, Bool.not_false, not_true_eq_false, Bool.true_eq_false, rRep, iZip, tLRev, rIn, rCount, rPopAt])
def sp__law_good (K : PySem.W.Frag)  : Sp := fun vs H Q _ => ∃ (p c l d : Addr) (us : List V) (ss : List Spt) (cols lim : List Int) (cs : List (Option Int)), vs = [.ref p, .ref c, .ref l, .ref d] ∧ H p = some (.lst us) ∧ Spts H us ss ∧ H c = some (.lst (cols.map V.int)) ∧ H l = some (.lst (lim.map V.int)) ∧ H d = some (.lst (cs.map oV)) ∧ ss.length ≤ 20 ∧ cs.length ≤ 40 ∧ cols.length ≤ 30 ∧ lim.length ≤ 30 ∧ (∀ s ∈ ss, SpOk cols.length lim.length s) ∧ ∀ H', Same H H' → Q (.bl true) H'
theorem sc__law_good : FnScope ["_law_spots_here", "_law_columns", "_law_limits", "_law_dealt", "_law_handed", "_law_found", "_law_cost_here"] ["_law_spots_here", "_law_columns", "_law_limits", "_law_dealt"] (defScope s__law_good) := ⟨rfl, rfl, rfl, by decide +kernel, rfl, by decide +kernel, by decide +kernel⟩
theorem ok__law_good {f : Addr} {fd : FuncData} (F : Fun K "_law_good" "_law_good" s__law_good f fd) (T : Txt mg) (C_is_dealing : Cal P w K mg base "is_dealing" ["spots", "columns", "caps", "dealt"] 2 (sp_is_dealing K)) (C_cost_of : Cal P w K mg base "cost_of" ["spots", "dealt"] 2 (sp_cost_of K)) (C__law_copy : Cal P w K mg base "_law_copy" ["_law_spots_here"] 1 (sp__law_copy K)) (C__law_dealing : Cal P w K mg base "_law_dealing" ["_law_spots_here", "_law_columns", "_law_limits", "_law_dealt"] 2 (sp__law_dealing K)) (C__law_whole : Cal P w K mg base "_law_whole" ["_law_found"] 1 (sp__law_whole K)) (C__law_cost_of : Cal P w K mg base "_law_cost_of" ["_law_spots_here", "_law_dealt"] 1 (sp__law_cost_of K)) : FnOk P w K mg base CX0 3 f fd ["_law_spots_here", "_law_columns", "_law_limits", "_law_dealt"] (sp__law_good K) := by
  refine F.ok sc__law_good (fun vs H Q E h => ?_) (fun cdv A outer s H vs Q E hr h => ?_)
  · obtain ⟨p, c, l, d, us, ss, cols, lim, cs, rfl, _⟩ := h
    rfl
  · obtain ⟨p, c, l, d, us, ss, cols, lim, cs, rfl, hp, hS, hc, hl, hd, n1, n2, n3, n4, hok, k⟩ := h
    refine ⟨_, (pss_cons (ps_set (i := 4) sc__law_good.nd rfl (Or.inl rfl) (pe_lst (pa_cons (pe_cal C__law_copy (hr.mono (by decide)) rfl (pa_cons (pv 0) pa_nil)) (pa_cons (pe_callTy (call_listK (K := K) rfl) (by rfl) T.list PyProof.Rows.boot_list (pa_cons (pv 1) pa_nil)) (pa_cons (pe_callTy (call_listK (K := K) rfl) (by rfl) T.list PyProof.Rows.boot_list (pa_cons (pv 2) pa_nil)) (pa_cons (pe_callTy (call_listK (K := K) rfl) (by rfl) T.list PyProof.Rows.boot_list (pa_cons (pv 3) pa_nil)) pa_nil))))))
    (pss_cons (ps_set (i := 5) sc__law_good.nd rfl (Or.inl rfl) (pe_cal C_is_dealing (hr.mono (by decide)) rfl (pa_cons (pe_ix ix_list (pv 4) pe_int (fun _ _ => rfl)) (pa_cons (pe_ix ix_list (pv 4) pe_int (fun _ _ => rfl)) (pa_cons (pe_ix ix_list (pv 4) pe_int (fun _ _ => rfl)) (pa_cons (pe_ix ix_list (pv 4) pe_int (fun _ _ => rfl)) pa_nil))))))
    (pss_cons (ps_if (pt_cmpR (op_neD 4 hr) (pv 4) (pe_lst (pa_cons (pv 0) (pa_cons (pv 1) (pa_cons (pv 2) (pa_cons (pv 3) pa_nil))))) (nomark _)) (pss_one (ps_ret pe_bl)) pss_nil)
    (pss_cons (ps_if (PW.pt (pw_or (pt_not (pt_val (pe_callB call_isi (by rfl) T.isinstance PyProof.Rows.boot_isinstance (pa_cons (pv 5) (pa_cons (pe_bltn (v := .ty "bool") rfl T.bool PyProof.Rows.boot_bool rfl) pa_nil))))) (pw_or1 (pt_cmpR op_ne (pv 5) (pe_cal C__law_dealing (hr.mono (by decide)) rfl (pa_cons (pv 0) (pa_cons (pv 1) (pa_cons (pv 2) (pa_cons (pv 3) pa_nil))))) (nomark _))))) (pss_one (ps_ret pe_bl)) pss_nil)
    (pss_cons (ps_if (pt_not (pt_val (pv 5))) (pss_one (ps_ret pe_bl)) pss_nil)
    (pss_cons (ps_set (i := 6) sc__law_good.nd rfl (Or.inl rfl) (pe_cal C_cost_of (hr.mono (by decide)) rfl (pa_cons (pe_ix ix_list (pv 4) pe_int (fun _ _ => rfl)) (pa_cons (pe_ix ix_list (pv 4) pe_int (fun _ _ => rfl)) pa_nil))))
    (pss_cons (ps_if (PW.pt (pw_or (pt_not (pt_val (pe_cal C__law_whole (hr.mono (by decide)) rfl (pa_cons (pv 6) pa_nil)))) (pw_or1 (pt_cmpR op_ne (pv 6) (pe_cal C__law_cost_of (hr.mono (by decide)) rfl (pa_cons (pv 0) (pa_cons (pv 3) pa_nil))) (nomark _))))) (pss_one (ps_ret pe_bl)) pss_nil)
    (pss_one (ps_ret (pe_cmpR (op_eqD 4 hr) (pv 4) (pe_lst (pa_cons (pv 0) (pa_cons (pv 1) (pa_cons (pv 2) (pa_cons (pv 3) pa_nil))))) (nomark _))))))))))), ?_⟩
    refine seq_of fun U1 u1 => ?_
    walk_at "rd"
    refine ⟨p, us, ss, rfl, hp, hS, n1, fun r us' H1 g1 _ hr hS' => ?_⟩
    refine ⟨_, .inl (SqL.of (g1 _ _ hc)), fun l1 hl1 => ?_⟩
    have a1 := same_new hl1 (.lst (cols.map V.int))
    refine ⟨_, .inl (SqL.of ((g1.trans a1) _ _ hl)), fun l2 hl2 => ?_⟩
    have b2 := same_new hl2 (.lst (lim.map V.int))
    refine ⟨_, .inl (SqL.of (((g1.trans a1).trans b2) _ _ hd)), fun l3 hl3 => ⟨by decide, fun ph hph => ?_⟩⟩
    have b3 := same_new hl3 (.lst (cs.map oV))
    have b5 := same_new hph (.lst [.ref r, .ref l1, .ref l2, .ref l3])
    have e3 := b5 _ _ (upd_same (H := upd (upd H1 l1 (.lst (cols.map V.int))) l2 (.lst (lim.map V.int))) (a := l3) (o := .lst (cs.map oV)))
    have e2 := (b3.trans b5) _ _ (upd_same (H := upd H1 l1 (.lst (cols.map V.int))) (a := l2) (o := .lst (lim.map V.int)))
    have e1 := ((b2.trans b3).trans b5) _ _ (upd_same (H := H1) (a := l1) (o := .lst (cols.map V.int)))
    have ep : upd (upd (upd (upd H1 l1 (.lst (cols.map V.int))) l2 (.lst (lim.map V.int))) l3 (.lst (cs.map oV))) ph (.lst [.ref r, .ref l1, .ref l2, .ref l3]) ph = some (.lst [.ref r, .ref l1, .ref l2, .ref l3]) := upd_same
    have a5 := ((a1.trans b2).trans b3).trans b5
    have er := a5 _ _ hr
    have hSr := hS'.mono a5
    have gF := g1.trans a5
    revert e3 e2 e1 ep er hSr gF
    clear a5 b5 b3 b2 a1
    generalize upd (upd (upd (upd H1 l1 (.lst (cols.map V.int))) l2 (.lst (lim.map V.int))) l3 (.lst (cs.map oV))) ph (.lst [.ref r, .ref l1, .ref l2, .ref l3]) = HF
    intro e3 e2 e1 ep er hSr gF
    rw [u1]; clear u1
    refine seq_of fun U1 u1 => ?_
    walk_at "rd"
    refine ⟨_, SqL.of ep, _, rfl, _, SqL.of ep, _, rfl, _, SqL.of ep, _, rfl, _, SqL.of ep, _, rfl, r, l1, l2, l3, us', ss, cols, lim, cs, rfl, er, hSr, e1, e2, e3, n1, n2, n3, n4, hok, fun H5 g5 => ?_⟩
    rw [u1]; clear u1
    refine seq_of fun U1 u1 => ?_
    walk_at "rd"
    refine ⟨by decide, fun p2 hp2 => ?_⟩
    have g6 := same_new hp2 (.lst [.ref p, .ref c, .ref l, .ref d])
    have g56 := g5.trans g6
    have gF6 := gF.trans g56
    have den1 : ∀ H', Same HF H' → Den K H' 5 (.ref ph) (.lst [.lst (ss.map sD), .lst (cols.map DV.int), .lst (lim.map DV.int), .lst (cs.map oD)]) := fun H' g => ⟨_, SqL.of (g _ _ ep), .cons (den_spts (SqL.of (g _ _ er)) (hSr.mono g)) (.cons (den_ints (SqL.of (g _ _ e1))) (.cons (den_ints (SqL.of (g _ _ e2))) (.cons (den_oD (SqL.of (g _ _ e3))) .nil)))⟩
    have den2 : ∀ H' q, Same H H' → H' q = some (.lst [.ref p, .ref c, .ref l, .ref d]) → Den K H' 5 (.ref q) (.lst [.lst (ss.map sD), .lst (cols.map DV.int), .lst (lim.map DV.int), .lst (cs.map oD)]) := fun H' q g e => ⟨_, SqL.of e, .cons (den_spts (SqL.of (g _ _ hp)) (hS.mono g)) (.cons (den_ints (SqL.of (g _ _ hc))) (.cons (den_ints (SqL.of (g _ _ hl))) (.cons (den_oD (SqL.of (g _ _ hd))) .nil)))⟩
    refine ⟨_, _, _, _, rfl, rfl, den1 _ g56, den2 _ _ gF6 upd_same, like_den 5 _ _ (den1 _ g56), ?_⟩
    rw [eqD_same]
    walk_at "rd"
    rw [u1]; clear u1
    refine seq_of fun U1 u1 => ?_
    walk_at "rd"
    refine ⟨p, c, l, d, us, ss, cols, lim, cs, rfl, gF6 _ _ hp, hS.mono gF6, gF6 _ _ hc, gF6 _ _ hl, gF6 _ _ hd, n1, n2, n3, n4, hok, fun H7 g7 => ⟨rfl, ?_⟩⟩
    rw [if_neg (fun w => w rfl)]
    have gG := gF6.trans g7
    have gH := g56.trans g7
    rw [u1]; clear u1
    refine seq_of fun U1 u1 => ?_
    walk_at "rd"
    cases hdB : dealB ss cols lim cs with
    | false =>
      rw [if_pos rfl]
      exact k H7 gG
    | true =>
      rw [if_neg (by decide)]
      have ho : offB ss cs = true := by
        unfold dealB at hdB
        rw [Bool.and_eq_true] at hdB
        exact hdB.1
      obtain ⟨hlen, hin⟩ := offB_in ho
      rw [u1]; clear u1
      refine seq_of fun U1 u1 => ?_
      walk_at "rd"
      refine ⟨_, SqL.of (gH _ _ ep), _, rfl, _, SqL.of (gH _ _ ep), _, rfl, r, l3, us', ss, cs, rfl, gH _ _ er, hSr.mono gH, gH _ _ e3, hlen, n1, fun s hs => (hok s hs).len, fun H8 g8 => ?_⟩
      have gI := gG.trans g8
      have gJ := gH.trans g8
      rw [u1]; clear u1
      refine seq_of fun U1 u1 => ?_
      walk_at "rd"
      refine ⟨_, rfl, true, rfl, ?_⟩
      rw [if_neg (by decide)]
      refine ⟨p, d, us, ss, cs, rfl, gI _ _ hp, hS.mono gI, gI _ _ hd, hlen, n1, fun s hs => ⟨(hok s hs).len, (hok s hs).nd⟩, hin, fun H9 g9 => ⟨rfl, ?_⟩⟩
      rw [if_neg (fun w => w rfl)]
      rw [u1]; clear u1
      walk_at "rd"
      refine ⟨by decide, fun p3 hp3 => ?_⟩
      have g10 := g9.trans (same_new hp3 (.lst [.ref p, .ref c, .ref l, .ref d]))
      have gL := gI.trans g10
      refine ⟨_, _, _, _, rfl, rfl, den1 _ (gJ.trans g10), den2 _ _ gL upd_same, like_den 5 _ _ (den1 _ (gJ.trans g10)), ?_⟩
      rw [eqD_same]
      exact k _ gL
def sp__law_limit (_ : PySem.W.Frag)  : Sp := fun vs H Q _ => ∃ b n : Int, vs = [.int b, .int n] ∧ 0 ≤ b ∧ b ≤ 100 ∧ ∀ v : Int, b ≤ v → v < 2 ^ 40 → Q (.int v) H
theorem sc__law_limit : FnScope ["_law_busy", "_law_number"] ["_law_busy", "_law_number"] (defScope s__law_limit) := ⟨rfl, rfl, rfl, by decide +kernel, rfl, by decide +kernel, by decide +kernel⟩
theorem ok__law_limit {f : Addr} {fd : FuncData} (F : Fun K "_law_limit" "_law_limit" s__law_limit f fd) (T : Txt mg)  : FnOk P w K mg base CX0 1 f fd ["_law_busy", "_law_number"] (sp__law_limit K) := by
  refine F.ok sc__law_limit (fun vs H Q E h => ?_) (fun cdv A outer s H vs Q E hr h => ?_)
  · obtain ⟨b, n, rfl, _⟩ := h
    rfl
  · obtain ⟨b, n, rfl, b0, b1, q⟩ := h
    refine ⟨_, (pss_cons (ps_if (pt_cmpR op_eq (pe_op op_mod (pv 1) pe_int) pe_int (nomark _)) (pss_one (ps_ret (pe_op op_sub (pe_op op_pow pe_int pe_int) (pe_op op_mod (pe_op op_fdiv (pv 1) pe_int) pe_int)))) pss_nil)
    (pss_one (ps_ret (pe_op op_add (pv 0) (pe_op op_fdiv (pe_op op_mod (pe_op op_fdiv (pv 1) pe_int) pe_int) pe_int))))), ?_⟩
    walk_at "rd"
    refine ⟨by decide, ?_⟩
    split
    · refine ⟨⟨by decide, by decide, by decide⟩, ⟨by decide, by decide⟩, by decide, q _ ?_ ?_⟩
      · rw [show (10 : Int) ^ Int.toNat 9 = 1000000000 by decide]
        omega
      · rw [show (10 : Int) ^ Int.toNat 9 = 1000000000 by decide]
        omega
    · exact ⟨⟨by decide, by decide⟩, by decide, ⟨by decide, by decide⟩, q _ (by omega) (by omega)⟩
end
end My

set_option Elab.async false
set_option linter.all false
set_option maxRecDepth 100000
set_option maxHeartbeats 4000000
namespace My
open PySem L2
section
variable {P : Program} {w : World} {K : PySem.W.Frag} {mg : Str → Option Value} {base : Heap}
local macro_rules | `(tactic| walk_at "rd") => `(tactic| try simp only [tSeq, tRet, tRetN, tIfS, tNext, tDrop, tOp, tUn, tVar, tC, rI0, rI, rU, rEq, rNe, L2.start, tAsg, gName, tTest, tB, tCB, tCons, tNil, rIxL, rIxT, tNot, tAnd, tOr, tNotV, tAndV, tOrV, tCall, rIsi, iRng1, iRng2, tFor, tWhile, tChain, tIf, tTup, tLst, tComp, tBlk, compSt, tTrue, Cx.comp, List.replicate_one, List.replicate_zero, Option.getD_some, tBM, tBM0, rLen, rListOf, rTupL, tRaise, tCallX, tDropX, tSetX, tTry0, tTryA, Ends.gone, rIsx, rExc, vO, tFld, tMeth, tMake, sFld, iEnL, iEnT, gTup, gCons, gNil, gSub, rSetL, rCat, rInsert, tSl, tNoPart, tPart, rSlL, rAppend, rClear, iList, iTup, cxOf, Cx.nox, Cx.wish, List.map_cons, List.map_nil, List.length_cons, List.length_nil, Nat.reduceAdd, Nat.reduceSub, List.reduceReplicate, List.cons_append, List.nil_append, List.append_nil, List.getElem?_cons_zero, List.getElem?_cons_succ, List.set_cons_zero, List.set_cons_succ, Option.some.injEq, V.int.injEq, V.bl.injEq, V.ref.injEq, V.str.injEq, V.ty.injEq, List.cons.injEq, and_true, true_and, and_assoc, exists_eq_left, exists_eq_left', exists_eq_right, exists_eq, exists_eq', exists_and_left, exists_const, decide_eq_true_eq, scal_ii, scal_bb, scal_ss, tEqI', Bool.not_eq_true', Bool.not_eq_true, decide_eq_false_iff_not, if_true, if_false, Bool.false_eq_true, reduceIte, tyN_int, tyN_bl, tyN_str, tyN_ref, okT_int, okT_bool, okT_str, okT_list, okT_tuple, subN_ii, subN_ib, subN_bb, subN_bi, subN_ss, subN_ll, subN_tt, Bool.not_true, Bool.not_false, not_true_eq_false, Bool.true_eq_false, rRep, iZip, tLRev, rIn, rCount, rPopAt])
def sp_law (K : PySem.W.Frag) : Sp := fun vs H Q _ => ∃ (a : Addr) (ns : List Int), vs = [.ref a] ∧ SqL K H a (ns.map V.int) ∧ ns.length ≤ 63 ∧ ∀ H', Q (.bl true) H'
theorem sc_law : FnScope ["_law_script", "_law_spots_here", "_law_owners", "_law_many", "_law_cell", "_law_dealt", "_law_got", "_law_busy", "_law_xs", "_law_columns", "_law_limits", "_law_first"] ["_law_script"] (defScope s_law) := ⟨rfl, rfl, rfl, by decide +kernel, rfl, by decide +kernel, by decide +kernel⟩
theorem ok_law {f : Addr} {fd : FuncData} (F : Fun K "law" "law" s_law f fd) (T : Txt mg) (C__law_spots : Cal P w K mg base "_law_spots" ["_law_script", "_law_most"] 3 (sp__law_spots K)) (C__law_picked : Cal P w K mg base "_law_picked" ["_law_spots_here", "_law_cell"] 2 (sp__law_picked K)) (C__law_counts : Cal P w K mg base "_law_counts" ["_law_spots_here", "_law_owners", "_law_many", "_law_dealt"] 1 (sp__law_counts K)) (C__law_stream : Cal P w K mg base "_law_stream" ["_law_cell", "_law_many"] 1 (sp__law_stream K)) (C__law_spoilt : Cal P w K mg base "_law_spoilt" ["_law_cell", "_law_many", "_law_columns", "_law_limits", "_law_dealt"] 1 (sp__law_spoilt K)) (C__law_good : Cal P w K mg base "_law_good" ["_law_spots_here", "_law_columns", "_law_limits", "_law_dealt"] 3 (sp__law_good K)) (C__law_cell_at : Cal P w K mg base "_law_cell_at" ["_law_script", "_law_k"] 1 (sp__law_cell_at K)) (C__law_limit : Cal P w K mg base "_law_limit" ["_law_busy", "_law_number"] 1 (sp__law_limit K)) (C__law_dealing : Cal P w K mg base "_law_dealing" ["_law_spots_here", "_law_columns", "_law_limits", "_law_dealt"] 2 (sp__law_dealing K)) : FnOk P w K mg base CX0 4 f fd ["_law_script"] (sp_law K) := by
  refine F.ok sc_law (fun vs H Q E h => ?_) (fun cdv A outer s H vs Q E hr h => ?_)
  · obtain ⟨a, ns, rfl, _⟩ := h
    rfl
  · obtain ⟨a, ns, rfl, hS, hn, k⟩ := h
    refine ⟨_, (pss_cons (ps_asg (pe_cal C__law_spots (hr.mono (by decide)) rfl (pa_cons (pv 0) (pa_cons pe_int pa_nil))) (pg_tup (n := 3) rfl (pgs_cons (pg_name (i := 1) sc_law.nd rfl (Or.inl rfl)) (pgs_cons (pg_name (i := 2) sc_law.nd rfl (Or.inl rfl)) (pgs_cons (pg_name (i := 3) sc_law.nd rfl (Or.inr rfl)) pgs_nil)))))
    (pss_cons (ps_set (i := 4) sc_law.nd rfl (Or.inl rfl) (pe_op op_mod (pe_cal C__law_cell_at (hr.mono (by decide)) rfl (pa_cons (pv 0) (pa_cons pe_int pa_nil))) (pe_op op_pow pe_int pe_int)))
    (pss_cons (ps_set (i := 5) sc_law.nd rfl (Or.inl rfl) (pe_cal C__law_picked (hr.mono (by decide)) rfl (pa_cons (pv 1) (pa_cons (pv 4) pa_nil))))
    (pss_cons (ps_asg (pe_cal C__law_counts (hr.mono (by decide)) rfl (pa_cons (pv 1) (pa_cons (pv 2) (pa_cons (pv 3) (pa_cons (pv 5) pa_nil))))) (pg_tup (n := 2) rfl (pgs_cons (pg_name (i := 6) sc_law.nd rfl (Or.inr rfl)) (pgs_cons (pg_name (i := 7) sc_law.nd rfl (Or.inr rfl)) pgs_nil))))
    (pss_cons (ps_set (i := 8) sc_law.nd rfl (Or.inr rfl) (pe_cal C__law_stream (hr.mono (by decide)) rfl (pa_cons (pe_cal C__law_cell_at (hr.mono (by decide)) rfl (pa_cons (pv 0) (pa_cons pe_int pa_nil))) (pa_cons (pe_op op_add (pe_op op_add (pv 2) (pv 3)) pe_int) pa_nil))))
    (pss_cons (ps_comp (i := 9) sc_law.nd rfl rfl (own := ["_law_k"]) (fnames := ["_law_got", "_law_xs"]) (fr := [6, 8]) (N' := ["_law_k", "_law_got", "_law_xs"]) ⟨rfl, rfl, rfl, rfl, rfl, rfl, rfl⟩ rfl (pi_range1 rfl T.range (pa_cons (pv 3) pa_nil)) (fun s0 H0 fp0 C0 => ⟨(pg_name (i := 0) (by show (["_law_k", "_law_got", "_law_xs"] : List Str).Nodup; decide +kernel) rfl (Or.inl rfl)), pts_nil, (pe_callB (call_max2 rfl) (by rfl) T.max PyProof.Rows.boot_max (pa_cons pe_int (pa_cons (pe_op op_sub (pe_ix (ix_listK (K := K) rfl) (pv 1) (pv 0) (fun _ _ => rfl)) (pe_op op_fdiv (pe_op op_mod (pe_ix (ix_listK (K := K) rfl) (pv 2) (pv 0) (fun _ _ => rfl)) pe_int) pe_int)) pa_nil)))⟩))
    (pss_cons (ps_comp (i := 10) sc_law.nd rfl rfl (own := ["_law_k"]) (fnames := ["_law_many", "_law_busy", "_law_xs"]) (fr := [3, 7, 8]) (N' := ["_law_k", "_law_many", "_law_busy", "_law_xs"]) ⟨rfl, rfl, rfl, rfl, rfl, rfl, rfl⟩ rfl (pi_range1 rfl T.range (pa_cons (pv 2) pa_nil)) (fun s0 H0 fp0 C0 => ⟨(pg_name (i := 0) (by show (["_law_k", "_law_many", "_law_busy", "_law_xs"] : List Str).Nodup; decide +kernel) rfl (Or.inl rfl)), pts_nil, (pe_cal C__law_limit (hr.mono (by decide)) rfl (pa_cons (pe_ix (ix_listK (K := K) rfl) (pv 2) (pv 0) (fun _ _ => rfl)) (pa_cons (pe_ix (ix_listK (K := K) rfl) (pv 3) (pe_op op_add (pv 1) (pv 0)) (fun _ _ => rfl)) pa_nil)))⟩))
    (pss_cons (ps_if (PW.pt (pw_or (pt_not (pt_val (pe_cal C__law_dealing (hr.mono (by decide)) rfl (pa_cons (pv 1) (pa_cons (pv 9) (pa_cons (pv 10) (pa_cons (pv 5) pa_nil))))))) (pw_or1 (pt_not (pt_val (pe_cal C__law_good (hr.mono (by decide)) rfl (pa_cons (pv 1) (pa_cons (pv 9) (pa_cons (pv 10) (pa_cons (pv 5) pa_nil)))))))))) (pss_one (ps_ret pe_bl)) pss_nil)
    (pss_cons (ps_if (pt_not (pt_val (pe_cal C__law_good (hr.mono (by decide)) rfl (pa_cons (pe_lst pa_nil) (pa_cons (pe_comp (own := ["_law_need"]) (fnames := []) (fr := []) (N' := ["_law_need"]) ⟨rfl, rfl, rfl, rfl, rfl, rfl, rfl⟩ rfl (pi_list (pv 9)) (fun s0 H0 fp0 C0 => ⟨(pg_name (i := 0) (by show (["_law_need"] : List Str).Nodup; decide +kernel) rfl (Or.inl rfl)), pts_nil, (pe_op op_mod (pv 0) pe_int)⟩)) (pa_cons (pe_lst pa_nil) (pa_cons (pe_lst pa_nil) pa_nil))))))) (pss_one (ps_ret pe_bl)) pss_nil)
    (pss_cons (ps_set (i := 11) sc_law.nd rfl (Or.inl rfl) (pe_lst (pa_cons (pe_callTy (call_listK (K := K) rfl) (by rfl) T.list PyProof.Rows.boot_list (pa_cons (pv 9) pa_nil)) (pa_cons (pe_callTy (call_listK (K := K) rfl) (by rfl) T.list PyProof.Rows.boot_list (pa_cons (pv 10) pa_nil)) (pa_cons (pe_callTy (call_listK (K := K) rfl) (by rfl) T.list PyProof.Rows.boot_list (pa_cons (pv 5) pa_nil)) pa_nil)))))
    (pss_cons (ps_expr (pe_cal C__law_spoilt (hr.mono (by decide)) rfl (pa_cons (pe_ix ix_list (pv 8) (pe_op op_add (pv 2) (pv 3)) (fun _ _ => rfl)) (pa_cons (pv 3) (pa_cons (pv 9) (pa_cons (pv 10) (pa_cons (pv 5) pa_nil)))))))
    (pss_cons (ps_if (pt_not (pt_val (pe_cal C__law_good (hr.mono (by decide)) rfl (pa_cons (pv 1) (pa_cons (pv 9) (pa_cons (pv 10) (pa_cons (pv 5) pa_nil))))))) (pss_one (ps_ret pe_bl)) pss_nil)
    (pss_one (ps_ret (pe_cal C__law_good (hr.mono (by decide)) rfl (pa_cons (pv 1) (pa_cons (pe_ix ix_list (pv 11) pe_int (fun _ _ => rfl)) (pa_cons (pe_ix ix_list (pv 11) pe_int (fun _ _ => rfl)) (pa_cons (pe_ix ix_list (pv 11) pe_int (fun _ _ => rfl)) pa_nil))))))))))))))))))), ?_⟩
    refine seq_of fun U1 u1 => ?_
    walk_at "rd"
    refine ⟨a, ns, rfl, hS, hn, fun t p us ss O M H1 g1 ht hp hSp hsl hok O1 O4 M18 => ?_⟩
    walk_at "rd"
    refine ⟨_, SqT.of ht, rfl, _, _, rfl, _, _, rfl, _, _, rfl, rfl, ?_⟩
    rw [u1]; clear u1
    refine seq_of fun U1 u1 => ?_
    walk_at "rd"
    refine ⟨a, ns, _, rfl, g1.seq hS, by decide, fun c1 => ?_⟩
    walk_at "rd"
    refine ⟨⟨by decide, by decide, by decide⟩, by decide, ?_⟩
    generalize c1 % 10 ^ Int.toNat 12 = ce
    rw [u1]; clear u1
    refine seq_of fun U1 u1 => ?_
    walk_at "rd"
    refine ⟨p, us, ss, ce, rfl, hp, hSp, by omega, fun s hs => ⟨(hok s hs).ne, (hok s hs).len⟩, fun r cs H2 g2 hr0 hr hlen hin => ?_⟩
    rw [u1]; clear u1
    refine seq_of fun U1 u1 => ?_
    walk_at "rd"
    refine ⟨p, r, us, ss, cs, O, M, rfl, g2 _ _ hp, hSp.mono g2, hr, hlen, by omega, by omega, by omega, fun s hs => (hok s hs).own, fun t2 pg pb H3 g3 ht2 hg hb => ?_⟩
    walk_at "rd"
    refine ⟨_, SqT.of ht2, rfl, _, _, rfl, _, _, rfl, rfl, ?_⟩
    rw [u1]; clear u1
    refine seq_of fun U1 u1 => ?_
    walk_at "rd"
    refine ⟨a, ns, _, rfl, ((g1.trans g2).trans g3).seq hS, by decide, fun c4 => ⟨_, _, rfl, by omega, by omega, fun px xs hpx hxl _ => ?_⟩⟩
    have g4 := same_new hpx (.lst (xs.map V.int))
    have ex : upd H3 px (.lst (xs.map V.int)) px = some (.lst (xs.map V.int)) := upd_same
    revert g4 ex
    generalize upd H3 px (.lst (xs.map V.int)) = H4
    intro g4 ex
    rw [u1]; clear u1
    refine seq_of fun U1 u1 => ?_
    walk_at "rd"
    refine ⟨by omega, by omega, fun pc hpc => for_rangeW (fun i σ H' => ∃ cols : List Int, H' = upd H4 pc (.lst (cols.map V.int)) ∧ cols.length = i ∧ (∀ k, k < i → cols.getD k 0 ≤ gotN cs k) ∧ (∀ c ∈ cols, 0 ≤ c ∧ c ≤ 20) ∧ ∃ v0, σ = [v0, some (.ref pg), some (.ref px)]) ⟨[], rfl, rfl, (fun k hk => by omega), (fun c z => by cases z), none, rfl⟩ ?_ ?_⟩
    · rintro i σ H' hi ⟨cols, rfl, hcl, hcg, hcb, v0, rfl⟩
      rw [show (0 + (i : Int)) = i by omega]
      have gp := same_new hpc (.lst (cols.map V.int))
      obtain ⟨y, hy⟩ := item_of (ns := xs) (k := (i : Int)) (by omega) (by omega)
      have hgn := gotN_le cs i
      walk_at "rd"
      refine ⟨_, SqL.of (gp _ _ (g4 _ _ hg)), .int (gotN cs i), atI_nat (by rw [List.getElem?_map, il_get (by omega)]; rfl), _, SqL.of (gp _ _ ex), _, hy, _, rfl, by decide, ⟨by decide, by decide⟩, _, rfl, _, upd_same, small1000 (by rw [List.length_map]; omega), cols ++ [if gotN cs i - y % 5 / 2 > 0 then gotN cs i - y % 5 / 2 else 0], by rw [upd_upd, List.map_append]; rfl, by rw [List.length_append, hcl]; rfl, fun k' hk' => ?_, fun c hc => ?_⟩
      · by_cases z : k' < cols.length
        · rw [snoc_lt z]
          exact hcg k' (by omega)
        · rw [snoc_eq (by omega)]
          have : k' = i := by omega
          subst this
          split <;> omega
      · rcases List.mem_append.mp hc with z | z
        · exact hcb c z
        · rw [List.mem_singleton.mp z]
          split <;> omega
    rintro σ H5 ⟨cols, rfl, hcl, hcg, hcb, v0, rfl⟩
    rw [Int.toNat_natCast] at hcl hcg
    have g5 := g4.trans (same_new hpc (.lst (cols.map V.int)))
    have ec : upd H4 pc (.lst (cols.map V.int)) pc = some (.lst (cols.map V.int)) := upd_same
    have ex5 := same_new hpc (.lst (cols.map V.int)) _ _ ex
    revert g5 ec ex5
    generalize upd H4 pc (.lst (cols.map V.int)) = H5
    intro g5 ec ex5
    rw [u1]; clear u1
    refine seq_of fun U1 u1 => ?_
    walk_at "rd"
    refine ⟨by omega, by omega, fun pl hpl => for_rangeW (fun i σ H' => ∃ lim : List Int, H' = upd H5 pl (.lst (lim.map V.int)) ∧ lim.length = i ∧ (∀ k, k < i → busyN ss cs k ≤ lim.getD k 0) ∧ (∀ c ∈ lim, 0 ≤ c ∧ c < 2 ^ 40) ∧ ∃ v0, σ = [v0, some (.int M), some (.ref pb), some (.ref px)]) ⟨[], rfl, rfl, (fun k hk => by omega), (fun c z => by cases z), none, rfl⟩ ?_ ?_⟩
    · rintro i σ H' hi ⟨lim, rfl, hll, hlb, hlc, v0, rfl⟩
      rw [show (0 + (i : Int)) = i by omega]
      have gp := same_new hpl (.lst (lim.map V.int))
      obtain ⟨y, hy⟩ := item_of (ns := xs) (k := (M : Int) + (i : Int)) (by omega) (by omega)
      have hbn := busyN_le ss cs i
      walk_at "rd"
      refine ⟨_, SqL.of (gp _ _ (g5 _ _ hb)), .int (busyN ss cs i), atI_nat (by rw [List.getElem?_map, il_get (by omega)]; rfl), _, SqL.of (gp _ _ ex5), _, hy, _, _, rfl, by omega, by omega, fun v hv1 hv2 => ⟨_, upd_same, small1000 (by rw [List.length_map]; omega), lim ++ [v], by rw [upd_upd, List.map_append]; rfl, by rw [List.length_append, hll]; rfl, fun k' hk' => ?_, fun c hc => ?_⟩⟩
      · by_cases z : k' < lim.length
        · rw [snoc_lt z]
          exact hlb k' (by omega)
        · rw [snoc_eq (by omega)]
          have : k' = i := by omega
          subst this
          exact hv1
      · rcases List.mem_append.mp hc with z | z
        · exact hlc c z
        · rw [List.mem_singleton.mp z]
          omega
    rintro σ H6 ⟨lim, rfl, hll, hlb, hlc, v0, rfl⟩
    rw [Int.toNat_natCast] at hll hlb
    have g6 := g5.trans (same_new hpl (.lst (lim.map V.int)))
    have el : upd H5 pl (.lst (lim.map V.int)) pl = some (.lst (lim.map V.int)) := upd_same
    have ec6 := same_new hpl (.lst (lim.map V.int)) _ _ ec
    have ex6 := same_new hpl (.lst (lim.map V.int)) _ _ ex5
    have npl : pc ≠ pl := ne_of_none ec hpl
    have npr : pc ≠ r := (ne_of_none (g4 _ _ (g3 _ _ hr)) hpc).symm
    have nlr : pl ≠ r := (ne_of_none (g5 _ _ (g3 _ _ hr)) hpl).symm
    have hpc1 : H1 pc = none := ((g2.trans g3).trans g4).free hpc
    have hpl1 : H1 pl = none := ((g2.trans g3).trans g5).free hpl
    revert g6 el ec6 ex6
    generalize upd H5 pl (.lst (lim.map V.int)) = H6
    intro g6 el ec6 ex6
    have G := g3.trans g6
    have p8 := (g2.trans G) _ _ hp
    have S8 := hSp.mono (g2.trans G)
    have r8 := G _ _ hr
    have hok2 : ∀ s ∈ ss, SpOk cols.length lim.length s := fun s hs => by rw [hcl, hll]; exact hok s hs
    have hDB : dealB ss cols lim cs = true := by
      unfold dealB offB enB boB
      rw [decide_eq_true hlen.symm, all_true, all_true, all_true]
      · rfl
      · intro o ho
        unfold boAt
        exact decide_eq_true (hlb o (by omega))
      · intro k' hk'
        unfold enAt
        exact decide_eq_true (hcg k' (by omega))
      · intro i hi
        rw [offAt_of (List.getElem?_eq_getElem hi) (List.getElem?_eq_getElem (show i < cs.length by omega))]
        exact decide_eq_true (hin i _ _ (List.getElem?_eq_getElem hi) (List.getElem?_eq_getElem (show i < cs.length by omega)))
    rw [u1]; clear u1
    refine seq_of fun U1 u1 => ?_
    walk_at "rd"
    refine ⟨p, pc, pl, r, us, ss, cols, lim, cs, rfl, p8, S8, ec6, el, r8, by omega, by omega, by omega, by omega, hok2, fun H7 g7 => ⟨_, rfl, ?_⟩⟩
    rw [hDB, if_neg (by decide)]
    refine ⟨p, pc, pl, r, us, ss, cols, lim, cs, rfl, g7 _ _ p8, S8.mono g7, g7 _ _ ec6, g7 _ _ el, g7 _ _ r8, by omega, by omega, by omega, by omega, hok2, fun H8 g8 => ⟨true, rfl, ?_⟩⟩
    rw [if_neg (by decide)]
    have gA := g7.trans g8
    rw [u1]; clear u1
    refine seq_of fun U1 u1 => ?_
    walk_at "rd"
    refine ⟨Nat.zero_le _, fun n1 hn1 => ?_⟩
    have m1 := same_new hn1 (.lst [])
    refine ⟨⟨_, SqL.of ((gA.trans m1) _ _ ec6)⟩, fun L hL => for_listW (xs := cols.map V.int) (fun i σ H' => ∃ c2 : List Int, H' = upd (upd H8 n1 (.lst [])) L (.lst (c2.map V.int)) ∧ c2.length = i ∧ ∃ v0, σ = [v0]) ⟨[], rfl, rfl, none, rfl⟩ (fun i σ H' _ ⟨c2, e, _⟩ => by rw [e]; exact SqL.of (same_new hL _ _ _ ((gA.trans m1) _ _ ec6))) ?_ ?_⟩
    · rintro i v σ H' hv ⟨c2, rfl, hc2, v0, rfl⟩
      obtain ⟨y, hy, rfl⟩ := map_item hv
      have hi := (List.getElem?_eq_some_iff.mp hy).1
      walk_at "rd"
      exact ⟨by decide, _, upd_same, small1000 (by rw [List.length_map]; omega), c2 ++ [y % 2], by rw [upd_upd, List.map_append]; rfl, by rw [List.length_append, hc2]; rfl⟩
    rintro σ H9 ⟨c2, rfl, hc2, v0, rfl⟩
    rw [List.length_map] at hc2
    have m2 := same_new hL (.lst (c2.map V.int))
    refine ⟨Nat.zero_le _, fun n2 hn2 => ⟨Nat.zero_le _, fun n3 hn3 => ?_⟩⟩
    have m3 := same_new hn2 (.lst [])
    have m4 := same_new hn3 (.lst [])
    refine ⟨n1, L, n2, n3, [], [], c2, [], [], rfl, ((m2.trans m3).trans m4) _ _ upd_same, .nil, (m3.trans m4) _ _ upd_same, m4 _ _ upd_same, upd_same, by decide, by decide, by omega, by decide, (fun s z => by cases z), fun H10 g10 => ⟨true, rfl, ?_⟩⟩
    rw [if_neg (by decide)]
    have gB := gA.trans ((((m1.trans m2).trans m3).trans m4).trans g10)
    clear m1 m2 m3 m4
    rw [u1]; clear u1
    refine seq_of fun U1 u1 => ?_
    walk_at "rd"
    refine ⟨_, .inl (SqL.of (gB _ _ ec6)), fun f1 hf1 => ?_⟩
    have a1 := same_new hf1 (.lst (cols.map V.int))
    refine ⟨_, .inl (SqL.of ((gB.trans a1) _ _ el)), fun f2 hf2 => ?_⟩
    have a2 := same_new hf2 (.lst (lim.map V.int))
    refine ⟨_, .inl (SqL.of (((gB.trans a1).trans a2) _ _ r8)), fun f3 hf3 => ⟨by decide, fun pf hpf => ?_⟩⟩
    have a3 := same_new hf3 (.lst (cs.map oV))
    have a4 := same_new hpf (.lst [.ref f1, .ref f2, .ref f3])
    have e3 := a4 _ _ (upd_same (H := upd (upd H10 f1 (.lst (cols.map V.int))) f2 (.lst (lim.map V.int))) (a := f3) (o := .lst (cs.map oV)))
    have e2 := (a3.trans a4) _ _ (upd_same (H := upd H10 f1 (.lst (cols.map V.int))) (a := f2) (o := .lst (lim.map V.int)))
    have e1 := ((a2.trans a3).trans a4) _ _ (upd_same (H := H10) (a := f1) (o := .lst (cols.map V.int)))
    have ep : upd (upd (upd (upd H10 f1 (.lst (cols.map V.int))) f2 (.lst (lim.map V.int))) f3 (.lst (cs.map oV))) pf (.lst [.ref f1, .ref f2, .ref f3]) pf = some (.lst [.ref f1, .ref f2, .ref f3]) := upd_same
    have x1 : ∀ q o, H10 q = some o → q ≠ f1 ∧ q ≠ f2 ∧ q ≠ f3 ∧ q ≠ pf := fun q o e => ⟨ne_of_none e hf1, ne_of_none (a1 _ _ e) hf2, ne_of_none (a2 _ _ (a1 _ _ e)) hf3, ne_of_none (a3 _ _ (a2 _ _ (a1 _ _ e))) hpf⟩
    have xc := x1 _ _ (gB _ _ ec6)
    have xl := x1 _ _ (gB _ _ el)
    have xr := x1 _ _ (gB _ _ r8)
    have gC := gB.trans (((a1.trans a2).trans a3).trans a4)
    revert e3 e2 e1 ep gC
    clear a4 a3 a2 a1 x1
    generalize upd (upd (upd (upd H10 f1 (.lst (cols.map V.int))) f2 (.lst (lim.map V.int))) f3 (.lst (cs.map oV))) pf (.lst [.ref f1, .ref f2, .ref f3]) = H11
    intro e3 e2 e1 ep gC
    rw [u1]; clear u1
    refine seq_of fun U1 u1 => ?_
    obtain ⟨y, hy⟩ := item_of (ns := xs) (k := (O : Int) + (M : Int)) (by omega) (by omega)
    walk_at "rd"
    refine ⟨_, SqL.of (gC _ _ ex6), _, hy, y, M, pc, pl, r, cols, lim, cs, rfl, gC _ _ ec6, gC _ _ el, gC _ _ r8, npl, npr, nlr, hcl, by omega, by omega, by omega, by omega, fun H12 sps => ?_⟩
    obtain ⟨cols', lim', cs', fr, c1', l1', d1', m1, m2, m3⟩ := sps.ex
    have gS : Same H1 H12 := fun b o e => fr b o (gC _ _ ((g2.trans G) _ _ e)) (ne_of_none e hpc1) (ne_of_none e hpl1) (ne_of_none e hr0)
    have y1 := fr _ _ e1 xc.1.symm xl.1.symm xr.1.symm
    have y2 := fr _ _ e2 xc.2.1.symm xl.2.1.symm xr.2.1.symm
    have y3 := fr _ _ e3 xc.2.2.1.symm xl.2.2.1.symm xr.2.2.1.symm
    have yp := fr _ _ ep xc.2.2.2.symm xl.2.2.2.symm xr.2.2.2.symm
    rw [u1]; clear u1
    refine seq_of fun U1 u1 => ?_
    walk_at "rd"
    refine ⟨p, pc, pl, r, us, ss, cols', lim', cs', rfl, gS _ _ hp, hSp.mono gS, c1', l1', d1', by omega, by omega, by omega, by omega, (fun s hs => by rw [m1, m2]; exact hok2 s hs), fun H13 g13 => ⟨true, rfl, ?_⟩⟩
    rw [if_neg (by decide)]
    have gT := gS.trans g13
    rw [u1]; clear u1
    walk_at "rd"
    exact ⟨_, SqL.of (g13 _ _ yp), _, rfl, _, SqL.of (g13 _ _ yp), _, rfl, _, SqL.of (g13 _ _ yp), _, rfl, p, f1, f2, f3, us, ss, cols, lim, cs, rfl, gT _ _ hp, hSp.mono gT, g13 _ _ y1, g13 _ _ y2, g13 _ _ y3, by omega, by omega, by omega, by omega, hok2, fun H14 _ => k H14⟩
end
theorem all_mk {l : PySem.W.OpenLaw} {w : World} {K : PySem.W.Frag} {h : Heap} {mg : Str → Option Value} {fa : Addr} (X : K.In h) (G : h.Ns mainGlobals mg) (hfa : mg "law" = some (.ref fa))
    {f1 : Addr} {od1 an1 : Option Addr} {sl1 : Array (Option Value)} {oc1 kV1 dc1 pm1 cd1 ct1 : Value}
    {f2 : Addr} {od2 an2 : Option Addr} {sl2 : Array (Option Value)} {oc2 kV2 dc2 pm2 cd2 ct2 : Value}
    {f3 : Addr} {od3 an3 : Option Addr} {sl3 : Array (Option Value)} {oc3 kV3 dc3 pm3 cd3 ct3 : Value}
    {f4 : Addr} {od4 an4 : Option Addr} {sl4 : Array (Option Value)} {oc4 kV4 dc4 pm4 cd4 ct4 : Value}
    {f5 : Addr} {od5 an5 : Option Addr} {sl5 : Array (Option Value)} {oc5 kV5 dc5 pm5 cd5 ct5 : Value}
    {f6 : Addr} {od6 an6 : Option Addr} {sl6 : Array (Option Value)} {oc6 kV6 dc6 pm6 cd6 ct6 : Value}
    {f7 : Addr} {od7 an7 : Option Addr} {sl7 : Array (Option Value)} {oc7 kV7 dc7 pm7 cd7 ct7 : Value}
    {f8 : Addr} {od8 an8 : Option Addr} {sl8 : Array (Option Value)} {oc8 kV8 dc8 pm8 cd8 ct8 : Value}
    {f9 : Addr} {od9 an9 : Option Addr} {sl9 : Array (Option Value)} {oc9 kV9 dc9 pm9 cd9 ct9 : Value}
    {f10 : Addr} {od10 an10 : Option Addr} {sl10 : Array (Option Value)} {oc10 kV10 dc10 pm10 cd10 ct10 : Value}
    {f11 : Addr} {od11 an11 : Option Addr} {sl11 : Array (Option Value)} {oc11 kV11 dc11 pm11 cd11 ct11 : Value}
    {f12 : Addr} {od12 an12 : Option Addr} {sl12 : Array (Option Value)} {oc12 kV12 dc12 pm12 cd12 ct12 : Value}
    {f13 : Addr} {od13 an13 : Option Addr} {sl13 : Array (Option Value)} {oc13 kV13 dc13 pm13 cd13 ct13 : Value}
    {f14 : Addr} {od14 an14 : Option Addr} {sl14 : Array (Option Value)} {oc14 kV14 dc14 pm14 cd14 ct14 : Value}
    {f15 : Addr} {od15 an15 : Option Addr} {sl15 : Array (Option Value)} {oc15 kV15 dc15 pm15 cd15 ct15 : Value}
    {f16 : Addr} {od16 an16 : Option Addr} {sl16 : Array (Option Value)} {oc16 kV16 dc16 pm16 cd16 ct16 : Value}
    {f17 : Addr} {od17 an17 : Option Addr} {sl17 : Array (Option Value)} {oc17 kV17 dc17 pm17 cd17 ct17 : Value}
    {f18 : Addr} {od18 an18 : Option Addr} {sl18 : Array (Option Value)} {oc18 kV18 dc18 pm18 cd18 ct18 : Value}
    {f19 : Addr} {od19 an19 : Option Addr} {sl19 : Array (Option Value)} {oc19 kV19 dc19 pm19 cd19 ct19 : Value}
    {f20 : Addr} {od20 an20 : Option Addr} {sl20 : Array (Option Value)} {oc20 kV20 dc20 pm20 cd20 ct20 : Value}
    {f21 : Addr} {od21 an21 : Option Addr} {sl21 : Array (Option Value)} {oc21 kV21 dc21 pm21 cd21 ct21 : Value}
    (a1 : PySem.W.nsIn K mainGlobals "are_offered" = some (some (.ref f1)))
    (l1 : K.lookup f1 = some ⟨oc1, od1, .func (PySem.W.fnOf "are_offered" "are_offered" (defArgs s_are_offered) (defBody s_are_offered) (defScope s_are_offered) .none kV1 dc1 pm1 an1 cd1 ct1), sl1⟩) (c1 : PySem.W.codeIn K cd1 "are_offered" = true) (k1 : PySem.W.keepIn K (.ref f1) = true)
    (a2 : PySem.W.nsIn K mainGlobals "is_enough" = some (some (.ref f2)))
    (l2 : K.lookup f2 = some ⟨oc2, od2, .func (PySem.W.fnOf "is_enough" "is_enough" (defArgs s_is_enough) (defBody s_is_enough) (defScope s_is_enough) .none kV2 dc2 pm2 an2 cd2 ct2), sl2⟩) (c2 : PySem.W.codeIn K cd2 "is_enough" = true) (k2 : PySem.W.keepIn K (.ref f2) = true)
    (a3 : PySem.W.nsIn K mainGlobals "is_borne" = some (some (.ref f3)))
    (l3 : K.lookup f3 = some ⟨oc3, od3, .func (PySem.W.fnOf "is_borne" "is_borne" (defArgs s_is_borne) (defBody s_is_borne) (defScope s_is_borne) .none kV3 dc3 pm3 an3 cd3 ct3), sl3⟩) (c3 : PySem.W.codeIn K cd3 "is_borne" = true) (k3 : PySem.W.keepIn K (.ref f3) = true)
    (a4 : PySem.W.nsIn K mainGlobals "is_dealing" = some (some (.ref f4)))
    (l4 : K.lookup f4 = some ⟨oc4, od4, .func (PySem.W.fnOf "is_dealing" "is_dealing" (defArgs s_is_dealing) (defBody s_is_dealing) (defScope s_is_dealing) .none kV4 dc4 pm4 an4 cd4 ct4), sl4⟩) (c4 : PySem.W.codeIn K cd4 "is_dealing" = true) (k4 : PySem.W.keepIn K (.ref f4) = true)
    (a5 : PySem.W.nsIn K mainGlobals "cost_at" = some (some (.ref f5)))
    (l5 : K.lookup f5 = some ⟨oc5, od5, .func (PySem.W.fnOf "cost_at" "cost_at" (defArgs s_cost_at) (defBody s_cost_at) (defScope s_cost_at) .none kV5 dc5 pm5 an5 cd5 ct5), sl5⟩) (c5 : PySem.W.codeIn K cd5 "cost_at" = true) (k5 : PySem.W.keepIn K (.ref f5) = true)
    (a6 : PySem.W.nsIn K mainGlobals "cost_of" = some (some (.ref f6)))
    (l6 : K.lookup f6 = some ⟨oc6, od6, .func (PySem.W.fnOf "cost_of" "cost_of" (defArgs s_cost_of) (defBody s_cost_of) (defScope s_cost_of) .none kV6 dc6 pm6 an6 cd6 ct6), sl6⟩) (c6 : PySem.W.codeIn K cd6 "cost_of" = true) (k6 : PySem.W.keepIn K (.ref f6) = true)
    (a7 : PySem.W.nsIn K mainGlobals "_law_cell_at" = some (some (.ref f7)))
    (l7 : K.lookup f7 = some ⟨oc7, od7, .func (PySem.W.fnOf "_law_cell_at" "_law_cell_at" (defArgs s__law_cell_at) (defBody s__law_cell_at) (defScope s__law_cell_at) .none kV7 dc7 pm7 an7 cd7 ct7), sl7⟩) (c7 : PySem.W.codeIn K cd7 "_law_cell_at" = true) (k7 : PySem.W.keepIn K (.ref f7) = true)
    (a8 : PySem.W.nsIn K mainGlobals "_law_stream" = some (some (.ref f8)))
    (l8 : K.lookup f8 = some ⟨oc8, od8, .func (PySem.W.fnOf "_law_stream" "_law_stream" (defArgs s__law_stream) (defBody s__law_stream) (defScope s__law_stream) .none kV8 dc8 pm8 an8 cd8 ct8), sl8⟩) (c8 : PySem.W.codeIn K cd8 "_law_stream" = true) (k8 : PySem.W.keepIn K (.ref f8) = true)
    (a9 : PySem.W.nsIn K mainGlobals "_law_cost" = some (some (.ref f9)))
    (l9 : K.lookup f9 = some ⟨oc9, od9, .func (PySem.W.fnOf "_law_cost" "_law_cost" (defArgs s__law_cost) (defBody s__law_cost) (defScope s__law_cost) .none kV9 dc9 pm9 an9 cd9 ct9), sl9⟩) (c9 : PySem.W.codeIn K cd9 "_law_cost" = true) (k9 : PySem.W.keepIn K (.ref f9) = true)
    (a10 : PySem.W.nsIn K mainGlobals "_law_spot" = some (some (.ref f10)))
    (l10 : K.lookup f10 = some ⟨oc10, od10, .func (PySem.W.fnOf "_law_spot" "_law_spot" (defArgs s__law_spot) (defBody s__law_spot) (defScope s__law_spot) .none kV10 dc10 pm10 an10 cd10 ct10), sl10⟩) (c10 : PySem.W.codeIn K cd10 "_law_spot" = true) (k10 : PySem.W.keepIn K (.ref f10) = true)
    (a11 : PySem.W.nsIn K mainGlobals "_law_spots" = some (some (.ref f11)))
    (l11 : K.lookup f11 = some ⟨oc11, od11, .func (PySem.W.fnOf "_law_spots" "_law_spots" (defArgs s__law_spots) (defBody s__law_spots) (defScope s__law_spots) .none kV11 dc11 pm11 an11 cd11 ct11), sl11⟩) (c11 : PySem.W.codeIn K cd11 "_law_spots" = true) (k11 : PySem.W.keepIn K (.ref f11) = true)
    (a12 : PySem.W.nsIn K mainGlobals "_law_picked" = some (some (.ref f12)))
    (l12 : K.lookup f12 = some ⟨oc12, od12, .func (PySem.W.fnOf "_law_picked" "_law_picked" (defArgs s__law_picked) (defBody s__law_picked) (defScope s__law_picked) .none kV12 dc12 pm12 an12 cd12 ct12), sl12⟩) (c12 : PySem.W.codeIn K cd12 "_law_picked" = true) (k12 : PySem.W.keepIn K (.ref f12) = true)
    (a13 : PySem.W.nsIn K mainGlobals "_law_counts" = some (some (.ref f13)))
    (l13 : K.lookup f13 = some ⟨oc13, od13, .func (PySem.W.fnOf "_law_counts" "_law_counts" (defArgs s__law_counts) (defBody s__law_counts) (defScope s__law_counts) .none kV13 dc13 pm13 an13 cd13 ct13), sl13⟩) (c13 : PySem.W.codeIn K cd13 "_law_counts" = true) (k13 : PySem.W.keepIn K (.ref f13) = true)
    (a14 : PySem.W.nsIn K mainGlobals "_law_spoilt" = some (some (.ref f14)))
    (l14 : K.lookup f14 = some ⟨oc14, od14, .func (PySem.W.fnOf "_law_spoilt" "_law_spoilt" (defArgs s__law_spoilt) (defBody s__law_spoilt) (defScope s__law_spoilt) .none kV14 dc14 pm14 an14 cd14 ct14), sl14⟩) (c14 : PySem.W.codeIn K cd14 "_law_spoilt" = true) (k14 : PySem.W.keepIn K (.ref f14) = true)
    (a15 : PySem.W.nsIn K mainGlobals "_law_copy" = some (some (.ref f15)))
    (l15 : K.lookup f15 = some ⟨oc15, od15, .func (PySem.W.fnOf "_law_copy" "_law_copy" (defArgs s__law_copy) (defBody s__law_copy) (defScope s__law_copy) .none kV15 dc15 pm15 an15 cd15 ct15), sl15⟩) (c15 : PySem.W.codeIn K cd15 "_law_copy" = true) (k15 : PySem.W.keepIn K (.ref f15) = true)
    (a16 : PySem.W.nsIn K mainGlobals "_law_whole" = some (some (.ref f16)))
    (l16 : K.lookup f16 = some ⟨oc16, od16, .func (PySem.W.fnOf "_law_whole" "_law_whole" (defArgs s__law_whole) (defBody s__law_whole) (defScope s__law_whole) .none kV16 dc16 pm16 an16 cd16 ct16), sl16⟩) (c16 : PySem.W.codeIn K cd16 "_law_whole" = true) (k16 : PySem.W.keepIn K (.ref f16) = true)
    (a17 : PySem.W.nsIn K mainGlobals "_law_dealing" = some (some (.ref f17)))
    (l17 : K.lookup f17 = some ⟨oc17, od17, .func (PySem.W.fnOf "_law_dealing" "_law_dealing" (defArgs s__law_dealing) (defBody s__law_dealing) (defScope s__law_dealing) .none kV17 dc17 pm17 an17 cd17 ct17), sl17⟩) (c17 : PySem.W.codeIn K cd17 "_law_dealing" = true) (k17 : PySem.W.keepIn K (.ref f17) = true)
    (a18 : PySem.W.nsIn K mainGlobals "_law_cost_of" = some (some (.ref f18)))
    (l18 : K.lookup f18 = some ⟨oc18, od18, .func (PySem.W.fnOf "_law_cost_of" "_law_cost_of" (defArgs s__law_cost_of) (defBody s__law_cost_of) (defScope s__law_cost_of) .none kV18 dc18 pm18 an18 cd18 ct18), sl18⟩) (c18 : PySem.W.codeIn K cd18 "_law_cost_of" = true) (k18 : PySem.W.keepIn K (.ref f18) = true)
    (a19 : PySem.W.nsIn K mainGlobals "_law_good" = some (some (.ref f19)))
    (l19 : K.lookup f19 = some ⟨oc19, od19, .func (PySem.W.fnOf "_law_good" "_law_good" (defArgs s__law_good) (defBody s__law_good) (defScope s__law_good) .none kV19 dc19 pm19 an19 cd19 ct19), sl19⟩) (c19 : PySem.W.codeIn K cd19 "_law_good" = true) (k19 : PySem.W.keepIn K (.ref f19) = true)
    (a20 : PySem.W.nsIn K mainGlobals "_law_limit" = some (some (.ref f20)))
    (l20 : K.lookup f20 = some ⟨oc20, od20, .func (PySem.W.fnOf "_law_limit" "_law_limit" (defArgs s__law_limit) (defBody s__law_limit) (defScope s__law_limit) .none kV20 dc20 pm20 an20 cd20 ct20), sl20⟩) (c20 : PySem.W.codeIn K cd20 "_law_limit" = true) (k20 : PySem.W.keepIn K (.ref f20) = true)
    (a21 : PySem.W.nsIn K mainGlobals "law" = some (some (.ref f21)))
    (l21 : K.lookup f21 = some ⟨oc21, od21, .func (PySem.W.fnOf "law" "law" (defArgs s_law) (defBody s_law) (defScope s_law) .none kV21 dc21 pm21 an21 cd21 ct21), sl21⟩) (c21 : PySem.W.codeIn K cd21 "law" = true) (k21 : PySem.W.keepIn K (.ref f21) = true)
    (z1 : PySem.W.nsIn K mainGlobals "all" = some none)
    (z2 : PySem.W.nsIn K mainGlobals "bool" = some none)
    (z3 : PySem.W.nsIn K mainGlobals "enumerate" = some none)
    (z4 : PySem.W.nsIn K mainGlobals "int" = some none)
    (z5 : PySem.W.nsIn K mainGlobals "isinstance" = some none)
    (z6 : PySem.W.nsIn K mainGlobals "len" = some none)
    (z7 : PySem.W.nsIn K mainGlobals "list" = some none)
    (z8 : PySem.W.nsIn K mainGlobals "max" = some none)
    (z9 : PySem.W.nsIn K mainGlobals "range" = some none)
    (z10 : PySem.W.nsIn K mainGlobals "sum" = some none)
    (z11 : PySem.W.nsIn K mainGlobals "zip" = some none)
    : ∃ fd : FuncData, (∀ (s : Shared) (v : Value), BindsTo s fd ⟨[v], []⟩ [("_law_script", v)]) ∧ ∀ base : Heap, K.In base → base.Ns mainGlobals mg → FnOk l.prog w K mg base CX0 4 fa fd ["_law_script"] (sp_law K) := by
  have e := hfa.symm.trans (PySem.W.mg_of X G a21)
  cases e
  have T : Txt mg := ⟨PySem.W.mg_none_of X G z1, PySem.W.mg_none_of X G z2, PySem.W.mg_none_of X G z3, PySem.W.mg_none_of X G z4, PySem.W.mg_none_of X G z5, PySem.W.mg_none_of X G z6, PySem.W.mg_none_of X G z7, PySem.W.mg_none_of X G z8, PySem.W.mg_none_of X G z9, PySem.W.mg_none_of X G z10, PySem.W.mg_none_of X G z11⟩
  have F1 := fun_mk (st := s_are_offered) l1 c1 k1
  have b1 := F1.binds (ps := ["spots", "dealt"]) fun _ _ _ _ _ _ us hl => match us, hl with | [_, _], _ => rfl
  have F2 := fun_mk (st := s_is_enough) l2 c2 k2
  have b2 := F2.binds (ps := ["columns", "dealt"]) fun _ _ _ _ _ _ us hl => match us, hl with | [_, _], _ => rfl
  have F3 := fun_mk (st := s_is_borne) l3 c3 k3
  have b3 := F3.binds (ps := ["spots", "caps", "dealt"]) fun _ _ _ _ _ _ us hl => match us, hl with | [_, _, _], _ => rfl
  have F4 := fun_mk (st := s_is_dealing) l4 c4 k4
  have b4 := F4.binds (ps := ["spots", "columns", "caps", "dealt"]) fun _ _ _ _ _ _ us hl => match us, hl with | [_, _, _, _], _ => rfl
  have F5 := fun_mk (st := s_cost_at) l5 c5 k5
  have b5 := F5.binds (ps := ["spot", "column"]) fun _ _ _ _ _ _ us hl => match us, hl with | [_, _], _ => rfl
  have F6 := fun_mk (st := s_cost_of) l6 c6 k6
  have b6 := F6.binds (ps := ["spots", "dealt"]) fun _ _ _ _ _ _ us hl => match us, hl with | [_, _], _ => rfl
  have F7 := fun_mk (st := s__law_cell_at) l7 c7 k7
  have b7 := F7.binds (ps := ["_law_script", "_law_k"]) fun _ _ _ _ _ _ us hl => match us, hl with | [_, _], _ => rfl
  have F8 := fun_mk (st := s__law_stream) l8 c8 k8
  have b8 := F8.binds (ps := ["_law_cell", "_law_many"]) fun _ _ _ _ _ _ us hl => match us, hl with | [_, _], _ => rfl
  have F9 := fun_mk (st := s__law_cost) l9 c9 k9
  have b9 := F9.binds (ps := ["_law_number", "_law_great"]) fun _ _ _ _ _ _ us hl => match us, hl with | [_, _], _ => rfl
  have F10 := fun_mk (st := s__law_spot) l10 c10 k10
  have b10 := F10.binds (ps := ["_law_cell", "_law_owners", "_law_many", "_law_great"]) fun _ _ _ _ _ _ us hl => match us, hl with | [_, _, _, _], _ => rfl
  have F11 := fun_mk (st := s__law_spots) l11 c11 k11
  have b11 := F11.binds (ps := ["_law_script", "_law_most"]) fun _ _ _ _ _ _ us hl => match us, hl with | [_, _], _ => rfl
  have F12 := fun_mk (st := s__law_picked) l12 c12 k12
  have b12 := F12.binds (ps := ["_law_spots_here", "_law_cell"]) fun _ _ _ _ _ _ us hl => match us, hl with | [_, _], _ => rfl
  have F13 := fun_mk (st := s__law_counts) l13 c13 k13
  have b13 := F13.binds (ps := ["_law_spots_here", "_law_owners", "_law_many", "_law_dealt"]) fun _ _ _ _ _ _ us hl => match us, hl with | [_, _, _, _], _ => rfl
  have F14 := fun_mk (st := s__law_spoilt) l14 c14 k14
  have b14 := F14.binds (ps := ["_law_cell", "_law_many", "_law_columns", "_law_limits", "_law_dealt"]) fun _ _ _ _ _ _ us hl => match us, hl with | [_, _, _, _, _], _ => rfl
  have F15 := fun_mk (st := s__law_copy) l15 c15 k15
  have b15 := F15.binds (ps := ["_law_spots_here"]) fun _ _ _ _ _ _ us hl => match us, hl with | [_], _ => rfl
  have F16 := fun_mk (st := s__law_whole) l16 c16 k16
  have b16 := F16.binds (ps := ["_law_found"]) fun _ _ _ _ _ _ us hl => match us, hl with | [_], _ => rfl
  have F17 := fun_mk (st := s__law_dealing) l17 c17 k17
  have b17 := F17.binds (ps := ["_law_spots_here", "_law_columns", "_law_limits", "_law_dealt"]) fun _ _ _ _ _ _ us hl => match us, hl with | [_, _, _, _], _ => rfl
  have F18 := fun_mk (st := s__law_cost_of) l18 c18 k18
  have b18 := F18.binds (ps := ["_law_spots_here", "_law_dealt"]) fun _ _ _ _ _ _ us hl => match us, hl with | [_, _], _ => rfl
  have F19 := fun_mk (st := s__law_good) l19 c19 k19
  have b19 := F19.binds (ps := ["_law_spots_here", "_law_columns", "_law_limits", "_law_dealt"]) fun _ _ _ _ _ _ us hl => match us, hl with | [_, _, _, _], _ => rfl
  have F20 := fun_mk (st := s__law_limit) l20 c20 k20
  have b20 := F20.binds (ps := ["_law_busy", "_law_number"]) fun _ _ _ _ _ _ us hl => match us, hl with | [_, _], _ => rfl
  have F21 := fun_mk (st := s_law) l21 c21 k21
  refine ⟨PySem.W.fnOf "law" "law" (defArgs s_law) (defBody s_law) (defScope s_law) .none kV21 dc21 pm21 an21 cd21 ct21, fun s v => .of_eq rfl, fun base _ _ => ?_⟩
  have C_are_offered : Cal l.prog w K mg base "are_offered" ["spots", "dealt"] 1 (sp_are_offered K) := ⟨_, _, ok_are_offered F1 T , b1, k1, PySem.W.mg_of X G a1⟩
  have C_is_enough : Cal l.prog w K mg base "is_enough" ["columns", "dealt"] 1 (sp_is_enough K) := ⟨_, _, ok_is_enough F2 T , b2, k2, PySem.W.mg_of X G a2⟩
  have C_is_borne : Cal l.prog w K mg base "is_borne" ["spots", "caps", "dealt"] 1 (sp_is_borne K) := ⟨_, _, ok_is_borne F3 T , b3, k3, PySem.W.mg_of X G a3⟩
  have C_is_dealing : Cal l.prog w K mg base "is_dealing" ["spots", "columns", "caps", "dealt"] 2 (sp_is_dealing K) := ⟨_, _, ok_is_dealing F4 T C_are_offered C_is_enough C_is_borne, b4, k4, PySem.W.mg_of X G a4⟩
  have C_cost_at : Cal l.prog w K mg base "cost_at" ["spot", "column"] 1 (sp_cost_at K) := ⟨_, _, ok_cost_at F5 T , b5, k5, PySem.W.mg_of X G a5⟩
  have C_cost_of : Cal l.prog w K mg base "cost_of" ["spots", "dealt"] 2 (sp_cost_of K) := ⟨_, _, ok_cost_of F6 T C_cost_at, b6, k6, PySem.W.mg_of X G a6⟩
  have C__law_cell_at : Cal l.prog w K mg base "_law_cell_at" ["_law_script", "_law_k"] 1 (sp__law_cell_at K) := ⟨_, _, ok__law_cell_at F7 T , b7, k7, PySem.W.mg_of X G a7⟩
  have C__law_stream : Cal l.prog w K mg base "_law_stream" ["_law_cell", "_law_many"] 1 (sp__law_stream K) := ⟨_, _, ok__law_stream F8 T , b8, k8, PySem.W.mg_of X G a8⟩
  have C__law_cost : Cal l.prog w K mg base "_law_cost" ["_law_number", "_law_great"] 1 (sp__law_cost K) := ⟨_, _, ok__law_cost F9 T , b9, k9, PySem.W.mg_of X G a9⟩
  have C__law_spot : Cal l.prog w K mg base "_law_spot" ["_law_cell", "_law_owners", "_law_many", "_law_great"] 2 (sp__law_spot K) := ⟨_, _, ok__law_spot F10 T C__law_stream C__law_cost, b10, k10, PySem.W.mg_of X G a10⟩
  have C__law_spots : Cal l.prog w K mg base "_law_spots" ["_law_script", "_law_most"] 3 (sp__law_spots K) := ⟨_, _, ok__law_spots F11 T C__law_cell_at C__law_stream C__law_spot, b11, k11, PySem.W.mg_of X G a11⟩
  have C__law_picked : Cal l.prog w K mg base "_law_picked" ["_law_spots_here", "_law_cell"] 2 (sp__law_picked K) := ⟨_, _, ok__law_picked F12 T C__law_stream, b12, k12, PySem.W.mg_of X G a12⟩
  have C__law_counts : Cal l.prog w K mg base "_law_counts" ["_law_spots_here", "_law_owners", "_law_many", "_law_dealt"] 1 (sp__law_counts K) := ⟨_, _, ok__law_counts F13 T , b13, k13, PySem.W.mg_of X G a13⟩
  have C__law_spoilt : Cal l.prog w K mg base "_law_spoilt" ["_law_cell", "_law_many", "_law_columns", "_law_limits", "_law_dealt"] 1 (sp__law_spoilt K) := ⟨_, _, ok__law_spoilt F14 T , b14, k14, PySem.W.mg_of X G a14⟩
  have C__law_copy : Cal l.prog w K mg base "_law_copy" ["_law_spots_here"] 1 (sp__law_copy K) := ⟨_, _, ok__law_copy F15 T , b15, k15, PySem.W.mg_of X G a15⟩
  have C__law_whole : Cal l.prog w K mg base "_law_whole" ["_law_found"] 1 (sp__law_whole K) := ⟨_, _, ok__law_whole F16 T , b16, k16, PySem.W.mg_of X G a16⟩
  have C__law_dealing : Cal l.prog w K mg base "_law_dealing" ["_law_spots_here", "_law_columns", "_law_limits", "_law_dealt"] 2 (sp__law_dealing K) := ⟨_, _, ok__law_dealing F17 T C__law_counts C__law_whole, b17, k17, PySem.W.mg_of X G a17⟩
  have C__law_cost_of : Cal l.prog w K mg base "_law_cost_of" ["_law_spots_here", "_law_dealt"] 1 (sp__law_cost_of K) := ⟨_, _, ok__law_cost_of F18 T , b18, k18, PySem.W.mg_of X G a18⟩
  have C__law_good : Cal l.prog w K mg base "_law_good" ["_law_spots_here", "_law_columns", "_law_limits", "_law_dealt"] 3 (sp__law_good K) := ⟨_, _, ok__law_good F19 T C_is_dealing C_cost_of C__law_copy C__law_dealing C__law_whole C__law_cost_of, b19, k19, PySem.W.mg_of X G a19⟩
  have C__law_limit : Cal l.prog w K mg base "_law_limit" ["_law_busy", "_law_number"] 1 (sp__law_limit K) := ⟨_, _, ok__law_limit F20 T , b20, k20, PySem.W.mg_of X G a20⟩
  exact ok_law F21 T C__law_spots C__law_picked C__law_counts C__law_stream C__law_spoilt C__law_good C__law_cell_at C__law_limit C__law_dealing
theorem walk {l : PySem.W.OpenLaw} {q : Program} {loose : List Str} {XP : (Str → Option Value) → Heap → Prop} {YP : World → Heap → Prop} {d : DefRec} {K : Params → PySem.W.Frag} (hn : l.most = some 63) (hdf : d.params.defaults = [])
    (hY : ∀ (w : World) (h : Heap), YP w h → (K w.params).In h)
    (F : ∀ (w : World) (mg : Str → Option Value) (fa : Addr) (h : Heap), (K w.params).In h → h.Ns mainGlobals mg → mg d.name = some (.ref fa) →
      ∃ fd : FuncData, (∀ (s : Shared) (u : Value), BindsTo s fd ⟨[u], []⟩ [("_law_script", u)]) ∧ ∀ base : Heap, (K w.params).In base → base.Ns mainGlobals mg → FnOk l.prog w (K w.params) mg base CX0 4 fa fd ["_law_script"] (sp_law (K w.params))) :
    PySem.W.WalkO q loose XP YP l.row.toRowW d [] (fun f vs => PySem.call f vs) :=
  L2.walk_of (n := 63) (k := 4) (x := "_law_script") (CX := fun _ => CX0) (sp := fun w => sp_law (K w.params)) hn (by decide) hdf ⟨rfl, by decide, by decide⟩ hY F (fun _ _ a ns hl _ hS => ⟨a, ns, rfl, hS, hl, fun _ => rfl⟩) fun _ _ _ _ _ z => z
end My
open PySem PySem.W PyProof.Rows
set_option maxRecDepth 100000 in
set_option maxHeartbeats 0 in
theorem PySem.Challenge.cw_rotaward_k47_what_is_a_dealing_holds : PySem.Challenge.rw_rotaward_k47_what_is_a_dealing.Holds := by
  w_on; o_law; k_head; (case hw => w_witness2)
  k_fill
  refine My.walk (l := PySem.Challenge.rw_rotaward_k47_what_is_a_dealing) rfl rfl (fun w h Y => PySem.W.kIn_of Y) ?F
  case F =>
    intro w mg fa h KX G hmg
    refine' My.all_mk KX G hmg ?a1 ?l1 ?c1 ?k1 ?a2 ?l2 ?c2 ?k2 ?a3 ?l3 ?c3 ?k3 ?a4 ?l4 ?c4 ?k4 ?a5 ?l5 ?c5 ?k5 ?a6 ?l6 ?c6 ?k6 ?a7 ?l7 ?c7 ?k7 ?a8 ?l8 ?c8 ?k8 ?a9 ?l9 ?c9 ?k9 ?a10 ?l10 ?c10 ?k10 ?a11 ?l11 ?c11 ?k11 ?a12 ?l12 ?c12 ?k12 ?a13 ?l13 ?c13 ?k13 ?a14 ?l14 ?c14 ?k14 ?a15 ?l15 ?c15 ?k15 ?a16 ?l16 ?c16 ?k16 ?a17 ?l17 ?c17 ?k17 ?a18 ?l18 ?c18 ?k18 ?a19 ?l19 ?c19 ?k19 ?a20 ?l20 ?c20 ?k20 ?a21 ?l21 ?c21 ?k21 ?z1 ?z2 ?z3 ?z4 ?z5 ?z6 ?z7 ?z8 ?z9 ?z10 ?z11
    (case a1 => k_is)
    (case l1 => k_is)
    (case c1 => k_is)
    (case k1 => k_is)
    (case a2 => k_is)
    (case l2 => k_is)
    (case c2 => k_is)
    (case k2 => k_is)
    (case a3 => k_is)
    (case l3 => k_is)
    (case c3 => k_is)
    (case k3 => k_is)
    (case a4 => k_is)
    (case l4 => k_is)
    (case c4 => k_is)
    (case k4 => k_is)
    (case a5 => k_is)
    (case l5 => k_is)
    (case c5 => k_is)
    (case k5 => k_is)
    (case a6 => k_is)
    (case l6 => k_is)
    (case c6 => k_is)
    (case k6 => k_is)
    (case a7 => k_is)
    (case l7 => k_is)
    (case c7 => k_is)
    (case k7 => k_is)
    (case a8 => k_is)
    (case l8 => k_is)
    (case c8 => k_is)
    (case k8 => k_is)
    (case a9 => k_is)
    (case l9 => k_is)
    (case c9 => k_is)
    (case k9 => k_is)
    (case a10 => k_is)
    (case l10 => k_is)
    (case c10 => k_is)
    (case k10 => k_is)
    (case a11 => k_is)
    (case l11 => k_is)
    (case c11 => k_is)
    (case k11 => k_is)
    (case a12 => k_is)
    (case l12 => k_is)
    (case c12 => k_is)
    (case k12 => k_is)
    (case a13 => k_is)
    (case l13 => k_is)
    (case c13 => k_is)
    (case k13 => k_is)
    (case a14 => k_is)
    (case l14 => k_is)
    (case c14 => k_is)
    (case k14 => k_is)
    (case a15 => k_is)
    (case l15 => k_is)
    (case c15 => k_is)
    (case k15 => k_is)
    (case a16 => k_is)
    (case l16 => k_is)
    (case c16 => k_is)
    (case k16 => k_is)
    (case a17 => k_is)
    (case l17 => k_is)
    (case c17 => k_is)
    (case k17 => k_is)
    (case a18 => k_is)
    (case l18 => k_is)
    (case c18 => k_is)
    (case k18 => k_is)
    (case a19 => k_is)
    (case l19 => k_is)
    (case c19 => k_is)
    (case k19 => k_is)
    (case a20 => k_is)
    (case l20 => k_is)
    (case c20 => k_is)
    (case k20 => k_is)
    (case a21 => k_is)
    (case l21 => k_is)
    (case c21 => k_is)
    (case k21 => k_is)
    (case z1 => k_is)
    (case z2 => k_is)
    (case z3 => k_is)
    (case z4 => k_is)
    (case z5 => k_is)
    (case z6 => k_is)
    (case z7 => k_is)
    (case z8 => k_is)
    (case z9 => k_is)
    (case z10 => k_is)
    (case z11 => k_is)
