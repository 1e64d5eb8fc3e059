import PyProof.Rows.All
import Wide.All
import OpenK.AllK
import Wide.FinOn
import Lean
import PyProof.EqAt
import PyProof.EqKinds
import PyProof.TupleCall
import PySem.Challenge.RW_rotaward_k35_whole_no_paper_for_what_can
set_option compiler.extract_closed false
namespace PySem.W.Fast
end PySem.W.Fast
set_option Elab.async false
set_option linter.all false
set_option maxRecDepth 100000
namespace L2
open PySem PySem.Spec PyProof.Rows

/-- a key: an int or a str -/
abbrev Key := Sum Int Str
def keyIs : Key → Value → Bool
  | .inl k, v => Value.isInt k v
  | .inr x, v => Value.isStrOf x v
def keyH (w : World) : Key → Int
  | .inl k => hashInt k
  | .inr x => hashStr w x
theorem keyIs_shape : ∀ {k : Key} {v : Value}, keyIs k v = true → (∃ i t, k = Sum.inl i ∧ v = Value.int i t) ∨ (∃ x t, k = Sum.inr x ∧ v = Value.str x t)
  | .inl i, v, h => by
    obtain ⟨t, e⟩ := Value.isInt_shape (k := i) (v := v) h
    exact .inl ⟨i, t, rfl, e⟩
  | .inr x, v, h => by
    obtain ⟨t, e⟩ := Value.isStrOf_shape (x := x) (v := v) h
    exact .inr ⟨x, t, rfl, e⟩
theorem key_ll (a b : Int) : decide ((Sum.inl a : Key) = Sum.inl b) = (a == b) := by
  by_cases e : a = b
  · subst e; simp
  · have h : ¬ (Sum.inl a : Key) = Sum.inl b := fun q => e (Sum.inl.inj q)
    rw [decide_eq_false h]
    exact (beq_eq_false_iff_ne.mpr e).symm
theorem key_rr (a b : Str) : decide ((Sum.inr a : Key) = Sum.inr b) = decide (a = b) := by
  by_cases e : a = b
  · subst e; simp
  · have h : ¬ (Sum.inr a : Key) = Sum.inr b := fun q => e (Sum.inr.inj q)
    rw [decide_eq_false h, decide_eq_false e]
theorem key_lr (a : Int) (b : Str) : decide ((Sum.inl a : Key) = Sum.inr b) = false := decide_eq_false (fun q => nomatch q)
theorem key_rl (a : Str) (b : Int) : decide ((Sum.inr a : Key) = Sum.inl b) = false := decide_eq_false (fun q => nomatch q)

def mixKind (prog : Program) (w : World) : PySem.KeyKind prog w Key where
  is := keyIs
  hash := keyH w
  inj := fun v a b ha hb => by
    rcases keyIs_shape ha with ⟨i, t, rfl, rfl⟩ | ⟨x, t, rfl, rfl⟩
    · rcases keyIs_shape hb with ⟨j, u, rfl, e⟩ | ⟨y, u, rfl, e⟩
      · injection e with e1 _; rw [e1]
      · exact nomatch e
    · rcases keyIs_shape hb with ⟨j, u, rfl, e⟩ | ⟨y, u, rfl, e⟩
      · exact nomatch e
      · injection e with e1 _; rw [e1]
  byValue := fun k v h => by
    rcases keyIs_shape h with ⟨i, t, rfl, rfl⟩ | ⟨x, t, rfl, rfl⟩ <;> rfl
  pyHash := fun hv h => by
    rcases keyIs_shape hv with ⟨i, t, rfl, rfl⟩ | ⟨x, t, rfl, rfl⟩
    · exact wpAny_pyHash_int h
    · exact wpAny_pyHash_str h
  eqBool := fun hu hv h => by
    rcases keyIs_shape hu with ⟨i, t, rfl, rfl⟩ | ⟨x, t, rfl, rfl⟩
    · rcases keyIs_shape hv with ⟨j, u, rfl, rfl⟩ | ⟨y, u, rfl, rfl⟩
      · rw [key_ll] at h; exact wpAny_eqBool_int h
      · rw [key_lr] at h; exact SeqAt.EqAt.int_str i t y u _ _ _ _ h
    · rcases keyIs_shape hv with ⟨j, u, rfl, rfl⟩ | ⟨y, u, rfl, rfl⟩
      · rw [key_rl] at h; exact SeqAt.EqAt.str_int x t j u _ _ _ _ h
      · rw [key_rr] at h; exact wpAny_eqBool_str h
  «strs» := fun k x t v h => by
    rcases keyIs_shape h with ⟨i, u, rfl, e⟩ | ⟨y, u, rfl, e⟩
    · exact nomatch e
    · injection e with e1 _
      subst e1
      cases v <;> rfl

end L2

namespace L2
open PySem PySem.Spec PyProof.Rows

/-- a value, without the heap -/
inductive V where
  | non | bl (b : Bool) | int (i : Int) | str (x : Str) | byt (b : Array UInt8) | flt (b : UInt64) | ref (a : Addr) | ty (n : String)
  deriving DecidableEq

def RelV : V → Value → Prop
  | .non, u => u = Value.none
  | .bl b, u => u = Value.bool b
  | .int i, u => ∃ t, u = Value.int i t
  | .str x, u => ∃ t, u = Value.str x t
  | .byt b, u => ∃ t, u = Value.bytes b t
  | .flt b, u => ∃ t, u = Value.float b t
  | .ref a, u => u = Value.ref a
  | .ty n, u => u = Value.type n

abbrev Vals : List V → List Value → Prop := Paired RelV
theorem Vals.length {xs : List V} {us : List Value} (r : Vals xs us) : xs.length = us.length := Paired.length r
theorem Vals.get : ∀ {xs : List V} {us : List Value} {i : Nat} {x : V}, Vals xs us → xs[i]? = some x → ∃ u, us[i]? = some u ∧ RelV x u
  | _, _, _, _, .nil, e => by simp at e
  | _, _, 0, _, .cons r _, e => by simp at e; subst e; exact ⟨_, rfl, r⟩
  | _, _, i + 1, x, .cons _ t, e => by
    obtain ⟨u, h1, h2⟩ := Vals.get (i := i) (x := x) t (by simpa using e)
    exact ⟨u, by simpa using h1, h2⟩
theorem Vals.set {x : V} {u : Value} (r : RelV x u) : ∀ {xs : List V} {us : List Value} (i : Nat), Vals xs us → Vals (xs.set i x) (us.set i u)
  | _, _, _, .nil => .nil
  | _, _, 0, .cons _ t => .cons r t
  | _, _, i + 1, .cons q t => .cons q (Vals.set r i t)
theorem Vals.take : ∀ {xs : List V} {us : List Value} (n : Nat), Vals xs us → Vals (xs.take n) (us.take n)
  | _, _, 0, _ => .nil
  | _, _, _ + 1, .nil => .nil
  | _, _, n + 1, .cons r t => .cons r (Vals.take n t)
theorem Vals.drop : ∀ {xs : List V} {us : List Value} (n : Nat), Vals xs us → Vals (xs.drop n) (us.drop n)
  | _, _, 0, r => r
  | _, _, _ + 1, .nil => .nil
  | _, _, n + 1, .cons _ t => Vals.drop n t
def RelO : Option V → Option Value → Prop
  | some v, some u => RelV v u
  | none, none => True
  | _, _ => False
def KV {κ : Type} : List (κ × V) → List (κ × Value) → Prop := Paired fun (p : κ × V) (q : κ × Value) => p.1 = q.1 ∧ RelV p.2 q.2

/-- a key of a dict (00_mix): an int or a text -/
def kV : Key → V
  | .inl i => .int i
  | .inr x => .str x

/-- what stands at a tracked address -/
inductive HO where
  /-- a list -/
  | lst (xs : List V)
  /-- a tuple (never changes) -/
  | tup (xs : List V)
  /-- a dict whose keys are ints and texts; one whose keys are tuples of ints and texts (the empty one is both) -/
  | dK (kvs : List (Key × V)) | dT (kvs : List (List Key × V))
  /-- a set of ints: its members, its size -/
  | set (S : Int → Bool) (n : Nat)
  /-- an instance of the class at C, its dict at dx, its attributes -/
  | ins (C dx : Addr) (fs : List (Str × V))
  /-- the dict of the instance at x -/
  | own (x : Addr)
  /-- the dict of an exception -/
  | xd (fs : List (Str × V))
  /-- a bound method, f of x -/
  | met (f x : Addr)
  /-- a range object lo, lo + 1, .. below hi -/
  | rng (lo hi : Int)
  /-- a thing that is known to the object (the script; a dict while a loop walks it): read, never written while it is so -/
  | frz (o : Obj) (u : HO)
  /-- a code object's table -/
  | tbl (ps : Array Value)
  /-- any other thing, by what is true of its one object (a def of one's own: SetO a S n := HO.ext fun h => ..) -/
  | ext (φ : Heap → Prop)

abbrev Hp := Addr → Option HO
def upd (H : Hp) (a : Addr) (o : HO) : Hp := fun b => if b = a then some o else H b
theorem upd_same {H : Hp} {a : Addr} {o : HO} : upd H a o a = some o := by unfold upd; rw [if_pos rfl]
theorem upd_ne {H : Hp} {a b : Addr} {o : HO} (h : b ≠ a) : upd H a o b = H b := by unfold upd; rw [if_neg h]
/-- two objects of different content stand apart -/
theorem ne_of {H : Hp} {a b : Addr} {o u : HO} (h : H a = some o) (h' : H b = some u) (d : o ≠ u) : a ≠ b := by
  intro e; subst e; rw [h] at h'; exact d (Option.some.inj h')
theorem ne_of_none {H : Hp} {a b : Addr} {o : HO} (h : H a = some o) (h' : H b = none) : a ≠ b := by
  intro e; subst e; rw [h] at h'; cases h'

section
variable (P : Program) (w : World)
def ObjOk (H : Hp) (h : Heap) (a : Addr) : HO → Prop
  | .lst xs => xs.length ≤ sizeLine ∧ ∃ (its : List Value) (n : Nat), Vals xs its ∧ h.get? a = some { cls := .type "list", data := .seq its.toArray n }
  | .tup xs => xs.length ≤ sizeLine ∧ ∃ its : List Value, Vals xs its ∧ IsTup h a its.toArray
  | .dK kvs => kvs.length ≤ sizeLine ∧ (a == sysModules) = false ∧ ∃ vs, KV kvs vs ∧ h.DictOf (mixKind P w) a vs
  | .dT kvs => kvs.length ≤ sizeLine ∧ (a == sysModules) = false ∧ ∃ xs : List (List Key × Addr × Value),
      Paired (fun (p : List Key × V) (q : List Key × Addr × Value) => p.1 = q.1 ∧ H q.2.1 = some (.tup (p.1.map kV)) ∧ RelV p.2 q.2.2) kvs xs ∧
      ∃ o es ep, h.get? a = some o ∧ o.ExactDict ∧ o.data = .dict es ep ∧ es.toList = xs.map (entryOfKey (tupleKind (mixKind P w))) ∧ (xs.map (·.1)).Nodup
  | .set S n => h.SetOf (intKind P w) a S n
  | .ins C dx fs => H dx = some (.own a) ∧ fs.length ≤ 1000 ∧ dx ≠ a ∧ h.get? a = some (PySem.W.instObj C dx) ∧
      ∃ mA, h.Ns1 dx mA ∧ (∀ f, RelO (fs.lookup f) (mA f)) ∧ PySem.Within mA (fs.map (·.1))
  | .own _ => ∃ o, h.get? a = some o
  | .xd fs => ∃ mA, h.Ns1 a mA ∧ ∀ f, RelO (fs.lookup f) (mA f)
  | .rng lo hi => ∃ t u v, h.get? a = some { cls := .type "range", data := .fields #[.int lo t, .int hi u, .int 1 v] }
  | .frz o u => h.get? a = some o ∧ ObjOk H h a u
  | .tbl ps => h.get? a = some { cls := .none, data := .fields ps }
  | .met f x => h.get? a = some (PySem.W.methodObj (.ref f) (.ref x))
  | .ext φ => φ h ∧ (∃ o, h.get? a = some o) ∧ ∀ h1 h2 : Heap, φ h1 → (∀ o, h1.get? a = some o → h2.get? a = some o) → φ h2
/-- the abstract heap is held -/
def HOk (H : Hp) (h : Heap) : Prop := ∀ a o, H a = some o → ObjOk P w H h a o
end

section
variable {P : Program} {w : World} {H H' : Hp} {h h' : Heap} {a : Addr} {o : HO}
theorem ObjOk.lt (x : ObjOk P w H h a o) : a < h.objs.size := by
  cases o with
  | lst xs => obtain ⟨_, _, _, _, e⟩ := x; exact Heap.lt_size e
  | tup xs => obtain ⟨_, _, _, p⟩ := x; exact p.lt
  | dK kvs => obtain ⟨_, _, _, _, o, _, _, e, _⟩ := x; exact Heap.lt_size e
  | dT kvs => obtain ⟨_, _, _, _, o, _, _, e, _⟩ := x; exact Heap.lt_size e
  | set S n => obtain ⟨o, _, _, _, e, _⟩ := x; exact Heap.lt_size e
  | ins C dx fs => obtain ⟨_, _, _, e, _⟩ := x; exact Heap.lt_size e
  | own y => obtain ⟨_, e⟩ := x; exact Heap.lt_size e
  | xd fs => obtain ⟨_, ⟨_, _, _, e, _⟩, _⟩ := x; exact Heap.lt_size e
  | rng lo hi => obtain ⟨_, _, _, e⟩ := x; exact Heap.lt_size e
  | frz ob u => obtain ⟨e, _⟩ := x; exact Heap.lt_size e
  | tbl ps => exact Heap.lt_size (show h.get? a = some _ from x)
  | met f y => exact Heap.lt_size (show h.get? a = some _ from x)
  | ext φ => obtain ⟨_, ⟨_, e⟩, _⟩ := x; exact Heap.lt_size e
theorem Paired.mapP {α β : Type} {F G : α → β → Prop} : ∀ {l₁ : List α} {l₂ : List β}, Paired F l₁ l₂ → (∀ a b, F a b → G a b) → Paired G l₁ l₂
  | _, _, .nil, _ => .nil
  | _, _, .cons r t, f => .cons (f _ _ r) (Paired.mapP t f)
/-- what an object's description leans on: its own object, its own dict, the tuples -/
theorem ObjOk.stay (x : ObjOk P w H h a o) (k : ∀ b u, (b = a ∨ H b = some (.own a)) → h.get? b = some u → h'.get? b = some u)
    (ho : ∀ b, H b = some (.own a) → H' b = some (.own a)) (ht : ∀ b xs, H b = some (.tup xs) → H' b = some (.tup xs)) : ObjOk P w H' h' a o := by
  induction o with
  | lst xs => obtain ⟨z, its, n, r, e⟩ := x; exact ⟨z, its, n, r, k _ _ (.inl rfl) e⟩
  | tup xs => obtain ⟨z, its, r, ob, e, c⟩ := x; exact ⟨z, its, r, ob, k _ _ (.inl rfl) e, c⟩
  | dK kvs => obtain ⟨z, y, vs, r, ob, es, ep, e, c⟩ := x; exact ⟨z, y, vs, r, ob, es, ep, k _ _ (.inl rfl) e, c⟩
  | dT kvs =>
    obtain ⟨z, y, xs, r, ob, es, ep, e, c⟩ := x
    exact ⟨z, y, xs, Paired.mapP r fun p q z => ⟨z.1, ht _ _ z.2.1, z.2.2⟩, ob, es, ep, k _ _ (.inl rfl) e, c⟩
  | set S n => obtain ⟨ob, es, ep, t, e, c⟩ := x; exact ⟨ob, es, ep, t, k _ _ (.inl rfl) e, c⟩
  | ins C dx fs =>
    obtain ⟨d, z, ne, e, mA, ⟨od, es, ep, e2, c⟩, r⟩ := x
    exact ⟨ho _ d, z, ne, k _ _ (.inl rfl) e, mA, ⟨od, es, ep, k _ _ (.inr d) e2, c⟩, r⟩
  | own y => obtain ⟨ob, e⟩ := x; exact ⟨ob, k _ _ (.inl rfl) e⟩
  | xd fs => obtain ⟨mA, ⟨od, es, ep, e, c⟩, r⟩ := x; exact ⟨mA, ⟨od, es, ep, k _ _ (.inl rfl) e, c⟩, r⟩
  | rng lo hi => obtain ⟨t, u, v, e⟩ := x; exact ⟨t, u, v, k _ _ (.inl rfl) e⟩
  | frz ob u ih => obtain ⟨e, q⟩ := x; exact ⟨k _ _ (.inl rfl) e, ih q⟩
  | tbl ps =>
    have e : h.get? a = some { cls := .none, data := .fields ps } := x
    show h'.get? a = some { cls := .none, data := .fields ps }
    exact k a _ (.inl rfl) e
  | met f y =>
    have e : h.get? a = some (PySem.W.methodObj (.ref f) (.ref y)) := x
    show h'.get? a = some (PySem.W.methodObj (.ref f) (.ref y))
    exact k a _ (.inl rfl) e
  | ext φ => obtain ⟨p, ⟨o, e⟩, st⟩ := x; exact ⟨st _ _ p fun o q => k _ _ (.inl rfl) q, ⟨o, k _ _ (.inl rfl) e⟩, st⟩
theorem HOk.lt (x : HOk P w H h) (e : H a = some o) : a < h.objs.size := (x a o e).lt
theorem HOk.fresh (x : HOk P w H h) (e : h.objs.size ≤ a) : H a = none := by
  cases q : H a with
  | none => rfl
  | some u => exact absurd (Nat.lt_of_lt_of_le (x.lt q) e) (Nat.lt_irrefl _)
/-- every object of the heap is kept -/
theorem HOk.kept (x : HOk P w H h) (k : ∀ b u, h.get? b = some u → h'.get? b = some u) : HOk P w H h' := fun a o e =>
  (x a o e).stay (fun b u _ q => k b u q) (fun _ q => q) fun _ _ q => q
end

/-- what may be read as u: it is u, or a known u -/
def Rd (H : Hp) (a : Addr) (u : HO) : Prop := H a = some u ∨ ∃ o, H a = some (.frz o u)
theorem Rd.ok {P : Program} {w : World} {H : Hp} {h : Heap} {a : Addr} {u : HO} (r : Rd H a u) (x : HOk P w H h) : ObjOk P w H h a u := by
  rcases r with r | ⟨o, r⟩
  · exact x a u r
  · obtain ⟨_, q⟩ := x a _ r
    exact q
section
variable {P : Program} {w : World} {H : Hp} {h h' : Heap} {x e : Addr} {o' : HO}
end

structure Un (fs ex : List Addr) (H H' : Hp) (h h' : Heap) : Prop where
  keep : ∀ b o, h.get? b = some o → H b = none → b ∉ fs → b ∉ ex → h'.get? b = some o
  slot : ∀ b o, h.get? b = some o → H b = none → b ∈ fs → b ∉ ex → ∃ sl, h'.get? b = some { o with slots := sl }
  free : ∀ b o, h.get? b = some o → H b = none → b ∉ ex → H' b = none
  there : ∀ b o, h.get? b = some o → b ∉ ex → ∃ o', h'.get? b = some o'
  tups : ∀ b xs, H b = some (.tup xs) → H' b = some (.tup xs)
  frzs : ∀ b o u, H b = some (.frz o u) → H' b = some (.frz o u)
  tbls : ∀ b ps, H b = some (.tbl ps) → ∃ more, H' b = some (.tbl (ps ++ more))
section
variable {fs fs' ex ex' : List Addr} {H H1 H2 : Hp} {h h1 h2 h' : Heap} {a x e : Addr} {o : HO}
theorem Un.any (u : Un fs ex H H1 h h1) {b : Addr} {ob : Obj} (q : h.get? b = some ob) (n : H b = none) (hx : b ∉ ex) : ∃ sl, h1.get? b = some { ob with slots := sl } := by
  by_cases hb : b ∈ fs
  · exact u.slot b ob q n hb hx
  · exact ⟨ob.slots, u.keep b ob q n hb hx⟩
theorem Un.trans (a : Un fs ex H H1 h h1) (b : Un fs ex H1 H2 h1 h2) : Un fs ex H H2 h h2 where
  keep := fun c ob q n hc hx => b.keep c ob (a.keep c ob q n hc hx) (a.free c ob q n hx) hc hx
  slot := fun c ob q n hc hx => by
    obtain ⟨sl, e1⟩ := a.slot c ob q n hc hx
    obtain ⟨sl', e2⟩ := b.slot c _ e1 (a.free c ob q n hx) hc hx
    exact ⟨sl', e2⟩
  free := fun c ob q n hx => by
    obtain ⟨o', e1⟩ := a.there c ob q hx
    exact b.free c o' e1 (a.free c ob q n hx) hx
  there := fun c ob q hx => by
    obtain ⟨o', e1⟩ := a.there c ob q hx
    exact b.there c o' e1 hx
  tups := fun c xs q => b.tups c xs (a.tups c xs q)
  frzs := fun c ob xs q => b.frzs c ob xs (a.frzs c ob xs q)
  tbls := fun c ps q => by
    obtain ⟨m1, e1⟩ := a.tbls c ps q
    obtain ⟨m2, e2⟩ := b.tbls c _ e1
    exact ⟨m1 ++ m2, by rw [e2, Array.append_assoc]⟩
theorem Un.kept (k : ∀ b u, h.get? b = some u → h'.get? b = some u) : Un fs ex H H h h' :=
  ⟨fun b ob q _ _ _ => k b ob q, fun b ob q _ _ _ => ⟨ob.slots, k b ob q⟩, fun _ _ _ n _ => n, fun b ob q _ => ⟨ob, k b ob q⟩, fun _ _ q => q, fun _ _ _ q => q, fun _ ps q => ⟨#[], by rw [q]; simp⟩⟩
theorem Un.mono (u : Un fs ex H H1 h h1) (hs : ∀ b ∈ fs, b ∈ fs') (hx : ∀ b ∈ ex, b ∈ ex') : Un fs' ex' H H1 h h1 :=
  ⟨fun b ob q n hb he => u.keep b ob q n (fun z => hb (hs b z)) fun z => he (hx b z), fun _ _ q n _ he => u.any q n fun z => he (hx _ z), fun b ob q n he => u.free b ob q n fun z => he (hx b z), fun b ob q he => u.there b ob q fun z => he (hx b z), u.tups, u.frzs, u.tbls⟩
end

def trk (h : Heap) (H : Hp) : List Addr := (List.range h.objs.size).filter fun a => (H a).isSome
def hidT (h : Heap) (H : Hp) : Heap := PySem.W.hideAll h (trk h H)
theorem hidT_size (h : Heap) (H : Hp) : (hidT h H).objs.size = h.objs.size := PySem.W.hideAll_size _ _
theorem hidT_get {h : Heap} {H : Hp} {b : Addr} {o : Obj} (e : h.get? b = some o) (n : H b = none) : (hidT h H).get? b = some o :=
  PySem.W.hideAll_get _ e fun hm => by
    have q : (H b).isSome = true := (List.mem_filter.mp hm).2
    rw [n] at q; simp at q
theorem of_hidT {h : Heap} {H : Hp} {b : Addr} {o : Obj} (e : (hidT h H).get? b = some o) : h.get? b = some o ∧ H b = none := by
  have e' : h.get? b = some o := PySem.W.of_hideAll (trk h H) e
  refine ⟨e', ?_⟩
  cases q : H b with
  | none => rfl
  | some x =>
    have hm : b ∈ trk h H := List.mem_filter.mpr ⟨List.mem_range.mpr (Heap.lt_size e'), by simp [q]⟩
    have z : (hidT h H).get? b = none := PySem.W.hideAll_none (trk h H) hm
    rw [z] at e; cases e

def allNews (g h : Heap) (L : Addr) : List (Addr × Obj) := (List.range h.objs.size).filterMap fun a => if a = L ∨ (g.get? a).isSome = true then none else (h.get? a).map fun o => (a, o)
def rest (g h : Heap) (L d : Addr) : List (Addr × Obj) := (allNews g h L).filter fun p => decide (p.1 ≠ d)
end L2

namespace L2
open PySem PySem.Spec PyProof.Rows

/-- the module's facts, over the base: the heap at the law's entry without what is tracked there -/
structure Mod (K : PySem.W.Frag) (mg : Str → Option Value) (base : Heap) : Prop where
  kin : K.In base
  glob : base.Ns mainGlobals mg
  blt : ∃ mb, base.Ns builtinsNs mb ∧ ∀ x : Str, x ≠ "__name__" → mb x = bootBuiltins x
  nolimit : base.NoLimit

/-- the context: a def's body (or a comprehension's block) running. base: fixed through the whole law; s₀, H₀: the entry; outer: the frames whose slots others may change (a def's callers); stack: all frames that run;
   ex: iterators that were made ahead of the entry and are walked here (a comprehension's); fn: the names whose cells were made at the entry (a def: all; a comprehension's block: its own); calm: not within an except suite; pn: pins that every state bears; xe: what is wanted of an exception that leaves the code -/
structure Cx where
  prog : Program
  w : World
  K : PySem.W.Frag
  mg : Str → Option Value
  base : Heap
  A : Around
  N : List Str
  s₀ : Shared
  H₀ : Hp
  env : Env
  outer : List Env
  stack : List Env
  ex : List Addr
  fn : Str → Bool
  calm : Bool
  pn : List (Addr × Obj)
  xe : Value → Shared → Prop
/-- the callers' frames -/
def frs (l : List Env) : List Addr := l.filterMap (·.frame)
abbrev Cx.fs (X : Cx) : List Addr := frs X.outer

def Vis (sc : Scope) (x : Str) : Prop := sc.names.lookup x = some .local ∨ sc.names.lookup x = some .cell ∨ sc.names.lookup x = some .free
def Look (env : Env) (h : Heap) (m : Str → Option Value) (x : Str) (u : Value) : Prop :=
  (env.kindOf x = some .local ∧ m x = some u) ∨ ((env.kindOf x = some .cell ∨ env.kindOf x = some .free) ∧ ∃ c, env.cells.lookup x = some c ∧ h.IsCell c (some u))

structure Cx.Ok (X : Cx) : Prop where
  mod : Mod X.K X.mg X.base
  kind : X.env.scope.kind = .function
  glob : X.env.globals = mainGlobals
  blt : X.env.builtins = builtinsNs
  above : X.s₀.heap.objs.size ≤ X.env.locals
  inj : ∀ x y c, X.env.cells.lookup x = some c → X.env.cells.lookup y = some c → x = y
  has : ∀ x, (X.env.kindOf x = some .cell ∨ X.env.kindOf x = some .free) → ∃ c, X.env.cells.lookup x = some c
  cab : ∀ x c, X.fn x = true → X.env.cells.lookup x = some c → X.s₀.heap.objs.size ≤ c
  hd : X.calm = true → X.A.handled = none
  frames : X.A.frames = some X.stack
  stk : X.stack = X.outer ∨ (X.stack = X.env :: X.outer ∧ X.env.frame = some X.env.locals)
  exf : ∀ b ∈ X.ex, b ≠ X.env.locals ∧ ∀ x c, X.env.cells.lookup x = some c → c ≠ b
  bs : ∀ b o, X.base.get? b = some o → X.s₀.heap.get? b = some o ∧ X.H₀ b = none
  bsz : X.base.objs.size ≤ X.s₀.heap.objs.size
  noex : ∀ b o, X.base.get? b = some o → b ∉ X.ex
  exfs : ∀ b ∈ X.ex, b ∉ X.fs
  funs : X.s₀.heap.FunFrames X.base X.outer
  frf : ∀ b ∈ X.fs, X.H₀ b = none

structure Inv (X : Cx) (pins : List (Addr × Obj)) (σ : List (Option V)) (H : Hp) (s : Shared) : Prop where
  ok : X.Ok
  os : s.os = X.s₀.os
  bare : AllBare s.gens
  base : Un X.fs X.ex X.H₀ H X.s₀.heap s.heap
  loc : ∃ m, s.heap.Ns X.env.locals m ∧ ∀ (i : Nat) (x : Str) (v : V), X.N[i]? = some x → σ[i]? = some (some v) → Vis X.env.scope x → ∃ u, RelV v u ∧ Look X.env s.heap m x u
  cell : ∀ x c, X.env.cells.lookup x = some c → ∃ v, s.heap.IsCell c v
  free : H X.env.locals = none
  freeC : ∀ x c, X.env.cells.lookup x = some c → H c = none
  pin : ∀ p ∈ X.pn ++ pins, s.heap.get? p.1 = some p.2 ∧ H p.1 = none ∧ p.1 ≠ X.env.locals ∧ p.1 ∉ X.fs ∧ ∀ v, p.2.data ≠ .cell v
  hok : HOk X.prog X.w H s.heap
  len : σ.length = X.N.length

section
variable {X : Cx} {pins : List (Addr × Obj)} {σ : List (Option V)} {H H' : Hp} {s : Shared} {h' : Heap}

theorem Cx.Ok.nofr (ok : X.Ok) {b : Addr} {o : Obj} (e : X.base.get? b = some o) : b ∉ X.fs := fun hb => by
  have := (ok.funs.mem hb).1
  rw [e] at this; cases this
theorem Inv.bs (I : Inv X pins σ H s) : ∀ b o, X.base.get? b = some o → s.heap.get? b = some o ∧ H b = none := fun b o e =>
  ⟨I.base.keep b o (I.ok.bs b o e).1 (I.ok.bs b o e).2 (I.ok.nofr e) (I.ok.noex b o e), I.base.free b o (I.ok.bs b o e).1 (I.ok.bs b o e).2 (I.ok.noex b o e)⟩
theorem Inv.bk (I : Inv X pins σ H s) : ∀ b o, X.base.get? b = some o → s.heap.get? b = some o := fun b o e => (I.bs b o e).1
theorem Inv.mod (I : Inv X pins σ H s) : Mod X.K X.mg X.base := I.ok.mod
theorem Inv.kIn (I : Inv X pins σ H s) : X.K.In s.heap := I.ok.mod.kin.keeps I.bk
theorem Inv.nolimit (I : Inv X pins σ H s) : s.heap.NoLimit := I.ok.mod.nolimit.keeps I.bk
/-- the frame over the base: for OpenK's rules (K.In X.base is I.mod.kin) -/
theorem Inv.fr (I : Inv X pins σ H s) : ∃ m, Fr X.base X.env.locals s.heap m :=
  let ⟨m, hn, _⟩ := I.loc
  ⟨m, hn, I.bk, Nat.le_trans I.ok.bsz I.ok.above⟩
theorem Inv.lt (I : Inv X pins σ H s) : X.env.locals < s.heap.objs.size := let ⟨_, hn, _⟩ := I.loc; hn.lt
theorem Inv.cne (I : Inv X pins σ H s) : ∀ x c, X.env.cells.lookup x = some c → c ≠ X.env.locals := fun x c e z => by
  obtain ⟨v, o, ho, hd⟩ := I.cell x c e
  obtain ⟨m, ⟨o', es, ep, ho', hd', _⟩, _⟩ := I.loc
  rw [z, ho'] at ho; cases ho; rw [hd'] at hd; cases hd
theorem Inv.funs (I : Inv X pins σ H s) : s.heap.FunFrames X.base X.outer := by
  have all : ∀ (l : List Env), (∀ b ∈ frs l, b ∈ X.fs) → X.s₀.heap.FunFrames X.base l → s.heap.FunFrames X.base l := by
    intro l
    induction l with
    | nil => intro _ _; trivial
    | cons env r ih =>
      intro hs hl
      obtain ⟨hk, ⟨L, o, hf, hn, ho, hd⟩, hr⟩ := hl
      have hL : L ∈ X.fs := hs L (by unfold frs; rw [List.filterMap_cons, hf]; exact List.mem_cons_self)
      obtain ⟨sl, e⟩ := I.base.slot L o ho (I.ok.frf L hL) hL fun z => I.ok.exfs L z hL
      exact ⟨hk, ⟨L, _, hf, hn, e, hd⟩, ih (fun b hb => hs b (by unfold frs; rw [List.filterMap_cons, hf]; exact List.mem_cons_of_mem _ hb)) hr⟩
  exact all X.outer (fun _ hb => hb) I.ok.funs

/-- the frames that run, for a call -/
theorem Inv.stack (I : Inv X pins σ H s) : s.heap.FunFrames X.base X.stack := by
  rcases I.ok.stk with e | ⟨e, hf⟩
  · rw [e]; exact I.funs
  · rw [e]
    obtain ⟨m, hn, _⟩ := I.loc
    refine .cons (by rw [I.ok.kind]; decide) hf hn ?_ I.funs
    exact Heap.get?_none_of_le (Nat.le_trans I.ok.bsz I.ok.above)
theorem Inv.stkSub (I : Inv X pins σ H s) : ∀ b ∈ frs X.stack, b ∈ X.env.locals :: X.fs := fun b hb => by
  rcases I.ok.stk with e | ⟨e, hf⟩
  · rw [e] at hb; exact List.mem_cons_of_mem _ hb
  · rw [e] at hb
    unfold frs at hb
    rw [List.filterMap_cons, hf] at hb
    exact hb
/-- THE STEP: the untracked objects but the frame and the records at ch are kept (the callers' frames up to slots), the frame's map is kept, the new abstract heap is held -/
theorem Inv.step {g' : Array GenState} {t' : Nat} {d' : Drawn} {ch : List Addr} (I : Inv X pins σ H s)
    (hch : ∀ b ∈ ch, (b ∈ X.ex ∨ X.s₀.heap.objs.size ≤ b) ∧ b ≠ X.env.locals ∧ (∀ x c, X.env.cells.lookup x = some c → c ≠ b) ∧ ∀ p ∈ X.pn ++ pins, p.1 ≠ b)
    (keep : ∀ b o, b ≠ X.env.locals → b ∉ X.fs → b ∉ ch → s.heap.get? b = some o → H b = none → h'.get? b = some o)
    (slot : ∀ b o, b ≠ X.env.locals → b ∈ X.fs → b ∉ ch → s.heap.get? b = some o → H b = none → ∃ sl, h'.get? b = some { o with slots := sl }) (free : ∀ b o, b ∉ ch → s.heap.get? b = some o → H b = none → H' b = none)
    (there : ∀ b o, b ∉ ch → s.heap.get? b = some o → ∃ o', h'.get? b = some o')
    (tups : ∀ b xs, H b = some (.tup xs) → H' b = some (.tup xs)) (frzs : ∀ b o u, H b = some (.frz o u) → H' b = some (.frz o u)) (tbls : ∀ b ps, H b = some (.tbl ps) → ∃ more, H' b = some (.tbl (ps ++ more)))
    (ns : ∀ m, s.heap.Ns X.env.locals m → h'.Ns X.env.locals m) (hok : HOk X.prog X.w H' h') (hg : AllBare g') :
    Inv X pins σ H' { s with heap := h', gens := g', drawn := d', toks := t' } := by
  have neL : ∀ b o, X.s₀.heap.get? b = some o → b ≠ X.env.locals := fun b o e => Nat.ne_of_lt (Nat.lt_of_lt_of_le (Heap.lt_size e) I.ok.above)
  have neC : ∀ b o, X.s₀.heap.get? b = some o → b ∉ X.ex → b ∉ ch := fun b o e hx hb => by
    rcases (hch b hb).1 with z | z
    · exact hx z
    · exact absurd (Nat.lt_of_lt_of_le (Heap.lt_size e) z) (Nat.lt_irrefl _)
  have cellK : ∀ x c, X.env.cells.lookup x = some c → ∀ v, s.heap.IsCell c v → h'.IsCell c v := fun x c e v ⟨o, ho, hd⟩ => by
    have nch : c ∉ ch := fun z => (hch c z).2.2.1 x c e rfl
    by_cases hc : c ∈ X.fs
    · obtain ⟨sl, q⟩ := slot c o (I.cne x c e) hc nch ho (I.freeC x c e)
      exact ⟨_, q, hd⟩
    · exact ⟨o, keep c o (I.cne x c e) hc nch ho (I.freeC x c e), hd⟩
  refine ⟨I.ok, I.os, hg, ⟨fun b o e n hb hx => ?_, fun b o e n hb hx => ?_, fun b o e n hx => ?_, fun b o e hx => ?_, fun b xs e => tups b xs (I.base.tups b xs e), fun b o xs e => frzs b o xs (I.base.frzs b o xs e), fun b ps e => ?_⟩, ?_, fun x c e => ?_, ?_, fun x c e => ?_, fun p hp => ?_, hok, I.len⟩
  · exact keep b o (neL b o e) hb (neC b o e hx) (I.base.keep b o e n hb hx) (I.base.free b o e n hx)
  · obtain ⟨sl, e1⟩ := I.base.slot b o e n hb hx
    obtain ⟨sl', e2⟩ := slot b _ (neL b o e) hb (neC b o e hx) e1 (I.base.free b o e n hx)
    exact ⟨sl', e2⟩
  · obtain ⟨o', e1⟩ := I.base.there b o e hx
    exact free b o' (neC b o e hx) e1 (I.base.free b o e n hx)
  · obtain ⟨o', e1⟩ := I.base.there b o e hx
    exact there b o' (neC b o e hx) e1
  · obtain ⟨m1, e1⟩ := I.base.tbls b ps e
    obtain ⟨m2, e2⟩ := tbls b _ e1
    exact ⟨m1 ++ m2, by rw [e2, Array.append_assoc]⟩
  · obtain ⟨m, hn, hl⟩ := I.loc
    refine ⟨m, ns m hn, fun i x v e1 e2 e3 => ?_⟩
    obtain ⟨u, r, l⟩ := hl i x v e1 e2 e3
    refine ⟨u, r, ?_⟩
    rcases l with l | ⟨k, c, e, z⟩
    · exact .inl l
    · exact .inr ⟨k, c, e, cellK x c e _ z⟩
  · obtain ⟨v, z⟩ := I.cell x c e
    exact ⟨v, cellK x c e v z⟩
  · obtain ⟨m, ⟨o, _, _, ho, _⟩, _⟩ := I.loc
    exact free _ o (fun z => (hch _ z).2.1 rfl) ho I.free
  · obtain ⟨v, o, ho, hd⟩ := I.cell x c e
    exact free c o (fun z => (hch c z).2.2.1 x c e rfl) ho (I.freeC x c e)
  · obtain ⟨e, n, ne, nf, d⟩ := I.pin p hp
    have nch : p.1 ∉ ch := fun z => (hch p.1 z).2.2.2 p hp rfl
    exact ⟨keep p.1 p.2 ne nf nch e n, free p.1 p.2 nch e n, ne, nf, d⟩
/-- .. where the frame's own object is kept too -/
theorem Inv.un {t' : Nat} (I : Inv X pins σ H s) (u : Un X.fs [] H H' s.heap h') (hok : HOk X.prog X.w H' h') : Inv X pins σ H' { s with heap := h', toks := t' } := by
  obtain ⟨m, ⟨o, es, ep, ho, r⟩, _⟩ := id I.loc
  obtain ⟨sl, hL⟩ := u.any ho I.free (by simp)
  exact I.step (g' := s.gens) (d' := s.drawn) (ch := []) (fun _ z => nomatch z) (fun b o _ hb _ e n => u.keep b o e n hb (by simp)) (fun b o _ hb _ e n => u.slot b o e n hb (by simp)) (fun b o _ e n => u.free b o e n (by simp)) (fun b o _ e => u.there b o e (by simp)) u.tups u.frzs u.tbls (fun m' hm => by
    obtain ⟨o', es', ep', ho', r'⟩ := hm
    rw [ho] at ho'; cases ho'
    exact ⟨_, es', ep', hL, r'⟩) hok I.bare
/-- behind a call (or a comprehension's block): the slots of this frame may have changed too, the records at ch may have turned -/
theorem Inv.call {g' : Array GenState} {t' : Nat} {d' : Drawn} {ch : List Addr} (I : Inv X pins σ H s) (u : Un (frs X.stack) ch H H' s.heap h') (hok : HOk X.prog X.w H' h') (hg : AllBare g')
    (hch : ∀ b ∈ ch, (b ∈ X.ex ∨ X.s₀.heap.objs.size ≤ b) ∧ b ≠ X.env.locals ∧ (∀ x c, X.env.cells.lookup x = some c → c ≠ b) ∧ ∀ p ∈ X.pn ++ pins, p.1 ≠ b) :
    Inv X pins σ H' { s with heap := h', gens := g', drawn := d', toks := t' } := by
  obtain ⟨m, ⟨o, es, ep, ho, r⟩, _⟩ := id I.loc
  obtain ⟨sl, hL⟩ := u.any ho I.free fun z => (hch _ z).2.1 rfl
  exact I.step (ch := ch) hch (fun b o hL hb hc e n => u.keep b o e n (fun z => (List.mem_cons.mp (I.stkSub b z)).elim hL hb) hc) (fun b o _ _ hc e n => u.any e n hc) (fun b o hc e n => u.free b o e n hc) (fun b o hc e => u.there b o e hc) u.tups u.frzs u.tbls (fun m' hm => by
    obtain ⟨o', es', ep', ho', r'⟩ := hm
    rw [ho] at ho'; cases ho'
    exact ⟨_, es', ep', hL, r'⟩) hok hg
/-- all objects kept -/
theorem Inv.kept {t' : Nat} (I : Inv X pins σ H s) (k : ∀ b u, s.heap.get? b = some u → h'.get? b = some u) : Inv X pins σ H { s with heap := h', toks := t' } := I.un (Un.kept k) (I.hok.kept k)
end

/-- an exception: its class, its own dict's address (where it has one), the abstract heap behind it -/
abbrev XK := Value → Option Addr → Hp → Prop
abbrev St := List (Option V)
abbrev VK := V → Hp → Prop
/-- an expression's reading; a test's; an argument list's -/
abbrev TE := St → Hp → VK → Prop
abbrev TT := St → Hp → (Bool → Hp → Prop) → Prop
abbrev TA := St → Hp → (List V → Hp → Prop) → Prop
/-- what is wanted behind a statement -/
structure Ends where
  nx : St → Hp → Prop
  rt : VK
  bk : St → Hp → Prop := fun _ _ => False
  ct : St → Hp → Prop := fun _ _ => False
abbrev TS := Ends → St → Hp → Prop

def EP (X : Cx) (pins : List (Addr × Obj)) (σ : St) (Q : VK) (u : Value) (s' : Shared) : Prop := ∃ v H', Inv X pins σ H' s' ∧ RelV v u ∧ Q v H'
def TP (X : Cx) (pins : List (Addr × Obj)) (σ : St) (Q : Bool → Hp → Prop) (b : Bool) (s' : Shared) : Prop := ∃ H', Inv X pins σ H' s' ∧ Q b H'
def SP (X : Cx) (pins : List (Addr × Obj)) (D : Ends) (f : Flow) (s' : Shared) : Prop :=
  match f with
  | .next => ∃ σ' H', Inv X pins σ' H' s' ∧ D.nx σ' H'
  | .brk => ∃ σ' H', Inv X pins σ' H' s' ∧ D.bk σ' H'
  | .cont => ∃ σ' H', Inv X pins σ' H' s' ∧ D.ct σ' H'
  | .ret u => ∃ v σ' H', Inv X pins σ' H' s' ∧ RelV v u ∧ D.rt v H'

def PE (X : Cx) (e : Expr) (t : TE) : Prop :=
  ∀ (pins : List (Addr × Obj)) (s : Shared) (σ : St) (H : Hp) (Q : VK), Inv X pins σ H s → t σ H Q → wpAny (model X.prog X.w) X.A (eval e X.env) (EP X pins σ Q) X.xe s
def PT (X : Cx) (e : Expr) (t : TT) : Prop :=
  ∀ (pins : List (Addr × Obj)) (s : Shared) (σ : St) (H : Hp) (Q : Bool → Hp → Prop), Inv X pins σ H s → t σ H Q → wpAny (model X.prog X.w) X.A (isTrue e X.env (eval e X.env)) (TP X pins σ Q) X.xe s
def PSs (X : Cx) (st : List Stmt) (t : TS) : Prop :=
  ∀ (pins : List (Addr × Obj)) (s : Shared) (σ : St) (H : Hp) (D : Ends), Inv X pins σ H s → t D σ H → wpAny (model X.prog X.w) X.A (execs st X.env) (SP X pins D) X.xe s
end L2

namespace L2
open PySem PySem.Spec PyProof.Rows
section
variable {X : Cx}

def tVar (i : Nat) : TE := fun σ H Q => ∃ v, σ[i]? = some (some v) ∧ Q v H
def tC (v : V) : TE := fun _ H Q => Q v H
variable {a b : Expr} {ta tb : TE} {pos : Pos}
/-- is None -/
def tIsN (ta : TE) : TE := fun σ H Q => ta σ H fun x H1 => Q (.bl (decide (x = .non))) H1
def tNotN (ta : TE) : TE := fun σ H Q => ta σ H fun x H1 => Q (.bl (!decide (x = .non))) H1
/-- a comparison as a value, as a test -/
def tB (t : TE) : TT := fun σ H Q => t σ H fun x H1 => ∃ c, x = .bl c ∧ Q c H1
variable {tA tB' : TT} {rest : List Expr}
def tAnd (t u : TT) : TT := fun σ H Q => t σ H fun c H1 => if c = true then u σ H1 Q else Q false H1
def tOr (t u : TT) : TT := fun σ H Q => t σ H fun c H1 => if c = true then Q true H1 else u σ H1 Q
def tNot (t : TT) : TT := fun σ H Q => t σ H fun c H1 => Q (!c) H1
/-- .. as values (bools) -/
def tAndV (ta tb : TE) : TE := fun σ H Q => ta σ H fun x H1 => ∃ c, x = .bl c ∧ if c = true then tb σ H1 Q else Q (.bl false) H1
def tOrV (ta tb : TE) : TE := fun σ H Q => ta σ H fun x H1 => ∃ c, x = .bl c ∧ if c = true then Q (.bl true) H1 else tb σ H1 Q
def tNotV (ta : TE) : TE := fun σ H Q => ta σ H fun x H1 => ∃ c, x = .bl c ∧ Q (.bl (!c)) H1
/-- a if t else b -/
def tIf (t : TT) (ta tb : TE) : TE := fun σ H Q => t σ H fun c H1 => if c = true then ta σ H1 Q else tb σ H1 Q
end
end L2

namespace L2
open PySem PySem.Spec PyProof.Rows

def SqL (K : PySem.W.Frag) (H : Hp) (a : Addr) (xs : List V) : Prop :=
  Rd H a (.lst xs) ∨
    ∃ (o : Obj) (its : Array Value) (n : Nat), K.lookup a = some o ∧ o.cls = .type "list" ∧ o.dict = none ∧ o.data = .seq its n ∧ its.size ≤ sizeLine ∧ Vals xs its.toList
def SqT (K : PySem.W.Frag) (H : Hp) (a : Addr) (xs : List V) : Prop :=
  Rd H a (.tup xs) ∨
    ∃ (o : Obj) (its : Array Value) (n : Nat), K.lookup a = some o ∧ o.cls = .type "tuple" ∧ o.data = .seq its n ∧ its.size ≤ sizeLine ∧ Vals xs its.toList
def absV : Value → Option V
  | .none => some .non
  | .bool b => some (.bl b)
  | .int i _ => some (.int i)
  | .str x _ => some (.str x)
  | .bytes b _ => some (.byt b)
  | .float b _ => some (.flt b)
  | .ref a => some (.ref a)
  | .type n => some (.ty n)
  | _ => none
theorem RelV.abs {x : V} {u : Value} (r : RelV x u) : absV u = some x := by
  cases x with
  | non => cases r; rfl
  | bl _ => cases r; rfl
  | int _ => obtain ⟨t, rfl⟩ := r; rfl
  | str _ => obtain ⟨t, rfl⟩ := r; rfl
  | byt _ => obtain ⟨t, rfl⟩ := r; rfl
  | flt _ => obtain ⟨t, rfl⟩ := r; rfl
  | ref _ => cases r; rfl
  | ty _ => cases r; rfl
theorem RelV.inj {x y : V} {u : Value} (r : RelV x u) (q : RelV y u) : x = y := Option.some.inj (r.abs.symm.trans q.abs)
theorem Vals.inj : ∀ {xs ys : List V} {us : List Value}, Vals xs us → Vals ys us → xs = ys
  | _, _, _, .nil, .nil => rfl
  | _, _, _, .cons r t, .cons r' t' => by rw [r.inj r', Vals.inj t t']
section
variable {X : Cx} {pins : List (Addr × Obj)} {σ : St} {H : Hp} {s : Shared} {a : Addr} {xs ys : List V}
theorem Inv.list (I : Inv X pins σ H s) (h : SqL X.K H a xs) : ∃ its : List Value, Vals xs its ∧ PlainL s.heap a its.toArray ∧ xs.length ≤ sizeLine := by
  rcases h with h | ⟨o, its, n, hk, hc, hd, hs, hz, r⟩
  · obtain ⟨z, its, n, r, e⟩ := h.ok I.hok
    exact ⟨its, r, ⟨_, n, e, rfl, rfl, rfl⟩, z⟩
  · refine ⟨its.toList, r, ⟨o, n, I.kIn a o hk, hc, hd, by simpa using hs⟩, ?_⟩
    have e := r.length
    simp only [Array.length_toList] at e
    omega
end

abbrev Cx.wish (X : Cx) (E : Value → Shared → Prop) : Cx := { X with xe := E }
/-- no exception leaves -/
abbrev Cx.nox (X : Cx) : Cx := X.wish fun _ _ => False
theorem Cx.Ok.wish {X : Cx} (ok : X.Ok) (E : Value → Shared → Prop) : (X.wish E).Ok :=
  ⟨ok.mod, ok.kind, ok.glob, ok.blt, ok.above, ok.inj, ok.has, ok.cab, ok.hd, ok.frames, ok.stk, ok.exf, ok.bs, ok.bsz, ok.noex, ok.exfs, ok.funs, ok.frf⟩
theorem Cx.Ok.unwish {X : Cx} {E : Value → Shared → Prop} (ok : (X.wish E).Ok) : X.Ok :=
  ⟨ok.mod, ok.kind, ok.glob, ok.blt, ok.above, ok.inj, ok.has, ok.cab, ok.hd, ok.frames, ok.stk, ok.exf, ok.bs, ok.bsz, ok.noex, ok.exfs, ok.funs, ok.frf⟩
section
variable {X : Cx} {pins : List (Addr × Obj)} {σ : St} {H : Hp} {s : Shared} {E : Value → Shared → Prop}
theorem Inv.wish (I : Inv X pins σ H s) (E : Value → Shared → Prop) : Inv (X.wish E) pins σ H s := ⟨I.ok.wish E, I.os, I.bare, I.base, I.loc, I.cell, I.free, I.freeC, I.pin, I.hok, I.len⟩
theorem Inv.unwish (I : Inv (X.wish E) pins σ H s) : Inv X pins σ H s := ⟨I.ok.unwish, I.os, I.bare, I.base, I.loc, I.cell, I.free, I.freeC, I.pin, I.hok, I.len⟩
theorem SP.unwish {D : Ends} {f : Flow} {s' : Shared} (h : SP (X.wish E) pins D f s') : SP X pins D f s' := by
  cases f with
  | next => obtain ⟨σ', H', I, q⟩ := h; exact ⟨σ', H', I.unwish, q⟩
  | brk => obtain ⟨σ', H', I, q⟩ := h; exact ⟨σ', H', I.unwish, q⟩
  | cont => obtain ⟨σ', H', I, q⟩ := h; exact ⟨σ', H', I.unwish, q⟩
  | ret u => obtain ⟨v, σ', H', I, r, q⟩ := h; exact ⟨v, σ', H', I.unwish, r, q⟩
theorem PE.nox {e : Expr} {t : TE} (h : PE X.nox e t) : PE X e t := fun pins s σ H Q I hw =>
  wpAny_mono (h pins s σ H Q (I.wish _) hw) (fun _ _ ⟨v, H', I', r, q⟩ => ⟨v, H', I'.unwish, r, q⟩) fun _ _ z => False.elim z
theorem PT.nox {e : Expr} {t : TT} (h : PT X.nox e t) : PT X e t := fun pins s σ H Q I hw =>
  wpAny_mono (h pins s σ H Q (I.wish _) hw) (fun _ _ ⟨H', I', q⟩ => ⟨H', I'.unwish, q⟩) fun _ _ z => False.elim z
theorem PSs.nox {st : List Stmt} {t : TS} (h : PSs X.nox st t) : PSs X st t := fun pins s σ H D I hw =>
  wpAny_mono (h pins s σ H D (I.wish _) hw) (fun _ _ q => q.unwish) fun _ _ z => False.elim z
end

section
variable {X : Cx} {st : Stmt} {rest : List Stmt} {t u : TS} {e : Expr} {te : TE} {pos : Pos}
def tNext : TS := fun D σ H => D.nx σ H
def tSeq (t u : TS) : TS := fun D σ H => t { D with nx := u D } σ H
/-- an expression whose value is dropped -/
def tDrop (te : TE) : TS := fun D σ H => te σ H fun _ H1 => D.nx σ H1
def tRet (te : TE) : TS := fun D σ H => te σ H D.rt
def tRetN : TS := fun D _ H => D.rt .non H
def tIfS (c : TT) (t u : TS) : TS := fun D σ H => c σ H fun b H1 => if b = true then t D σ H1 else u D σ H1
end

abbrev TG := V → St → Hp → (St → Hp → Prop) → Prop
abbrev TGs := List V → St → Hp → (St → Hp → Prop) → Prop
/-- o[i] = v, by values -/
abbrev TSet := V → V → V → Hp → (Hp → Prop) → Prop
section
variable {X : Cx} {pos : Pos}
def gName (i : Nat) : TG := fun v σ H Q => Q (σ.set i (some v)) H
def gNil : TGs := fun vs σ H Q => vs = [] ∧ Q σ H
def gCons (t : TG) (u : TGs) : TGs := fun vs σ H Q => ∃ v r, vs = v :: r ∧ t v σ H fun σ' H' => u r σ' H' Q
/-- (a, b, ..) = a tuple of that length -/
def gTup (K : PySem.W.Frag) (n : Nat) (t : TGs) : TG := fun v σ H Q => ∃ a xs, v = .ref a ∧ SqT K H a xs ∧ xs.length = n ∧ t xs σ H Q
/-- o[i] = .. -/
def gSub (to ti : TE) (t : TSet) : TG := fun v σ H Q => to σ H fun o H1 => ti σ H1 fun i H2 => t o i v H2 fun H3 => Q σ H3
/-- target = value -/
def tAsg (te : TE) (g : TG) : TS := fun D σ H => te σ H fun x H1 => g x σ H1 D.nx
end

section
variable {X : Cx} {pos : Pos}
/-- the invariant W with its measure -/
def tWhile (c : TT) (tb : TS) : TS := fun D σ H => ∃ W : Nat → St → Hp → Prop, (∃ m, W m σ H) ∧ ∀ m σ H, W m σ H →
  c σ H fun b H1 => if b = true then ∃ N : St → Hp → Prop, (∀ σ' H', N σ' H' → ∃ m', m' < m ∧ W m' σ' H') ∧ tb { D with nx := N, ct := N, bk := D.nx } σ H1 else D.nx σ H1
end

/-- at turn i: it yields x (the heap may grow), or it stops -/
structure It where
  go : Nat → Hp → Prop
  yld : Nat → Hp → V → Hp → Prop
  stop : Nat → Hp → Prop
abbrev TI := St → Hp → (It → Hp → Prop) → Prop
/-- the list at a, as it stands at each turn (a loop may append to it) -/
def Itl (K : PySem.W.Frag) (a : Addr) : It :=
  ⟨fun i H => ∃ xs x, SqL K H a xs ∧ xs[i]? = some x, fun i H x H' => H' = H ∧ ∀ xs, SqL K H a xs → xs[i]? = some x, fun i H => ∃ xs, SqL K H a xs ∧ xs.length ≤ i⟩
def Itt (K : PySem.W.Frag) (a : Addr) : It :=
  ⟨fun i H => ∃ xs x, SqT K H a xs ∧ xs[i]? = some x, fun i H x H' => H' = H ∧ ∀ xs, SqT K H a xs → xs[i]? = some x, fun i H => ∃ xs, SqT K H a xs ∧ xs.length ≤ i⟩
/-- lo, lo + 1, .. (n of them) -/
def Itr (lo : Int) (n : Nat) : It := ⟨fun i _ => i < n, fun i H x H' => H' = H ∧ x = .int (lo + i), fun i _ => n ≤ i⟩
end L2

namespace L2
open PySem PySem.Spec PyProof.Rows
section
variable {X : Cx} {tg : Expr}
def iList (K : PySem.W.Frag) (tl : TE) : TI := fun σ H R => tl σ H fun x H1 => ∃ a, x = .ref a ∧ (∃ xs, SqL K H1 a xs) ∧ R (Itl K a) H1
def iTup (K : PySem.W.Frag) (tl : TE) : TI := fun σ H R => tl σ H fun x H1 => ∃ a, x = .ref a ∧ (∃ xs, SqT K H1 a xs) ∧ R (Itt K a) H1
def iRng1 (ta : TA) : TI := fun σ H R => ta σ H fun vs H1 => ∃ j : Int, vs = [.int j] ∧ -(2 ^ 62) ≤ j ∧ j < 2 ^ 62 ∧ R (Itr 0 j.toNat) H1
def iRng2 (ta : TA) : TI := fun σ H R => ta σ H fun vs H1 => ∃ i j : Int, vs = [.int i, .int j] ∧ (-(2 ^ 62) ≤ i ∧ i < 2 ^ 62 ∧ -(2 ^ 62) ≤ j ∧ j < 2 ^ 62) ∧ R (Itr i (j - i).toNat) H1
/-- W: the invariant by the turn and a measure; N: what the body is to reach -/
def tFor (wi : TI) (g : TG) (tb : TS) : TS := fun D σ H => wi σ H fun J H1 => ∃ W : Nat → Nat → St → Hp → Prop, (∃ m, W 0 m σ H1) ∧ ∀ i m σ H, W i m σ H →
  (J.stop i H ∧ D.nx σ H) ∨ (J.go i H ∧ ∃ N : St → Hp → Prop, (∀ σ' H', N σ' H' → ∃ m', m' < m ∧ W (i + 1) m' σ' H') ∧ ∀ x H', J.yld i H x H' → g x σ H' fun σ2 H2 => tb { D with nx := N, ct := N, bk := D.nx } σ2 H2)
end

end L2

namespace L2
open PySem PySem.Spec PyProof.Rows

abbrev R2 := V → V → Hp → VK → Prop
def tOp (r : R2) (ta tb : TE) : TE := fun σ H Q => ta σ H fun x H1 => tb σ H1 fun y H2 => r x y H2 Q
def tUn (r : V → Hp → VK → Prop) (ta : TE) : TE := fun σ H Q => ta σ H fun x H1 => r x H1 Q
/-- ints in, under C, and a value out -/
def rI (C : Int → Int → Prop) (g : Int → Int → V) : R2 := fun x y H Q => ∃ i j, x = .int i ∧ y = .int j ∧ C i j ∧ Q (g i j) H
def rI0 (g : Int → Int → V) : R2 := fun x y H Q => ∃ i j, x = .int i ∧ y = .int j ∧ Q (g i j) H
def rU (g : Int → V) : V → Hp → VK → Prop := fun x H Q => ∃ i, x = .int i ∧ Q (g i) H

section
variable {X : Cx} {a b c : Expr} {ta tb tc : TE} {pos : Pos}

def CMul (i j : Int) : Prop := (-(2 ^ 64) < i ∧ i < 2 ^ 64) ∨ (-(2 ^ 64) < j ∧ j < 2 ^ 64)
theorem CMul.ok {i j : Int} (h : CMul i j) : IntMulOk i j := by
  rcases h with ⟨h1, h2⟩ | ⟨h1, h2⟩
  · exact .of_left (intBits_le_64 h1 h2)
  · exact .of_right (intBits_le_64 h1 h2)
end

/-- the scalars that == tells apart as data does -/
def scal : V → V → Bool
  | .non, .non => true | .non, .int _ => true | .int _, .non => true | .non, .bl _ => true | .bl _, .non => true | .non, .str _ => true | .str _, .non => true
  | .int _, .int _ => true | .bl _, .bl _ => true | .str _, .str _ => true | .byt _, .byt _ => true
  | .int _, .str _ => true | .str _, .int _ => true | .bl _, .str _ => true | .str _, .bl _ => true
  | _, _ => false
def rEq : R2 := fun x y H Q => scal x y = true ∧ Q (.bl (decide (x = y))) H
def rNe : R2 := fun x y H Q => scal x y = true ∧ Q (.bl (!decide (x = y))) H

section
variable {X : Cx} {a b c : Expr} {ta tb tc : TE} {pos : Pos}
/-- a reading of a value as a test -/
def tTest (t : TE) : TT := fun σ H Q => t σ H fun x H' => ∃ k, x = .bl k ∧ Q k H'
/-- a op1 b op2 c -/
def tChain (r r' : R2) (ta tb tc : TE) : TE := fun σ H Q => ta σ H fun x H1 => tb σ H1 fun y H2 => r x y H2 fun z H3 => ∃ k, z = .bl k ∧
  (if k = true then tc σ H3 fun w' H4 => r' y w' H4 Q else Q (.bl false) H3)
end
end L2

namespace L2
open PySem PySem.Spec PyProof.Rows

section
variable {prog : Program} {w : World} {A : Around} {E : Value → Shared → Prop} {s : Shared} {K : PySem.W.Frag} {x dx C f : Addr} {mA : Str → Option Value} {name : Str} {v : Value}

end

def putF (f : Str) (v : V) : List (Str × V) → List (Str × V)
  | [] => [(f, v)]
  | (g, x) :: r => if g = f then (g, v) :: r else (g, x) :: putF f v r
section
variable {P : Program} {w : World} {H H' : Hp} {h h' : Heap} {a C dx : Addr} {fs fs' : List (Str × V)}
end

structure Cls (K : PySem.W.Frag) (C : Addr) : Prop where
  pg : PySem.W.plainGet K C Str.empty = true
  hd : PySem.W.hasDictIn K C = true
  po : PySem.W.plainOver K C = true
  sa : PySem.W.findIn K (.ref C) "__setattr__" = some (some (.builtin "object.__setattr__"))
theorem Cls.get {K : PySem.W.Frag} {C : Addr} (c : Cls K C) (f : Str) : PySem.W.plainGet K C f = true := c.pg
/-- no class of it has the name -/
def NoAttr (K : PySem.W.Frag) (C : Addr) (f : Str) : Prop := PySem.W.findIn K (.ref C) f = some none
section
variable {X : Cx} {pins : List (Addr × Obj)} {σ : St} {H : Hp} {s : Shared} {a C dx : Addr} {fs : List (Str × V)} {f : Str} {v : V} {A : Around} {E : Value → Shared → Prop}

end

/-- e.f, an attribute of the instance -/
def tFld (K : PySem.W.Frag) (ta : TE) (f : Str) : TE := fun σ H Q => ta σ H fun x H1 => ∃ a C dx fs v, x = .ref a ∧ H1 a = some (.ins C dx fs) ∧ Cls K C ∧ NoAttr K C f ∧ fs.lookup f = some v ∧ Q v H1
/-- e.f = value -/
def sFld (K : PySem.W.Frag) (ta tv : TE) (f : Str) : TS := fun D σ H => tv σ H fun y H1 => ta σ H1 fun x H2 => ∃ a C dx fs, x = .ref a ∧ H2 a = some (.ins C dx fs) ∧ Cls K C ∧ NoAttr K C f ∧ fs.length < 1000 ∧
  D.nx σ (upd H2 a (.ins C dx (putF f y fs)))
section
variable {X : Cx} {o e value : Expr} {f : Str} {pos pos' tpos : Pos} {ta tv : TE}
end

section
variable {X : Cx} {pins : List (Addr × Obj)} {σ : St} {H : Hp} {s : Shared} {A : Around} {E : Value → Shared → Prop} {Q : Value → Shared → Prop} {c : Value} {b : Bool}
end
end L2

namespace L2
open PySem PySem.Spec PyProof.Rows

structure Room (k : Nat) (A : Around) : Prop where
  hd : A.handled = none
  dp : A.depth + 3 * k + 5 < recursionLimit
  un : A.units + 16 * k + 200 < cLine
theorem Room.mono {j k : Nat} {A : Around} (r : Room k A) (h : j ≤ k) : Room j A := ⟨r.hd, by have := r.dp; omega, by have := r.un; omega⟩
theorem Room.deeper {k : Nat} {A : Around} (r : Room (k + 1) A) (env : Env) : Room k (A.deeper env) :=
  ⟨r.hd, by have := r.dp; show A.depth + 1 + 3 * k + 5 < _; omega, by have := r.un; show A.units + 3 + 16 * k + 200 < _; omega⟩
theorem Room.depth {k : Nat} {A : Around} (r : Room k A) : A.depth < recursionLimit := by have := r.dp; omega
theorem Room.units {k : Nat} {A : Around} (r : Room k A) : A.units + 64 < cLine := by have := r.un; omega
def tNil : TA := fun _ H Q => Q [] H
def tCons (ta : TE) (tr : TA) : TA := fun σ H Q => ta σ H fun x H1 => tr σ H1 fun xs H2 => Q (x :: xs) H2
section
variable {X : Cx} {e : Expr} {es : List Expr} {te : TE} {t : TA} {pos : Pos}
/-- a tuple, a list of written items -/
def tTup (t : TA) : TE := fun σ H Q => t σ H fun xs H1 => xs.length ≤ sizeLine ∧ ∀ p, H1 p = none → Q (.ref p) (upd H1 p (.tup xs))
def tLst (t : TA) : TE := fun σ H Q => t σ H fun xs H1 => xs.length ≤ sizeLine ∧ ∀ p, H1 p = none → Q (.ref p) (upd H1 p (.lst xs))
end

/-- a def's promise: the bound arguments in the parameters' order, the heap, the wanted end, the wanted exception -/
abbrev Sp := List V → Hp → VK → XK → Prop
/-- how an exception lies behind a call (file 08 gives it): the callers' frames, abstract heap and state ahead of the call, the wish, the exception, the state -/
abbrev CXT := List Env → Hp → Shared → XK → Value → Shared → Prop

/-- the state at a call -/
structure Env0 (P : Program) (w : World) (K : PySem.W.Frag) (mg : Str → Option Value) (base : Heap) (A : Around) (outer : List Env) (s : Shared) (H : Hp) : Prop where
  frames : A.frames = some outer
  mod : Mod K mg base
  bs : ∀ b o, base.get? b = some o → s.heap.get? b = some o ∧ H b = none
  bsz : base.objs.size ≤ s.heap.objs.size
  funs : s.heap.FunFrames base outer
  frf : ∀ b ∈ frs outer, H b = none
  hok : HOk P w H s.heap
  bare : AllBare s.gens
/-- a call's end -/
def CE (outer : List Env) (P : Program) (w : World) (H : Hp) (s : Shared) (Q : VK) (u : Value) (s' : Shared) : Prop :=
  ∃ v H', s'.os = s.os ∧ AllBare s'.gens ∧ Un (frs outer) [] H H' s.heap s'.heap ∧ HOk P w H' s'.heap ∧ RelV v u ∧ Q v H'
def CR (CX : CXT) (outer : List Env) (P : Program) (w : World) (H : Hp) (s : Shared) (Q : VK) (E : XK) (r : Result) (s' : Shared) : Prop :=
  match r with
  | .ok (.ret u) => CE outer P w H s Q u s'
  | .ok _ => False
  | .error e => CX outer H s E e s'
structure FnOk (P : Program) (w : World) (K : PySem.W.Frag) (mg : Str → Option Value) (base : Heap) (CX : CXT) (k : Nat) (f : Addr) (fd : FuncData) (ps : List Str) (sp : Sp) : Prop where
  len : ∀ vs H Q E, sp vs H Q E → vs.length = ps.length
  run : ∀ (A : Around) (outer : List Env) (s : Shared) (H : Hp) (args : Args) (us : List Value) (vs : List V) (Q : VK) (E : XK), Room k A → Env0 P w K mg base A outer s H → BindsTo s fd args (ps.zip us) → Vals vs us → sp vs H Q E →
    codeAny (model P w) A (.call (.ref f) args) (CR CX outer P w H s Q E) s
theorem FnOk.mono {P : Program} {w : World} {K : PySem.W.Frag} {mg : Str → Option Value} {base : Heap} {CX : CXT} {j k : Nat} {f : Addr} {fd : FuncData} {ps : List Str} {sp : Sp} (F : FnOk P w K mg base CX j f fd ps sp) (h : j ≤ k) :
    FnOk P w K mg base CX k f fd ps sp := ⟨F.len, fun A outer s H args us vs Q E hr => F.run A outer s H args us vs Q E (hr.mono h)⟩
section
variable {X : Cx} {pins : List (Addr × Obj)} {σ : St} {H : Hp} {s s' : Shared}
end

/-- f(..): the written arguments, then the defaults dvs; E: what is wanted of an exception -/
def tCall (sp : Sp) (dvs : List V) (E : XK) (t : TA) : TE := fun σ H Q => t σ H fun vs H1 => sp (vs ++ dvs) H1 Q E
/-- o.m(..) of an instance of the class at C -/
def tMeth (C : Addr) (m : Str) (sp : Sp) (dvs : List V) (E : XK) (ta : TE) (t : TA) : TE := fun σ H Q => ta σ H fun x H1 => ∃ a dx fs, x = .ref a ∧ H1 a = some (.ins C dx fs) ∧ fs.lookup m = none ∧
  t σ H1 fun vs H2 => sp (x :: (vs ++ dvs)) H2 Q E
/-- C(..): a new instance and its dict, then __init__ -/
def tMake (C : Addr) (sp : Sp) (dvs : List V) (E : XK) (t : TA) : TE := fun σ H Q => t σ H fun vs H1 => ∀ x dx, H1 x = none → H1 dx = none → dx ≠ x →
  sp (.ref x :: (vs ++ dvs)) (upd (upd H1 dx (.own x)) x (.ins C dx [])) (fun v H2 => v = .non ∧ Q (.ref x) H2) E

/-- how the parameters are bound: us the positional arguments, kw the keywords' values by name, ds the defaults that fill up -/
def Binds (K : PySem.W.Frag) (fd : FuncData) (ps : List Str) (ds : List Value) : Prop :=
  ∀ (s : Shared) (us : List Value), K.In s.heap → (us ++ ds).length = ps.length → BindsTo s fd ⟨us, []⟩ (ps.zip (us ++ ds))
/-- every parameter is given -/
theorem Binds.all {K : PySem.W.Frag} {fd : FuncData} {ps : List Str} (h : ∀ us : List Value, us.length = ps.length → bindArgs fd ⟨us, []⟩ = pure (ps.zip us)) : Binds K fd ps [] := fun s us _ hl => by
  rw [List.append_nil] at hl ⊢
  exact .of_eq (h us hl)

section
variable {X : Cx} {CX : CXT} {k : Nat} {f C : Addr} {fd : FuncData} {ps : List Str} {sp : Sp} {dvs : List V} {ds : List Value} {E : XK} {x m : Str} {p pos apos : Pos} {e o : Expr} {es : List Expr} {ta : TE} {t : TA}

end

section
variable {X : Cx} {CX : CXT} {k : Nat} {f C : Addr} {fd : FuncData} {ps ks : List Str} {sp : Sp} {E : XK} {x m : Str} {p pos apos kpos : Pos} {e o : Expr} {es : List Expr} {kws : List Keyword} {te ta : TE} {t tk : TA} {nm : Option Str}
variable {g : List Value → List Value → List Value} {gV : List V → List V → List V}
end

/-- names: the parameters first -/
structure FnScope (N P : List Str) (sc : Scope) : Prop where
  kind : sc.kind = .function
  co : sc.isCoroutine = false
  gen : sc.isGenerator = false
  nd : N.Nodup
  pre : N.take P.length = P
  par : ∀ x ∈ P, sc.names.lookup x = some .local ∨ sc.names.lookup x = some .cell
  nofree : ∀ y ∈ sc.names, y.2 ≠ .free

theorem bindL_out {kindOf : Str → Option NameKind} {x : Str} : ∀ {binds : List (Str × Value)} {m : Str → Option Value}, (∀ v, (x, v) ∉ binds) → bindL kindOf binds m x = m x
  | [], _, _ => rfl
  | (n, v) :: r, m, h => by
    unfold bindL
    rw [bindL_out fun w hw => h w (List.mem_cons_of_mem _ hw)]
    split
    · have : x ≠ n := by rintro rfl; exact h v List.mem_cons_self
      simp [this]
    · rfl
theorem bindC_out {kindOf : Str → Option NameKind} {x : Str} : ∀ {binds : List (Str × Value)} {m : Str → Option Value}, (∀ v, (x, v) ∉ binds) → bindC kindOf binds m x = m x
  | [], _, _ => rfl
  | (n, v) :: r, m, h => by
    unfold bindC
    rw [bindC_out fun w hw => h w (List.mem_cons_of_mem _ hw)]
    split
    · rfl
    · have : x ≠ n := by rintro rfl; exact h v List.mem_cons_self
      simp [this]
theorem bindL_get {kindOf : Str → Option NameKind} {x : Str} {v : Value} : ∀ {P : List Str} {vs : List Value} {i : Nat} {m : Str → Option Value}, P.Nodup → P[i]? = some x → vs[i]? = some v → kindOf x = some .local →
    bindL kindOf (P.zip vs) m x = some v
  | [], _, _, _, _, h, _, _ => by simp at h
  | _ :: _, [], _, _, _, _, h, _ => by simp at h
  | p :: P, w :: vs, 0, m, nd, h1, h2, hk => by
    simp at h1 h2; subst h1; subst h2
    show bindL kindOf ((p, w) :: P.zip vs) m p = _
    unfold bindL
    rw [bindL_out fun v hv => (List.nodup_cons.mp nd).1 (List.of_mem_zip hv).1, if_pos hk]
    simp
  | p :: P, w :: vs, i + 1, m, nd, h1, h2, hk => by
    show bindL kindOf ((p, w) :: P.zip vs) m x = _
    unfold bindL
    exact bindL_get (i := i) (List.nodup_cons.mp nd).2 (by simpa using h1) (by simpa using h2) hk
theorem bindC_get {kindOf : Str → Option NameKind} {x : Str} {v : Value} : ∀ {P : List Str} {vs : List Value} {i : Nat} {m : Str → Option Value}, P.Nodup → P[i]? = some x → vs[i]? = some v → kindOf x ≠ some .local →
    bindC kindOf (P.zip vs) m x = some v
  | [], _, _, _, _, h, _, _ => by simp at h
  | _ :: _, [], _, _, _, _, h, _ => by simp at h
  | p :: P, w :: vs, 0, m, nd, h1, h2, hk => by
    simp at h1 h2; subst h1; subst h2
    show bindC kindOf ((p, w) :: P.zip vs) m p = _
    unfold bindC
    rw [bindC_out fun v hv => (List.nodup_cons.mp nd).1 (List.of_mem_zip hv).1, if_neg hk]
    simp
  | p :: P, w :: vs, i + 1, m, nd, h1, h2, hk => by
    show bindC kindOf ((p, w) :: P.zip vs) m x = _
    unfold bindC
    exact bindC_get (i := i) (List.nodup_cons.mp nd).2 (by simpa using h1) (by simpa using h2) hk

/-- the names' values at the entry -/
def start (N : List Str) (vs : List V) : St := vs.map some ++ List.replicate (N.length - vs.length) none

/-- the context of a def's body, at its entry; an exception leaves the frame, then lies as CX says -/
def cxOf (CX : CXT) (P : Program) (w : World) (K : PySem.W.Frag) (mg : Str → Option Value) (base : Heap) (N : List Str) (qual : Str) (scope : Scope) (f : Addr) (cd : Value) (A : Around) (outer : List Env) (s : Shared) (H : Hp) (E : XK) : Cx where
  prog := P
  w := w
  K := K
  mg := mg
  base := base
  A := A.deeper (envOfC qual scope s.heap.objs.size f cd)
  N := N
  s₀ := s
  H₀ := H
  env := envOfC qual scope s.heap.objs.size f cd
  outer := outer
  stack := envOfC qual scope s.heap.objs.size f cd :: outer
  ex := []
  calm := true
  fn := fun _ => true
  pn := []
  xe := fun e s' => wpAny (model P w) (A.deeper (envOfC qual scope s.heap.objs.size f cd)) (leaving (envOfC qual scope s.heap.objs.size f cd) e) (fun _ s'' => CX outer H s E e s'') (fun e' s'' => CX outer H s E e' s'') s'

theorem cell_has {sc : Scope} {n : Nat} {x : Str} (h : sc.names.lookup x = some .cell) : ∃ c, (cellsFrom n sc.names []).lookup x = some c := by
  have q := PySem.W.cellsFrom_some sc.names n [] (.inl h)
  exact Option.isSome_iff_exists.mp q

theorem inv_start {CX : CXT} {P : Program} {w : World} {K : PySem.W.Frag} {mg : Str → Option Value} {base : Heap} {N ps : List Str} {qual : Str} {scope : Scope} {f : Addr} {cd : Value} {A : Around} {outer : List Env} {s s1 : Shared} {H : Hp} {E : XK} {us : List Value} {vs : List V}
    (S : FnScope N ps scope) (hd : A.handled = none) (e0 : Env0 P w K mg base A outer s H) (hl : vs.length = ps.length) (r : Vals vs us)
    (x : InCallC s s.heap.objs.size (bindL (envOfC qual scope s.heap.objs.size f cd).kindOf (ps.zip us) fun _ => none) (cellsFrom (s.heap.objs.size + 1) scope.names []) (bindC (envOfC qual scope s.heap.objs.size f cd).kindOf (ps.zip us) fun _ => none) s1) :
    Inv (cxOf CX P w K mg base N qual scope f cd A outer s H E) [] (start N vs) H s1 := by
  have hpl : ps.length ≤ N.length := by have := congrArg List.length S.pre; rw [List.length_take] at this; omega
  obtain ⟨h1, tk, rfl, hk⟩ := x.done
  have noA : ∀ b : Addr, b ∉ (cxOf CX P w K mg base N qual scope f cd A outer s H E).ex := fun b z => absurd (show b ∈ ([] : List Addr) from z) (by simp)
  refine ⟨⟨e0.mod, S.kind, rfl, rfl, Nat.le_refl _, fun y z c h1 h2 => ?_, fun y hy => ?_, fun y c _ h => ?_, fun _ => hd, Around.frames_deeper e0.frames, .inr ⟨rfl, rfl⟩, fun b z => absurd z (noA b), e0.bs, e0.bsz, fun b _ _ => noA b, fun b z => absurd z (noA b), e0.funs, e0.frf⟩,
    rfl, e0.bare, Un.kept hk, ⟨_, x.toInCall.ns, fun i y v h1 h2 h3 => ?_⟩, fun y c h => ⟨_, x.cell y c h⟩, e0.hok.fresh (Nat.le_refl _), fun y c h => ?_, fun p hp => absurd (show p ∈ ([] : List (Addr × Obj)) from hp) (by simp), e0.hok.kept hk, ?_⟩
  · exact name_of_addr x.apart (PySem.mem_of_lookup h1) (PySem.mem_of_lookup h2)
  · have hy : scope.names.lookup y = some .cell ∨ scope.names.lookup y = some .free := hy
    rcases hy with hy | hy
    · exact cell_has hy
    · exact absurd rfl (S.nofree _ (PySem.mem_of_lookup hy))
  · exact Nat.le_of_lt (x.above y c (PySem.mem_of_lookup h))
  · have hi : i < vs.length := by
      unfold start at h2
      by_cases hi : i < vs.length
      · exact hi
      · rw [List.getElem?_append_right (by simpa using hi)] at h2
        rw [List.getElem?_replicate] at h2
        split at h2 <;> cases h2
    have ha : vs[i]? = some v := by
      unfold start at h2
      rw [List.getElem?_append_left (by simpa using hi), List.getElem?_map] at h2
      cases e : vs[i]? with
      | none => rw [e] at h2; cases h2
      | some a => rw [e] at h2; cases h2; rfl
    obtain ⟨u, hu, rv⟩ := r.get ha
    have hp : ps[i]? = some y := by
      rw [← S.pre, List.getElem?_take_of_lt (by omega)]; exact h1
    have ndP : ps.Nodup := by rw [← S.pre]; exact S.nd.sublist (List.take_sublist _ _)
    refine ⟨u, rv, ?_⟩
    rcases S.par y (List.mem_of_getElem? hp) with k | k
    · exact .inl ⟨k, bindL_get ndP hp hu k⟩
    · obtain ⟨c, e⟩ := cell_has (n := s.heap.objs.size + 1) k
      refine .inr ⟨.inl k, c, e, ?_⟩
      have q := x.cell y c e
      rw [bindC_get ndP hp hu (by show scope.names.lookup y ≠ _; rw [k]; decide)] at q
      exact q
  · exact e0.hok.fresh (Nat.le_of_lt (x.above y c (PySem.mem_of_lookup h)))
  · unfold start
    show _ = N.length
    rw [List.length_append, List.length_map, List.length_replicate]
    omega

/-- THE RULE: a def (or a method) of the text, by its body. The body's reading t is chosen for each entry; it is run at the parameters' values -/
theorem fn_of {CX : CXT} {P : Program} {w : World} {K : PySem.W.Frag} {mg : Str → Option Value} {base : Heap} {k : Nat} {f : Addr} {name qual : Str} {params : Arguments} {body : List Stmt} {scope : Scope} {dV kV doc pm cdv ct oc : Value} {an od : Option Addr}
    {osl : Array (Option Value)} {N ps : List Str} {sp : Sp} (lk : K.lookup f = some ⟨oc, od, .func (PySem.W.fnOf name qual params body scope dV kV doc pm an cdv ct), osl⟩) (hcd : PySem.W.codeIn K cdv qual = true) (S : FnScope N ps scope)
    (len : ∀ vs H Q E, sp vs H Q E → vs.length = ps.length)
    (hbody : ∀ (A : Around) (outer : List Env) (s : Shared) (H : Hp) (vs : List V) (Q : VK) (E : XK), Room k (A.deeper (envOfC qual scope s.heap.objs.size f cdv)) → sp vs H Q E →
      ∃ t, PSs (cxOf CX P w K mg base N qual scope f cdv A outer s H E) body t ∧ t { nx := fun _ H' => Q .non H', rt := Q } (start N vs) H) :
    FnOk P w K mg base CX (k + 1) f (PySem.W.fnOf name qual params body scope dV kV doc pm an cdv ct) ps sp := by
  refine ⟨len, fun A outer s H args us vs Q E hr e0 hb r hsp => ?_⟩
  have hl := len _ _ _ _ hsp
  have KX : K.In s.heap := e0.mod.kin.keeps fun b o e => (e0.bs b o e).1
  have lim : s.heap.NoLimit := e0.mod.nolimit.keeps fun b o e => (e0.bs b o e).1
  have hkind : ∀ y ∈ ps.zip us, scope.names.lookup y.1 = some .local ∨ (scope.names.lookup y.1 = some .cell ∧ ((cellsFrom (s.heap.objs.size + 1) scope.names []).lookup y.1).isSome = true) := fun ⟨n, v⟩ hy => by
    rcases S.par n (List.of_mem_zip hy).1 with q | q
    · exact .inl q
    · exact .inr ⟨q, PySem.W.cellsFrom_some _ _ _ (.inl q)⟩
  refine codeAny_call_function hr.depth (KX _ _ lk) rfl S.co S.gen rfl (PySem.W.codeRec_of KX hcd) (hb _ _ _ _ ?_)
  refine wpAny_newFunctionEnv_cells S.kind hkind fun env he s1 x => ?_
  subst he
  refine ⟨lim.keeps x.toInCall.keep, codeAny_func ?_⟩
  obtain ⟨t, ht, hq⟩ := hbody A outer s H vs Q E (hr.deeper _) hsp
  have I : Inv (cxOf CX P w K mg base N qual scope f cdv A outer s H E) [] (start N vs) H s1 := inv_start S hr.hd e0 hl r x
  refine wpAny_mono (ht [] s1 (start N vs) H _ I hq) (fun fl s' hs => ?_) fun e s' hs => hs
  have fin : ∀ {σ' : St} {H' : Hp} {v : V} {u : Value}, Inv (cxOf CX P w K mg base N qual scope f cdv A outer s H E) [] σ' H' s' → RelV v u → Q v H' → CE outer P w H s Q u s' :=
    fun {σ' H' v u} J rv q => ⟨v, H', J.os, J.bare, J.base, J.hok, rv, q⟩
  cases fl with
  | ret u =>
    obtain ⟨v, σ', H', J, rv, q⟩ := hs
    exact fin J rv q
  | next =>
    obtain ⟨σ', H', J, q⟩ := hs
    exact fin (v := V.non) (u := Value.none) J rfl q
  | brk =>
    obtain ⟨_, _, _, q⟩ := hs
    exact False.elim q
  | cont =>
    obtain ⟨_, _, _, q⟩ := hs
    exact False.elim q
end L2

namespace L2
open PySem PySem.Spec PyProof.Rows
section
variable {X : Cx} {x : Str} {p pos : Pos} {e : Expr} {es : List Expr} {t : TA} {id T : String} {r : List V → Hp → VK → Prop}

def tCB (r : List V → Hp → VK → Prop) (t : TA) : TE := fun σ H Q => t σ H fun vs H1 => r vs H1 Q
end
end L2

namespace HT
open PySem PyProof.Rows

section
open PySem.SeqAt
open PySem.AutoSeq1 (wpAny_loadPart')
open PySem.MeetsSeq PySem.MeetsSeq2 PySem.MeetsSeq3

end

section
variable {prog : Program} {w : World} {A : Around} {E : Value → Shared → Prop} {s : Shared}

/-- a slice's bound as a place among n (d where it is left out) -/
def sIx (n d : Nat) : Option Int → Nat
  | none => d
  | some v => if v < 0 then (v + (n : Int)).toNat else min v.toNat n
end
end HT

namespace L2
open PySem PySem.Spec PyProof.Rows

abbrev TO := St → Hp → (Option Int → Hp → Prop) → Prop
def tNoPart : TO := fun _ H Q => Q none H
def tPart (t : TE) : TO := fun σ H Q => t σ H fun x H1 => ∃ i, x = .int i ∧ Q (some i) H1

section
variable {X : Cx} {e : Expr} {te : TE} {lo hi : Option Expr} {tl th : TO} {pos p2 : Pos}

def tSl (r : V → Option Int → Option Int → Hp → VK → Prop) (te : TE) (tl th : TO) : TE := fun σ H Q => te σ H fun x H1 => tl σ H1 fun l H2 => th σ H2 fun u H3 => r x l u H3 Q
/-- the items of xs[lo:hi] -/
def cutV (xs : List V) (lo hi : Option Int) : List V := (xs.drop (HT.sIx xs.length 0 lo)).take (HT.sIx xs.length xs.length hi - HT.sIx xs.length 0 lo)
/-- t[lo:hi], not the whole of it (the whole would be t itself) -/
def rSlT (K : PySem.W.Frag) : V → Option Int → Option Int → Hp → VK → Prop := fun x lo hi H Q => ∃ a xs, x = .ref a ∧ SqT K H a xs ∧
  ¬ (HT.sIx xs.length 0 lo = 0 ∧ HT.sIx xs.length xs.length hi = xs.length) ∧ ∀ p, H p = none → Q (.ref p) (upd H p (.tup (cutV xs lo hi)))
end
end L2

namespace L2
open PySem PySem.Spec PyProof.Rows

/-- the place that an index of any sign means -/
def ixN (n : Nat) (i : Int) : Option Nat := if 0 ≤ i then (if i < n then some i.toNat else none) else if -(n : Int) ≤ i then some (i + n).toNat else none
def atI {α : Type} (xs : List α) (i : Int) : Option α := (ixN xs.length i).bind fun j => xs[j]?
section
variable {X : Cx} {a b : Expr} {ta tb : TE} {pos : Pos}
def rIxL (K : PySem.W.Frag) : R2 := fun x y H Q => ∃ p xs i v, x = .ref p ∧ y = .int i ∧ SqL K H p xs ∧ atI xs i = some v ∧ Q v H
def rIxT (K : PySem.W.Frag) : R2 := fun x y H Q => ∃ p xs i v, x = .ref p ∧ y = .int i ∧ SqT K H p xs ∧ atI xs i = some v ∧ Q v H
def rSetL : V → V → V → Hp → (Hp → Prop) → Prop := fun o i v H Q => ∃ p xs k j, o = .ref p ∧ i = .int k ∧ H p = some (.lst xs) ∧ ixN xs.length k = some j ∧ Q (upd H p (.lst (xs.set j v)))
/-- xs[lo:hi] of a list: a new list -/
def rSlL (K : PySem.W.Frag) : V → Option Int → Option Int → Hp → VK → Prop := fun x lo hi H Q => ∃ a xs, x = .ref a ∧ SqL K H a xs ∧ ∀ p, H p = none → Q (.ref p) (upd H p (.lst (cutV xs lo hi)))
def flatV : V → Bool
  | .non => true
  | .bl _ => true
  | .int _ => true
  | .str _ => true
  | _ => false
/-- == of flat values -/
def eqV : V → V → Bool
  | .non, .non => true
  | .bl a, .bl b => a == b
  | .bl a, .int b => (if a then 1 else 0) == b
  | .int a, .bl b => a == (if b then 1 else 0)
  | .int a, .int b => a == b
  | .str a, .str b => a == b
  | _, _ => false
def inV (x : V) (xs : List V) : Bool := xs.any fun y => eqV y x
/-- x in a list or tuple of flat items -/
def rIn (K : PySem.W.Frag) (neg : Bool) : R2 := fun x y H Q => ∃ p xs, y = .ref p ∧ (SqL K H p xs ∨ SqT K H p xs) ∧ flatV x = true ∧ xs.all flatV = true ∧ Q (.bl (if neg then !inV x xs else inV x xs)) H
/-- the value is of that builtin type -/
def tyV (K : PySem.W.Frag) (T : String) (x : V) (H : Hp) : Prop := match x with
  | .str _ => T = "str"
  | .int _ => T = "int"
  | .ref p => (T = "list" ∧ ∃ xs, SqL K H p xs) ∨ (T = "tuple" ∧ ∃ o, K.lookup p = some o ∧ o.cls = .type "tuple" ∧ o.dict = none) ∨
      (T = "dict" ∧ ((∃ kvs, H p = some (.dK kvs)) ∨ ∃ kvs, H p = some (.dT kvs))) ∨ (T = "set" ∧ ∃ S n, H p = some (.set S n))
  | _ => False
def tBM0 (K : PySem.W.Frag) (T : String) (r : V → List V → Hp → VK → Prop) (to : TE) : TE := fun σ H Q => to σ H fun x H1 => tyV K T x H1 ∧ r x [] H1 Q
def tBM (K : PySem.W.Frag) (T : String) (r : V → List V → Hp → VK → Prop) (to : TE) (t : TA) : TE := fun σ H Q => to σ H fun x H1 => tyV K T x H1 ∧ t σ H1 fun xs H2 => r x xs H2 Q
variable {o e : Expr} {es : List Expr} {to : TE} {t : TA} {name : Str} {apos cpos : Pos} {T id : String} {r : V → List V → Hp → VK → Prop}
/- xs.append(e), list.index on a module's tuple .. are MtR facts of 06m -/
end
end L2

namespace L2
open PySem PySem.Spec PyProof.Rows

theorem Vals.dropLast {xs : List V} {us : List Value} (h : Vals xs us) : Vals xs.dropLast us.dropLast := by
  induction h with
  | nil => exact .nil
  | cons r t ih =>
    cases t with
    | nil => exact .nil
    | cons q t' => exact .cons r ih
section
variable {X : Cx} {pins : List (Addr × Obj)} {σ : St} {H : Hp} {s : Shared} {l b : Addr} {xs ys zs : List V}

theorem Inv.fresh (I : Inv X pins σ H s) : H s.heap.objs.size = none := I.hok.fresh (Nat.le_refl _)
end

section
variable {X : Cx}

def rAppend : V → List V → Hp → VK → Prop := fun x vs H Q => ∃ l xs y, x = .ref l ∧ vs = [y] ∧ H l = some (.lst xs) ∧ xs.length < sizeLine ∧ Q .non (upd H l (.lst (xs ++ [y])))
def rExtend : V → List V → Hp → VK → Prop := fun x vs H Q => ∃ l b xs zs, x = .ref l ∧ vs = [.ref b] ∧ H l = some (.lst xs) ∧ H b = some (.lst zs) ∧ xs.length + zs.length ≤ sizeLine ∧ Q .non (upd H l (.lst (xs ++ zs)))
def rClear : V → List V → Hp → VK → Prop := fun x vs H Q => ∃ l xs, x = .ref l ∧ vs = [] ∧ H l = some (.lst xs) ∧ Q .non (upd H l (.lst []))
def rCat : R2 := fun x y H Q => ∃ l b xs zs, x = .ref l ∧ y = .ref b ∧ H l = some (.lst xs) ∧ H b = some (.lst zs) ∧ xs.length + zs.length ≤ sizeLine ∧ ∀ p, H p = none → Q (.ref p) (upd H p (.lst (xs ++ zs)))
/-- a list times an int (a negative one is nothing) -/
def rRep : R2 := fun x y H Q => ∃ l k xs, x = .ref l ∧ y = .int k ∧ H l = some (.lst xs) ∧ -(2 ^ 63) ≤ k ∧ k < 2 ^ 63 ∧ xs.length * k.toNat ≤ sizeLine ∧
  ∀ p, H p = none → Q (.ref p) (upd H p (.lst (List.replicate k.toNat xs).flatten))
end

section
variable {prog : Program} {w : World} {A : Around} {E : Value → Shared → Prop} {s : Shared}
end

section
variable {X : Cx}
end
end L2

namespace Att
open PySem PySem.W PySem.Calls PyProof.Rows

theorem ints_of_wellAll {P : Params} {h : Heap} : ∀ (ns : List Int) (vs : List Value), WellAll P h vs (ns.map WData.int) → IntsAre vs ns := by
  intro ns
  induction ns with
  | nil =>
    intro vs w
    rw [List.map_nil] at w
    cases w
    exact .nil
  | cons n ns ih =>
    intro vs w
    rw [List.map_cons] at w
    cases w with
    | cons a b =>
      cases a
      exact .cons _ _ (ih _ b)

theorem script_of {l : OpenLaw} {n : Nat} (hn : l.most = some n) {P : Params} {h : Heap} {args : List WData} {vals : List Value}
    (hpre : l.row.toRowW.claim.pre args = true) (hwl : WellAll P h vals args) :
    ∃ a vs ns, vals = [Value.ref a] ∧ args = [WData.list (ns.map WData.int)] ∧ h.get? a = some { cls := .type "list", data := .seq vs.toArray } ∧ IntsAre vs ns ∧ ns.length ≤ n := by
  have hsh : WShape.hasAll [] args [.list .int] = true := (pre_splitW hpre).1
  have hc : l.pre.holds [] { args := args } = true := (pre_splitW hpre).2
  obtain ⟨d, r, rfl, h1, h2⟩ := hasAllW_cons hsh
  obtain rfl := hasAllW_nil h2
  obtain ⟨xs, rfl, h3⟩ := hasW_list h1
  obtain ⟨ns, rfl⟩ := items_int h3
  have hlen : ns.length ≤ n := by
    unfold OpenLaw.pre at hc
    have h4 : (WTm.not (.lt (.lit (.int (n : Int))) (.len (.arg 0)))).holds [] { args := [.list (ns.map .int)] } = true := by
      have h4 := (holds_andW hc).1
      rw [hn] at h4
      exact h4
    have h5 := condW_of h4 (w_not (w_lt w_lit (w_len_list (w_arg rfl))))
    rw [List.length_map] at h5
    refine Nat.le_of_not_lt fun q => ?_
    have q' : (n : Int) < ((ns.length : Nat) : Int) := by omega
    first
      | (rw [decide_eq_true q'] at h5; exact absurd h5 (by decide))
      | (simp at h5; omega)
  cases hwl with
  | cons w1 w2 =>
    cases w2
    cases w1 with
    | list ho hall => exact ⟨_, _, ns, rfl, rfl, ho, ints_of_wellAll ns _ hall, hlen⟩

theorem post_true (l : OpenLaw) (args : List WData) : l.row.toRowW.claim.post args (.bool true) args = true :=
  postW_of (r := l.row.toRowW) (X := (true == true))
    (show WShape.has [] (.bool true) .bool = true by first | rfl | decide | simp [WShape.has, WShape.arms, WShape.armsAll])
    (show (WTm.eq .res (.lit (.bool true))).value [] { args := args, res := some (.bool true), after := args } = some (.bool (true == true)) from w_eq_bool (w_res rfl) w_lit) rfl

/-- the same from a codeAny of the CALL (for a layer whose function contracts speak of calls) -/
theorem attach_call {l : OpenLaw} {n : Nat} {q : Program} {loose : List Str} {XP : (Str → Option Value) → Heap → Prop} {YP : World → Heap → Prop} {d : DefRec}
    (hn : l.most = some n) (hdf : d.params.defaults = [])
    (call : ∀ (w : World) (s₀ s₁ : Shared) (mg mb : Str → Option Value) (fa : Addr) (o : Obj) (pm cd doc : Value) (a : Addr) (vs : List Value) (ns : List Int),
      Ground q loose [] XP w s₀ mg mb s₁.heap → YP w s₁.heap →
      s₁.heap.get? fa = some o → o.data = .func (docDef d.name d.params d.body d.scope pm cd doc) → s₁.heap.CodeRec cd d.name → mg d.name = some (.ref fa) →
      s₁.heap.get? a = some { cls := .type "list", data := .seq vs.toArray } → IntsAre vs ns → ns.length ≤ n → s₁.gens = #[] →
      codeAny (model l.prog w) callerA (.call (.ref fa) ⟨[.ref a], []⟩) (fun r s' => r = .ok (.ret (.bool true)) ∧ OldK s₁.heap s'.heap ∧ s'.os = s₁.os ∧ AllBare s'.gens) s₁) :
    WalkO q loose XP YP l.row.toRowW d [] (fun f vs => PySem.call f vs) := by
  intro w s₀ s₁ mg mb G Y fa o pm cd doc dV kV ho hd hcd hD hmg hg args vals as hpre hlay hrd hwl hlo
  obtain rfl : dV = .none := Dflts.none hD hdf
  obtain rfl : kV = .none := Dflts.noKw hD
  obtain ⟨a, vs, ns, rfl, rfl, hobj, hints, hlen⟩ := script_of hn hpre hwl
  refine enter_call (codeAny_mono (call w s₀ s₁ mg mb fa o pm cd doc a vs ns G Y ho (fd_plain hd) hcd hmg hobj hints hlen hg) fun r s' hq => ?_)
  obtain ⟨rfl, h2, h3, h4⟩ := hq
  exact ⟨.inl ⟨.bool true, .bool true, [], rfl, fun _ => rfl, .bool true, post_true l _, fun _ => ⟨List.Pairwise.nil, fun _ hm => (nomatch hm)⟩⟩, h2, h3, h4⟩

section
variable {prog : Program} {w : World} {A : Around} {E : Value → Shared → Prop} {s : Shared} {K : Frag}

end
end Att

namespace L2
open PySem PySem.Spec PyProof.Rows

theorem vals_ints : ∀ {vs : List Value} {ns : List Int}, IntsAre vs ns → Vals (ns.map V.int) vs
  | _, _, .nil => .nil
  | _, _, .cons n t h => .cons ⟨t, rfl⟩ (vals_ints h)

/-- nothing is tracked but the script, known to the object (or it is an object of the module) -/
def Only (H : Hp) : Prop := ∀ b, H b = none ∨ ∃ o xs, H b = some (.frz o (.lst xs))

/-- THE HEAD: the law's promise, at the heap behind the top. F, the promise of the law's def, may use that base is part of the heap (so K.In base, base.Ns mainGlobals mg stand in Mod) -/
theorem law_call {P : Program} {w : World} {K : PySem.W.Frag} {mg mb : Str → Option Value} {CX : CXT} {k : Nat} {fa a : Addr} {fd : FuncData} {x : Str} {sp : Sp} {s₁ : Shared} {vs : List Value} {ns : List Int}
    (KX : K.In s₁.heap) (hns : s₁.heap.Ns mainGlobals mg) (hb : s₁.heap.Ns builtinsNs mb) (hbb : ∀ x : Str, x ≠ "__name__" → mb x = bootBuiltins x) (hlim : s₁.heap.NoLimit) (hg : s₁.gens = #[])
    (ha : s₁.heap.get? a = some { cls := .type "list", data := .seq vs.toArray }) (hi : IntsAre vs ns) (hl : ns.length ≤ sizeLine) (hr : Room k callerA)
    (F : ∀ base : Heap, K.In base → base.Ns mainGlobals mg → FnOk P w K mg base CX k fa fd [x] sp) (hbind : ∀ (s : Shared) (u : Value), BindsTo s fd ⟨[u], []⟩ [(x, u)])
    (hsp : ∀ H : Hp, Only H → SqL K H a (ns.map V.int) → sp [.ref a] H (fun v _ => v = .bl true) fun _ _ _ => False)
    (hCX : ∀ H e s', CX [] H s₁ (fun _ _ _ => False) e s' → False) :
    codeAny (model P w) callerA (.call (.ref fa) ⟨[.ref a], []⟩) (fun r s' => r = .ok (.ret (.bool true)) ∧ OldK s₁.heap s'.heap ∧ s'.os = s₁.os ∧ AllBare s'.gens) s₁ := by
  have rv := vals_ints hi
  have lenV := hi.length
  -- from an abstract heap in which nothing but the script may be tracked
  have core : ∀ H : Hp, Only H → SqL K H a (ns.map V.int) → HOk P w H s₁.heap → (∀ b, H b ≠ none → b = a) → (H a ≠ none → K.lookup a = none) →
      codeAny (model P w) callerA (.call (.ref fa) ⟨[.ref a], []⟩) (fun r s' => r = .ok (.ret (.bool true)) ∧ OldK s₁.heap s'.heap ∧ s'.os = s₁.os ∧ AllBare s'.gens) s₁ := by
    intro H hO hS hok hA hK
    have base_of : ∀ {b : Addr} {o : Obj}, s₁.heap.get? b = some o → H b = none → (hidT s₁.heap H).get? b = some o := fun e n => hidT_get e n
    have noA : ∀ {b : Addr} {o : Obj} {es : Array DictEntry} {ep : Nat}, s₁.heap.get? b = some o → o.data = .dict es ep → H b = none := fun {b o es ep} e d => by
      cases q : H b with
      | none => rfl
      | some u =>
        have e' : b = a := hA b (by rw [q]; simp)
        subst e'
        rw [ha] at e; cases e
        have d' : Data.seq vs.toArray _ = Data.dict es ep := d
        cases d'
    have nsK : ∀ {b : Addr} {m : Str → Option Value}, s₁.heap.Ns b m → (hidT s₁.heap H).Ns b m := fun {b m} ⟨o, es, ep, e, d, r⟩ => ⟨o, es, ep, base_of e (noA e d), d, r⟩
    have hKb : K.In (hidT s₁.heap H) := fun b o e => base_of (KX b o e) (by
      cases q : H b with
      | none => rfl
      | some u =>
        have e' : b = a := hA b (by rw [q]; simp)
        subst e'
        rw [hK (by rw [q]; simp)] at e; cases e)
    have hM : Mod K mg (hidT s₁.heap H) := ⟨hKb, nsK hns, ⟨mb, nsK hb, hbb⟩, let ⟨mc, h1, h2⟩ := hlim; ⟨mc, nsK h1, h2⟩⟩
    have e0 : Env0 P w K mg (hidT s₁.heap H) callerA [] s₁ H := ⟨rfl, hM, fun b o e => of_hidT e, Nat.le_of_eq (hidT_size _ _), trivial, fun b hb => absurd (show b ∈ ([] : List Addr) from hb) (by simp), hok, .of_eq hg⟩
    refine codeAny_mono ((F _ hKb (nsK hns)).run callerA [] s₁ H ⟨[.ref a], []⟩ [.ref a] [.ref a] _ _ hr e0 (hbind s₁ (.ref a)) (.cons rfl .nil) (hsp H hO hS)) fun r s' h => ?_
    cases r with
    | error e => exact (hCX H e s' h).elim
    | ok fl =>
      cases fl with
      | next => exact False.elim h
      | brk => exact False.elim h
      | cont => exact False.elim h
      | ret u =>
        obtain ⟨v, H', os, bare, un, hok', r', q⟩ := h
        have q' : v = .bl true := q
        subst q'
        obtain rfl : u = Value.bool true := r'
        refine ⟨rfl, OldK.of_keep fun b o e => ?_, os, bare⟩
        cases q : H b with
        | none => exact un.keep b o e q (by intro z; exact absurd (show b ∈ ([] : List Addr) from z) (by simp)) (by simp)
        | some u =>
          rcases hO b with z | ⟨ob, xs, z⟩
          · rw [q] at z; cases z
          · have z2 := un.frzs b ob _ z
            obtain ⟨e1, _⟩ := hok b _ z
            obtain ⟨e2, _⟩ := hok' b _ z2
            rw [e] at e1; cases e1
            exact e2
  cases hk : K.lookup a with
  | some o =>
    -- the script is one of the module's own objects
    have e := KX a o hk
    rw [ha] at e
    cases e
    refine core (fun _ => none) (fun _ => .inl rfl) (.inr ⟨_, vs.toArray, _, hk, rfl, rfl, rfl, by rw [List.size_toArray, lenV]; exact hl, by simpa using rv⟩) (fun b u z => by have z' : (none : Option HO) = some u := z; cases z') (fun b z => absurd rfl z) fun z => absurd rfl z
  | none =>
    refine core (fun b => if b = a then some (.frz { cls := .type "list", data := .seq vs.toArray } (.lst (ns.map V.int))) else none) (fun b => ?_) (.inl (.inr ⟨{ cls := .type "list", data := .seq vs.toArray }, if_pos rfl⟩)) (fun b u z => ?_) (fun b z => ?_) fun _ => hk
    · by_cases hb : b = a
      · exact .inr ⟨_, _, if_pos hb⟩
      · exact .inl (if_neg hb)
    · by_cases hb : b = a
      · have z' := (if_pos hb).symm.trans z
        cases z'
        subst hb
        exact ⟨ha, by rw [List.length_map]; exact hl, vs, _, rv, ha⟩
      · have z' := (if_neg hb).symm.trans z
        cases z'
    · by_cases hb : b = a
      · exact hb
      · exact absurd (if_neg hb) z
end L2

namespace L2
open PySem PySem.Spec PyProof.Rows

/-- the goal that k_head leaves (case hc), from the law's promise. F gives the function object fd (K's own) once, then the promise over every base -/
theorem walk_of {l : PySem.W.OpenLaw} {n k : Nat} {q : Program} {loose : List Str} {XP : (Str → Option Value) → Heap → Prop} {YP : World → Heap → Prop} {d : DefRec} {K : Params → PySem.W.Frag} {CX : World → CXT} {sp : World → Sp} {x : Str}
    (hn : l.most = some n) (hn2 : n ≤ sizeLine) (hdf : d.params.defaults = []) (hr : Room k callerA)
    (hY : ∀ (w : World) (h : Heap), YP w h → (K w.params).In h)
    (F : ∀ (w : World) (mg : Str → Option Value) (fa : Addr) (h : Heap), (K w.params).In h → h.Ns mainGlobals mg → mg d.name = some (.ref fa) →
      ∃ fd : FuncData, (∀ (s : Shared) (u : Value), BindsTo s fd ⟨[u], []⟩ [(x, u)]) ∧
        ∀ base : Heap, (K w.params).In base → base.Ns mainGlobals mg → FnOk l.prog w (K w.params) mg base (CX w) k fa fd [x] (sp w))
    (hsp : ∀ (w : World) (H : Hp) (a : Addr) (ns : List Int), ns.length ≤ n → Only H → SqL (K w.params) H a (ns.map V.int) → sp w [.ref a] H (fun v _ => v = .bl true) fun _ _ _ => False)
    (hCX : ∀ (w : World) (H : Hp) (s : Shared) (e : Value) (s' : Shared), CX w [] H s (fun _ _ _ => False) e s' → False) :
    PySem.W.WalkO q loose XP YP l.row.toRowW d [] (fun f vs => PySem.call f vs) := by
  refine Att.attach_call hn hdf fun w s₀ s₁ mg mb fa o pm cd doc a vs ns G Y ho hd hcd hmg hobj hints hlen hg => ?_
  have KX := hY w _ Y
  obtain ⟨fd, hb, hF⟩ := F w mg fa _ KX G.T.g hmg
  exact law_call KX G.T.g G.T.b G.T.builtins G.T.nolimit hg hobj hints (Nat.le_trans hlen hn2) hr hF hb (fun H hO hS => hsp w H a ns hlen hO hS) fun H e s' => hCX w H s₁ e s'
end L2

/- THE LAST THEOREM (shape; LID, My.* are yours):
   My.Adr: a structure of the addresses that your layer names (classes, functions); My.Txt K t: a structure (Prop) of the equations over K;
   My.txt_mk : {K} {implicit addresses ..} (e1 : nsIn K mainGlobals "law" = some (some (.ref f))) (e2 : K.lookup f = some ⟨oc, od, .func (fnOf "law" "law" params body scope dV kV doc pm an cdv ct), sl⟩) (e3 : codeIn K cdv "law" = true) .. : ∃ t, My.Txt K t

(the tactic k_is has no namespace: write k_is) -/

namespace L2
open PySem PySem.Spec PyProof.Rows

def defArgs (s : Stmt) : Arguments := match s with
  | .FunctionDef _ a _ _ _ _ _ _ _ _ => a
  | _ => { posonlyargs := [], args := [], vararg := none, kwonlyargs := [], kw_defaults := [], kwarg := none, defaults := [] }
def defBody (s : Stmt) : List Stmt := match s with
  | .FunctionDef _ _ b _ _ _ _ _ _ _ => b
  | _ => []
def defScope (s : Stmt) : Scope := match s with
  | .FunctionDef _ _ _ _ _ _ sc _ _ _ => sc
  | _ => { kind := .function, names := [], isGenerator := false, isCoroutine := false }

abbrev CX0 : CXT := fun _ _ _ _ _ _ => False
structure Fun (K : PySem.W.Frag) (x qual : Str) (st : Stmt) (f : Addr) (fd : FuncData) : Prop where
  ex : ∃ (oc : Value) (od : Option Addr) (kV doc pm : Value) (an : Option Addr) (cdv ct : Value) (osl : Array (Option Value)),
    fd = PySem.W.fnOf x qual (defArgs st) (defBody st) (defScope st) .none kV doc pm an cdv ct ∧ K.lookup f = some ⟨oc, od, .func fd, osl⟩ ∧ PySem.W.codeIn K cdv qual = true
  kp : PySem.W.keepIn K (.ref f) = true
section
variable {P : Program} {w : World} {K : PySem.W.Frag} {mg : Str → Option Value} {base : Heap}
/-- THE RULE for a def: its body as a term of rules, and the reading of that term -/
theorem Fun.ok {x qual : Str} {st : Stmt} {f : Addr} {fd : FuncData} {N ps : List Str} {k : Nat} {sp : Sp} (F : Fun K x qual st f fd) (S : FnScope N ps (defScope st)) (len : ∀ vs H Q E, sp vs H Q E → vs.length = ps.length)
    (hbody : ∀ (cdv : Value) (A : Around) (outer : List Env) (s : Shared) (H : Hp) (vs : List V) (Q : VK) (E : XK), Room k (A.deeper (envOfC qual (defScope st) s.heap.objs.size f cdv)) → sp vs H Q E →
      ∃ t, PSs (cxOf CX0 P w K mg base N qual (defScope st) f cdv A outer s H E).nox (defBody st) t ∧ t { nx := fun _ H' => Q .non H', rt := Q } (start N vs) H) : FnOk P w K mg base CX0 (k + 1) f fd ps sp := by
  obtain ⟨oc, od, kV, doc, pm, an, cdv, ct, osl, rfl, lk, hcd⟩ := F.ex
  refine fn_of lk hcd S len fun A outer s H vs Q E hr hsp => ?_
  obtain ⟨t, h, q⟩ := hbody cdv A outer s H vs Q E hr hsp
  exact ⟨t, h.nox, q⟩
end
theorem small1000 {n : Nat} (h : n ≤ 1000) : n < sizeLine := Nat.lt_of_le_of_lt h (by decide)

section
variable {X : Cx}
end

/-- all that was tracked is as it was -/
def Same (H H' : Hp) : Prop := ∀ b o, H b = some o → H' b = some o
theorem Same.trans {H H1 H2 : Hp} (a : Same H H1) (b : Same H1 H2) : Same H H2 := fun c o h => b c o (a c o h)
theorem Same.free {H H' : Hp} (e : Same H H') {l : Addr} (h : H' l = Option.none) : H l = Option.none := by
  cases q : H l with
  | none => rfl
  | some o =>
    rw [e l o q] at h
    cases h
theorem Same.seq {K : PySem.W.Frag} {H H' : Hp} {a : Addr} {xs : List V} (e : Same H H') (h : SqL K H a xs) : SqL K H' a xs := by
  rcases h with (h | ⟨o, h⟩) | h
  · exact .inl (.inl (e _ _ h))
  · exact .inl (.inr ⟨o, e _ _ h⟩)
  · exact .inr h

end L2

set_option Elab.async false
set_option linter.all false
set_option maxRecDepth 100000
set_option maxHeartbeats 4000000
namespace L2
open PySem PySem.Spec PyProof.Rows
def subN (n T : String) : Bool := n == T || (n == "bool" && T == "int")
def tyN (H : Hp) (x : V) (n : String) : Prop := match x with
  | .bl _ => n = "bool"
  | .int _ => n = "int"
  | .str _ => n = "str"
  | .ref a => (n = "list" ∧ ∃ xs, H a = some (.lst xs)) ∨ (n = "tuple" ∧ ∃ xs, H a = some (.tup xs))
  | _ => False
theorem tyN_int {H : Hp} {i : Int} {n : String} : tyN H (.int i) n = (n = "int") := rfl
theorem tyN_bl {H : Hp} {i : Bool} {n : String} : tyN H (.bl i) n = (n = "bool") := rfl
theorem tyN_str {H : Hp} {i : Str} {n : String} : tyN H (.str i) n = (n = "str") := rfl
theorem tyN_ref {H : Hp} {a : Addr} {n : String} : tyN H (.ref a) n = ((n = "list" ∧ ∃ xs, H a = some (.lst xs)) ∨ (n = "tuple" ∧ ∃ xs, H a = some (.tup xs))) := rfl
def okT (T : String) : Prop := T = "int" ∨ T = "bool" ∨ T = "str" ∨ T = "list" ∨ T = "tuple"
theorem okT_int : okT "int" := by simp [okT]
theorem okT_bool : okT "bool" := by simp [okT]
theorem okT_str : okT "str" := by simp [okT]
theorem okT_list : okT "list" := by simp [okT]
theorem okT_tuple : okT "tuple" := by simp [okT]
theorem subN_ii : subN "int" "int" = true := rfl
theorem subN_ib : subN "int" "bool" = false := rfl
theorem subN_bb : subN "bool" "bool" = true := rfl
theorem subN_bi : subN "bool" "int" = true := rfl
theorem subN_ss : subN "str" "str" = true := rfl
theorem subN_ll : subN "list" "list" = true := rfl
theorem subN_tt : subN "tuple" "tuple" = true := rfl
def rIsi : List V → Hp → VK → Prop := fun xs H Q => ∃ x T n, xs = [x, .ty T] ∧ okT T ∧ tyN H x n ∧ Q (.bl (subN n T)) H
theorem scal_ii {i j : Int} : scal (.int i) (.int j) = true := rfl
theorem scal_bb {i j : Bool} : scal (.bl i) (.bl j) = true := rfl
theorem scal_ss {i j : Str} : scal (.str i) (.str j) = true := rfl
theorem tEqI' {i j : Int} : decide (V.int i = V.int j) = decide (i = j) := by
  by_cases h : i = j
  · subst h; simp
  · have : ¬ V.int i = V.int j := fun e => h (V.int.inj e)
    simp [h, this]
end L2

set_option Elab.async false
set_option linter.all false
set_option maxRecDepth 100000
set_option maxHeartbeats 4000000
namespace L2
open PySem PySem.Spec PyProof.Rows
def clStep (env : Env) (cs : List (Str × Addr)) (y : Str × NameKind) : List (Str × Addr) := if y.2 == .free then (y.1, (env.cells.lookup y.1).getD 0) :: cs else cs
def clOf (names : List (Str × NameKind)) (env : Env) : List (Str × Addr) := names.foldl (clStep env) []
theorem mem_cl {env : Env} : ∀ {names : List (Str × NameKind)} {acc : List (Str × Addr)} {p : Str × Addr}, p ∈ names.foldl (clStep env) acc → p ∈ acc ∨ ((p.1, NameKind.free) ∈ names ∧ p.2 = (env.cells.lookup p.1).getD 0)
  | [], _, _, h => .inl h
  | y :: r, acc, p, h => by
    rw [List.foldl_cons] at h
    rcases mem_cl h with h | ⟨h, e⟩
    · unfold clStep at h
      split at h
      · rename_i hk
        rcases List.mem_cons.mp h with rfl | h
        · have : y.2 = .free := by simpa using hk
          exact .inr ⟨by rw [← this]; exact List.mem_cons_self, rfl⟩
        · exact .inl h
      · exact .inl h
    · exact .inr ⟨List.mem_cons_of_mem _ h, e⟩
def Cx.comp (X : Cx) (scope : Scope) (N' : List Str) (s₀ : Shared) (H₀ : Hp) (fp : List Addr) (C : Addr) : Cx where
  prog := X.prog
  w := X.w
  K := X.K
  mg := X.mg
  base := X.base
  A := X.A
  N := N'
  s₀ := s₀
  H₀ := H₀
  env := compEnvC scope (clOf scope.names X.env) C X.env
  outer := X.stack
  stack := X.stack
  ex := fp
  fn := fun _ => false
  calm := X.calm
  pn := []
  xe := fun _ _ => False
/-- what is asked of the scopes (all by rfl) -/
structure CompSc (X : Cx) (scope : Scope) (N' own fnames : List Str) (fr : List Nat) : Prop where
  kind : scope.kind = .function
  nocell : (scope.names.all fun y => y.2 != .cell) = true
  free : (scope.names.all fun y => y.2 != .free || X.env.kindOf y.1 == some .cell) = true
  loc : (scope.names.all fun y => y.2 != .local || scope.names.lookup y.1 == some .local) = true
  fn : (fnames.all fun x => X.env.kindOf x == some .cell && (relabel scope X.env).names.lookup x == some .cell) = true
  N : N' = own ++ fnames
  fr : fr.map (fun j => X.N[j]?) = fnames.map some
/-- the block's first names: its own are unset, the free ones as they stand -/
def compSt (k : Nat) (fr : List Nat) (σ : St) : St := List.replicate k none ++ fr.map fun j => (σ[j]?).getD none

def tTrue : TT := fun _ H Q => Q true H
section
variable {X : Cx} {scope : Scope} {N' own fnames : List Str} {fr : List Nat} {pins : List (Addr × Obj)} {σ : St} {H : Hp} {s₃ : Shared} {fp : List Addr}
theorem CompSc.has (S : CompSc X scope N' own fnames fr) (ok : X.Ok) : ∀ y ∈ scope.names, y.2 = .free → ∃ c, X.env.cells.lookup y.1 = some c := fun y hy hf => by
  have h := List.all_eq_true.mp S.free y hy
  rw [hf] at h
  exact ok.has _ (.inl (by simpa using h))
theorem CompSc.cell (S : CompSc X scope N' own fnames fr) (ok : X.Ok) {y : Str} {c : Addr} (h : (clOf scope.names X.env).lookup y = some c) : X.env.cells.lookup y = some c := by
  rcases mem_cl (PySem.mem_of_lookup h) with z | ⟨z, e⟩
  · cases z
  · obtain ⟨d, hd⟩ := S.has ok _ z rfl
    have hd' : X.env.cells.lookup y = some d := hd
    have e' : c = (X.env.cells.lookup y).getD 0 := e
    rw [hd'] at e'
    rw [hd', e']; rfl
theorem mem_of_lookupK {x : Str} {k : NameKind} : ∀ {l : List (Str × NameKind)}, l.lookup x = some k → (x, k) ∈ l
  | [], h => by simp at h
  | (y, d) :: r, h => by
    rw [List.lookup_cons] at h
    by_cases e : x == y
    · rw [e] at h
      have e1 : x = y := by simpa using e
      cases h; subst e1
      exact List.mem_cons_self
    · have e' : (x == y) = false := by simpa using e
      rw [e'] at h
      exact List.mem_cons_of_mem _ (mem_of_lookupK h)
theorem CompSc.names (S : CompSc X scope N' own fnames fr) {y : Str} {k : NameKind} (h : (relabel scope X.env).names.lookup y = some k) (hk : k = .cell ∨ k = .free) : (y, NameKind.free) ∈ scope.names := by
  have hm := mem_of_lookupK h
  unfold relabel at hm
  obtain ⟨⟨n, k0⟩, hn, e⟩ := List.mem_map.mp hm
  dsimp only at e
  split at e
  · rename_i hc
    have : k0 = .free := by
      simp only [Bool.and_eq_true, beq_iff_eq] at hc
      exact hc.1.1
    cases e; subst this; exact hn
  · cases e
    rcases hk with rfl | rfl
    · have := List.all_eq_true.mp S.nocell _ hn
      simp at this
    · exact hn
/-- the block: what is wanted of its turns -/
def tBlk (k : Nat) (fr : List Nat) (g : TG) (tt : TT) (te : TE) (J : It) (σ : St) (H1 : Hp) (Q : VK) : Prop :=
  ∀ D, H1 D = none → ∃ W : Nat → Nat → St → Hp → Prop, (∃ m, W 0 m (compSt k fr σ) (upd H1 D (.lst []))) ∧ ∀ i m σ' H', W i m σ' H' →
    (J.stop i H' ∧ Q (.ref D) H') ∨ (J.go i H' ∧ ∃ N : St → Hp → Prop, (∀ σ2 H2, N σ2 H2 → ∃ m', m' < m ∧ W (i + 1) m' σ2 H2) ∧ ∀ x H2, J.yld i H' x H2 →
      g x σ' H2 fun σ2 H3 => tt σ2 H3 fun b H4 => if b = true then te σ2 H4 fun v H5 => ∃ xs, H5 D = some (.lst xs) ∧ xs.length < sizeLine ∧ N σ2 (upd H5 D (.lst (xs ++ [v]))) else N σ2 H4)
def tComp (wi : TI) (k : Nat) (fr : List Nat) (g : TG) (tt : TT) (te : TE) : TE := fun σ H Q => wi σ H fun J H1 => tBlk k fr g tt te J σ H1 Q

end
end L2

set_option Elab.async false
set_option linter.all false
set_option maxRecDepth 100000
set_option maxHeartbeats 4000000
namespace L2
open PySem PySem.Spec PyProof.Rows
theorem Paired.get' {α β : Type} {F : α → β → Prop} : ∀ {xs : List α} {ys : List β} {i : Nat} {x : α}, Paired F xs ys → xs[i]? = some x → ∃ y, ys[i]? = some y ∧ F x y
  | _, _, _, _, .nil, e => by simp at e
  | _, _, 0, _, .cons r _, e => by simp at e; subst e; exact ⟨_, rfl, r⟩
  | _, _, i + 1, x, .cons _ t, e => by
    obtain ⟨u, h1, h2⟩ := Paired.get' (i := i) (x := x) t (by simpa using e)
    exact ⟨u, by simpa using h1, h2⟩
section
variable {X : Cx} {pins : List (Addr × Obj)} {σ : St} {H : Hp} {s : Shared}
open Classical in
end
section
variable {X : Cx} {pins : List (Addr × Obj)} {σ : St} {H : Hp} {s : Shared}
end
end L2

set_option Elab.async false
set_option linter.all false
set_option maxRecDepth 100000
set_option maxHeartbeats 4000000
namespace L2
open PySem PySem.Spec PyProof.Rows
section
variable {X : Cx}
end
end L2

set_option Elab.async false
set_option linter.all false
set_option maxRecDepth 100000
set_option maxHeartbeats 4000000
namespace L2
open PySem PySem.Spec PyProof.Rows
section
variable {prog : Program} {w : World} {A : Around} {E : Value → Shared → Prop} {s : Shared}
end
section
variable {prog : Program} {w : World} {A : Around} {E : Value → Shared → Prop} {s : Shared}
end
end L2

set_option Elab.async false
set_option linter.all false
set_option maxRecDepth 100000
set_option maxHeartbeats 400000
namespace L2
open PySem PySem.Spec PyProof.Rows
def Iten (S : Hp → Addr → List V → Prop) (a : Addr) (k : Nat) : It :=
  ⟨fun i H => ∃ xs x, S H a xs ∧ xs[i]? = some x, fun i H x H' => ∃ t y, x = .ref t ∧ H t = none ∧ H' = upd H t (.tup [.int (((k + i : Nat)) : Int), y]) ∧ ∀ xs, S H a xs → xs[i]? = some y, fun i H => ∃ xs, S H a xs ∧ xs.length = i⟩
section
variable {X : Cx} {pins : List (Addr × Obj)} {σ : St} {H : Hp} {s : Shared}
end
def iEnL (K : PySem.W.Frag) (k : Nat) (te : TE) : TI := fun σ H R => te σ H fun x H1 => ∃ a, x = .ref a ∧ (∃ xs, SqL K H1 a xs) ∧ R (Iten (SqL K) a k) H1
def iEnT (K : PySem.W.Frag) (k : Nat) (te : TE) : TI := fun σ H R => te σ H fun x H1 => ∃ a, x = .ref a ∧ (∃ xs, SqT K H1 a xs) ∧ R (Iten (SqT K) a k) H1
section
variable {X : Cx} {elts : List Expr} {x1 : Nat} {tp : Pos}
end
def rInsert : V → List V → Hp → VK → Prop := fun x vs H Q => ∃ l xs i y, x = .ref l ∧ vs = [.int i, y] ∧ H l = some (.lst xs) ∧ 0 ≤ i ∧ i ≤ xs.length ∧ xs.length < sizeLine ∧ Q .non (upd H l (.lst (xs.take i.toNat ++ y :: xs.drop i.toNat)))
end L2
namespace L2
open PySem PySem.Spec PyProof.Rows
section
variable {X : Cx} {K : PySem.W.Frag}
def rLen (K : PySem.W.Frag) : List V → Hp → VK → Prop := fun xs H Q => ∃ p ys, xs = [.ref p] ∧ (SqL K H p ys ∨ SqT K H p ys) ∧ Q (.int ys.length) H
def rListOf (K : PySem.W.Frag) : List V → Hp → VK → Prop := fun xs H Q => ∃ p ys, xs = [.ref p] ∧ (SqL K H p ys ∨ SqT K H p ys) ∧ ∀ l, H l = none → Q (.ref l) (upd H l (.lst ys))
def rTupL (K : PySem.W.Frag) : List V → Hp → VK → Prop := fun xs H Q => ∃ p ys, xs = [.ref p] ∧ SqL K H p ys ∧ ∀ l, H l = none → Q (.ref l) (upd H l (.tup ys))
end
theorem SqL.off {K : PySem.W.Frag} {H : Hp} {a x : Addr} {xs : List V} {o : HO} (h : SqL K H a xs) (h1 : ∀ ys, H x ≠ some (.lst ys)) (h2 : ∀ v u, H x ≠ some (.frz v u)) : SqL K (upd H x o) a xs := by
  rcases h with (h | ⟨v, h⟩) | h
  · have ne : a ≠ x := fun z => h1 _ (z ▸ h)
    exact .inl (.inl (by rw [upd_ne ne]; exact h))
  · have ne : a ≠ x := fun z => h2 _ _ (z ▸ h)
    exact .inl (.inr ⟨v, by rw [upd_ne ne]; exact h⟩)
  · exact .inr h
end L2
namespace L2
end L2

set_option Elab.async false
set_option linter.all false
set_option maxRecDepth 100000
set_option maxHeartbeats 4000000
namespace My
open PySem L2
theorem same_new {H : Hp} {p : Addr} (h : H p = none) (o : HO) : Same H (upd H p o) := fun b u q => by rw [upd_ne (ne_of_none q h)]; exact q
theorem same_upd {H H' : Hp} {p : Addr} (h : H p = none) (g : Same H H') (o : HO) : Same H (upd H' p o) := fun b u q => by rw [upd_ne (ne_of_none q h)]; exact g b u q
abbrev Pst := Int × Int × Int
def PostV (H : Hp) (v : V) (q : Pst) : Prop := ∃ t, v = .ref t ∧ H t = some (.tup [.int q.1, .int q.2.1, .int q.2.2])
def okH (h : Int) : Prop := 0 ≤ h ∧ h < 1073741824
def okP (q : Pst) : Prop := (0 ≤ q.1 ∧ q.1 < 1073741824) ∧ (0 ≤ q.2.1 ∧ q.2.1 ≤ 1000000000) ∧ (0 ≤ q.2.2 ∧ q.2.2 ≤ 1)
structure Ok (d : Int) (hs : List Int) (ps : List Pst) : Prop where
  d1 : 1 ≤ d
  d2 : d ≤ 31
  h : ∀ x ∈ hs, okH x
  hl : hs.length ≤ 8
  p : ∀ q ∈ ps, okP q
  pl : ps.length ≤ 6
theorem PostV.mono {H H' : Hp} {v : V} {q : Pst} (g : Same H H') (h : PostV H v q) : PostV H' v q := by
  obtain ⟨t, e, h⟩ := h
  exact ⟨t, e, g _ _ h⟩
abbrev Posts (H : Hp) : List V → List Pst → Prop := Paired (PostV H)
theorem Posts.mono {H H' : Hp} (g : Same H H') {ts : List V} {ps : List Pst} (h : Posts H ts ps) : Posts H' ts ps := Paired.mapP h fun _ _ => PostV.mono g
theorem Posts.off {H : Hp} {l : Addr} {o : HO} {ts : List V} {ps : List Pst} (hl : ∀ xs, H l ≠ some (.tup xs)) (h : Posts H ts ps) : Posts (upd H l o) ts ps := Paired.mapP h fun _ _ ⟨t, e, q⟩ => ⟨t, e, by
  have ne : t ≠ l := fun z => hl _ (z ▸ q)
  rw [upd_ne ne]
  exact q⟩
theorem Posts.at' {H : Hp} {ts : List V} {ps : List Pst} (h : Posts H ts ps) {i : Nat} {v : V} (e : ts[i]? = some v) : ∃ q, ps[i]? = some q ∧ PostV H v q := Paired.get' h e
theorem Posts.len {H : Hp} {ts : List V} {ps : List Pst} (h : Posts H ts ps) : ts.length = ps.length := Paired.length h
theorem Posts.get {H : Hp} {ts : List V} {ps : List Pst} (h : Posts H ts ps) {i : Nat} {q : Pst} (e : ps[i]? = some q) : ∃ t, ts[i]? = some (.ref t) ∧ H t = some (.tup [.int q.1, .int q.2.1, .int q.2.2]) := by
  have hi : i < ts.length := by rw [h.len]; exact (List.getElem?_eq_some_iff.mp e).1
  have e1 : ts[i]? = some ts[i] := List.getElem?_eq_getElem hi
  obtain ⟨q', e2, t, et, ht⟩ := h.at' e1
  rw [e] at e2
  cases e2
  exact ⟨t, by rw [e1, et], ht⟩
theorem Posts.snoc {H : Hp} {ts : List V} {ps : List Pst} {v : V} {q : Pst} (h : Posts H ts ps) (hv : PostV H v q) : Posts H (ts ++ [v]) (ps ++ [q]) := by
  induction h with
  | nil => exact .cons hv .nil
  | cons a _ ih => exact .cons a ih
theorem n1 : ¬ (("days" : Str) = "hands") := by decide +kernel
theorem n2 : ¬ (("days" : Str) = "posts") := by decide +kernel
theorem n3 : ¬ (("hands" : Str) = "posts") := by decide +kernel
def wf (d : Int) (h p : Addr) : List (Str × V) := putF "posts" (.ref p) (putF "hands" (.ref h) (putF "days" (.int d) []))
/-- a ward stands at x -/
structure WardAt (C : Addr) (H : Hp) (x : Addr) (d : Int) (hs : List Int) (ps : List Pst) : Prop where
  ex : ∃ dx ha pa ts, H x = some (.ins C dx (wf d ha pa)) ∧ H ha = some (.tup (hs.map V.int)) ∧ H pa = some (.tup ts) ∧ Posts H ts ps
theorem WardAt.mono {C : Addr} {H H' : Hp} {x : Addr} {d : Int} {hs : List Int} {ps : List Pst} (g : Same H H') (w : WardAt C H x d hs ps) : WardAt C H' x d hs ps := by
  obtain ⟨dx, ha, pa, ts, h1, h2, h3, h4⟩ := w.ex
  exact ⟨dx, ha, pa, ts, g _ _ h1, g _ _ h2, g _ _ h3, h4.mono g⟩
theorem WardAt.off {C : Addr} {H : Hp} {x : Addr} {d : Int} {hs : List Int} {ps : List Pst} {l : Addr} {xs : List V} {o : HO} (hl : H l = some (.lst xs)) (w : WardAt C H x d hs ps) : WardAt C (upd H l o) x d hs ps := by
  obtain ⟨dx, ha, pa, ts, h1, h2, h3, h4⟩ := w.ex
  refine ⟨dx, ha, pa, ts, ?_, ?_, ?_, h4.off fun ys z => by rw [hl] at z; cases z⟩
  · rw [upd_ne (ne_of h1 hl (by intro z; cases z))]; exact h1
  · rw [upd_ne (ne_of h2 hl (by intro z; cases z))]; exact h2
  · rw [upd_ne (ne_of h3 hl (by intro z; cases z))]; exact h3
def cv (h n : Int) : Bool := decide (Builtin.bitAnd h n = n)
def post0 : Pst := (0, 0, 0)
def chI (h : Int) (ps : List Pst) (i : Nat) : List Int := ((List.range i).filter fun j => cv h (ps[j]?.getD post0).1).map fun j : Nat => (j : Int) + 1
def ch (h : Int) (ps : List Pst) : List Int := 0 :: chI h ps ps.length
def ngt (ps : List Pst) : Nat → Bool
  | 0 => false
  | k + 1 => decide ((ps[k]?.getD post0).2.2 = 1)
def tb (d : Int) (hs : List Int) (ps : List Pst) : Nat → Int
  | 0 => 1
  | i + 1 => tb d hs ps i * ((ch (hs[i]?.getD 0) ps).length : Int) ^ d.toNat
theorem Paired.getR {α β : Type} {F : α → β → Prop} : ∀ {xs : List α} {ys : List β} {i : Nat} {y : β}, Paired F xs ys → ys[i]? = some y → ∃ x, xs[i]? = some x ∧ F x y
  | _, _, _, _, .nil, e => by simp at e
  | _, _, 0, _, .cons r _, e => by simp at e; subst e; exact ⟨_, rfl, r⟩
  | _, _, i + 1, y, .cons _ t, e => by
    obtain ⟨u, h1, h2⟩ := Paired.getR (i := i) (y := y) t (by simpa using e)
    exact ⟨u, by simpa using h1, h2⟩
end My

set_option Elab.async false
set_option linter.all false
set_option maxRecDepth 100000
set_option maxHeartbeats 1000000
namespace My
open PySem L2
def RowV (H : Hp) (v : V) (row : List Int) : Prop := ∃ t, v = .ref t ∧ H t = some (.lst (row.map V.int))
abbrev Rows (H : Hp) : List V → List (List Int) → Prop := Paired (RowV H)
theorem Rows.mono {H H' : Hp} (g : Same H H') {ts : List V} {rows : List (List Int)} (h : Rows H ts rows) : Rows H' ts rows := Paired.mapP h fun _ _ ⟨t, e, q⟩ => ⟨t, e, g _ _ q⟩
theorem Rows.len {H : Hp} {ts : List V} {rows : List (List Int)} (h : Rows H ts rows) : ts.length = rows.length := Paired.length h
theorem Rows.at' {H : Hp} {ts : List V} {rows : List (List Int)} (h : Rows H ts rows) {i : Nat} {v : V} (e : ts[i]? = some v) : ∃ row, rows[i]? = some row ∧ RowV H v row := Paired.get' h e
theorem Rows.get {H : Hp} {ts : List V} {rows : List (List Int)} (h : Rows H ts rows) {i : Nat} {row : List Int} (e : rows[i]? = some row) : ∃ t, ts[i]? = some (.ref t) ∧ H t = some (.lst (row.map V.int)) := by
  obtain ⟨v, e1, t, rfl, q⟩ := Paired.getR h e
  exact ⟨t, e1, q⟩
theorem Rows.snoc {H : Hp} {ts : List V} {rows : List (List Int)} {v : V} {row : List Int} (h : Rows H ts rows) (hv : RowV H v row) : Rows H (ts ++ [v]) (rows ++ [row]) := by
  induction h with
  | nil => exact .cons hv .nil
  | cons a _ ih => exact .cons a ih
theorem Rows.off {H : Hp} {ts : List V} {rows : List (List Int)} {l : Addr} {o : HO} (h : Rows H ts rows) (hl : V.ref l ∉ ts) : Rows (upd H l o) ts rows := by
  induction h with
  | nil => exact .nil
  | cons a _ ih =>
    obtain ⟨t, rfl, q⟩ := a
    have ne : t ≠ l := fun z => hl (by rw [z]; exact List.mem_cons_self)
    exact .cons ⟨t, rfl, by rw [upd_ne ne]; exact q⟩ (ih fun z => hl (List.mem_cons_of_mem _ z))
theorem Rows.tracked {H : Hp} {ts : List V} {rows : List (List Int)} (h : Rows H ts rows) {l : Addr} (hl : V.ref l ∈ ts) : ∃ row : List Int, H l = some (.lst (row.map V.int)) := by
  induction h with
  | nil => cases hl
  | cons a _ ih =>
    obtain ⟨t, rfl, q⟩ := a
    rcases List.mem_cons.mp hl with z | z
    · cases z
      exact ⟨_, q⟩
    · exact ih z
theorem Rows.notin {H : Hp} {ts : List V} {rows : List (List Int)} (h : Rows H ts rows) {l : Addr} (hl : H l = none) : V.ref l ∉ ts := fun z => by
  obtain ⟨row, q⟩ := h.tracked z
  rw [hl] at q
  cases q
/-- row i's list is changed -/
theorem Rows.put {H : Hp} : ∀ {ts : List V} {rows : List (List Int)} {i : Nat} {t : Addr} {row : List Int}, Rows H ts rows → ts.Nodup → ts[i]? = some (.ref t) → Rows (upd H t (.lst (row.map V.int))) ts (rows.set i row)
  | _, _, _, _, _, .nil, _, e => by simp at e
  | _, _, 0, t, row, .cons a r, nd, e => by
    simp at e
    subst e
    have hn := (List.nodup_cons.mp nd).1
    exact .cons ⟨t, rfl, upd_same⟩ (Rows.off r hn)
  | v :: ts, _ :: rows, i + 1, t, row, .cons a r, nd, e => by
    have hn := (List.nodup_cons.mp nd)
    obtain ⟨t', rfl, q⟩ := a
    have e' : ts[i]? = some (.ref t) := by simpa using e
    have ne : t' ≠ t := fun z => hn.1 (by rw [z]; exact List.mem_of_getElem? e')
    exact .cons ⟨t', rfl, by rw [upd_ne ne]; exact q⟩ (Rows.put r hn.2 e')
structure RotaOk (d : Int) (n m : Nat) (rows : List (List Int)) : Prop where
  len : rows.length = n
  rl : ∀ r ∈ rows, (r.length : Int) = d
  v : ∀ r ∈ rows, ∀ x ∈ r, 0 ≤ x ∧ x ≤ (m : Int)
def val (rows : List (List Int)) (j day : Nat) : Int := ((rows[j]?.getD [])[day]?).getD 0
def held (rows : List (List Int)) (day : Nat) (post : Int) (i : Nat) : List Int := ((List.range i).filter fun j => decide (val rows j day = post)).map fun j : Nat => (j : Int)
structure CopyI (H : Hp) (D : Addr) (rows : List (List Int)) (i : Nat) (H' : Hp) : Prop where
  ex : ∃ us' : List V, us'.length = i ∧ Same H H' ∧ H' D = some (.lst us') ∧ Rows H' us' (rows.take i) ∧ us'.Nodup ∧ ∀ t, V.ref t ∈ us' → t ≠ D ∧ H t = none
theorem CopyI.step {H H' : Hp} {D l : Addr} {rows : List (List Int)} {i : Nat} {row : List Int} (h : CopyI H D rows i H') (hD : H D = none) (hrow : rows[i]? = some row) (hl : H' l = none) (hi : i ≤ 900) :
    ∃ xs, upd H' l (.lst (row.map V.int)) D = some (.lst xs) ∧ xs.length < sizeLine ∧ CopyI H D rows (i + 1) (upd (upd H' l (.lst (row.map V.int))) D (.lst (xs ++ [.ref l]))) := by
  obtain ⟨us', hu, g, e, hR, nd, fr⟩ := h.ex
  have g2 := same_new hl (.lst (row.map V.int))
  have ne : D ≠ l := ne_of_none e hl
  have hlu : V.ref l ∉ us' := hR.notin hl
  refine ⟨us', g2 _ _ e, small1000 (by lia), us' ++ [.ref l], by rw [List.length_append, hu]; rfl, same_upd hD (g.trans g2) _, upd_same, ?_, ?_, fun t ht => ?_⟩
  · refine Rows.off ?_ ?_
    · rw [List.take_add_one, hrow]
      exact Rows.snoc (hR.mono g2) ⟨l, rfl, upd_same⟩
    · intro z
      rcases List.mem_append.mp z with z | z
      · exact (fr D z).1 rfl
      · exact ne (V.ref.inj (List.mem_singleton.mp z))
  · rw [List.nodup_append]
    refine ⟨nd, by simp, fun a ha b hb => ?_⟩
    rw [List.mem_singleton.mp hb]
    exact fun z => hlu (z ▸ ha)
  · rcases List.mem_append.mp ht with z | z
    · exact fr t z
    · have : t = l := V.ref.inj (List.mem_singleton.mp z)
      subst this
      exact ⟨ne.symm, g.free hl⟩
theorem CopyI.done {H H' : Hp} {D : Addr} {rows : List (List Int)} {i : Nat} (h : CopyI H D rows i H') (hi : i = rows.length) :
    ∃ us' : List V, Same H H' ∧ H' D = some (.lst us') ∧ Rows H' us' rows ∧ us'.Nodup ∧ ∀ t, V.ref t ∈ us' → t ≠ D ∧ H t = none := by
  obtain ⟨us', hu, g, e, hR, nd, fr⟩ := h.ex
  rw [hi, List.take_length] at hR
  exact ⟨us', g, e, hR, nd, fr⟩
end My

set_option Elab.async false
set_option linter.all false
set_option maxRecDepth 100000
set_option maxHeartbeats 400000
namespace L2
open PySem PySem.Spec PyProof.Rows
theorem ObjOk.there {P : Program} {w : World} {H : Hp} {h : Heap} {a : Addr} {o : HO} (x : ObjOk P w H h a o) : ∃ ob, h.get? a = some ob := by
  cases o with
  | lst xs => obtain ⟨_, _, _, _, e⟩ := x; exact ⟨_, e⟩
  | tup xs => obtain ⟨_, _, _, ob, e, _⟩ := x; exact ⟨_, e⟩
  | dK kvs => obtain ⟨_, _, _, _, o, _, _, e, _⟩ := x; exact ⟨_, e⟩
  | dT kvs => obtain ⟨_, _, _, _, o, _, _, e, _⟩ := x; exact ⟨_, e⟩
  | set S n => obtain ⟨o, _, _, _, e, _⟩ := x; exact ⟨_, e⟩
  | ins C dx fs => obtain ⟨_, _, _, e, _⟩ := x; exact ⟨_, e⟩
  | own y => exact x
  | xd fs => obtain ⟨_, ⟨o, _, _, e, _⟩, _⟩ := x; exact ⟨_, e⟩
  | rng lo hi => obtain ⟨_, _, _, e⟩ := x; exact ⟨_, e⟩
  | frz ob u => exact ⟨_, x.1⟩
  | tbl ps => exact ⟨_, x⟩
  | met f y => exact ⟨_, x⟩
  | ext φ => exact x.2.1
section
variable {P : Program} {w : World} {l : List Env} {H H' : Hp} {s s' : Shared} {B h'' : Heap} {a : Addr} {cls a0 : Value}
end
section
variable {X : Cx} {pins : List (Addr × Obj)} {σ : St} {H H' : Hp} {s s' : Shared} {B : Heap} {a : Addr} {cls a0 : Value}
end
section
variable {P : Program} {w : World} {K : PySem.W.Frag} {mg : Str → Option Value} {base : Heap} {N : List Str} {qual : Str} {scope : Scope} {f : Addr} {cd : Value} {A : Around} {outer : List Env} {s₀ : Shared} {H₀ : Hp} {E : XK}
end
def tRaise (E : XK) (C : Addr) (ta : TA) : TS := fun _ σ H => ta σ H fun vs H1 => vs.length ≤ sizeLine ∧ E (.ref C) none H1
def tCallX (sp : Sp) (t : TA) : St → Hp → VK → XK → Prop := fun σ H Q E => t σ H fun vs H1 => sp (vs ++ []) H1 Q E
def tDropX (te : St → Hp → VK → XK → Prop) : Ends → St → Hp → XK → Prop := fun D σ H E => te σ H (fun _ H1 => D.nx σ H1) E
def tSetX (i : Nat) (te : St → Hp → VK → XK → Prop) : Ends → St → Hp → XK → Prop := fun D σ H E => te σ H (fun v H1 => D.nx (σ.set i (some v)) H1) E
def tTry0 (C : Addr) (tb : Ends → St → Hp → XK → Prop) (ts to : TS) : TS := fun D σ H => tb { D with nx := to D } σ H fun cls _ H' => cls = .ref C ∧ ts D σ H'
end L2

set_option Elab.async false
set_option linter.all false
set_option maxRecDepth 100000
set_option maxHeartbeats 1000000
namespace My
open PySem L2
def isRow (d : Int) (h : Int) (ps : List Pst) (row : List Int) : Bool := decide ((row.length : Int) = d) && row.all fun v => decide (v ∈ ch h ps)
def rowB (d : Int) (hs : List Int) (ps : List Pst) (rows : List (List Int)) (j : Nat) : Bool := isRow d (hs[j]?.getD 0) ps (rows[j]?.getD [])
end My

set_option Elab.async false
set_option linter.all false
set_option maxRecDepth 100000
set_option maxHeartbeats 400000
namespace L2
open PySem PySem.Spec PySem.Calls PyProof.Rows
/-- what of an own exception class is looked at -/
structure ExcG (K : PySem.W.Frag) (C : Addr) : Prop where
  ga : PySem.W.findIn K (.ref C) "__getattribute__" = some (some (.builtin "BaseException.__getattribute__"))
  cl : PySem.W.findIn K (.ref C) "__class__" = some (some (.builtin "object.__class__"))
  no : PySem.W.findIn K (.ref C) "__getattr__" = some none
  be : PySem.W.mroIn K C (.type "BaseException") = some true
  ob : PySem.W.mroIn K C (.type "object") = some true
section
variable {K : PySem.W.Frag} {prog : Program} {w : World} {A : Around} {E : Value → Shared → Prop} {h : Heap} {g : Array GenState} {d : Drawn} {t : Nat} {os : OsState} {a C : Addr} {o : Obj}
end

theorem ExcG.cls {K : PySem.W.Frag} {C : Addr} (Z : ExcG K C) : ∃ c' d' cd sl, K.lookup C = some ⟨c', d', .cls cd, sl⟩ := by
  have e := Z.be
  unfold PySem.W.mroIn PySem.W.clsIn at e
  split at e
  · rename_i c' d' cd' sl' ho
    exact ⟨_, _, _, _, ho⟩
  · cases e
abbrev IsExc (a C : Addr) (h : Heap) : Prop := ∃ o, h.get? a = some o ∧ o.cls = .ref C
abbrev excO (a C : Addr) : HO := .ext (IsExc a C)
def vO : V → Value
  | .ref a => .ref a
  | .ty n => .type n
  | _ => .none
def rIsx (K : PySem.W.Frag) : List V → Hp → VK → Prop := fun xs H Q => ∃ a D c b, xs = [.ref a, c] ∧ H a = some (excO a D) ∧ ExcG K D ∧ PySem.W.kitOne K (.ref D) (vO c) = some b ∧ Q (.bl b) H
def rExc (C : Addr) : List V → Hp → VK → Prop := fun xs H Q => xs.length ≤ sizeLine ∧ ∀ a, H a = none → Q (.ref a) (upd H a (excO a C))
end L2

set_option Elab.async false
set_option linter.all false
set_option maxRecDepth 100000
set_option maxHeartbeats 1000000
namespace My
open PySem L2 PySem.Spec PyProof.Rows
structure InsG (K : PySem.W.Frag) (C : Addr) : Prop where
  ha : PySem.W.findIn K (.ref C) "__class__" = some (some (.builtin "object.__class__"))
  hn : PySem.W.specialIn K (.builtin "object.__class__") "__get__" = some (some (.builtin "getset_descriptor.__get__"))
  htk : PySem.W.takesIn K (.builtin "object.__class__") = some true
  hm : PySem.W.mroIn K C (.type "object") = some true
def rIsK (K : PySem.W.Frag) : List V → Hp → VK → Prop := fun xs H Q => ∃ a C dx fs c b, xs = [.ref a, c] ∧ H a = some (.ins C dx fs) ∧ Cls K C ∧ InsG K C ∧ PySem.W.kitOne K (.ref C) (vO c) = some b ∧ Q (.bl b) H
section
variable {X : Cx}
def rRng2 : List V → Hp → VK → Prop := fun xs H Q => ∃ i j : Int, xs = [.int i, .int j] ∧ ∀ p, H p = none → Q (.ref p) (upd H p (.rng i j))
def upto (i : Int) (n : Nat) : List Int := (List.range n).map fun k : Nat => i + (k : Int)
def rListR : List V → Hp → VK → Prop := fun xs H Q => ∃ p, ∃ i j : Int, xs = [.ref p] ∧ H p = some (.rng i j) ∧ -1000 ≤ i ∧ i ≤ 1000 ∧ j ≤ 1000 ∧ -1000 ≤ j ∧ ∀ l, H l = none → Q (.ref l) (upd H l (.lst ((upto i (j - i).toNat).map V.int)))
def rStr : List V → Hp → VK → Prop := fun xs H Q => (∃ i : Int, xs = [.int i] ∧ i.natAbs.log2 < 1920 ∧ Q (.str (toString i)) H) ∨ ∃ z, xs = [.str z] ∧ Q (.str z) H
def Its (lo c : Int) (n : Nat) : It := ⟨fun i _ => i < n, fun i H x H' => H' = H ∧ x = .int (lo + i * c), fun i _ => n ≤ i⟩
def iRng3 (ta : TA) : TI := fun σ H R => ta σ H fun vs H1 => ∃ i j : Int, vs = [.int i, .int j, .int 2] ∧ (-1000 ≤ i ∧ i ≤ 1000 ∧ -1000 ≤ j ∧ j ≤ 1000) ∧ R (Its i 2 ((j - i + 1) / 2).toNat) H1
end
end My
namespace My
open PySem L2
end My

set_option Elab.async false
set_option linter.all false
set_option maxRecDepth 100000
set_option maxHeartbeats 400000
namespace L2
open PySem PySem.Spec PySem.Calls PyProof.Rows
/-- what an except looks at: the class W of the text, the class C that flies -/
structure ExcM (K : PySem.W.Frag) (mg : Str → Option Value) (x : Str) (W C : Addr) : Prop where
  at_ : mg x = some (.ref W)
  ty : PySem.W.typeIn K (.ref W) = some (.type "type")
  be : PySem.W.mroIn K W (.type "BaseException") = some true
  sub : PySem.W.mroIn K C (.ref W) = some true
section
variable {X : Cx} {pins : List (Addr × Obj)} {σ : St} {H H' : Hp} {s s' : Shared} {B : Heap} {a : Addr} {cls a0 : Value}
end
/-- the name of an except is gone behind it -/
def Ends.gone (D : Ends) (i : Nat) : Ends := { nx := fun σ H => D.nx (σ.set i none) H, rt := D.rt, bk := fun σ H => D.bk (σ.set i none) H, ct := fun σ H => D.ct (σ.set i none) H }
def tTryA (i : Nat) (K : PySem.W.Frag) (mg : Str → Option Value) (x : Str) (W : Addr) (tb : Ends → St → Hp → XK → Prop) (ts to : TS) : TS := fun D σ H =>
  tb { D with nx := to D } σ H fun cls _ H' => ∃ C, cls = .ref C ∧ ExcM K mg x W C ∧ ∀ a, H' a = none → ts (D.gone i) (σ.set i (some (.ref a))) (upd H' a (excO a C))
end L2

set_option Elab.async false
set_option linter.all false
set_option maxRecDepth 100000
set_option maxHeartbeats 1000000
namespace My
open PySem L2
structure RotaT (d : Int) (hs : List Int) (ps : List Pst) (i : Nat) (rows : List (List Int)) : Prop where
  len : rows.length = i
  ok : ∀ j, j < i → rowB d hs ps rows j = true
section
variable {d : Int} {hs : List Int} {ps : List Pst} {i : Nat} {rows : List (List Int)} {row : List Int} {x : Int}
theorem RotaT.snoc (h : RotaT d hs ps i rows) (hh : hs[i]? = some x) (hr : isRow d x ps row = true) : RotaT d hs ps (i + 1) (rows ++ [row]) := by
  refine ⟨by rw [List.length_append, h.len]; rfl, fun j hj => ?_⟩
  unfold rowB
  by_cases e : j = i
  · subst e
    rw [hh, ← h.len, List.getElem?_append_right (Nat.le_refl _), Nat.sub_self]
    exact hr
  · have hj' : j < i := by lia
    rw [List.getElem?_append_left (by rw [h.len]; exact hj')]
    exact h.ok j hj'
end
section
variable {H : Hp} {us : List V} {rows : List (List Int)} {v : V} {row : List Int}
theorem Rows.ins : ∀ (k : Nat) {us : List V} {rows : List (List Int)}, Rows H us rows → RowV H v row → Rows H (us.take k ++ v :: us.drop k) (rows.take k ++ row :: rows.drop k)
  | 0, _, _, h, hv => .cons hv h
  | _ + 1, _, _, .nil, hv => .cons hv .nil
  | k + 1, _, _, .cons a r, hv => .cons a (Rows.ins k r hv)
theorem nodup_ins {α : Type} {us : List α} {v : α} (k : Nat) (nd : us.Nodup) (hv : v ∉ us) : (us.take k ++ v :: us.drop k).Nodup := by
  refine (List.perm_middle.nodup_iff).mpr ?_
  rw [List.take_append_drop]
  exact List.nodup_cons.mpr ⟨hv, nd⟩
theorem mem_ins {α : Type} {us : List α} {v x : α} {k : Nat} (h : x ∈ us.take k ++ v :: us.drop k) : x = v ∨ x ∈ us := by
  rcases List.mem_append.mp h with z | z
  · exact .inr (List.mem_of_mem_take z)
  · rcases List.mem_cons.mp z with z | z
    · exact .inl z
    · exact .inr (List.mem_of_mem_drop z)
theorem len_ins {α : Type} {us : List α} {v : α} {k : Nat} : (us.take k ++ v :: us.drop k).length = us.length + 1 := by
  rw [List.length_append, List.length_cons, List.length_take, List.length_drop]
  lia
end
def CellV (H : Hp) (v : V) (q : Int × Int) : Prop := ∃ t, v = .ref t ∧ H t = some (.tup [.int q.1, .int q.2])
abbrev Cells (H : Hp) : List V → List (Int × Int) → Prop := Paired (CellV H)
theorem Cells.mono {H H' : Hp} (g : Same H H') {ts : List V} {qs : List (Int × Int)} (h : Cells H ts qs) : Cells H' ts qs := Paired.mapP h fun _ _ ⟨t, e, q⟩ => ⟨t, e, g _ _ q⟩
theorem Cells.len {H : Hp} {ts : List V} {qs : List (Int × Int)} (h : Cells H ts qs) : ts.length = qs.length := Paired.length h
theorem Cells.snoc {H : Hp} {ts : List V} {qs : List (Int × Int)} {v : V} {q : Int × Int} (h : Cells H ts qs) (hv : CellV H v q) : Cells H (ts ++ [v]) (qs ++ [q]) := by
  induction h with
  | nil => exact .cons hv .nil
  | cons a _ ih => exact .cons a ih
theorem Cells.get' {H : Hp} {ts : List V} {qs : List (Int × Int)} (h : Cells H ts qs) {i : Nat} {v : V} (e : ts[i]? = some v) : ∃ q, qs[i]? = some q ∧ CellV H v q := Paired.get' h e
theorem Cells.off {H : Hp} {ts : List V} {qs : List (Int × Int)} {l : Addr} {o : HO} (h : Cells H ts qs) (hl : ∀ xs, H l ≠ some (.tup xs)) : Cells (upd H l o) ts qs := Paired.mapP h fun _ _ ⟨t, e, q⟩ => ⟨t, e, by rw [upd_ne fun z => hl _ (by rw [← z]; exact q)]; exact q⟩
def cl (n k : Nat) : List (Int × Int) := (List.range k).map fun j => (((j % n : Nat) : Int), ((j / n : Nat) : Int))
structure Flt (H : Hp) (r : Addr) (us : List V) (n L : Nat) (H' : Hp) (us' : List V) (rows' : List (List Int)) : Prop where
  fr : ∀ c o, H c = some o → c ≠ r → V.ref c ∉ us → H' c = some o
  at_ : H' r = some (.lst us')
  rs : Rows H' us' rows'
  nd : us'.Nodup
  mem : ∀ t, V.ref t ∈ us' → V.ref t ∈ us ∨ H t = none
  nr : V.ref r ∉ us'
  len : rows'.length ≤ n
  rl : ∀ row ∈ rows', row.length ≤ L
section
variable {H H' H'' : Hp} {r : Addr} {us us' : List V} {rows rows' : List (List Int)} {n L : Nat}
theorem Flt.mono (F : Flt H r us n L H' us' rows') (g : Same H' H'') : Flt H r us n L H'' us' rows' :=
  ⟨fun c o h1 h2 h3 => g _ _ (F.fr c o h1 h2 h3), g _ _ F.at_, F.rs.mono g, F.nd, F.mem, F.nr, F.len, F.rl⟩
theorem Flt.ins {p : Addr} {row : List Int} (k : Nat) (F : Flt H r us n L H' us' rows') (hp : H' p = none) (hr : row.length ≤ L) :
    Flt H r us (n + 1) L (upd (upd H' p (.lst (row.map V.int))) r (.lst (us'.take k ++ .ref p :: us'.drop k))) (us'.take k ++ .ref p :: us'.drop k) (rows'.take k ++ row :: rows'.drop k) := by
  have g := same_new hp (.lst (row.map V.int))
  have npr : p ≠ r := fun z => by rw [z, F.at_] at hp; cases hp
  have hnp : V.ref p ∉ us' := F.rs.notin hp
  have hnr : V.ref r ∉ us'.take k ++ .ref p :: us'.drop k := fun z => by
    rcases mem_ins z with z | z
    · exact npr (V.ref.inj z).symm
    · exact F.nr z
  refine ⟨fun c o h1 h2 h3 => ?_, upd_same, Rows.off (Rows.ins k (F.rs.mono g) ⟨p, rfl, upd_same⟩) hnr, nodup_ins k F.nd hnp, fun t ht => ?_, hnr, ?_, fun y hy => ?_⟩
  · rw [upd_ne h2]
    exact g _ _ (F.fr c o h1 h2 h3)
  · rcases mem_ins ht with z | z
    · have e : t = p := V.ref.inj z
      subst e
      by_cases hu : V.ref t ∈ us
      · exact .inl hu
      · refine .inr ?_
        cases e : H t with
        | none => rfl
        | some o => have := F.fr t o e npr hu; rw [hp] at this; cases this
    · exact F.mem t z
  · rw [len_ins]
    exact Nat.succ_le_succ F.len
  · rcases mem_ins hy with z | z
    · rw [z]; exact hr
    · exact F.rl y z
end
end My

set_option Elab.async false
set_option linter.all false
set_option maxRecDepth 100000
set_option maxHeartbeats 1000000
namespace My
open PySem L2
theorem paired_snoc {α β : Type} {F : α → β → Prop} {xs : List α} {ys : List β} {x : α} {y : β} (h : Paired F xs ys) (hx : F x y) : Paired F (xs ++ [x]) (ys ++ [y]) := by
  induction h with
  | nil => exact .cons hx .nil
  | cons a _ ih => exact .cons a ih
theorem paired_get {α β : Type} {F : α → β → Prop} {xs : List α} {ys : List β} (h : Paired F xs ys) {i : Nat} {y : β} (e : ys[i]? = some y) : ∃ x, xs[i]? = some x ∧ F x y := by
  have hi : i < xs.length := by rw [Paired.length h]; exact (List.getElem?_eq_some_iff.mp e).1
  have e1 : xs[i]? = some xs[i] := List.getElem?_eq_getElem hi
  obtain ⟨y', e2, hf⟩ := Paired.get' h e1
  rw [e] at e2
  cases e2
  exact ⟨_, e1, hf⟩
theorem take_one {α : Type} {xs : List α} {i : Nat} {x : α} (h : xs[i]? = some x) : xs.take (i + 1) = xs.take i ++ [x] := by
  rw [List.take_succ, h]
  rfl
def Tups (H H' : Hp) : Prop := ∀ a xs, H a = some (.tup xs) → H' a = some (.tup xs)
theorem tups_same {H H' : Hp} (g : Same H H') : Tups H H' := fun a xs e => g _ _ e
theorem Tups.trans {H H' H'' : Hp} (g : Tups H H') (g' : Tups H' H'') : Tups H H'' := fun a xs e => g' _ _ (g _ _ e)
theorem tups_upd {H : Hp} {l : Addr} {o : HO} (h : ∀ xs, H l ≠ some (.tup xs)) : Tups H (upd H l o) := fun a xs e => by
  have ne : a ≠ l := fun z => h xs (by rw [← z]; exact e)
  rw [upd_ne ne]; exact e
theorem tups_lst {H : Hp} {l : Addr} {ys : List V} {o : HO} (h : H l = some (.lst ys)) : Tups H (upd H l o) := tups_upd fun xs z => by rw [h] at z; cases z
structure Prt where
  h : Int
  d : Int
  p : Int
  n : Int
def PrtV (H : Hp) (v : V) (q : Prt) : Prop := ∃ t, v = .ref t ∧ H t = some (.tup [.int q.h, .int q.d, .int q.p, .int q.n])
abbrev Prts (H : Hp) : List V → List Prt → Prop := Paired (PrtV H)
theorem Prts.mono {H H' : Hp} (g : Tups H H') {ts : List V} {qs : List Prt} (h : Prts H ts qs) : Prts H' ts qs := Paired.mapP h fun _ _ ⟨t, e, q⟩ => ⟨t, e, g _ _ q⟩
structure Lin where
  ps : List Prt
  b : Int
def LinV (H : Hp) (v : V) (l : Lin) : Prop := ∃ t u ts, v = .ref t ∧ H t = some (.tup [.ref u, .int l.b]) ∧ H u = some (.tup ts) ∧ Prts H ts l.ps
abbrev Lins (H : Hp) : List V → List Lin → Prop := Paired (LinV H)
theorem LinV.mono {H H' : Hp} (g : Tups H H') {v : V} {l : Lin} (h : LinV H v l) : LinV H' v l := by
  obtain ⟨t, u, ts, e, h1, h2, h3⟩ := h
  exact ⟨t, u, ts, e, g _ _ h1, g _ _ h2, h3.mono g⟩
theorem Lins.mono {H H' : Hp} (g : Tups H H') {ts : List V} {ls : List Lin} (h : Lins H ts ls) : Lins H' ts ls := Paired.mapP h fun _ _ => LinV.mono g
theorem Cells.tmono {H H' : Hp} (g : Tups H H') {ts : List V} {qs : List (Int × Int)} (h : Cells H ts qs) : Cells H' ts qs := Paired.mapP h fun _ _ ⟨t, e, q⟩ => ⟨t, e, g _ _ q⟩
end My
namespace My
open PySem L2
def hm (h m : Int) : List (Str × V) := putF "many" (.int m) (putF "hand" (.int h) [])
end My
namespace My
open PySem L2
end My
namespace My
open PySem L2
end My

set_option Elab.async false
set_option linter.all false
set_option maxRecDepth 100000
set_option maxHeartbeats 1000000
namespace My
open PySem L2
def at_ (bs : List Bool) (j : Nat) : Bool := bs[j]?.getD false
end My
namespace My
open PySem L2
theorem RotaOk.setv {d : Int} {n m : Nat} {rows : List (List Int)} (h : RotaOk d n m rows) {i j : Nat} {row : List Int} {v : Int} (hr : rows[i]? = some row) (v0 : 0 ≤ v) (v1 : v ≤ (m : Int)) : RotaOk d n m (rows.set i (row.set j v)) := by
  refine ⟨by rw [List.length_set]; exact h.len, fun r hr' => ?_, fun r hr' x hx => ?_⟩
  · rcases List.mem_or_eq_of_mem_set hr' with z | z
    · exact h.rl r z
    · rw [z, List.length_set]
      exact h.rl row (List.mem_of_getElem? hr)
  · rcases List.mem_or_eq_of_mem_set hr' with z | z
    · exact h.v r z x hx
    · rw [z] at hx
      rcases List.mem_or_eq_of_mem_set hx with y | y
      · exact h.v row (List.mem_of_getElem? hr) x y
      · rw [y]
        exact ⟨v0, v1⟩
/-- a ward, a table of it and its posts -/
def AskV (C : Addr) (n : Nat) (H : Hp) (v : V) : Prop := ∃ (t y r pa : Addr) (d : Int) (hs : List Int) (ps : List Pst) (ts us : List V) (rows : List (List Int)), v = .ref t ∧ H t = some (.tup [.ref y, .ref r, .ref pa]) ∧ WardAt C H y d hs ps ∧ Ok d hs ps ∧ H r = some (.lst us) ∧ Rows H us rows ∧ RotaOk d hs.length ps.length rows ∧ H pa = some (.lst ts) ∧ Posts H ts ps ∧ hs.length = n
theorem AskV.mono {C : Addr} {n : Nat} {H H' : Hp} {v : V} (g : Same H H') (h : AskV C n H v) : AskV C n H' v := by
  obtain ⟨t, y, r, pa, d, hs, ps, ts, us, rows, e, h1, h2, h3, h4, h5, h6, h7, h8, h9⟩ := h
  exact ⟨t, y, r, pa, d, hs, ps, ts, us, rows, e, g _ _ h1, h2.mono g, h3, g _ _ h4, h5.mono g, h6, g _ _ h7, h8.mono g, h9⟩
theorem ixN_lt {n e : Nat} (h : e < n) : ixN n (e : Int) = some e := by
  unfold ixN
  rw [if_pos (by lia), if_pos (by lia), Int.toNat_natCast]
/-- a table's rows, each cut -/
structure CutI (H : Hp) (D : Addr) (rows : List (List Int)) (n i : Nat) (H' : Hp) : Prop where
  ex : ∃ us, Same H H' ∧ H' D = some (.lst us) ∧ Rows H' us ((rows.take i).map fun r => r.take n) ∧ ∀ t, V.ref t ∈ us → t ≠ D
theorem CutI.step {H H' : Hp} {D l : Addr} {rows : List (List Int)} {n i : Nat} {row : List Int} (h : CutI H D rows n i H') (hD : H D = none) (hrow : rows[i]? = some row) (hl : H' l = none) (hi : i ≤ 900) :
    ∃ xs, upd H' l (.lst ((row.take n).map V.int)) D = some (.lst xs) ∧ xs.length < sizeLine ∧ CutI H D rows n (i + 1) (upd (upd H' l (.lst ((row.take n).map V.int))) D (.lst (xs ++ [.ref l]))) := by
  obtain ⟨us, g, e, hR, fr⟩ := h.ex
  have gl := same_new hl (.lst ((row.take n).map V.int))
  have hul := hR.len
  rw [List.length_map, List.length_take] at hul
  refine ⟨us, gl _ _ e, small1000 (by lia), us ++ [.ref l], same_upd hD (g.trans gl) _, upd_same, ?_, fun t ht => ?_⟩
  · rw [take_one hrow, List.map_append]
    refine Rows.off (Rows.snoc (hR.mono gl) ⟨l, rfl, upd_same⟩) fun z => ?_
    rcases List.mem_append.mp z with z | z
    · exact fr D z rfl
    · exact ne_of_none e hl (V.ref.inj (List.mem_singleton.mp z))
  · rcases List.mem_append.mp ht with z | z
    · exact fr t z
    · rw [V.ref.inj (List.mem_singleton.mp z)]
      exact (ne_of_none e hl).symm
def oth (q : Pst) : Pst := (0, q.2.1, 1 - q.2.2)
end My
namespace My
open PySem L2
end My
namespace My
open PySem L2
end My

set_option Elab.async false
set_option linter.all false
set_option maxRecDepth 100000
set_option maxHeartbeats 1000000
namespace My
open PySem L2
def dpI (ps : List Pst) (i : Nat) : List Int := ((List.range i).filter fun j => !ngt ps (j + 1)).map fun j : Nat => 1 + (j : Int)
def dp (ps : List Pst) : List Int := dpI ps ps.length
end My

set_option Elab.async false
set_option linter.all false
set_option maxRecDepth 100000
set_option maxHeartbeats 1000000
namespace L2
open PySem PySem.Spec PyProof.Rows
section
variable {prog : Program} {w : World} {A : Around} {E : Value → Shared → Prop} {s : Shared}
end
section
variable {X : Cx}
/-- t + u of any two tuples -/
def rCatA : R2 := fun x y H Q => ∃ a b xs ys, x = .ref a ∧ y = .ref b ∧ H a = some (.tup xs) ∧ H b = some (.tup ys) ∧ xs.length + ys.length ≤ sizeLine ∧ ∀ t H', L2.Same H H' → H' t = some (.tup (xs ++ ys)) → Q (.ref t) H'
end
end L2
namespace My
open PySem L2
def TupP (H : Hp) (v : V) (l : List Prt) : Prop := ∃ t ts, v = .ref t ∧ H t = some (.tup ts) ∧ Prts H ts l
abbrev Tps (H : Hp) : List V → List (List Prt) → Prop := Paired (TupP H)
theorem TupP.mono {H H' : Hp} (g : Tups H H') {v : V} {l : List Prt} (h : TupP H v l) : TupP H' v l := by
  obtain ⟨t, ts, e, h1, h2⟩ := h
  exact ⟨t, ts, e, g _ _ h1, h2.mono g⟩
theorem Tps.mono {H H' : Hp} (g : Tups H H') {ts : List V} {ls : List (List Prt)} (h : Tps H ts ls) : Tps H' ts ls := Paired.mapP h fun _ _ => TupP.mono g
theorem Tps.get {H : Hp} {us : List V} {ls : List (List Prt)} (h : Tps H us ls) {i : Nat} {l : List Prt} (e : ls[i]? = some l) : ∃ t ts, us[i]? = some (.ref t) ∧ H t = some (.tup ts) ∧ Prts H ts l := by
  obtain ⟨v, hv, t, ts, rfl, h1, h2⟩ := paired_get h e
  exact ⟨t, ts, hv, h1, h2⟩
end My

set_option Elab.async false
set_option linter.all false
set_option maxRecDepth 100000
namespace L2
open PySem PySem.Spec PyProof.Rows

section
variable {κ : Type} [DecidableEq κ]
def valV (kvs : List (κ × V)) (k : κ) : Option V := (kvs.find? fun kv => decide (kv.1 = k)).map (·.2)
/-- in its place, or at the end -/
def putK (kvs : List (κ × V)) (k : κ) (v : V) : List (κ × V) :=
  if (kvs.any fun kv => decide (kv.1 = k)) = true then kvs.map (fun kv => if kv.1 = k then (kv.1, v) else kv) else kvs ++ [(k, v)]
def dropK (kvs : List (κ × V)) (k : κ) : List (κ × V) := kvs.filter fun kv => decide (kv.1 ≠ k)

theorem valV_pos {p : κ × V} {r : List (κ × V)} {k : κ} (e : p.1 = k) : valV (p :: r) k = some p.2 := by simp [valV, List.find?_cons, e]
theorem valV_neg {p : κ × V} {r : List (κ × V)} {k : κ} (e : ¬ p.1 = k) : valV (p :: r) k = valV r k := by simp [valV, List.find?_cons, e]
theorem valV_any (k : κ) : ∀ kvs : List (κ × V), (kvs.any fun kv => decide (kv.1 = k)) = (valV kvs k).isSome
  | [] => rfl
  | p :: r => by
    rw [List.any_cons]
    by_cases e : p.1 = k
    · simp only [valV_pos e, decide_eq_true e, Bool.true_or, Option.isSome_some]
    · rw [valV_neg e, decide_eq_false e, Bool.false_or]; exact valV_any k r
theorem valV_map (k j : κ) (y : V) : ∀ kvs : List (κ × V), valV (kvs.map fun kv => if kv.1 = k then (kv.1, y) else kv) j = (valV kvs j).map fun x => if j = k then y else x
  | [] => rfl
  | p :: r => by
    have ih := valV_map k j y r
    rw [List.map_cons]
    by_cases h : p.1 = k
    · rw [if_pos h]
      by_cases e : p.1 = j
      · rw [valV_pos (p := (p.1, y)) e, valV_pos e, Option.map_some, if_pos (e.symm.trans h)]
      · rw [valV_neg (p := (p.1, y)) e, valV_neg e, ih]
    · rw [if_neg h]
      by_cases e : p.1 = j
      · rw [valV_pos (p := p) e, valV_pos e, Option.map_some, if_neg (fun z => h (e.trans z))]
      · rw [valV_neg (p := p) e, valV_neg e, ih]
theorem valV_snoc (k j : κ) (y : V) : ∀ kvs : List (κ × V), valV kvs k = none → valV (kvs ++ [(k, y)]) j = if j = k then some y else valV kvs j
  | [], _ => by
    by_cases e : k = j
    · rw [if_pos e.symm]; exact valV_pos (p := (k, y)) e
    · rw [if_neg (fun z => e z.symm)]; exact valV_neg (p := (k, y)) e
  | p :: r, hn => by
    rw [List.cons_append]
    have hk : ¬ p.1 = k := fun z => by rw [valV_pos z] at hn; cases hn
    rw [valV_neg hk] at hn
    have ih := valV_snoc k j y r hn
    by_cases e : p.1 = j
    · rw [valV_pos e, valV_pos e, if_neg (fun z => hk (e.trans z))]
    · rw [valV_neg e, valV_neg e, ih]
theorem valV_put (kvs : List (κ × V)) (k j : κ) (y : V) : valV (putK kvs k y) j = if j = k then some y else valV kvs j := by
  unfold putK
  by_cases a : (kvs.any fun kv => decide (kv.1 = k)) = true
  · rw [if_pos a, valV_map]
    rw [valV_any] at a
    by_cases e : j = k
    · obtain ⟨x, hx⟩ := Option.isSome_iff_exists.mp a
      rw [if_pos e, e, hx, Option.map_some, if_pos rfl]
    · rw [if_neg e]
      cases valV kvs j with
      | none => rfl
      | some x => rw [Option.map_some, if_neg e]
  · rw [if_neg a]
    refine valV_snoc k j y kvs ?_
    rw [valV_any] at a
    cases q : valV kvs k with
    | none => rfl
    | some x => rw [q] at a; exact (a rfl).elim
theorem length_putK (kvs : List (κ × V)) (k : κ) (v : V) : (putK kvs k v).length ≤ kvs.length + 1 := by
  unfold putK
  split
  · rw [List.length_map]; omega
  · rw [List.length_append, List.length_cons, List.length_nil]; omega
theorem RelO.isSome_eq {o : Option V} {u : Option Value} (r : RelO o u) : o.isSome = u.isSome := by
  cases o with
  | none => cases u with
    | none => rfl
    | some _ => exact (show False from r).elim
  | some _ => cases u with
    | none => exact (show False from r).elim
    | some _ => rfl
theorem RelO.getD {o : Option V} {u : Option Value} {d : V} {d' : Value} (r : RelO o u) (rd : RelV d d') : RelV (o.getD d) (u.getD d') := by
  cases o with
  | none => cases u with
    | none => exact rd
    | some _ => exact (show False from r).elim
  | some _ => cases u with
    | none => exact (show False from r).elim
    | some _ => exact r

/-- raw tables of the same keys -/
theorem KV.val {kvs : List (κ × V)} {vs : List (κ × Value)} (r : KV kvs vs) (k : κ) : RelO (valV kvs k) (valueAt vs k) := by
  unfold KV at r
  induction r with
  | nil => exact True.intro
  | @cons p q ps qs h t ih =>
    obtain ⟨h1, h2⟩ := h
    by_cases e : p.1 = k
    · have e' : q.1 = k := h1.symm.trans e
      have b : valueAt (q :: qs) k = some q.2 := by simp [valueAt, List.find?_cons, e']
      rw [valV_pos e, b]; exact h2
    · have e' : ¬ q.1 = k := fun z => e (h1.trans z)
      have b : valueAt (q :: qs) k = valueAt qs k := by simp [valueAt, List.find?_cons, e']
      rw [valV_neg e, b]; exact ih
theorem KV.any {kvs : List (κ × V)} {vs : List (κ × Value)} (r : KV kvs vs) (k : κ) : (kvs.any fun kv => decide (kv.1 = k)) = vs.any fun kv => decide (kv.1 = k) := by
  unfold KV at r
  induction r with
  | nil => rfl
  | cons h t ih => rw [List.any_cons, List.any_cons, ih, h.1]
theorem KV.repl {kvs : List (κ × V)} {vs : List (κ × Value)} (r : KV kvs vs) (k : κ) {y : V} {u : Value} (ry : RelV y u) :
    KV (kvs.map fun kv => if kv.1 = k then (kv.1, y) else kv) (vs.map fun kv => if kv.1 = k then (kv.1, u) else kv) := by
  unfold KV at r ⊢
  induction r with
  | nil => exact .nil
  | @cons p q ps qs h t ih =>
    rw [List.map_cons, List.map_cons]
    refine .cons ?_ ih
    obtain ⟨h1, h2⟩ := h
    by_cases e : p.1 = k
    · rw [if_pos e, if_pos (h1.symm.trans e)]; exact ⟨h1, ry⟩
    · rw [if_neg e, if_neg (fun z => e (h1.trans z))]; exact ⟨h1, h2⟩
theorem KV.put {kvs : List (κ × V)} {vs : List (κ × Value)} (r : KV kvs vs) (k : κ) {y : V} {u : Value} (ry : RelV y u) : KV (putK kvs k y) (stored vs k u) := by
  unfold putK stored
  rw [r.any k]
  by_cases e : (vs.any fun kv => decide (kv.1 = k)) = true
  · rw [if_pos e, if_pos e]; exact r.repl k ry
  · rw [if_neg e, if_neg e]; exact Paired.snoc r ⟨rfl, ry⟩
theorem KV.drop {kvs : List (κ × V)} {vs : List (κ × Value)} (r : KV kvs vs) (k : κ) : KV (dropK kvs k) (without vs k) := by
  unfold KV at r ⊢
  unfold dropK without
  induction r with
  | nil => exact .nil
  | @cons p q ps qs h t ih =>
    obtain ⟨h1, h2⟩ := h
    rw [List.filter_cons, List.filter_cons]
    by_cases e : p.1 = k
    · have a : ¬ decide (p.1 ≠ k) = true := by simp [e]
      have b : ¬ decide (q.1 ≠ k) = true := by simp [h1.symm.trans e]
      rw [if_neg a, if_neg b]; exact ih
    · have e' : ¬ q.1 = k := fun z => e (h1.trans z)
      have a : decide (p.1 ≠ k) = true := by simp [e]
      have b : decide (q.1 ≠ k) = true := by simp [e']
      rw [if_pos a, if_pos b]; exact .cons ⟨h1, h2⟩ ih
theorem KV.length {kvs : List (κ × V)} {vs : List (κ × Value)} (r : KV kvs vs) : kvs.length = vs.length := Paired.length r
end


/-- raw entries of a dict with tuple keys -/
abbrev KT (H : Hp) : List (List Key × V) → List (List Key × Addr × Value) → Prop := Paired fun p q => p.1 = q.1 ∧ H q.2.1 = some (.tup (p.1.map kV)) ∧ RelV p.2 q.2.2
theorem KT.val {H : Hp} {kvs : List (List Key × V)} {xs : List (List Key × Addr × Value)} (r : KT H kvs xs) (k : List Key) : RelO (valV kvs k) ((atKey xs k).map (·.2)) := by
  induction r with
  | nil => exact True.intro
  | @cons p q ps qs h t ih =>
    obtain ⟨h1, _, h2⟩ := h
    by_cases e : p.1 = k
    · have e' : q.1 = k := h1.symm.trans e
      have b : atKey (q :: qs) k = some q.2 := by simp [atKey, List.find?_cons, e']
      rw [valV_pos e, b]; exact h2
    · have e' : ¬ q.1 = k := fun z => e (h1.trans z)
      have b : atKey (q :: qs) k = atKey qs k := by simp [atKey, List.find?_cons, e']
      rw [valV_neg e, b]; exact ih
theorem KT.repl {H : Hp} {kvs : List (List Key × V)} {xs : List (List Key × Addr × Value)} (r : KT H kvs xs) (k : List Key) {y : V} {u : Value} (ry : RelV y u) :
    KT H (kvs.map fun kv => if kv.1 = k then (kv.1, y) else kv) (xs.map (putAt k u)) := by
  induction r with
  | nil => exact .nil
  | @cons p q ps qs h t ih =>
    rw [List.map_cons, List.map_cons]
    refine .cons ?_ ih
    obtain ⟨h1, h2, h3⟩ := h
    unfold putAt
    by_cases e : p.1 = k
    · rw [if_pos e, if_pos (h1.symm.trans e)]; exact ⟨h1, h2, ry⟩
    · rw [if_neg e, if_neg (fun z => e (h1.trans z))]; exact ⟨h1, h2, h3⟩
theorem KT.put {H : Hp} {kvs : List (List Key × V)} {xs : List (List Key × Addr × Value)} (r : KT H kvs xs) (k : List Key) {b : Addr} {y : V} {u : Value} (hb : H b = some (.tup (k.map kV))) (ry : RelV y u) :
    KT H (putK kvs k y) (storedH xs k b u) := by
  have e : (kvs.any fun kv => decide (kv.1 = k)) = (atKey xs k).isSome := by
    rw [valV_any, (r.val k).isSome_eq, Option.isSome_map]
  unfold putK storedH
  rw [e]
  by_cases q : (atKey xs k).isSome = true
  · rw [if_pos q, if_pos q]; exact r.repl k ry
  · rw [if_neg q, if_neg q]; exact Paired.snoc r ⟨rfl, hb, ry⟩
theorem KT.keeps {H H' : Hp} {kvs : List (List Key × V)} {xs : List (List Key × Addr × Value)} (r : KT H kvs xs) (ht : ∀ b ys, H b = some (.tup ys) → H' b = some (.tup ys)) : KT H' kvs xs :=
  Paired.mapP r fun _ _ z => ⟨z.1, ht _ _ z.2.1, z.2.2⟩

section
variable {P : Program} {w : World} {H : Hp} {h : Heap} {a : Addr}
end

/-- what the dict at a holds at the key y -/
def DGet (H : Hp) (a : Addr) (y : V) (r : Option V) : Prop :=
  (∃ kvs k, Rd H a (.dK kvs) ∧ y = kV k ∧ r = valV kvs k) ∨ ∃ kvs k b, Rd H a (.dT kvs) ∧ y = .ref b ∧ H b = some (.tup (k.map kV)) ∧ r = valV kvs k
/-- the heap behind a[y] = v -/
def DPut (H : Hp) (a : Addr) (y v : V) (H' : Hp) : Prop :=
  (∃ kvs k, H a = some (.dK kvs) ∧ y = kV k ∧ kvs.length < sizeLine ∧ H' = upd H a (.dK (putK kvs k v))) ∨
  ∃ kvs k b, H a = some (.dT kvs) ∧ y = .ref b ∧ H b = some (.tup (k.map kV)) ∧ kvs.length < sizeLine ∧ H' = upd H a (.dT (putK kvs k v))
theorem DGet.k {H : Hp} {a : Addr} {kvs : List (Key × V)} {k : Key} (e : H a = some (.dK kvs)) : DGet H a (kV k) (valV kvs k) := .inl ⟨kvs, k, .inl e, rfl, rfl⟩
theorem DGet.t {H : Hp} {a b : Addr} {kvs : List (List Key × V)} {k : List Key} (e : H a = some (.dT kvs)) (eb : H b = some (.tup (k.map kV))) : DGet H a (.ref b) (valV kvs k) := .inr ⟨kvs, k, b, .inl e, rfl, eb, rfl⟩
theorem DPut.k {H : Hp} {a : Addr} {kvs : List (Key × V)} {k : Key} {v : V} (e : H a = some (.dK kvs)) (hl : kvs.length < sizeLine) : DPut H a (kV k) v (upd H a (.dK (putK kvs k v))) := .inl ⟨kvs, k, e, rfl, hl, rfl⟩
theorem DPut.t {H : Hp} {a b : Addr} {kvs : List (List Key × V)} {k : List Key} {v : V} (e : H a = some (.dT kvs)) (eb : H b = some (.tup (k.map kV))) (hl : kvs.length < sizeLine) :
    DPut H a (.ref b) v (upd H a (.dT (putK kvs k v))) := .inr ⟨kvs, k, b, e, rfl, eb, hl, rfl⟩


section
variable {X : Cx} {pins : List (Addr × Obj)} {σ : St} {H : Hp} {s : Shared} {a : Addr} {y v : V} {u r : Value} {o : Option V} {A : Around} {E : Value → Shared → Prop}

end

section
variable {X : Cx} {pins : List (Addr × Obj)} {σ : St} {H : Hp} {s : Shared} {a : Addr} {kvs : List (Key × V)} {k : Key} {u : Value} {A : Around} {E : Value → Shared → Prop}
end


/-- d[y] -/
def tDGet (td ty : TE) : TE := fun σ H Q => td σ H fun x H1 => ty σ H1 fun y H2 => ∃ a v, x = .ref a ∧ DGet H2 a y (some v) ∧ Q v H2
/-- y in d, y not in d -/
def tDIn (ty td : TE) : TE := fun σ H Q => ty σ H fun y H1 => td σ H1 fun x H2 => ∃ a o, x = .ref a ∧ DGet H2 a y o ∧ Q (.bl o.isSome) H2
def tDNotIn (ty td : TE) : TE := fun σ H Q => ty σ H fun y H1 => td σ H1 fun x H2 => ∃ a o, x = .ref a ∧ DGet H2 a y o ∧ Q (.bl (!o.isSome)) H2
/-- d[y] = v -/
def sDPut (td ty tv : TE) : TS := fun D σ H => tv σ H fun v H1 => td σ H1 fun x H2 => ty σ H2 fun y H3 => ∃ a H4, x = .ref a ∧ DPut H3 a y v H4 ∧ D.nx σ H4
section
variable {X : Cx} {o i e value : Expr} {pos pos' tpos : Pos} {td ty tv : TE}
end


def tDNewT : TE := fun _ H Q => ∀ p, H p = none → Q (.ref p) (upd H p (.dT []))
section
variable {X : Cx} {pos : Pos}
end

/-- a is a dict, whatever its keys -/
def IsD (H : Hp) (a : Addr) : Prop := (∃ kvs, Rd H a (.dK kvs)) ∨ ∃ kvs, Rd H a (.dT kvs)
section
variable {X : Cx} {pins : List (Addr × Obj)} {σ : St} {H : Hp} {s : Shared} {a : Addr} {y d : V} {u r : Value} {o : Option V} {A : Around} {E : Value → Shared → Prop}
end

def tDGet2 (td ty tx : TE) : TE := fun σ H Q => td σ H fun x H1 => ∃ a, x = .ref a ∧ IsD H1 a ∧ ty σ H1 fun y H2 => tx σ H2 fun z H3 => ∃ o, DGet H3 a y o ∧ Q (o.getD z) H3
section
variable {X : Cx} {o e f : Expr} {apos cpos : Pos} {td ty tx : TE}
end

section
variable {X : Cx} {pins : List (Addr × Obj)} {σ : St} {H : Hp} {s : Shared} {a : Addr} {kvs : List (Key × V)} {A : Around} {E : Value → Shared → Prop}
end


section
variable {X : Cx} {pins : List (Addr × Obj)} {σ : St} {H : Hp} {s : Shared} {a : Addr} {y : V} {u : Value} {A : Around} {E : Value → Shared → Prop}
end
end L2

set_option Elab.async false
set_option linter.all false
set_option maxRecDepth 100000
set_option maxHeartbeats 1000000
namespace L2
open PySem PySem.Spec PyProof.Rows
section
variable {prog : Program} {w : World} {A : Around} {E : Value → Shared → Prop} {s : Shared} {it d : Addr} {i ep : Nat} {es : Array DictEntry} {o : Obj}
end
/-- the keys of the dict at d, which stays the very object ob -/
def Itd (d : Addr) (ob : Obj) (kvs : List (List Key × V)) : It :=
  ⟨fun i H => H d = some (.frz ob (.dT kvs)) ∧ i < kvs.length, fun i H x H' => H' = H ∧ ∃ b k v, kvs[i]? = some (k, v) ∧ x = .ref b ∧ H b = some (.tup (k.map kV)), fun i H => H d = some (.frz ob (.dT kvs)) ∧ kvs.length ≤ i⟩
section
variable {X : Cx} {pins : List (Addr × Obj)} {σ : St} {H : Hp} {s : Shared} {d : Addr} {kvs : List (List Key × V)}
end
def iDT (te : TE) : TI := fun σ H R => te σ H fun x H1 => ∃ d kvs, x = .ref d ∧ H1 d = some (.dT kvs) ∧ ∀ ob, R (Itd d ob kvs) (upd H1 d (.frz ob (.dT kvs)))
/-- behind the loop the dict is as it was -/
def tThaw (H0 : Hp) (t : TS) : TS := fun D σ H => ∃ d ob kvs, H d = some (.frz ob (.dT kvs)) ∧ (∀ o u, H0 d ≠ some (.frz o u)) ∧ t D σ (upd H d (.dT kvs))
end L2
namespace My
open PySem L2
end My

set_option Elab.async false
set_option linter.all false
set_option maxRecDepth 100000
set_option maxHeartbeats 1000000
namespace L2
open PySem PySem.Spec PyProof.Rows
variable {X : Cx}
def rIsd : List V → Hp → VK → Prop := fun xs H Q => ∃ a kvs, xs = [.ref a, .ty "dict"] ∧ H a = some (.dT kvs) ∧ Q (.bl true) H
def rClearT : V → List V → Hp → VK → Prop := fun x vs H Q => ∃ a kvs, x = .ref a ∧ vs = [] ∧ H a = some (.dT kvs) ∧ Q .non (upd H a (.dT []))
end L2

set_option Elab.async false
set_option linter.all false
set_option maxRecDepth 100000
set_option maxHeartbeats 1000000
namespace My
open PySem L2
end My

set_option Elab.async false
set_option linter.all false
set_option maxRecDepth 100000
set_option maxHeartbeats 1000000
namespace L2
open PySem PySem.Spec PyProof.Rows
def Itz (K : PySem.W.Frag) (a b : Addr) : It :=
  ⟨fun i H => ∃ xs ys x y, SqL K H a xs ∧ SqL K H b ys ∧ xs[i]? = some x ∧ ys[i]? = some y,
   fun i H v H' => ∃ t x y, v = .ref t ∧ H t = none ∧ H' = upd H t (.tup [x, y]) ∧ (∀ xs, SqL K H a xs → xs[i]? = some x) ∧ (∀ ys, SqL K H b ys → ys[i]? = some y),
   fun i H => ∃ xs ys, SqL K H a xs ∧ SqL K H b ys ∧ (xs[i]? = none ∨ ys[i]? = none)⟩
section
variable {X : Cx} {pins : List (Addr × Obj)} {σ : St} {H : Hp} {s : Shared}
end
def iZip (K : PySem.W.Frag) (ta : TA) : TI := fun σ H R => ta σ H fun vs H1 => ∃ a b, vs = [.ref a, .ref b] ∧ (∃ xs, SqL K H1 a xs) ∧ (∃ ys, SqL K H1 b ys) ∧ R (Itz K a b) H1
end L2

set_option Elab.async false
set_option linter.all false
set_option maxRecDepth 100000
set_option maxHeartbeats 1000000
namespace My
open PySem L2
def ho (h o : Int) : List (Str × V) := putF "other" (.int o) (putF "hand" (.int h) [])
end My
namespace My
open PySem L2
/-- a ward, a table of it and how many posts it has -/
def AskC (C : Addr) (n : Nat) (H : Hp) (v : V) : Prop := ∃ (t y r : Addr) (d : Int) (hs : List Int) (ps : List Pst) (us : List V) (rows : List (List Int)), v = .ref t ∧ H t = some (.tup [.ref y, .ref r, .int ps.length]) ∧ WardAt C H y d hs ps ∧ Ok d hs ps ∧ H r = some (.lst us) ∧ Rows H us rows ∧ RotaOk d hs.length ps.length rows ∧ hs.length = n
theorem AskC.mono {C : Addr} {n : Nat} {H H' : Hp} {v : V} (g : Same H H') (h : AskC C n H v) : AskC C n H' v := by
  obtain ⟨t, y, r, d, hs, ps, us, rows, e, h1, h2, h3, h4, h5, h6, h7⟩ := h
  exact ⟨t, y, r, d, hs, ps, us, rows, e, g _ _ h1, h2.mono g, h3, g _ _ h4, h5.mono g, h6, h7⟩
end My

set_option Elab.async false
set_option linter.all false
namespace My
open PySem L2
end My

set_option Elab.async false
set_option linter.all false
set_option maxRecDepth 100000
set_option maxHeartbeats 4000000
namespace My
open PySem L2
def plN (n : Nat) (k : Nat) : List Nat := (List.range k).filter fun i => n.testBit i
/-- the places of a set below 2 ^ 40 -/
def pl (n : Int) : List Int := (plN n.toNat 40).map fun i : Nat => (i : Int)
/-- n is the number of the places ps -/
def IsNum (ps : List Int) (n : Int) : Prop := 0 ≤ n ∧ ∀ i : Nat, n.toNat.testBit i = true ↔ (i : Int) ∈ ps
theorem IsNum.lt {ps : List Int} {n : Int} (h : IsNum ps n) (hp : ∀ p ∈ ps, p < 40) : n < 2 ^ 40 := by
  have : n.toNat < 2 ^ 40 := Nat.lt_pow_two_of_testBit _ fun i hi => by
    cases q : n.toNat.testBit i with
    | false => rfl
    | true =>
      have := hp _ ((h.2 i).mp q)
      lia
  have e : (2 : Int) ^ 40 = 1099511627776 := by decide
  have e' : (2 : Nat) ^ 40 = 1099511627776 := by decide
  lia
theorem or_is {x y : Int} (hx : 0 ≤ x) (hy : 0 ≤ y) : Builtin.bitOr x y = ((x.toNat ||| y.toNat : Nat) : Int) := by
  rw [PyProof.Rows.bitOr_and, PyProof.Rows.bitAnd_pp hx hy]
  have e := PyProof.Rows.nat_or_add_and x.toNat y.toNat
  omega
theorem IsNum.snoc {ps : List Int} {n p : Int} (h : IsNum ps n) (hp : 0 ≤ p) : IsNum (ps ++ [p]) (Builtin.bitOr n (1 * 2 ^ p.toNat)) := by
  have hn := h.1
  have e : (1 * 2 ^ p.toNat : Int) = ((2 ^ p.toNat : Nat) : Int) := by simp
  have h2 : (0 : Int) ≤ 1 * 2 ^ p.toNat := by rw [e]; exact Int.natCast_nonneg _
  rw [or_is hn h2, e]
  refine ⟨Int.natCast_nonneg _, fun i => ?_⟩
  simp only [Int.toNat_natCast, Nat.testBit_or, Bool.or_eq_true, List.mem_append, List.mem_singleton, Nat.testBit_two_pow, decide_eq_true_eq]
  rw [h.2 i]
  constructor
  · rintro (z | z)
    · exact .inl z
    · exact .inr (by lia)
  · rintro (z | z)
    · exact .inl z
    · exact .inr (by lia)
end My

set_option Elab.async false
set_option linter.all false
set_option maxRecDepth 100000
set_option maxHeartbeats 1000000
namespace My
open PySem L2
end My
namespace My
open PySem L2
def wf3 (d p m : Int) : List (Str × V) := putF "many" (.int m) (putF "post" (.int p) (putF "day" (.int d) []))
def af2 (h s : Int) : List (Str × V) := putF "days" (.int s) (putF "hand" (.int h) [])
end My
namespace My
open PySem L2
end My
namespace My
open PySem L2
def line (ps : List Int) : Str := if ps = [] then ("-" : Str) else PySem.Txt.join ("," : Str) (ps.map fun i : Int => ((toString i : String) : Str))
end My

set_option Elab.async false
set_option linter.all false
set_option maxRecDepth 100000
set_option maxHeartbeats 1000000
namespace My
open PySem L2
end My

set_option Elab.async false
set_option linter.all false
set_option maxRecDepth 100000
set_option maxHeartbeats 1000000
namespace My
open PySem L2 PySem.Spec
end My

set_option Elab.async false
set_option linter.all false
set_option maxRecDepth 100000
set_option maxHeartbeats 1000000
namespace My
open PySem L2 PySem.Spec
def AskW (C : Addr) (n m : Nat) (d0 : Int) (H : Hp) (v : V) : Prop := ∃ (t y r : Addr) (d : Int) (hs : List Int) (ps : List Pst) (us : List V) (rows : List (List Int)), v = .ref t ∧ H t = some (.tup [.ref y, .ref r]) ∧ WardAt C H y d hs ps ∧ Ok d hs ps ∧ H r = some (.lst us) ∧ Rows H us rows ∧ RotaOk d hs.length ps.length rows ∧ n ≤ hs.length ∧ m + hs.length = ps.length + n ∧ d0 ≤ d
theorem AskW.mono {C : Addr} {n m : Nat} {d0 : Int} {H H' : Hp} {v : V} (g : Same H H') (h : AskW C n m d0 H v) : AskW C n m d0 H' v := by
  obtain ⟨t, y, r, d, hs, ps, us, rows, e, h1, h2, h3, h4, h5, h6, h7⟩ := h
  exact ⟨t, y, r, d, hs, ps, us, rows, e, g _ _ h1, h2.mono g, h3, g _ _ h4, h5.mono g, h6, h7⟩
end My

set_option Elab.async false
set_option linter.all false
set_option maxRecDepth 100000
set_option maxHeartbeats 1000000
namespace My
open PySem L2 PySem.Spec
end My

set_option Elab.async false
set_option linter.all false
set_option maxRecDepth 100000
set_option maxHeartbeats 1000000
namespace My
open PySem L2 PySem.Spec
def mf3 (h s m : Int) : List (Str × V) := putF "many" (.int m) (putF "days" (.int s) (putF "hand" (.int h) []))
def qf3 (h l m : Int) : List (Str × V) := putF "most" (.int m) (putF "least" (.int l) (putF "hand" (.int h) []))
end My

set_option Elab.async false
set_option linter.all false
set_option maxRecDepth 100000
set_option maxHeartbeats 1000000
namespace My
open PySem L2
def kk (h d p : Int) : List Key := [Sum.inl h, Sum.inl d, Sum.inl p]
def iv : Option V → Int
  | some (.int i) => i
  | _ => 0
def addP (t : Int) (kvs : List (List Key × V)) (q : Prt) : List (List Key × V) := putK kvs (kk q.h q.d q.p) (.int (iv (valV kvs (kk q.h q.d q.p)) + q.n * t))
def addL (kvs : List (List Key × V)) (l : Lin × Int) : List (List Key × V) := l.1.ps.foldl (addP l.2) kvs
def sumKv (ls : List (Lin × Int)) : List (List Key × V) := ls.foldl addL []
def sumB (ls : List (Lin × Int)) : Int := (ls.map fun l => l.1.b * l.2).sum
def AllI (kvs : List (List Key × V)) : Prop := ∀ k v, valV kvs k = some v → ∃ i : Int, v = .int i
theorem allI_nil : AllI [] := fun k v h => by cases h
theorem allI_put {kvs : List (List Key × V)} (h : AllI kvs) (k : List Key) (i : Int) : AllI (putK kvs k (.int i)) := fun j v e => by
  rw [valV_put] at e
  by_cases z : j = k
  · rw [if_pos z] at e
    cases e
    exact ⟨i, rfl⟩
  · rw [if_neg z] at e
    exact h j v e
def Keys (kvs : List (List Key × V)) : Prop := (kvs.map (·.1)).Nodup
theorem keys_put {kvs : List (List Key × V)} (h : Keys kvs) (k : List Key) (v : V) : Keys (putK kvs k v) := by
  unfold Keys putK at *
  split
  · have e : (kvs.map fun kv => if kv.1 = k then (kv.1, v) else kv).map (·.1) = kvs.map (·.1) := by
      rw [List.map_map]
      refine List.map_congr_left fun kv _ => ?_
      show (if kv.1 = k then (kv.1, v) else kv).1 = kv.1
      split <;> rfl
    rw [e]
    exact h
  · rename_i hn
    rw [List.map_append, List.nodup_append]
    refine ⟨h, by simp, fun a ha b hb => ?_⟩
    rw [show b = k by simpa using hb]
    intro z
    obtain ⟨kv, hkv, rfl⟩ := List.mem_map.mp ha
    exact hn (List.any_eq_true.mpr ⟨kv, hkv, decide_eq_true z⟩)
def PrV (H : Hp) (v : V) (l : Lin × Int) : Prop := ∃ t u, v = .ref t ∧ H t = some (.tup [.ref u, .int l.2]) ∧ LinV H (.ref u) l.1
abbrev Prs (H : Hp) : List V → List (Lin × Int) → Prop := Paired (PrV H)
theorem PrV.mono {H H' : Hp} (g : Tups H H') {v : V} {l : Lin × Int} (h : PrV H v l) : PrV H' v l := by
  obtain ⟨t, u, e, h1, h2⟩ := h
  exact ⟨t, u, e, g _ _ h1, h2.mono g⟩
theorem Prs.mono {H H' : Hp} (g : Tups H H') {ts : List V} {ls : List (Lin × Int)} (h : Prs H ts ls) : Prs H' ts ls := Paired.mapP h fun _ _ => PrV.mono g
end My

set_option Elab.async false
set_option linter.all false
set_option maxRecDepth 100000
set_option maxHeartbeats 1000000
namespace L2
open PySem PySem.Spec PyProof.Rows
section
variable {prog : Program} {w : World} {A : Around} {E : Value → Shared → Prop} {s : Shared}
end
end L2

set_option Elab.async false
set_option linter.all false
set_option maxRecDepth 100000
set_option maxHeartbeats 1000000
namespace L2
open PySem
end L2
namespace L2
open PySem
end L2
namespace My
open PySem L2
/-- a list of lists under way -/
structure Gath (H : Hp) (L : Addr) (Pr : List Int → Prop) (i : Nat) (H' : Hp) : Prop where
  ex : ∃ (us : List V) (rows : List (List Int)), rows.length = i ∧ Same H H' ∧ H' L = some (.lst us) ∧ Rows H' us rows ∧ (∀ row ∈ rows, Pr row) ∧ ∀ t, V.ref t ∈ us → t ≠ L ∧ H t = none
theorem Gath.step {H H' H2 : Hp} {L l : Addr} {Pr : List Int → Prop} {i : Nat} {row : List Int} (h : Gath H L Pr i H') (hL : H L = none) (hi : i ≤ 900) (g2 : Same H' H2) (hl : H' l = none) (hl2 : H2 l = some (.lst (row.map V.int))) (hp : Pr row) :
    ∃ xs, H2 L = some (.lst xs) ∧ xs.length < sizeLine ∧ Gath H L Pr (i + 1) (upd H2 L (.lst (xs ++ [.ref l]))) := by
  obtain ⟨us, rows, hr, g, e, hR, hP, fr⟩ := h.ex
  have hul := hR.len
  have ne : L ≠ l := ne_of_none e hl
  refine ⟨us, g2 _ _ e, small1000 (by lia), us ++ [.ref l], rows ++ [row], by rw [List.length_append, hr]; rfl, same_upd hL (g.trans g2) _, upd_same, ?_, fun r hr' => ?_, fun t ht => ?_⟩
  · refine Rows.off (Rows.snoc (hR.mono g2) ⟨l, rfl, hl2⟩) fun z => ?_
    rcases List.mem_append.mp z with z | z
    · exact (fr L z).1 rfl
    · exact ne (V.ref.inj (List.mem_singleton.mp z))
  · rcases List.mem_append.mp hr' with z | z
    · exact hP r z
    · rw [List.mem_singleton.mp z]; exact hp
  · rcases List.mem_append.mp ht with z | z
    · exact fr t z
    · rw [V.ref.inj (List.mem_singleton.mp z)]
      exact ⟨ne.symm, g.free hl⟩
/-- a list of pairs under way -/
structure GatC (H : Hp) (L : Addr) (Pr : Int × Int → Prop) (i : Nat) (H' : Hp) : Prop where
  ex : ∃ (ts : List V) (qs : List (Int × Int)), qs.length = i ∧ Same H H' ∧ H' L = some (.lst ts) ∧ Cells H' ts qs ∧ ∀ q ∈ qs, Pr q
theorem GatC.step {H H' : Hp} {L t : Addr} {Pr : Int × Int → Prop} {i : Nat} {a b : Int} (h : GatC H L Pr i H') (hL : H L = none) (hi : i ≤ 900) (ht : H' t = none) (hp : Pr (a, b)) :
    ∃ xs, upd H' t (.tup [.int a, .int b]) L = some (.lst xs) ∧ xs.length < sizeLine ∧ GatC H L Pr (i + 1) (upd (upd H' t (.tup [.int a, .int b])) L (.lst (xs ++ [.ref t]))) := by
  obtain ⟨ts, qs, hr, g, e, hC, hP⟩ := h.ex
  have htl := hC.len
  have gt := same_new ht (.tup [.int a, .int b])
  refine ⟨ts, gt _ _ e, small1000 (by lia), ts ++ [.ref t], qs ++ [(a, b)], by rw [List.length_append, hr]; rfl, same_upd hL (g.trans gt) _, upd_same, ?_, fun r hr' => ?_⟩
  · refine Cells.off (Cells.snoc (hC.mono gt) ⟨t, rfl, upd_same⟩) fun xs z => ?_
    rw [gt _ _ e] at z
    cases z
  · rcases List.mem_append.mp hr' with z | z
    · exact hP r z
    · rw [List.mem_singleton.mp z]; exact hp
/-- a row of a stage -/
def RowOk (m : Nat) (row : List Int) : Prop := row.Nodup ∧ row.length ≤ 20 ∧ ∀ x ∈ row, 0 ≤ x ∧ x < (m : Int)
theorem RowOk.take {m : Nat} {row : List Int} (h : RowOk m row) (k : Nat) : RowOk m (row.take k) :=
  ⟨h.1.sublist (List.take_sublist _ _), Nat.le_trans (by rw [List.length_take]; lia) h.2.1, fun x hx => h.2.2 x (List.mem_of_mem_take hx)⟩
end My
namespace My
open PySem L2
end My

set_option Elab.async false
set_option linter.all false
set_option maxRecDepth 100000
set_option maxHeartbeats 1000000
namespace My
open PySem L2
theorem Rows.keep {H H' : Hp} {ts : List V} {rows : List (List Int)} (h : Rows H ts rows) : (∀ t o, V.ref t ∈ ts → H t = some o → H' t = some o) → Rows H' ts rows := by
  induction h with
  | nil => exact fun _ => .nil
  | cons a _ ih =>
    obtain ⟨t, rfl, q⟩ := a
    exact fun k => .cons ⟨t, rfl, k t _ (List.mem_cons_self ..) q⟩ (ih fun t o ht => k t o (List.mem_cons_of_mem _ ht))
end My

set_option Elab.async false
set_option linter.all false
set_option maxRecDepth 100000
set_option maxHeartbeats 1000000
namespace L2
open PySem PySem.Spec PyProof.Rows
section
variable {X : Cx}
end
end L2
namespace My
abbrev Off := Option Int × Int
structure Spt where
  o : Int
  fs : List Off
end My
namespace My
open PySem L2
def oV : Option Int → V
  | none => .non
  | some i => .int i
def OffV (H : Hp) (v : V) (f : Off) : Prop := ∃ t, v = .ref t ∧ H t = some (.tup [oV f.1, .int f.2])
abbrev Offs (H : Hp) : List V → List Off → Prop := Paired (OffV H)
theorem Offs.mono {H H' : Hp} (g : Same H H') {ts : List V} {fs : List Off} (h : Offs H ts fs) : Offs H' ts fs := Paired.mapP h fun _ _ ⟨t, e, q⟩ => ⟨t, e, g _ _ q⟩
theorem Offs.off {H : Hp} {ts : List V} {fs : List Off} {l : Addr} {o : HO} (h : Offs H ts fs) (hl : ∀ xs, H l ≠ some (.tup xs)) : Offs (upd H l o) ts fs := Paired.mapP h fun _ _ ⟨t, e, q⟩ => ⟨t, e, by rw [upd_ne fun z => hl _ (by rw [← z]; exact q)]; exact q⟩
def SpV (H : Hp) (v : V) (s : Spt) : Prop := ∃ t l ts, v = .ref t ∧ H t = some (.tup [.int s.o, .ref l]) ∧ H l = some (.lst ts) ∧ Offs H ts s.fs
abbrev Spts (H : Hp) : List V → List Spt → Prop := Paired (SpV H)
theorem SpV.mono {H H' : Hp} (g : Same H H') {v : V} {s : Spt} (h : SpV H v s) : SpV H' v s := by
  obtain ⟨t, l, ts, e, h1, h2, h3⟩ := h
  exact ⟨t, l, ts, e, g _ _ h1, g _ _ h2, h3.mono g⟩
theorem Spts.mono {H H' : Hp} (g : Same H H') {ts : List V} {ss : List Spt} (h : Spts H ts ss) : Spts H' ts ss := Paired.mapP h fun _ _ => SpV.mono g
end My

set_option Elab.async false
set_option linter.all false
set_option maxRecDepth 100000
set_option maxHeartbeats 1000000
namespace My
open PySem L2
end My
namespace My
open PySem L2
theorem Offs.get {H : Hp} {ts : List V} {fs : List Off} (h : Offs H ts fs) {i : Nat} {f : Off} (e : fs[i]? = some f) : ∃ t, ts[i]? = some (.ref t) ∧ H t = some (.tup [oV f.1, .int f.2]) := by
  obtain ⟨v, hv, t, rfl, q⟩ := Paired.getR h e
  exact ⟨t, hv, q⟩
theorem Spts.get {H : Hp} {us : List V} {ss : List Spt} (h : Spts H us ss) {i : Nat} {s : Spt} (e : ss[i]? = some s) : ∃ t l ts, us[i]? = some (.ref t) ∧ H t = some (.tup [.int s.o, .ref l]) ∧ H l = some (.lst ts) ∧ Offs H ts s.fs := by
  obtain ⟨v, hv, t, l, ts, rfl, q⟩ := Paired.getR h e
  exact ⟨t, l, ts, hv, q⟩
/-- spots stay where a list that none of them has is written -/
theorem Spts.off {H : Hp} {us : List V} {ss : List Spt} {L : Addr} {o : HO} (h : Spts H us ss) (hl : ∀ xs, H L ≠ some (.tup xs)) (hn : ∀ t a l, V.ref t ∈ us → H t = some (.tup [.int a, .ref l]) → l ≠ L) : Spts (upd H L o) us ss := by
  induction h with
  | nil => exact .nil
  | cons a _ ih =>
    obtain ⟨t, l, ts, rfl, h1, h2, h3⟩ := a
    refine .cons ⟨t, l, ts, rfl, ?_, ?_, h3.off hl⟩ (ih fun t a l ht => hn t a l (List.mem_cons_of_mem _ ht))
    · rw [upd_ne fun z => hl _ (by rw [← z]; exact h1)]; exact h1
    · rw [upd_ne (hn t _ l (List.mem_cons_self ..) h1)]; exact h2
end My
namespace My
open PySem L2
end My
namespace L2
open PySem PySem.Spec PyProof.Rows
end L2
namespace My
open PySem L2
end My
namespace My
open PySem L2
end My
namespace My
open PySem L2
end My
namespace My
open PySem L2
end My

set_option Elab.async false
set_option linter.all false
set_option maxRecDepth 100000
set_option maxHeartbeats 1000000
namespace My
open PySem L2
/-- the lists that are spoilt -/
structure SpS (H : Hp) (pc pl r : Addr) (nc nl nd : Nat) (H' : Hp) : Prop where
  ex : ∃ (cols lim : List Int) (cs : List (Option Int)), (∀ a o, H a = some o → a ≠ pc → a ≠ pl → a ≠ r → H' a = some o) ∧ H' pc = some (.lst (cols.map V.int)) ∧ H' pl = some (.lst (lim.map V.int)) ∧ H' r = some (.lst (cs.map oV)) ∧ cols.length = nc ∧ lim.length = nl ∧ cs.length ≤ nd
theorem SpS.mono {H H1 H' : Hp} {pc pl r : Addr} {nc nl nd : Nat} (h : SpS H pc pl r nc nl nd H1) (g : Same H1 H') : SpS H pc pl r nc nl nd H' := by
  obtain ⟨cols, lim, cs, f, h1, h2, h3, r⟩ := h.ex
  exact ⟨cols, lim, cs, fun a o e n1 n2 n3 => g _ _ (f a o e n1 n2 n3), g _ _ h1, g _ _ h2, g _ _ h3, r⟩
theorem map_set_oV (cs : List (Option Int)) (k : Nat) (c : Option Int) : (cs.map oV).set k (oV c) = (cs.set k c).map oV := by rw [List.map_set]
end My
namespace L2
open PySem PySem.Spec PyProof.Rows
end L2
namespace My
open PySem L2
structure SpK (H : Hp) (pc pl r : Addr) (nc nl nd : Nat) (w : Int) (k : Nat) (H' : Hp) : Prop where
  ex : ∃ (cols lim : List Int) (cs : List (Option Int)), (∀ a o, H a = some o → a ≠ pc → a ≠ pl → a ≠ r → H' a = some o) ∧ H' pc = some (.lst (cols.map V.int)) ∧ H' pl = some (.lst (lim.map V.int)) ∧ H' r = some (.lst (cs.map oV)) ∧ cols.length = nc ∧ lim.length = nl ∧ cs.length ≤ nd ∧ (w = 3 ∨ k < cs.length)
/-- a cell is written -/
theorem SpK.put {H H' : Hp} {pc pl r : Addr} {nc nl nd : Nat} {w : Int} {k : Nat} (h : SpK H pc pl r nc nl nd w k H') (hw : w ≠ 3) (n1 : pc ≠ r) (n2 : pl ≠ r) (c : Option Int) : ∃ xs, H' r = some (.lst xs) ∧ ixN xs.length (k : Int) = some k ∧ SpK H pc pl r nc nl nd w k (upd H' r (.lst (xs.set k (oV c)))) := by
  obtain ⟨cols, lim, cs, f, h1, h2, h3, h4, h5, h6, h7⟩ := h.ex
  have hk : k < cs.length := h7.resolve_left hw
  refine ⟨_, h3, by rw [List.length_map]; exact ixN_lt hk, cols, lim, cs.set k c, fun a o e x y z => by rw [upd_ne z]; exact f a o e x y z, by rw [upd_ne n1]; exact h1, by rw [upd_ne n2]; exact h2, by rw [upd_same, map_set_oV], h4, h5, by rw [List.length_set]; exact h6, .inr (by rw [List.length_set]; exact hk)⟩
end My
namespace My
open PySem L2
end My

set_option Elab.async false
set_option linter.all false
set_option maxRecDepth 100000
set_option maxHeartbeats 1000000
namespace L2
open PySem PySem.Spec PyProof.Rows
end L2

set_option Elab.async false
set_option linter.all false
set_option maxRecDepth 100000
set_option maxHeartbeats 1000000
namespace L2
open PySem PySem.Spec PyProof.Rows
end L2

set_option Elab.async false
set_option linter.all false
set_option maxRecDepth 100000
set_option maxHeartbeats 1000000
namespace L2
open PySem
end L2
namespace My
open PySem L2
def RowT (H : Hp) (v : V) (row : List Int) : Prop := ∃ t, v = .ref t ∧ H t = some (.tup (row.map V.int))
abbrev TRows (H : Hp) : List V → List (List Int) → Prop := Paired (RowT H)
theorem TRows.mono {H H' : Hp} (g : Same H H') {ts : List V} {rows : List (List Int)} (h : TRows H ts rows) : TRows H' ts rows := Paired.mapP h fun _ _ ⟨t, e, q⟩ => ⟨t, e, g _ _ q⟩
theorem TRows.tmono {H H' : Hp} (g : Tups H H') {ts : List V} {rows : List (List Int)} (h : TRows H ts rows) : TRows H' ts rows := Paired.mapP h fun _ _ ⟨t, e, q⟩ => ⟨t, e, g _ _ q⟩
/-- a list of tuples under way -/
structure TupI (H : Hp) (L : Addr) (tgt : List (List Int)) (i : Nat) (H' : Hp) : Prop where
  ex : ∃ ts : List V, Same H H' ∧ H' L = some (.lst ts) ∧ TRows H' ts (tgt.take i)
theorem TupI.step {H H' : Hp} {L l : Addr} {tgt : List (List Int)} {i : Nat} {row : List Int} (h : TupI H L tgt i H') (hL : H L = none) (hi : i ≤ 900) (hr : tgt[i]? = some row) (hl : H' l = none) :
    ∃ xs, upd H' l (.tup (row.map V.int)) L = some (.lst xs) ∧ xs.length < sizeLine ∧ TupI H L tgt (i + 1) (upd (upd H' l (.tup (row.map V.int))) L (.lst (xs ++ [.ref l]))) := by
  obtain ⟨ts, g, e, hT⟩ := h.ex
  have htl := Paired.length hT
  rw [List.length_take] at htl
  have gl := same_new hl (.tup (row.map V.int))
  refine ⟨ts, gl _ _ e, small1000 (by omega), ts ++ [.ref l], same_upd hL (g.trans gl) _, upd_same, ?_⟩
  rw [take_one hr]
  exact TRows.tmono (tups_lst (gl _ _ e)) (paired_snoc (hT.mono gl) ⟨l, rfl, upd_same⟩)
def nf (o : Addr) (m : Int) : List (Str × V) := putF "many" (.int m) (putF "old" (.ref o) [])
structure NearAt (C : Addr) (H : Hp) (x : Addr) (rows : List (List Int)) (m : Int) : Prop where
  ex : ∃ dx o vs, H x = some (.ins C dx (nf o m)) ∧ H o = some (.tup vs) ∧ TRows H vs rows
theorem NearAt.mono {C : Addr} {H H' : Hp} {x : Addr} {rows : List (List Int)} {m : Int} (w : NearAt C H x rows m) (g : Same H H') : NearAt C H' x rows m := by
  obtain ⟨dx, o, vs, h1, h2, h3⟩ := w.ex
  exact ⟨dx, o, vs, g _ _ h1, g _ _ h2, h3.mono g⟩
abbrev Vc := Int × Int × Int
def VcV (H : Hp) (v : V) (c : Vc) : Prop := ∃ t u, v = .ref t ∧ H t = some (.tup [.ref u, .int c.2.2]) ∧ H u = some (.tup [.int c.1, .int c.2.1])
abbrev Vcs (H : Hp) : List V → List Vc → Prop := Paired (VcV H)
theorem Vcs.mono {H H' : Hp} (g : Tups H H') {ts : List V} {cs : List Vc} (h : Vcs H ts cs) : Vcs H' ts cs := Paired.mapP h fun _ _ ⟨t, u, e, q, r⟩ => ⟨t, u, e, g _ _ q, g _ _ r⟩
/-- a list of cells with their values under way -/
structure VclI (H : Hp) (L : Addr) (cs : List Vc) (H' : Hp) : Prop where
  ex : ∃ ts : List V, Same H H' ∧ H' L = some (.lst ts) ∧ Vcs H' ts cs
theorem VclI.mono {H H' H2 : Hp} {L : Addr} {cs : List Vc} (h : VclI H L cs H') (g : Same H' H2) : VclI H L cs H2 := by
  obtain ⟨ts, g0, e, hT⟩ := h.ex
  exact ⟨ts, g0.trans g, g _ _ e, Vcs.mono (tups_same g) hT⟩
theorem VclI.step {H H' H2 : Hp} {L u t : Addr} {cs : List Vc} {a b v : Int} (h : VclI H L cs H') (hL : H L = none) (hi : cs.length ≤ 900) (g2 : Same H' H2) (eu : H2 u = some (.tup [.int a, .int b])) (ht : H2 t = none) :
    ∃ xs, upd H2 t (.tup [.ref u, .int v]) L = some (.lst xs) ∧ xs.length < sizeLine ∧ VclI H L (cs ++ [(a, b, v)]) (upd (upd H2 t (.tup [.ref u, .int v])) L (.lst (xs ++ [.ref t]))) := by
  obtain ⟨ts, g, e, hT⟩ := h.ex
  have htl := Paired.length hT
  have gt := same_new ht (.tup [.ref u, .int v])
  have gg := g2.trans gt
  refine ⟨ts, gg _ _ e, small1000 (by omega), ts ++ [.ref t], same_upd hL (g.trans gg) _, upd_same, ?_⟩
  exact Vcs.mono (tups_lst (gg _ _ e)) (paired_snoc (Vcs.mono (tups_same gg) hT) ⟨t, u, rfl, upd_same, gt _ _ eu⟩)
structure Pri (S : Int → Int → Int → Prop) (kvs : List (List Key × V)) : Prop where
  i : ∀ h d o, S h d o → valV kvs (kk h d o) = some (.int 1)
  n : ∀ h d o, ¬ S h d o → valV kvs (kk h d o) = none
theorem kk_inj {a b c a' b' c' : Int} (h : kk a b c = kk a' b' c') : a = a' ∧ b = b' ∧ c = c' := by
  unfold kk at h
  simp at h
  exact h
theorem Pri.nil : Pri (fun _ _ _ => False) [] := ⟨fun _ _ _ h => h.elim, fun _ _ _ _ => rfl⟩
theorem Pri.put {S : Int → Int → Int → Prop} {kvs : List (List Key × V)} (p : Pri S kvs) (a b c : Int) : Pri (fun h d o => S h d o ∨ (h = a ∧ d = b ∧ o = c)) (putK kvs (kk a b c) (.int 1)) := by
  refine ⟨fun h d o s => ?_, fun h d o s => ?_⟩
  · rw [valV_put]
    by_cases e : kk h d o = kk a b c
    · rw [if_pos e]
    · rw [if_neg e]
      rcases s with s | ⟨rfl, rfl, rfl⟩
      · exact p.i _ _ _ s
      · exact absurd rfl e
  · rw [valV_put, if_neg fun e => s (.inr (kk_inj e))]
    exact p.n _ _ _ fun z => s (.inl z)
/-- parts under way -/
structure PrtI (H : Hp) (p : Addr) (qs : List Prt) (H' : Hp) : Prop where
  ex : ∃ ts, H' p = some (.lst ts) ∧ Prts H' ts qs
  fr : ∀ c o, H c = some o → c ≠ p → H' c = some o
theorem PrtI.mono {H H' H2 : Hp} {p : Addr} {qs : List Prt} (h : PrtI H p qs H') (g : Same H' H2) : PrtI H p qs H2 := by
  obtain ⟨ts, e, hP⟩ := h.ex
  exact ⟨⟨ts, g _ _ e, hP.mono (tups_same g)⟩, fun c o e n => g _ _ (h.fr c o e n)⟩
/-- costs under way -/
structure PriI (H : Hp) (p : Addr) (S : Int → Int → Int → Prop) (n : Nat) (H' : Hp) : Prop where
  ex : ∃ kvs, H' p = some (.dT kvs) ∧ Pri S kvs ∧ kvs.length ≤ n
  fr : ∀ c o, H c = some o → c ≠ p → H' c = some o
theorem PriI.mono {H H' H2 : Hp} {p : Addr} {S : Int → Int → Int → Prop} {n : Nat} (h : PriI H p S n H') (g : Same H' H2) : PriI H p S n H2 := by
  obtain ⟨kvs, e, hP⟩ := h.ex
  exact ⟨⟨kvs, g _ _ e, hP⟩, fun c o e n => g _ _ (h.fr c o e n)⟩
theorem PriI.put {H H' : Hp} {p t : Addr} {S : Int → Int → Int → Prop} {n : Nat} {a b c : Int} (h : PriI H p S n H') (hn : n ≤ 900) (et : H' t = some (.tup [.int a, .int b, .int c])) :
    ∃ H4, DPut H' p (.ref t) (.int 1) H4 ∧ PriI H p (fun x y z => S x y z ∨ (x = a ∧ y = b ∧ z = c)) (n + 1) H4 := by
  obtain ⟨kvs, e, hP, hl⟩ := h.ex
  refine ⟨_, DPut.t (k := kk a b c) e et (small1000 (by omega)), ⟨_, upd_same, hP.put a b c, ?_⟩, fun x o ex nx => by rw [upd_ne nx]; exact h.fr x o ex nx⟩
  have := length_putK kvs (kk a b c) (.int 1)
  omega
abbrev Spo := Nat × Nat × List Int
def SpoV (H : Hp) (v : V) (sp : Spo) : Prop := ∃ t u l, v = .ref t ∧ H t = some (.tup [.ref u, .ref l]) ∧ H u = some (.tup [.int (sp.1 : Int), .int (sp.2.1 : Int)]) ∧ H l = some (.lst (sp.2.2.map V.int))
abbrev Spos (H : Hp) : List V → List Spo → Prop := Paired (SpoV H)
theorem Spos.mono {H H' : Hp} (g : Same H H') {ts : List V} {ss : List Spo} (h : Spos H ts ss) : Spos H' ts ss := Paired.mapP h fun _ _ ⟨t, u, l, e, q, r, z⟩ => ⟨t, u, l, e, g _ _ q, g _ _ r, g _ _ z⟩
structure SpoOk (n : Nat) (d : Int) (P : Nat) (sp : Spo) : Prop where
  h : sp.1 < n
  d : (sp.2.1 : Int) < d
  ne : 0 < sp.2.2.length
  len : sp.2.2.length ≤ P + 1
  v : ∀ x ∈ sp.2.2, 0 ≤ x ∧ x ≤ (P : Int)
/-- a list of lists under way, each at a place of its own -/
structure GatN (H : Hp) (L : Addr) (Pr : List Int → Prop) (i : Nat) (H' : Hp) : Prop where
  ex : ∃ (us : List V) (rows : List (List Int)), rows.length = i ∧ Same H H' ∧ H' L = some (.lst us) ∧ Rows H' us rows ∧ (∀ row ∈ rows, Pr row) ∧ us.Nodup ∧ ∀ t, V.ref t ∈ us → t ≠ L ∧ H t = none
theorem nodup_snoc {α : Type} {xs : List α} {x : α} (h : xs.Nodup) (n : x ∉ xs) : (xs ++ [x]).Nodup := by
  rw [List.nodup_append]
  exact ⟨h, by simp, fun a ha b hb => by rw [List.mem_singleton.mp hb]; exact fun z => n (z ▸ ha)⟩
theorem GatN.step {H H' H2 : Hp} {L l : Addr} {Pr : List Int → Prop} {i : Nat} {row : List Int} (h : GatN H L Pr i H') (hL : H L = none) (hi : i ≤ 900) (g2 : Same H' H2) (hl : H' l = none) (hl2 : H2 l = some (.lst (row.map V.int))) (hp : Pr row) :
    ∃ xs, H2 L = some (.lst xs) ∧ xs.length < sizeLine ∧ GatN H L Pr (i + 1) (upd H2 L (.lst (xs ++ [.ref l]))) := by
  obtain ⟨us, rows, hr, g, e, hR, hP, nd, fr⟩ := h.ex
  have hul := hR.len
  have ne : L ≠ l := ne_of_none e hl
  refine ⟨us, g2 _ _ e, small1000 (by lia), us ++ [.ref l], rows ++ [row], by rw [List.length_append, hr]; rfl, same_upd hL (g.trans g2) _, upd_same, ?_, fun r hr' => ?_, nodup_snoc nd (hR.notin hl), fun t ht => ?_⟩
  · refine Rows.off (Rows.snoc (hR.mono g2) ⟨l, rfl, hl2⟩) fun z => ?_
    rcases List.mem_append.mp z with z | z
    · exact (fr L z).1 rfl
    · exact ne (V.ref.inj (List.mem_singleton.mp z))
  · rcases List.mem_append.mp hr' with z | z
    · exact hP r z
    · rw [List.mem_singleton.mp z]; exact hp
  · rcases List.mem_append.mp ht with z | z
    · exact fr t z
    · rw [V.ref.inj (List.mem_singleton.mp z)]
      exact ⟨ne.symm, g.free hl⟩
/-- spots under way -/
def SpoP (p : Addr) (H : Hp) (v : V) (sp : Spo) : Prop := ∃ t u l, v = .ref t ∧ H t = some (.tup [.ref u, .ref l]) ∧ H u = some (.tup [.int (sp.1 : Int), .int (sp.2.1 : Int)]) ∧ H l = some (.lst (sp.2.2.map V.int)) ∧ l ≠ p
structure SpoI (H : Hp) (p : Addr) (n : Nat) (d : Int) (P k : Nat) (H' : Hp) : Prop where
  ex : ∃ (us : List V) (ss : List Spo), Same H H' ∧ H' p = some (.lst us) ∧ Paired (SpoP p H') us ss ∧ (∀ s ∈ ss, SpoOk n d P s) ∧ ss.length = k
theorem SpoI.step {H H' H2 : Hp} {p u l t : Addr} {n P k : Nat} {d : Int} {sp : Spo} (h : SpoI H p n d P k H') (hp : H p = none) (hk : k ≤ 900) (g2 : Same H' H2) (eu : H2 u = some (.tup [.int (sp.1 : Int), .int (sp.2.1 : Int)])) (el : H2 l = some (.lst (sp.2.2.map V.int))) (fl : H' l = none) (ft : H2 t = none) (ok : SpoOk n d P sp) :
    ∃ xs, upd H2 t (.tup [.ref u, .ref l]) p = some (.lst xs) ∧ xs.length < sizeLine ∧ SpoI H p n d P (k + 1) (upd (upd H2 t (.tup [.ref u, .ref l])) p (.lst (xs ++ [.ref t]))) := by
  obtain ⟨us, ss, g, e, hS, hok, hl⟩ := h.ex
  have hul := Paired.length hS
  have gt := same_new ft (.tup [.ref u, .ref l])
  have gg := g2.trans gt
  have nlp : l ≠ p := (ne_of_none e fl).symm
  have ep := gg _ _ e
  have ntp : ∀ {c : Addr} {xs : List V}, upd H2 t (.tup [.ref u, .ref l]) c = some (.tup xs) → c ≠ p := fun {c xs} z y => by rw [y, ep] at z; cases z
  refine ⟨us, ep, small1000 (by omega), us ++ [.ref t], ss ++ [sp], same_upd hp (g.trans gg) _, upd_same, ?_, fun s hs => ?_, by rw [List.length_append, hl]; rfl⟩
  · refine paired_snoc (Paired.mapP hS fun _ _ ⟨t', u', l', e', q1, q2, q3, q4⟩ => ⟨t', u', l', e', ?_, ?_, ?_, q4⟩) ⟨t, u, l, rfl, ?_, ?_, ?_, nlp⟩
    · rw [upd_ne (ntp (gg _ _ q1))]; exact gg _ _ q1
    · rw [upd_ne (ntp (gg _ _ q2))]; exact gg _ _ q2
    · rw [upd_ne q4]; exact gg _ _ q3
    · rw [upd_ne (ntp upd_same)]; exact upd_same
    · rw [upd_ne (ntp (gt _ _ eu))]; exact gt _ _ eu
    · rw [upd_ne nlp]; exact gt _ _ el
  · rcases List.mem_append.mp hs with z | z
    · exact hok s z
    · rw [List.mem_singleton.mp z]; exact ok
theorem SpoI.done {H H' : Hp} {p : Addr} {n P k : Nat} {d : Int} (h : SpoI H p n d P k H') : ∃ (us : List V) (ss : List Spo), Same H H' ∧ H' p = some (.lst us) ∧ Spos H' us ss ∧ (∀ s ∈ ss, SpoOk n d P s) ∧ ss.length = k := by
  obtain ⟨us, ss, g, e, hS, hok, hl⟩ := h.ex
  exact ⟨us, ss, g, e, Paired.mapP hS fun _ _ ⟨t, u, l, e', q1, q2, q3, _⟩ => ⟨t, u, l, e', q1, q2, q3⟩, hok, hl⟩
/-- a table that is changed in place -/
structure RtI (H : Hp) (q : Addr) (us : List V) (d : Int) (n P : Nat) (H' : Hp) : Prop where
  ex : ∃ rws, H' q = some (.lst us) ∧ Rows H' us rws ∧ RotaOk d n P rws
  fr : Same H H'
  nd : us.Nodup
  fu : ∀ t, V.ref t ∈ us → t ≠ q ∧ H t = none
theorem RtI.mono {H H' H2 : Hp} {q : Addr} {us : List V} {d : Int} {n P : Nat} (h : RtI H q us d n P H') (g : Same H' H2) : RtI H q us d n P H2 := by
  obtain ⟨rws, e, hR, ok⟩ := h.ex
  exact ⟨⟨rws, g _ _ e, hR.mono g, ok⟩, h.fr.trans g, h.nd, h.fu⟩
theorem RtI.set {H H' : Hp} {q : Addr} {us : List V} {d : Int} {n P : Nat} {h j : Nat} {v : Int} (r : RtI H q us d n P H') (hh : h < n) (hj : (j : Int) < d) (v0 : 0 ≤ v) (v1 : v ≤ (P : Int)) :
    ∃ (t : Addr) (row : List Int), H' q = some (.lst us) ∧ us[h]? = some (.ref t) ∧ H' t = some (.lst (row.map V.int)) ∧ j < row.length ∧ (row.length : Int) = d ∧ RtI H q us d n P (upd H' t (.lst ((row.map V.int).set j (.int v)))) := by
  obtain ⟨rws, e, hR, ok⟩ := r.ex
  have hl : h < rws.length := by rw [ok.len]; exact hh
  obtain ⟨t, a, qt⟩ := hR.get (List.getElem?_eq_getElem hl)
  have hrl := ok.rl _ (List.getElem_mem hl)
  have tm := List.mem_of_getElem? a
  obtain ⟨ntq, ht⟩ := r.fu t tm
  refine ⟨t, rws[h], e, a, qt, by omega, hrl, ⟨⟨rws.set h (rws[h].set j v), by rw [upd_ne ntq.symm]; exact e, ?_, ok.setv (List.getElem?_eq_getElem hl) v0 v1⟩, same_upd ht r.fr _, r.nd, r.fu⟩⟩
  rw [show (rws[h].map V.int).set j (.int v) = (rws[h].set j v).map V.int by rw [List.map_set]]
  exact Rows.put hR r.nd a
theorem GatN.rt {H H' : Hp} {L : Addr} {n P : Nat} {d : Int} (h : GatN H L (fun row => (row.length : Int) = d ∧ ∀ x ∈ row, 0 ≤ x ∧ x ≤ (P : Int)) n H') : ∃ us, RtI H L us d n P H' := by
  obtain ⟨us, rows, rl, g, e, hR, hPr, nd, fr⟩ := h.ex
  exact ⟨us, ⟨rows, e, hR, rl, fun r hr => (hPr r hr).1, fun r hr => (hPr r hr).2⟩, g, nd, fr⟩
/-- posts under way -/
structure PsG (H : Hp) (L : Addr) (i : Nat) (H' : Hp) : Prop where
  ex : ∃ (ts : List V) (ps : List Pst), ps.length = i ∧ Same H H' ∧ H' L = some (.lst ts) ∧ Posts H' ts ps ∧ ∀ q ∈ ps, okP q
theorem PsG.mono {H H' H2 : Hp} {L : Addr} {i : Nat} (h : PsG H L i H') (g : Same H' H2) : PsG H L i H2 := by
  obtain ⟨ts, ps, hl, g0, e, hP, ok⟩ := h.ex
  exact ⟨ts, ps, hl, g0.trans g, g _ _ e, hP.mono g, ok⟩
theorem PsG.step {H H' : Hp} {L t : Addr} {i : Nat} {q : Pst} (h : PsG H L i H') (hL : H L = none) (hi : i ≤ 900) (ht : H' t = none) (hq : okP q) :
    ∃ xs, upd H' t (.tup [.int q.1, .int q.2.1, .int q.2.2]) L = some (.lst xs) ∧ xs.length < sizeLine ∧ PsG H L (i + 1) (upd (upd H' t (.tup [.int q.1, .int q.2.1, .int q.2.2])) L (.lst (xs ++ [.ref t]))) := by
  obtain ⟨ts, ps, hl, g, e, hP, ok⟩ := h.ex
  have htl := hP.len
  have gt := same_new ht (.tup [.int q.1, .int q.2.1, .int q.2.2])
  refine ⟨ts, gt _ _ e, small1000 (by omega), ts ++ [.ref t], ps ++ [q], by rw [List.length_append, hl]; rfl, same_upd hL (g.trans gt) _, upd_same, ?_, fun q' hq' => ?_⟩
  · have h1 : Posts (upd H' t (.tup [.int q.1, .int q.2.1, .int q.2.2])) (ts ++ [.ref t]) (ps ++ [q]) := paired_snoc (hP.mono gt) ⟨t, rfl, upd_same⟩
    exact Paired.mapP h1 fun _ _ ⟨t', e', q'⟩ => ⟨t', e', (tups_lst (gt _ _ e)) _ _ q'⟩
  · rcases List.mem_append.mp hq' with z | z
    · exact ok q' z
    · rw [List.mem_singleton.mp z]; exact hq
theorem Posts.tmono {H H' : Hp} (g : Tups H H') {ts : List V} {ps : List Pst} (h : Posts H ts ps) : Posts H' ts ps := Paired.mapP h fun _ _ ⟨t, e, q⟩ => ⟨t, e, g _ _ q⟩
end My

set_option Elab.async false
set_option linter.all false
set_option maxRecDepth 100000
set_option maxHeartbeats 1000000
namespace My
open PySem L2
structure Sp4 where
  k : Nat
  a : Int
  b : Int
  c : Int
def fieldsOf (P : Nat) (s : Sp4) : List (Str × V) :=
  if s.k = 0 then wf3 s.a (1 + s.b % (P : Int)) s.c else if s.k = 1 then mf3 s.a s.b s.c else if s.k = 2 then mf3 s.a s.b s.c else if s.k = 3 then af2 s.a s.b else if s.k = 4 then hm s.a s.c else if s.k = 5 then qf3 s.a s.b s.c else ho s.a s.b
end My
namespace L2
open PySem
end L2
namespace My
open PySem L2
def RulV (C : Nat → Addr) (P : Nat) (H : Hp) (v : V) (s : Sp4) : Prop := ∃ x dx, v = .ref x ∧ H x = some (.ins (C s.k) dx (fieldsOf P s))
abbrev Ruls (C : Nat → Addr) (P : Nat) (H : Hp) : List V → List Sp4 → Prop := Paired (RulV C P H)
theorem Ruls.mono {C : Nat → Addr} {P : Nat} {H H' : Hp} (g : Same H H') {us : List V} {ss : List Sp4} (h : Ruls C P H us ss) : Ruls C P H' us ss := Paired.mapP h fun _ _ ⟨x, dx, e, q⟩ => ⟨x, dx, e, g _ _ q⟩
def SumV (H : Hp) (v : V) (ls : List Lin) : Prop := ∃ t us, v = .ref t ∧ H t = some (.tup us) ∧ Lins H us ls
abbrev Sums (H : Hp) : List V → List (List Lin) → Prop := Paired (SumV H)
theorem Sums.tmono {H H' : Hp} (g : Tups H H') {us : List V} {ss : List (List Lin)} (h : Sums H us ss) : Sums H' us ss := Paired.mapP h fun _ _ ⟨t, us, e, q, r⟩ => ⟨t, us, e, g _ _ q, Paired.mapP r fun _ _ z => z.mono g⟩
def tf (y r s : Addr) : List (Str × V) := putF "sums" (.ref s) (putF "rules" (.ref r) (putF "ward" (.ref y) []))
structure TermsAt (CT CW : Addr) (H : Hp) (x : Addr) (d : Int) (hs : List Int) (ps : List Pst) (sums : List (List Lin)) : Prop where
  ex : ∃ dx y rt st vr vs, H x = some (.ins CT dx (tf y rt st)) ∧ WardAt CW H y d hs ps ∧ H rt = some (.tup vr) ∧ H st = some (.tup vs) ∧ Sums H vs sums
theorem TermsAt.mono {CT CW : Addr} {H H' : Hp} {x : Addr} {d : Int} {hs : List Int} {ps : List Pst} {sums : List (List Lin)} (h : TermsAt CT CW H x d hs ps sums) (g : Same H H') : TermsAt CT CW H' x d hs ps sums := by
  obtain ⟨dx, y, rt, st, vr, vs, h1, h2, h3, h4, h5⟩ := h.ex
  exact ⟨dx, y, rt, st, vr, vs, g _ _ h1, h2.mono g, g _ _ h3, g _ _ h4, Sums.tmono (tups_same g) h5⟩
/-- sums under way -/
structure SumI (H : Hp) (L : Addr) (lls : List (List Lin)) (i : Nat) (H' : Hp) : Prop where
  ex : ∃ vs : List V, Same H H' ∧ H' L = some (.lst vs) ∧ Sums H' vs (lls.take i)
theorem SumI.step {H H' H2 : Hp} {L l : Addr} {lls : List (List Lin)} {i : Nat} {ls : List Lin} {ul : List V} (h : SumI H L lls i H') (hL : H L = none) (hi : i ≤ 900) (g2 : Same H' H2) (hr : lls[i]? = some ls) (hl : H2 l = none) (hu : Lins H2 ul ls) :
    ∃ xs, upd H2 l (.tup ul) L = some (.lst xs) ∧ xs.length < sizeLine ∧ SumI H L lls (i + 1) (upd (upd H2 l (.tup ul)) L (.lst (xs ++ [.ref l]))) := by
  obtain ⟨vs, g, e, hS⟩ := h.ex
  have hvl := Paired.length hS
  rw [List.length_take] at hvl
  have gl := same_new hl (.tup ul)
  have gg := g2.trans gl
  refine ⟨vs, gg _ _ e, small1000 (by omega), vs ++ [.ref l], same_upd hL (g.trans gg) _, upd_same, ?_⟩
  rw [take_one hr]
  have h1 : Sums (upd H2 l (.tup ul)) (vs ++ [.ref l]) (lls.take i ++ [ls]) := paired_snoc (Sums.tmono (tups_same gg) hS) ⟨l, ul, rfl, upd_same, Paired.mapP hu fun _ _ z => z.mono (tups_same gl)⟩
  exact Sums.tmono (tups_lst (gg _ _ e)) h1
abbrev Tri := Int × Int × Int
def TriV (H : Hp) (v : V) (t : Tri) : Prop := ∃ a, v = .ref a ∧ H a = some (.tup [.int t.1, .int t.2.1, .int t.2.2])
abbrev Tris (H : Hp) : List V → List Tri → Prop := Paired (TriV H)
theorem Tris.tmono {H H' : Hp} (g : Tups H H') {us : List V} {ts : List Tri} (h : Tris H us ts) : Tris H' us ts := Paired.mapP h fun _ _ ⟨a, e, q⟩ => ⟨a, e, g _ _ q⟩
/-- triples under way -/
structure TriI (H : Hp) (L : Addr) (ts : List Tri) (H' : Hp) : Prop where
  ex : ∃ us : List V, Same H H' ∧ H' L = some (.lst us) ∧ Tris H' us ts
theorem TriI.mono {H H' H2 : Hp} {L : Addr} {ts : List Tri} (h : TriI H L ts H') (g : Same H' H2) : TriI H L ts H2 := by
  obtain ⟨us, g0, e, hT⟩ := h.ex
  exact ⟨us, g0.trans g, g _ _ e, Tris.tmono (tups_same g) hT⟩
theorem TriI.step {H H' : Hp} {L t : Addr} {ts : List Tri} {a b c : Int} (h : TriI H L ts H') (hL : H L = none) (hl : ts.length ≤ 900) (ht : H' t = none) :
    ∃ xs, upd H' t (.tup [.int a, .int b, .int c]) L = some (.lst xs) ∧ xs.length < sizeLine ∧ TriI H L (ts ++ [(a, b, c)]) (upd (upd H' t (.tup [.int a, .int b, .int c])) L (.lst (xs ++ [.ref t]))) := by
  obtain ⟨us, g, e, hT⟩ := h.ex
  have hul := Paired.length hT
  have gt := same_new ht (.tup [.int a, .int b, .int c])
  refine ⟨us, gt _ _ e, small1000 (by omega), us ++ [.ref t], same_upd hL (g.trans gt) _, upd_same, ?_⟩
  exact Tris.tmono (tups_lst (gt _ _ e)) (paired_snoc (Tris.tmono (tups_same gt) hT) ⟨t, rfl, upd_same⟩)
def LinLV (H : Hp) (v : V) (ℓ : Lin) : Prop := ∃ t l ts, v = .ref t ∧ H t = some (.tup [.ref l, .int ℓ.b]) ∧ H l = some (.lst ts) ∧ Prts H ts ℓ.ps
abbrev LinsL (H : Hp) : List V → List Lin → Prop := Paired (LinLV H)
theorem LinsL.mono {H H' : Hp} (g : Same H H') {us : List V} {ls : List Lin} (h : LinsL H us ls) : LinsL H' us ls := Paired.mapP h fun _ _ ⟨t, l, ts, e, q, r, z⟩ => ⟨t, l, ts, e, g _ _ q, g _ _ r, z.mono (tups_same g)⟩
def SpcV (H : Hp) (v : V) (s : Sp4) : Prop := ∃ t, v = .ref t ∧ H t = some (.tup [.int (s.k : Nat), .int s.a, .int s.b, .int s.c])
abbrev Spcs (H : Hp) : List V → List Sp4 → Prop := Paired (SpcV H)
theorem Spcs.tmono {H H' : Hp} (g : Tups H H') {us : List V} {ss : List Sp4} (h : Spcs H us ss) : Spcs H' us ss := Paired.mapP h fun _ _ ⟨t, e, q⟩ => ⟨t, e, g _ _ q⟩
/-- parts in a list under way -/
structure PrsI (H : Hp) (L : Addr) (qs : List Prt) (H' : Hp) : Prop where
  ex : ∃ us : List V, Same H H' ∧ H' L = some (.lst us) ∧ Prts H' us qs
theorem PrsI.mono {H H' H2 : Hp} {L : Addr} {qs : List Prt} (h : PrsI H L qs H') (g : Same H' H2) : PrsI H L qs H2 := by
  obtain ⟨us, g0, e, hT⟩ := h.ex
  exact ⟨us, g0.trans g, g _ _ e, hT.mono (tups_same g)⟩
theorem PrsI.step {H H' : Hp} {L t : Addr} {qs : List Prt} {a b c n : Int} (h : PrsI H L qs H') (hL : H L = none) (hl : qs.length ≤ 900) (ht : H' t = none) :
    ∃ xs, upd H' t (.tup [.int a, .int b, .int c, .int n]) L = some (.lst xs) ∧ xs.length < sizeLine ∧ PrsI H L (qs ++ [⟨a, b, c, n⟩]) (upd (upd H' t (.tup [.int a, .int b, .int c, .int n])) L (.lst (xs ++ [.ref t]))) := by
  obtain ⟨us, g, e, hT⟩ := h.ex
  have hul := Paired.length hT
  have gt := same_new ht (.tup [.int a, .int b, .int c, .int n])
  refine ⟨us, gt _ _ e, small1000 (by omega), us ++ [.ref t], same_upd hL (g.trans gt) _, upd_same, ?_⟩
  exact Prts.mono (tups_lst (gt _ _ e)) (paired_snoc (hT.mono (tups_same gt)) ⟨t, rfl, upd_same⟩)
/-- rows that are known under way -/
structure MpI (H : Hp) (L : Addr) (tgt : List (List Int)) (i : Nat) (H' : Hp) : Prop where
  ex : ∃ us : List V, Same H H' ∧ H' L = some (.lst us) ∧ Rows H' us (tgt.take i) ∧ ∀ t, V.ref t ∈ us → t ≠ L
theorem MpI.step {H H' H2 : Hp} {L l : Addr} {tgt : List (List Int)} {i : Nat} {row : List Int} (h : MpI H L tgt i H') (hL : H L = none) (hi : i ≤ 900) (hr : tgt[i]? = some row) (g2 : Same H' H2) (hl : H' l = none) (hl2 : H2 l = some (.lst (row.map V.int))) :
    ∃ xs, H2 L = some (.lst xs) ∧ xs.length < sizeLine ∧ MpI H L tgt (i + 1) (upd H2 L (.lst (xs ++ [.ref l]))) := by
  obtain ⟨us, g, e, hR, fr⟩ := h.ex
  have hul := hR.len
  have htl : (tgt.take i).length ≤ i := by rw [List.length_take]; lia
  have ne : L ≠ l := ne_of_none e hl
  refine ⟨us, g2 _ _ e, small1000 (by lia), us ++ [.ref l], same_upd hL (g.trans g2) _, upd_same, ?_, fun t ht => ?_⟩
  · rw [List.take_succ, hr]
    refine Rows.off (Rows.snoc (hR.mono g2) ⟨l, rfl, hl2⟩) fun z => ?_
    rcases List.mem_append.mp z with z | z
    · exact (fr L z) rfl
    · exact ne (V.ref.inj (List.mem_singleton.mp z))
  · rcases List.mem_append.mp ht with z | z
    · exact fr t z
    · rw [V.ref.inj (List.mem_singleton.mp z)]
      exact ne.symm
end My

set_option Elab.async false
set_option linter.all false
set_option maxRecDepth 100000
set_option maxHeartbeats 1000000
namespace My
open PySem L2
/-- rows of choices under way, each hand its own -/
structure RotI (H : Hp) (L : Addr) (d : Int) (hs : List Int) (ps : List Pst) (i : Nat) (H' : Hp) : Prop where
  ex : ∃ (us : List V) (rows : List (List Int)), Same H H' ∧ H' L = some (.lst us) ∧ Rows H' us rows ∧ RotaT d hs ps i rows ∧ us.Nodup ∧ ∀ t, V.ref t ∈ us → t ≠ L ∧ H t = none
theorem RotI.step {H H' H2 : Hp} {L l : Addr} {d x : Int} {hs : List Int} {ps : List Pst} {i : Nat} {row : List Int} (h : RotI H L d hs ps i H') (hL : H L = none) (hi : i ≤ 900) (g2 : Same H' H2) (hl : H' l = none) (hl2 : H2 l = some (.lst (row.map V.int))) (hh : hs[i]? = some x) (hp : isRow d x ps row = true) :
    ∃ xs, H2 L = some (.lst xs) ∧ xs.length < sizeLine ∧ RotI H L d hs ps (i + 1) (upd H2 L (.lst (xs ++ [.ref l]))) := by
  obtain ⟨us, rows, g, e, hR, hT, nd, fr⟩ := h.ex
  have hul := hR.len
  have hrl := hT.len
  have ne : L ≠ l := ne_of_none e hl
  refine ⟨us, g2 _ _ e, small1000 (by omega), us ++ [.ref l], rows ++ [row], same_upd hL (g.trans g2) _, upd_same, ?_, hT.snoc hh hp, nodup_snoc nd (hR.notin hl), fun t ht => ?_⟩
  · refine Rows.off (Rows.snoc (hR.mono g2) ⟨l, rfl, hl2⟩) fun z => ?_
    rcases List.mem_append.mp z with z | z
    · exact (fr L z).1 rfl
    · exact ne (V.ref.inj (List.mem_singleton.mp z))
  · rcases List.mem_append.mp ht with z | z
    · exact fr t z
    · rw [V.ref.inj (List.mem_singleton.mp z)]
      exact ⟨ne.symm, g.free hl⟩
def LinLP (L : Addr) (H0 H : Hp) (v : V) (ℓ : Lin) : Prop := ∃ t l ts, v = .ref t ∧ H t = some (.tup [.ref l, .int ℓ.b]) ∧ H l = some (.lst ts) ∧ Prts H ts ℓ.ps ∧ l ≠ L ∧ H0 l = none
/-- the law's lines, in lists that were not there before -/
def LinFV (H0 H : Hp) (v : V) (ℓ : Lin) : Prop := ∃ t l ts, v = .ref t ∧ H t = some (.tup [.ref l, .int ℓ.b]) ∧ H l = some (.lst ts) ∧ Prts H ts ℓ.ps ∧ H0 l = none
abbrev LinsF (H0 H : Hp) : List V → List Lin → Prop := Paired (LinFV H0 H)
structure LinI (H : Hp) (L : Addr) (ls : List Lin) (H' : Hp) : Prop where
  ex : ∃ us : List V, Same H H' ∧ H' L = some (.lst us) ∧ Paired (LinLP L H H') us ls
theorem LinI.mono {H H' H2 : Hp} {L : Addr} {ls : List Lin} (h : LinI H L ls H') (g : Same H' H2) : LinI H L ls H2 := by
  obtain ⟨us, g0, e, hT⟩ := h.ex
  exact ⟨us, g0.trans g, g _ _ e, Paired.mapP hT fun _ _ ⟨t, l, ts, e, q, r, z, n⟩ => ⟨t, l, ts, e, g _ _ q, g _ _ r, z.mono (tups_same g), n⟩⟩
theorem LinI.done {H H' : Hp} {L : Addr} {ls : List Lin} (h : LinI H L ls H') : ∃ us, Same H H' ∧ H' L = some (.lst us) ∧ LinsF H H' us ls := by
  obtain ⟨us, g0, e, hT⟩ := h.ex
  exact ⟨us, g0, e, Paired.mapP hT fun _ _ ⟨t, l, ts, e, q, r, z, n, f⟩ => ⟨t, l, ts, e, q, r, z, f⟩⟩
theorem LinI.step {H H' H2 : Hp} {L l t : Addr} {ls : List Lin} {ts : List V} {qs : List Prt} {b : Int} (h : LinI H L ls H') (hL : H L = none) (hi : ls.length ≤ 900) (g2 : Same H' H2) (hl : H' l = none) (el : H2 l = some (.lst ts)) (hP : Prts H2 ts qs) (ht : H2 t = none) :
    ∃ xs, upd H2 t (.tup [.ref l, .int b]) L = some (.lst xs) ∧ xs.length < sizeLine ∧ LinI H L (ls ++ [⟨qs, b⟩]) (upd (upd H2 t (.tup [.ref l, .int b])) L (.lst (xs ++ [.ref t]))) := by
  obtain ⟨us, g, e, hT⟩ := h.ex
  have hul := Paired.length hT
  have gt := same_new ht (.tup [.ref l, .int b])
  have ne : l ≠ L := (ne_of_none e hl).symm
  have gg := g2.trans gt
  have eL := gg _ _ e
  refine ⟨us, eL, small1000 (by omega), us ++ [.ref t], same_upd hL (g.trans gg) _, upd_same, ?_⟩
  refine paired_snoc (Paired.mapP hT fun _ _ ⟨t', l', ts', e', q', r', z', n', f'⟩ => ⟨t', l', ts', e', (tups_lst eL) _ _ (gg _ _ q'), by rw [upd_ne n']; exact gg _ _ r', (z'.mono (tups_same gg)).mono (tups_lst eL), n', f'⟩) ?_
  exact ⟨t, l, ts, rfl, (tups_lst eL) _ _ upd_same, by rw [upd_ne ne]; exact gt _ _ el, (hP.mono (tups_same gt)).mono (tups_lst eL), ne, g.free hl⟩
/-- parts that are taken over, as they are -/
structure PrsF (H : Hp) (L : Addr) (qs : List Prt) (H' : Hp) : Prop where
  ex : ∃ us : List V, Same H H' ∧ H' L = some (.lst us) ∧ Prts H us qs
theorem PrsF.step {H H' : Hp} {L t : Addr} {qs : List Prt} {q : Prt} (h : PrsF H L qs H') (hL : H L = none) (hl : qs.length ≤ 900) (ht : H t = some (.tup [.int q.h, .int q.d, .int q.p, .int q.n])) :
    ∃ xs, H' L = some (.lst xs) ∧ xs.length < sizeLine ∧ PrsF H L (qs ++ [q]) (upd H' L (.lst (xs ++ [.ref t]))) := by
  obtain ⟨us, g, e, hT⟩ := h.ex
  have hul := Paired.length hT
  exact ⟨us, e, small1000 (by omega), us ++ [.ref t], same_upd hL g _, upd_same, paired_snoc hT ⟨t, rfl, ht⟩⟩
def Kp (L : Addr) (H H' : Hp) : Prop := ∀ c o, H c = some o → c ≠ L → H' c = some o
theorem Kp.trans {L : Addr} {H H' H2 : Hp} (g : Kp L H H') (h : Kp L H' H2) : Kp L H H2 := fun c o e n => h c o (g c o e n) n
theorem Kp.put {L : Addr} {H H' : Hp} {o : HO} (g : Kp L H H') : Kp L H (upd H' L o) := fun c o e n => by rw [upd_ne n]; exact g c o e n
theorem Kp.tups {L : Addr} {H H' : Hp} {xs : List V} (g : Kp L H H') (h : H L = some (.lst xs)) : Tups H H' := fun c ys e => g c _ e fun z => by rw [z, h] at e; cases e
structure SpcI (H : Hp) (L : Addr) (Pr : Sp4 → Prop) (i : Nat) (H' : Hp) : Prop where
  ex : ∃ (us : List V) (ss : List Sp4), ss.length = i ∧ Same H H' ∧ H' L = some (.lst us) ∧ Spcs H' us ss ∧ ∀ s ∈ ss, Pr s
theorem SpcI.step {H H' H2 : Hp} {L t : Addr} {Pr : Sp4 → Prop} {i : Nat} {s : Sp4} (h : SpcI H L Pr i H') (hL : H L = none) (hi : i ≤ 900) (g2 : Same H' H2) (et : H2 t = some (.tup [.int (s.k : Nat), .int s.a, .int s.b, .int s.c])) (hs : Pr s) :
    ∃ xs, H2 L = some (.lst xs) ∧ xs.length < sizeLine ∧ SpcI H L Pr (i + 1) (upd H2 L (.lst (xs ++ [.ref t]))) := by
  obtain ⟨us, ss, hl, g, e, hS, ok⟩ := h.ex
  have hul := Paired.length hS
  have eL := g2 _ _ e
  refine ⟨us, eL, small1000 (by omega), us ++ [.ref t], ss ++ [s], by rw [List.length_append, hl]; rfl, same_upd hL (g.trans g2) _, upd_same, ?_, fun x hx => ?_⟩
  · exact Spcs.tmono (tups_lst eL) (paired_snoc (Spcs.tmono (tups_same g2) hS) ⟨t, rfl, et⟩)
  · rcases List.mem_append.mp hx with z | z
    · exact ok x z
    · rw [List.mem_singleton.mp z]; exact hs
structure RulI (C : Nat → Addr) (P : Nat) (H : Hp) (L : Addr) (ss : List Sp4) (i : Nat) (H' : Hp) : Prop where
  ex : ∃ us : List V, Same H H' ∧ H' L = some (.lst us) ∧ Ruls C P H' us (ss.take i)
theorem RulI.step {C : Nat → Addr} {P : Nat} {H H' H2 : Hp} {L x : Addr} {ss : List Sp4} {i : Nat} {s : Sp4} (h : RulI C P H L ss i H') (hL : H L = none) (hi : i ≤ 900) (hs : ss[i]? = some s) (g2 : Same H' H2) (hx : RulV C P H2 (.ref x) s) :
    ∃ xs, H2 L = some (.lst xs) ∧ xs.length < sizeLine ∧ RulI C P H L ss (i + 1) (upd H2 L (.lst (xs ++ [.ref x]))) := by
  obtain ⟨us, g, e, hS⟩ := h.ex
  have hul := Paired.length hS
  rw [List.length_take] at hul
  have eL := g2 _ _ e
  refine ⟨us, eL, small1000 (by omega), us ++ [.ref x], same_upd hL (g.trans g2) _, upd_same, ?_⟩
  rw [take_one hs]
  exact Paired.mapP (paired_snoc (Ruls.mono g2 hS) hx) fun _ _ ⟨y, dy, ey, qy⟩ => ⟨y, dy, ey, by rw [upd_ne (fun z => by rw [z, eL] at qy; cases qy)]; exact qy⟩
end My

set_option Elab.async false
set_option linter.all false
set_option maxRecDepth 100000
set_option maxHeartbeats 1000000
namespace PySem
section
variable {prog : Program} {w : World} {K : Type} [DecidableEq K] {A : Around} {E : Value → Shared → Prop} {s : Shared}
variable {kx : KeyKind prog w K}
end
end PySem
namespace L2
open PySem PySem.Spec PyProof.Rows
section
variable {X : Cx}
/-- dict(d) of a dict by tuples, whose hashes are apart -/
def rCopyT (X : Cx) : List V → Hp → VK → Prop := fun xs H Q => ∃ a kvs, xs = [.ref a] ∧ H a = some (.dT kvs) ∧ (kvs.map fun kv => tupleKeyHash (mixKind X.prog X.w) kv.1).Nodup ∧ ∀ p, H p = none → Q (.ref p) (upd H p (.dT kvs))
end
/-- keys of whole numbers -/
def kN (ns : List Int) : List Key := ns.map Sum.inl
end L2

set_option Elab.async false
set_option linter.all false
set_option maxRecDepth 100000
set_option maxHeartbeats 1000000
namespace PySem
open Sem (wp)
namespace F
end F
section
variable {prog : Program} {w : World} {A : Around} {E : Value → Shared → Prop} {h : Heap} {g : Array GenState} {d : Drawn} {t : Nat} {os : OsState} {a : Addr} {o : Obj}
end
end PySem

set_option Elab.async false
set_option linter.all false
set_option maxRecDepth 100000
set_option maxHeartbeats 1000000
namespace PySem
open Sem (wp)
namespace F
end F
section
variable {prog : Program} {w : World} {K : Type} [DecidableEq K] {kx : KeyKind prog w K} {A : Around}
end
end PySem
namespace L2
open PySem PySem.Spec PyProof.Rows
/-- an item of a list of pairs -/
def PrV (H : Hp) (v : V) (kv : List Key × V) : Prop := ∃ t b, v = .ref t ∧ H t = some (.tup [.ref b, kv.2]) ∧ H b = some (.tup (kv.1.map kV))
abbrev PrsV (H : Hp) : List V → List (List Key × V) → Prop := Paired (PrV H)
section
variable {X : Cx}
/-- dict(list of pairs), by tuples -/
def rDictP : List V → Hp → VK → Prop := fun xs H Q => ∃ a us kvs, xs = [.ref a] ∧ H a = some (.lst us) ∧ PrsV H us kvs ∧ kvs.length ≤ 1000 ∧ ∀ p, H p = none → Q (.ref p) (upd H p (.dT (kvs.foldl (fun acc kv => putK acc kv.1 kv.2) [])))
end
end L2

set_option Elab.async false
set_option linter.all false
set_option maxRecDepth 100000
set_option maxHeartbeats 1000000
namespace PySem
open Sem (wp)
section
variable {prog : Program} {w : World} {K : Type} [DecidableEq K] {knd : HeapKind prog w K} {A : Around} {E : Value → Shared → Prop} {s : Shared}
end
end PySem
namespace L2
open PySem PySem.Spec PyProof.Rows
section
variable {X : Cx}
/-- two dicts by tuples that hold the same whole numbers -/
def rEqT : R2 := fun x y H Q => ∃ a b kvs, x = .ref a ∧ y = .ref b ∧ H a = some (.dT kvs) ∧ H b = some (.dT kvs) ∧ (∀ kv ∈ kvs, ∃ i, kv.2 = .int i) ∧ Q (.bl true) H
def rNeT : R2 := fun x y H Q => ∃ a b kvs, x = .ref a ∧ y = .ref b ∧ H a = some (.dT kvs) ∧ H b = some (.dT kvs) ∧ (∀ kv ∈ kvs, ∃ i, kv.2 = .int i) ∧ Q (.bl false) H
end
end L2

set_option Elab.async false
set_option linter.all false
set_option maxRecDepth 100000
set_option maxHeartbeats 1000000
namespace My
open PySem L2
def apart (f : Nat → Nat) : Nat → Nat → Bool
  | 0, _ => true
  | k + 1, m => !(m.testBit (f k)) && apart f k (m ||| (1 <<< f k))
end My

set_option Elab.async false
set_option linter.all false
set_option maxRecDepth 100000
set_option maxHeartbeats 1000000
namespace L2
open PySem PySem.Spec PyProof.Rows
section
variable {prog : Program} {w : World} {A : Around}
end
section
variable {X : Cx}
/-- a key's tuple -/
def KyV (H : Hp) (v : V) (kv : List Key × V) : Prop := ∃ b, v = .ref b ∧ H b = some (.tup (kv.1.map kV))
def rListT : List V → Hp → VK → Prop := fun xs H Q => ∃ a kvs, xs = [.ref a] ∧ H a = some (.dT kvs) ∧ ∀ l us, H l = none → Paired (KyV H) us kvs → Q (.ref l) (upd H l (.lst us))
end
end L2

set_option Elab.async false
set_option linter.all false
set_option maxRecDepth 100000
set_option maxHeartbeats 1000000
namespace My
open PySem L2
def k2 (h d : Int) : List Key := [Sum.inl h, Sum.inl d]
def nO (kvs : List (List Key × V)) (h d p : Int) : Int := iv (valV kvs (kk h d p))
/-- keys of three, within bounds, apart, with whole numbers -/
structure NumOk (n D P : Nat) (kvs : List (List Key × V)) : Prop where
  ky : Keys kvs
  ai : AllI kvs
  inb : ∀ kv ∈ kvs, ∃ h d p : Nat, kv.1 = kk h d p ∧ h < n ∧ d < D ∧ p < P
theorem NumOk.nil {n D P : Nat} : NumOk n D P [] := ⟨List.nodup_nil, allI_nil, fun _ h => by cases h⟩
theorem putK_mem {k : List Key} {v : V} {kvs : List (List Key × V)} {kv : List Key × V} (h : kv ∈ putK kvs k v) : kv.1 = k ∨ ∃ kv' ∈ kvs, kv'.1 = kv.1 := by
  unfold putK at h
  split at h
  · obtain ⟨x, hx, rfl⟩ := List.mem_map.mp h
    by_cases z : x.1 = k
    · rw [if_pos z]; exact .inl z
    · rw [if_neg z]; exact .inr ⟨x, hx, rfl⟩
  · rcases List.mem_append.mp h with h | h
    · exact .inr ⟨kv, h, rfl⟩
    · rw [List.mem_singleton.mp h]; exact .inl rfl
theorem NumOk.put {n D P : Nat} {kvs : List (List Key × V)} (o : NumOk n D P kvs) {h d p : Nat} (hh : h < n) (hd : d < D) (hp : p < P) (i : Int) : NumOk n D P (putK kvs (kk h d p) (.int i)) :=
  ⟨keys_put o.ky _ _, allI_put o.ai _ _, fun kv m => by
    rcases putK_mem m with e | ⟨kv', h1, h2⟩
    · exact ⟨h, d, p, e, hh, hd, hp⟩
    · obtain ⟨a, b, c, e, r⟩ := o.inb kv' h1
      exact ⟨a, b, c, h2 ▸ e, r⟩⟩
structure PinOk (n D P : Nat) (pns : List (List Key × V)) : Prop where
  ky : Keys pns
  ai : AllI pns
  inb : ∀ kv ∈ pns, ∃ h d : Nat, kv.1 = k2 h d ∧ h < n ∧ d < D
theorem PinOk.nil {n D P : Nat} : PinOk n D P [] := ⟨List.nodup_nil, allI_nil, fun _ h => by cases h⟩
theorem PinOk.put {n D P : Nat} {kvs : List (List Key × V)} (o : PinOk n D P kvs) {h d : Nat} (hh : h < n) (hd : d < D) (i : Int) : PinOk n D P (putK kvs (k2 h d) (.int i)) :=
  ⟨keys_put o.ky _ _, allI_put o.ai _ _, fun kv m => by
    rcases putK_mem m with e | ⟨kv', h1, h2⟩
    · exact ⟨h, d, e, hh, hd⟩
    · obtain ⟨a, b, e, r⟩ := o.inb kv' h1
      exact ⟨a, b, h2 ▸ e, r⟩⟩
/-- all cells -/
def cls (n D : Nat) : List (Nat × Nat) := (List.range n).flatMap fun h => (List.range D).map fun d => (h, d)
/-- a key's numbers -/
def ka (k : List Key) (i : Nat) : Int := match k[i]? with | some (.inl z) => z | _ => 0
theorem k2_inj {a b a' b' : Int} (h : k2 a b = k2 a' b') : a = a' ∧ b = b' := by
  unfold k2 at h
  simp only [List.cons.injEq, Sum.inl.injEq, and_true] at h
  exact h
def mxL : List Int → Int
  | [] => 0
  | x :: xs => xs.foldl max x
/-- what may stand at a cell -/
def vls2 (pns : List (List Key × V)) (own : List Int) (h d : Int) : List Int := match valV pns (k2 h d) with | some v => [iv (some v)] | none => own
def mxC (pns kvs : List (List Key × V)) (own : Nat → List Int) (h d : Nat) : Int := mxL ((vls2 pns (own h) h d).map fun p => nO kvs h d p)
def bestN (pns kvs : List (List Key × V)) (own : Nat → List Int) (n D : Nat) : Int := ((cls n D).map fun c => mxC pns kvs own c.1 c.2).sum
def prK (kv : List Key × V) : List Key × V := (k2 (ka kv.1 0) (ka kv.1 1), .bl true)
theorem val_mem {kvs : List (List Key × V)} {k : List Key} {v : V} (h : valV kvs k = some v) : (k, v) ∈ kvs := by
  induction kvs with
  | nil => cases h
  | cons p r ih =>
    by_cases z : p.1 = k
    · rw [valV_pos z] at h
      cases h
      rw [← z]
      exact List.mem_cons_self ..
    · rw [valV_neg z] at h
      exact List.mem_cons_of_mem _ (ih h)
def pAt (k : List Key) (qs : List Prt) : Int := (qs.map fun q => if kk q.h q.d q.p = k then q.n else 0).sum
end My

set_option Elab.async false
set_option linter.all false
set_option maxRecDepth 100000
set_option maxHeartbeats 1000000
namespace My
open PySem L2
/-- a list of lists under way, each known by its place -/
structure GatF (H : Hp) (L : Addr) (f : Nat → List Int → Prop) (i : Nat) (H' : Hp) : Prop where
  ex : ∃ (us : List V) (rows : List (List Int)), rows.length = i ∧ Same H H' ∧ H' L = some (.lst us) ∧ Rows H' us rows ∧ (∀ j row, rows[j]? = some row → f j row) ∧ ∀ t, V.ref t ∈ us → t ≠ L
theorem GatF.step {H H' H2 : Hp} {L l : Addr} {f : Nat → List Int → Prop} {i : Nat} {row : List Int} (h : GatF H L f i H') (hL : H L = none) (hi : i ≤ 900) (g2 : Same H' H2) (hl : H' l = none) (hl2 : H2 l = some (.lst (row.map V.int))) (hp : f i row) :
    ∃ xs, H2 L = some (.lst xs) ∧ xs.length < sizeLine ∧ GatF H L f (i + 1) (upd H2 L (.lst (xs ++ [.ref l]))) := by
  obtain ⟨us, rows, hr, g, e, hR, hP, fr⟩ := h.ex
  have hul := hR.len
  have ne : L ≠ l := ne_of_none e hl
  refine ⟨us, g2 _ _ e, small1000 (by lia), us ++ [.ref l], rows ++ [row], by rw [List.length_append, hr]; rfl, same_upd hL (g.trans g2) _, upd_same, ?_, fun j r hr' => ?_, fun t ht => ?_⟩
  · refine Rows.off (Rows.snoc (hR.mono g2) ⟨l, rfl, hl2⟩) fun z => ?_
    rcases List.mem_append.mp z with z | z
    · exact fr L z rfl
    · exact ne (V.ref.inj (List.mem_singleton.mp z))
  · by_cases z : j < rows.length
    · rw [List.getElem?_append_left z] at hr'
      exact hP j r hr'
    · rw [List.getElem?_append_right (by omega)] at hr'
      have hj : j - rows.length < [row].length := (List.getElem?_eq_some_iff.mp hr').1
      rw [List.length_singleton] at hj
      rw [show j - rows.length = 0 by omega] at hr'
      cases hr'
      rw [show j = i by omega]
      exact hp
  · rcases List.mem_append.mp ht with z | z
    · exact fr t z
    · rw [V.ref.inj (List.mem_singleton.mp z)]
      exact ne.symm
/-- all that GatF tells in the end -/
theorem GatF.done {H H' : Hp} {L : Addr} {f : Nat → List Int → Prop} {i : Nat} (h : GatF H L f i H') : ∃ (us : List V) (rows : List (List Int)), rows.length = i ∧ Same H H' ∧ H' L = some (.lst us) ∧ Rows H' us rows ∧ ∀ j row, rows[j]? = some row → f j row := by
  obtain ⟨us, rows, a, b, c, d, e, _⟩ := h.ex
  exact ⟨us, rows, a, b, c, d, e⟩
/-- the pairs of a case under way -/
structure PrI (F : Hp) (L : Addr) (kvs : List (List Key × V)) (i : Nat) (H' : Hp) : Prop where
  ex : ∃ us, Same F H' ∧ H' L = some (.lst us) ∧ L2.PrsV H' us ((kvs.take i).map prK)
theorem prsV_mono {H H' : Hp} (g : Tups H H') {us : List V} {kvs : List (List Key × V)} (h : L2.PrsV H us kvs) : L2.PrsV H' us kvs := Paired.mapP h fun _ _ ⟨t, b, e, q1, q2⟩ => ⟨t, b, e, g _ _ q1, g _ _ q2⟩
theorem PrI.step {F H' : Hp} {L b t : Addr} {kvs : List (List Key × V)} {i : Nat} {h d p : Int} {v : V} (I : PrI F L kvs i H') (hL : F L = none) (hk : kvs[i]? = some (kk h d p, v)) (hi : i ≤ 900) (hb : H' b = none) (ht : upd H' b (.tup [.int h, .int d]) t = none) :
    ∃ xs, upd (upd H' b (.tup [.int h, .int d])) t (.tup [.ref b, .bl true]) L = some (.lst xs) ∧ xs.length < sizeLine ∧ PrI F L kvs (i + 1) (upd (upd (upd H' b (.tup [.int h, .int d])) t (.tup [.ref b, .bl true])) L (.lst (xs ++ [.ref t]))) := by
  obtain ⟨us, g, e, hP⟩ := I.ex
  have g1 := same_new hb (.tup [.int h, .int d])
  have g2 := same_new ht (.tup [.ref b, .bl true])
  have hl := Paired.length hP
  rw [List.length_map, List.length_take] at hl
  have G := g1.trans g2
  refine ⟨us, G _ _ e, small1000 (by omega), us ++ [.ref t], same_upd hL (g.trans G) _, upd_same, ?_⟩
  rw [take_one hk, List.map_append]
  refine prsV_mono (tups_lst (G _ _ e)) ?_
  exact paired_snoc (prsV_mono (tups_same G) hP) ⟨t, b, rfl, upd_same, g2 _ _ upd_same⟩
end My
namespace My
open PySem L2
end My
namespace My
open PySem L2
def InR (n D P : Nat) (q : Prt) : Prop := ∃ h d p : Nat, kk q.h q.d q.p = kk h d p ∧ h < n ∧ d < D ∧ p < P
structure OoI (B : Hp) (p1 p2 : Addr) (t u : Int) (S : List Key → Int) (n D P m : Nat) (H' : Hp) : Prop where
  ne : p1 ≠ p2
  fr : ∀ b o, B b = some o → b ≠ p1 → b ≠ p2 → H' b = some o
  ex : ∃ (us1 us2 : List V) (qs1 qs2 : List Prt), H' p1 = some (.lst us1) ∧ H' p2 = some (.lst us2) ∧ Prts H' us1 qs1 ∧ Prts H' us2 qs2 ∧ qs1.length ≤ m ∧ qs2.length ≤ m ∧ (∀ k, pAt k qs1 * t + pAt k qs2 * u = S k) ∧ (∀ q ∈ qs1, InR n D P q) ∧ ∀ q ∈ qs2, InR n D P q
theorem OoI.mono {B : Hp} {p1 p2 : Addr} {t u : Int} {S : List Key → Int} {n D P m : Nat} {H' H2 : Hp} (I : OoI B p1 p2 t u S n D P m H') (g : Same H' H2) : OoI B p1 p2 t u S n D P m H2 := by
  obtain ⟨us1, us2, qs1, qs2, a, b, c, d, r⟩ := I.ex
  exact ⟨I.ne, fun x o h z1 z2 => g _ _ (I.fr x o h z1 z2), us1, us2, qs1, qs2, g _ _ a, g _ _ b, c.mono (tups_same g), d.mono (tups_same g), r⟩
end My
namespace My
open PySem L2
end My
namespace My
open PySem L2
end My
namespace My
open PySem L2
end My
namespace My
open PySem L2
end My

set_option Elab.async false
set_option linter.all false
set_option maxRecDepth 100000
set_option maxHeartbeats 1000000
namespace My
open PySem L2
def lnAt (sums : List (List Lin)) (u : Tri) : Option Lin := if 0 ≤ u.1 ∧ 0 ≤ u.2.1 then (sums[u.1.toNat]?).bind fun ls => ls[u.2.1.toNat]? else none
def okU (sums : List (List Lin)) (u : Tri) : Bool := (lnAt sums u).isSome && decide (1 ≤ u.2.2)
def lin0 : Lin := ⟨[], 0⟩
def usL (sums : List (List Lin)) (us : List Tri) : List (Lin × Int) := us.map fun u => ((lnAt sums u).getD lin0, u.2.2)
def dueU (sums : List (List Lin)) (us : List Tri) (pns : List (List Key × V)) (own : Nat → List Int) (n D : Nat) : Bool := us.all (okU sums) && (decide (us ≠ []) && decide (bestN pns (sumKv (usL sums us)) own n D < sumB (usL sums us)))
end My

set_option Elab.async false
set_option linter.all false
set_option maxRecDepth 100000
set_option maxHeartbeats 1000000
namespace My
open PySem L2
def UsOk (us : List Tri) : Prop := us.length ≤ 6 ∧ ∀ u ∈ us, -(2 ^ 40) < u.2.2 ∧ u.2.2 < 2 ^ 40
/-- pairs of the law: lines in lists -/
def PrLV (H : Hp) (v : V) (l : Lin × Int) : Prop := ∃ t u, v = .ref t ∧ H t = some (.tup [.ref u, .int l.2]) ∧ LinLV H (.ref u) l.1
abbrev PrsL (H : Hp) : List V → List (Lin × Int) → Prop := Paired (PrLV H)
theorem LinLV.mono {H H' : Hp} (g : Same H H') {v : V} {ℓ : Lin} (h : LinLV H v ℓ) : LinLV H' v ℓ := by
  obtain ⟨t, l, ts, e, q, r, z⟩ := h
  exact ⟨t, l, ts, e, g _ _ q, g _ _ r, z.mono (tups_same g)⟩
theorem PrsL.mono {H H' : Hp} (g : Same H H') {us : List V} {ls : List (Lin × Int)} (h : PrsL H us ls) : PrsL H' us ls := Paired.mapP h fun _ _ ⟨t, u, e, q, r⟩ => ⟨t, u, e, g _ _ q, r.mono g⟩
/-- the law's lines, rule by rule -/
def ToldV (H : Hp) (v : V) (ls : List Lin) : Prop := ∃ t us, v = .ref t ∧ H t = some (.lst us) ∧ LinsL H us ls
abbrev Told (H : Hp) : List V → List (List Lin) → Prop := Paired (ToldV H)
theorem Told.mono {H H' : Hp} (g : Same H H') {us : List V} {lls : List (List Lin)} (h : Told H us lls) : Told H' us lls := Paired.mapP h fun _ _ ⟨t, us, e, q, r⟩ => ⟨t, us, e, g _ _ q, LinsL.mono g r⟩
/-- the program's pairs under way -/
structure PaG (H : Hp) (L : Addr) (ls : List (Lin × Int)) (i : Nat) (H' : Hp) : Prop where
  ex : ∃ us : List V, Same H H' ∧ H' L = some (.lst us) ∧ Prs H' us (ls.take i)
theorem PaG.step {H H' : Hp} {L t u : Addr} {ls : List (Lin × Int)} {i : Nat} {l : Lin × Int} (h : PaG H L ls i H') (hL : H L = none) (hi : i ≤ 900) (hl : ls[i]? = some l) (hv : LinV H' (.ref u) l.1) (ht : H' t = none) :
    ∃ xs, upd H' t (.tup [.ref u, .int l.2]) L = some (.lst xs) ∧ xs.length < sizeLine ∧ PaG H L ls (i + 1) (upd (upd H' t (.tup [.ref u, .int l.2])) L (.lst (xs ++ [.ref t]))) := by
  obtain ⟨us, g, e, hP⟩ := h.ex
  have hul := Paired.length hP
  rw [List.length_take] at hul
  have gt := same_new ht (.tup [.ref u, .int l.2])
  refine ⟨us, gt _ _ e, small1000 (by omega), us ++ [.ref t], same_upd hL (g.trans gt) _, upd_same, ?_⟩
  rw [take_one hl]
  exact Prs.mono (tups_lst (gt _ _ e)) (paired_snoc (hP.mono (tups_same gt)) ⟨t, u, rfl, upd_same, hv.mono (tups_same gt)⟩)
/-- the law's pairs under way; L is no list of theirs -/
structure PlG (H : Hp) (L : Addr) (ls : List (Lin × Int)) (H' : Hp) : Prop where
  ex : ∃ us : List V, Same H H' ∧ H' L = some (.lst us) ∧ Paired (fun v l => ∃ t u, v = V.ref t ∧ H' t = some (.tup [.ref u, .int l.2]) ∧ LinLV H (.ref u) l.1) us ls
theorem PlG.done {H H' : Hp} {L : Addr} {ls : List (Lin × Int)} (h : PlG H L ls H') : ∃ us : List V, Same H H' ∧ H' L = some (.lst us) ∧ PrsL H' us ls := by
  obtain ⟨us, g, e, hP⟩ := h.ex
  exact ⟨us, g, e, Paired.mapP hP fun _ _ ⟨t, u, e, q, r⟩ => ⟨t, u, e, q, r.mono g⟩⟩
theorem PlG.step {H H' : Hp} {L t u : Addr} {ls : List (Lin × Int)} {ℓ : Lin} {k : Int} (h : PlG H L ls H') (hL : H L = none) (hi : ls.length ≤ 900) (hv : LinLV H (.ref u) ℓ) (ht : H' t = none) :
    ∃ xs, upd H' t (.tup [.ref u, .int k]) L = some (.lst xs) ∧ xs.length < sizeLine ∧ PlG H L (ls ++ [(ℓ, k)]) (upd (upd H' t (.tup [.ref u, .int k])) L (.lst (xs ++ [.ref t]))) := by
  obtain ⟨us, g, e, hP⟩ := h.ex
  have hul := Paired.length hP
  have gt := same_new ht (.tup [.ref u, .int k])
  have tu := tups_lst (o := .lst (us ++ [.ref t])) (gt _ _ e)
  refine ⟨us, gt _ _ e, small1000 (by omega), us ++ [.ref t], same_upd hL (g.trans gt) _, upd_same, ?_⟩
  exact paired_snoc (Paired.mapP hP fun _ _ ⟨t, u, e, q, r⟩ => ⟨t, u, e, tu _ _ (gt _ _ q), r⟩) ⟨t, u, rfl, tu _ _ upd_same, hv⟩
theorem cls_succ (n D : Nat) : cls (n + 1) D = cls n D ++ (List.range D).map fun d => (n, d) := by
  unfold cls
  rw [List.range_succ, List.flatMap_append]
  simp
def DueV (H : Hp) (v : V) (p : Int × Int) : Prop := ∃ a, v = .ref a ∧ H a = some (.tup [.int p.1, .int p.2])
abbrev Dues (H : Hp) : List V → List (Int × Int) → Prop := Paired (DueV H)
theorem Dues.tmono {H H' : Hp} (g : Tups H H') {us : List V} {ts : List (Int × Int)} (h : Dues H us ts) : Dues H' us ts := Paired.mapP h fun _ _ ⟨a, e, q⟩ => ⟨a, e, g _ _ q⟩
/-- two lists of pairs under way -/
structure TwI (H : Hp) (p1 p2 : Addr) (m : Nat) (H' : Hp) : Prop where
  ne : p1 ≠ p2
  ex : ∃ (us1 us2 : List V) (t1 t2 : List (Int × Int)), Same H H' ∧ H' p1 = some (.lst us1) ∧ H' p2 = some (.lst us2) ∧ Dues H' us1 t1 ∧ Dues H' us2 t2 ∧ t1.length ≤ m ∧ t2.length ≤ m
theorem TwI.mono {H H' H2 : Hp} {p1 p2 : Addr} {m : Nat} (h : TwI H p1 p2 m H') (g2 : Same H' H2) : TwI H p1 p2 m H2 := by
  obtain ⟨us1, us2, t1, t2, g, e1, e2, d1, d2, l1, l2⟩ := h.ex
  exact ⟨h.ne, us1, us2, t1, t2, g.trans g2, g2 _ _ e1, g2 _ _ e2, d1.tmono (tups_same g2), d2.tmono (tups_same g2), l1, l2⟩
structure TolI (H : Hp) (L : Addr) (lls : List (List Lin)) (i : Nat) (H' : Hp) : Prop where
  ex : ∃ us : List V, Same H H' ∧ H' L = some (.lst us) ∧ Paired (fun v ls => ∃ t ul, v = V.ref t ∧ t ≠ L ∧ H' t = some (.lst ul) ∧ Paired (LinLP L H H') ul ls) us (lls.take i)
theorem TolI.step {H H' H2 : Hp} {L r : Addr} {lls : List (List Lin)} {i : Nat} {ls : List Lin} {ul : List V} (h : TolI H L lls i H') (hL : H L = none) (hi : i ≤ 900) (hl : lls[i]? = some ls) (g2 : Same H' H2) (hr : H' r = none) (er : H2 r = some (.lst ul)) (hu : LinsF H' H2 ul ls) :
    ∃ xs, H2 L = some (.lst xs) ∧ xs.length < sizeLine ∧ TolI H L lls (i + 1) (upd H2 L (.lst (xs ++ [.ref r]))) := by
  obtain ⟨us, g, e, hT⟩ := h.ex
  have hul := Paired.length hT
  rw [List.length_take] at hul
  have eL := g2 _ _ e
  have tu := tups_lst (o := .lst (us ++ [.ref r])) eL
  refine ⟨us, eL, small1000 (by omega), us ++ [.ref r], same_upd hL (g.trans g2) _, upd_same, ?_⟩
  rw [take_one hl]
  refine paired_snoc (Paired.mapP hT fun _ _ ⟨t, ul, e, n, q, z⟩ => ⟨t, ul, e, n, by rw [upd_ne n]; exact g2 _ _ q, Paired.mapP z fun _ _ ⟨t', l', ts', e', q', r', z', n', f'⟩ => ⟨t', l', ts', e', tu _ _ (g2 _ _ q'), by rw [upd_ne n']; exact g2 _ _ r', (z'.mono (tups_same g2)).mono tu, n', f'⟩⟩) ?_
  refine ⟨r, ul, rfl, (ne_of_none e hr).symm, by rw [upd_ne (ne_of_none e hr).symm]; exact er, Paired.mapP hu fun _ _ ⟨t', l', ts', e', q', r', z', f'⟩ => ?_⟩
  have n' : l' ≠ L := (ne_of_none e f').symm
  exact ⟨t', l', ts', e', tu _ _ q', by rw [upd_ne n']; exact r', z'.mono tu, n', g.free f'⟩
theorem TolI.done {H H' : Hp} {L : Addr} {lls : List (List Lin)} (h : TolI H L lls lls.length H') : ∃ us : List V, Same H H' ∧ H' L = some (.lst us) ∧ Told H' us lls := by
  obtain ⟨us, g, e, hT⟩ := h.ex
  rw [List.take_length] at hT
  exact ⟨us, g, e, Paired.mapP hT fun _ _ ⟨t, ul, e, _, q, z⟩ => ⟨t, ul, e, q, Paired.mapP z fun _ _ ⟨t', l', ts', e', q', r', z', _, _⟩ => ⟨t', l', ts', e', q', r', z'⟩⟩⟩
end My

set_option Elab.async false
set_option linter.all false
set_option maxRecDepth 100000
set_option maxHeartbeats 1000000
namespace My
open PySem L2
def TmOk (us : List Tri) : Prop := ∀ u ∈ us, -(2 ^ 40) < u.2.2 ∧ u.2.2 < 2 ^ 40
theorem TmOk.nil : TmOk [] := fun u z => by cases z
theorem TmOk.snoc {us : List Tri} {a b c : Int} (h : TmOk us) (c0 : -1000000001 < c) (c1 : c ≤ 1000000001) : TmOk (us ++ [(a, b, c)]) := fun u hu => by
  rcases List.mem_append.mp hu with z | z
  · exact h u z
  · rw [List.mem_singleton.mp z]
    exact ⟨by show -(2 ^ 40) < c; omega, by show c < 2 ^ 40; omega⟩
end My

set_option Elab.async false
set_option linter.all false
set_option maxRecDepth 100000
set_option maxHeartbeats 1000000
namespace L2
open PySem PySem.Spec PyProof.Rows
end L2

set_option Elab.async false
set_option linter.all false
set_option maxRecDepth 100000
set_option maxHeartbeats 1000000
namespace L2
open PySem PySem.Spec PyProof.Rows
/-- whole numbers by tuples of numbers -/
def Plain (kvs : List (List Key × V)) : Prop := ∀ kv ∈ kvs, (∃ ns, kv.1 = kN ns) ∧ ∃ i, kv.2 = .int i
def DctV (H : Hp) (v : V) (kvs : List (List Key × V)) : Prop := ∃ d, v = .ref d ∧ H d = some (.dT kvs) ∧ Plain kvs
abbrev Dcts (H : Hp) : List V → List (List (List Key × V)) → Prop := Paired (DctV H)
section
variable {X : Cx} {pins : List (Addr × Obj)} {σ : St} {H : Hp} {s : Shared}
end
end L2

set_option Elab.async false
set_option linter.all false
set_option maxRecDepth 100000
set_option maxHeartbeats 1000000
namespace L2
open PySem PySem.Spec PyProof.Rows
def Itv (K : PySem.W.Frag) (a : Addr) (n : Nat) : It :=
  ⟨fun i H => ∃ xs x, SqL K H a xs ∧ xs.length = n ∧ i < n ∧ xs[n - 1 - i]? = some x, fun i H x H' => H' = H ∧ ∀ xs, SqL K H a xs → xs[n - 1 - i]? = some x, fun i _ => n ≤ i⟩
def iRev (K : PySem.W.Frag) (te : TE) : TI := fun σ H R => te σ H fun x H1 => ∃ a xs, x = .ref a ∧ SqL K H1 a xs ∧ R (Itv K a xs.length) H1
end L2

set_option Elab.async false
set_option linter.all false
set_option maxRecDepth 100000
set_option maxHeartbeats 1000000
namespace My
open PySem L2
abbrev Pns := List (List Key × V)
inductive Stp where
  | part (h d : Int)
  | sum (us : List Tri)
  | oth (s : Str)
def StpV (H : Hp) (v : V) : Stp → Prop
  | .part h d => ∃ t, v = .ref t ∧ H t = some (.tup [.str "part", .int h, .int d])
  | .sum us => ∃ t ut uv, v = .ref t ∧ H t = some (.tup [.str "sum", .ref ut]) ∧ H ut = some (.tup uv) ∧ Tris H uv us
  | .oth s => ∃ t vs, v = .ref t ∧ H t = some (.tup (.str s :: vs)) ∧ V.str s ≠ .str "part" ∧ V.str s ≠ .str "sum"
theorem StpV.tmono {H H' : Hp} (g : Tups H H') {v : V} : ∀ {st : Stp}, StpV H v st → StpV H' v st
  | .part _ _, ⟨t, e, q⟩ => ⟨t, e, g _ _ q⟩
  | .sum _, ⟨t, ut, uv, e, q, r, z⟩ => ⟨t, ut, uv, e, g _ _ q, g _ _ r, Tris.tmono g z⟩
  | .oth _, ⟨t, vs, e, q, r⟩ => ⟨t, vs, e, g _ _ q, r⟩
abbrev Stps (H : Hp) : List V → List Stp → Prop := Paired (StpV H)
theorem Stps.tmono {H H' : Hp} (g : Tups H H') {us : List V} {sts : List Stp} (h : Stps H us sts) : Stps H' us sts := Paired.mapP h fun _ _ => StpV.tmono g
def isFree (n D : Nat) (pns : Pns) (h d : Int) : Bool := (decide (0 ≤ h) && decide (h < (n : Int))) && ((decide (0 ≤ d) && decide (d < (D : Int))) && !(valV pns (k2 h d)).isSome)
def partedM (pns : Pns) (ow : List Int) (h d : Int) : List Pns := ow.reverse.map fun v => putK pns (k2 h d) (.int v)
structure Ctx where
  E : List Tri → Pns → Bool
  own : Nat → List Int
  n : Nat
  D : Nat
def isStep (c : Ctx) (pns : Pns) : Stp → Bool
  | .part h d => isFree c.n c.D pns h d
  | .sum us => c.E us pns
  | .oth _ => false
def behM (c : Ctx) (pns : Pns) : Stp → List Pns
  | .part h d => partedM pns (c.own h.toNat) h d
  | _ => []
def stepM (c : Ctx) (cs : List Pns) (st : Stp) : Option (List Pns) := match cs.getLast? with
  | none => none
  | some pns => if isStep c pns st = true then some (cs.dropLast ++ behM c pns st) else none
def leftM (c : Ctx) (sts : List Stp) : Option (List Pns) := sts.foldl (fun o st => o.bind fun cs => stepM c cs st) (some [[]])
theorem leftM_snoc (c : Ctx) (sts : List Stp) (st : Stp) : leftM c (sts ++ [st]) = (leftM c sts).bind fun cs => stepM c cs st := by
  unfold leftM
  rw [List.foldl_append]
  rfl
theorem stepM_last {c : Ctx} {cs : List Pns} {pns : Pns} {st : Stp} : stepM c (cs ++ [pns]) st = if isStep c pns st = true then some (cs ++ behM c pns st) else none := by
  unfold stepM
  rw [List.getLast?_append]
  show (if isStep c pns st = true then some ((cs ++ [pns]).dropLast ++ behM c pns st) else none) = _
  rw [List.dropLast_concat]
/-- what every case keeps to -/
def CsOk (n D k : Nat) (cs : List Pns) : Prop := cs.length ≤ 1 + 9 * k ∧ ∀ p ∈ cs, PinOk n D 0 p ∧ p.length ≤ k
theorem free_of {n D : Nat} {pns : Pns} {h d : Int} (z : isFree n D pns h d = true) : 0 ≤ h ∧ h < (n : Int) ∧ 0 ≤ d ∧ d < (D : Int) ∧ valV pns (k2 h d) = none := by
  unfold isFree at z
  simp only [Bool.and_eq_true, decide_eq_true_eq, Bool.not_eq_true'] at z
  obtain ⟨⟨a, b⟩, ⟨c, d⟩, e⟩ := z
  refine ⟨a, b, c, d, ?_⟩
  cases hv : valV pns (k2 h _) with
  | none => rfl
  | some v => rw [hv] at e; cases e
theorem CsOk.step {c : Ctx} {k : Nat} {cs : List Pns} {pns : Pns} {st : Stp} (o : CsOk c.n c.D k (cs ++ [pns])) (hw : ∀ h, h < c.n → (c.own h).length ≤ 9) (z : isStep c pns st = true) : CsOk c.n c.D (k + 1) (cs ++ behM c pns st) := by
  obtain ⟨o1, o2⟩ := o
  rw [List.length_append, List.length_singleton] at o1
  have hp := o2 pns (List.mem_append_right _ (List.mem_singleton.mpr rfl))
  have old : ∀ p ∈ cs, PinOk c.n c.D 0 p ∧ p.length ≤ k + 1 := fun p h => ⟨(o2 p (List.mem_append_left _ h)).1, Nat.le_succ_of_le (o2 p (List.mem_append_left _ h)).2⟩
  cases st with
  | part h d =>
    obtain ⟨h0, h1, d0, d1, hv⟩ := free_of (show isFree c.n c.D pns h d = true from z)
    have hl := hw h.toNat (by omega)
    refine ⟨?_, fun p hm => ?_⟩
    · show (cs ++ partedM pns (c.own h.toNat) h d).length ≤ _
      unfold partedM
      rw [List.length_append, List.length_map, List.length_reverse]
      omega
    · rcases List.mem_append.mp hm with y | y
      · exact old p y
      · have y : p ∈ partedM pns (c.own h.toNat) h d := y
        unfold partedM at y
        obtain ⟨v, _, rfl⟩ := List.mem_map.mp y
        have e : k2 h d = k2 ((h.toNat : Nat) : Int) ((d.toNat : Nat) : Int) := by rw [Int.toNat_of_nonneg h0, Int.toNat_of_nonneg d0]
        refine ⟨by rw [e]; exact hp.1.put (by omega) (by omega) v, ?_⟩
        have := length_putK pns (k2 h d) (.int v)
        have := hp.2
        omega
  | sum us =>
    refine ⟨?_, fun p hm => ?_⟩
    · show (cs ++ []).length ≤ _
      rw [List.append_nil]
      omega
    · have hm : p ∈ cs ++ [] := hm
      rw [List.append_nil] at hm
      exact old p hm
  | oth s =>
    have z : false = true := z
    cases z
theorem Dcts.mono {H H' : Hp} (g : Same H H') {us : List V} {cs : List Pns} (h : Dcts H us cs) : Dcts H' us cs := Paired.mapP h fun _ _ ⟨d, e, q, r⟩ => ⟨d, e, g _ _ q, r⟩
theorem Dcts.off {H : Hp} {L : Addr} {xs : List V} {o : HO} (hL : H L = some (.lst xs)) {us : List V} {cs : List Pns} (h : Dcts H us cs) : Dcts (upd H L o) us cs := Paired.mapP h fun _ _ ⟨d, e, q, r⟩ => ⟨d, e, by rw [upd_ne (fun z => by rw [z, hL] at q; cases q)]; exact q, r⟩
structure LfI (H : Hp) (L : Addr) (cs : List Pns) (H' : Hp) : Prop where
  ex : ∃ us : List V, Same H H' ∧ H' L = some (.lst us) ∧ Dcts H' us cs
theorem LfI.mono {H H' H2 : Hp} {L : Addr} {cs : List Pns} (h : LfI H L cs H') (g : Same H' H2) : LfI H L cs H2 := by
  obtain ⟨us, g0, e, d⟩ := h.ex
  exact ⟨us, g0.trans g, g _ _ e, Dcts.mono g d⟩
theorem LfI.put {H H' : Hp} {L : Addr} {cs cs' : List Pns} {us' : List V} (h : LfI H L cs H') (hL : H L = none) (d : Dcts H' us' cs') : LfI H L cs' (upd H' L (.lst us')) := by
  obtain ⟨us, g0, e, _⟩ := h.ex
  exact ⟨us', same_upd hL g0 _, upd_same, Dcts.off e d⟩
def StUs : Stp → Prop
  | .sum us => UsOk us
  | _ => True
end My

set_option Elab.async false
set_option linter.all false
set_option maxRecDepth 100000
set_option maxHeartbeats 1000000
namespace My
open PySem L2
theorem CsOk.mono {n D k j : Nat} {cs : List Pns} (h : CsOk n D k cs) (kj : k ≤ j) : CsOk n D j cs := ⟨by have := h.1; omega, fun p hp => ⟨(h.2 p hp).1, Nat.le_trans (h.2 p hp).2 kj⟩⟩

/-- the law's walk under way -/
structure WkI (H : Hp) (pa : Addr) (c : Ctx) (i : Nat) (up : List V) (sts : List Stp) (cv : V) (H' : Hp) : Prop where
  g : Same H H'
  ep : H' pa = some (.lst up)
  st : Stps H' up sts
  us : ∀ st ∈ sts, StUs st
  len : sts.length = i
  cv : (leftM c sts = none ∧ cv = .non) ∨ ∃ cl us cs, cv = .ref cl ∧ cl ≠ pa ∧ H' cl = some (.lst us) ∧ Dcts H' us cs ∧ leftM c sts = some cs ∧ CsOk c.n c.D i cs
/-- pairs of numbers under way -/
structure DuI (H : Hp) (L : Addr) (fr : List (Int × Int)) (H' : Hp) : Prop where
  ex : ∃ us : List V, Same H H' ∧ H' L = some (.lst us) ∧ Dues H' us fr
theorem DuI.mono {H H' H2 : Hp} {L : Addr} {fr : List (Int × Int)} (h : DuI H L fr H') (g2 : Same H' H2) : DuI H L fr H2 := by
  obtain ⟨us, g, e, d⟩ := h.ex
  exact ⟨us, g.trans g2, g2 _ _ e, d.tmono (tups_same g2)⟩
theorem DuI.step {H H' : Hp} {L t : Addr} {fr : List (Int × Int)} {a b : Int} (h : DuI H L fr H') (hL : H L = none) (hl : fr.length ≤ 900) (ht : H' t = none) :
    ∃ xs, upd H' t (.tup [.int a, .int b]) L = some (.lst xs) ∧ xs.length < sizeLine ∧ DuI H L (fr ++ [(a, b)]) (upd (upd H' t (.tup [.int a, .int b])) L (.lst (xs ++ [.ref t]))) := by
  obtain ⟨us, g, e, d⟩ := h.ex
  have hul := Paired.length d
  have gt := same_new ht (.tup [.int a, .int b])
  refine ⟨us, gt _ _ e, small1000 (by omega), us ++ [.ref t], same_upd hL (g.trans gt) _, upd_same, ?_⟩
  exact Dues.tmono (tups_lst (gt _ _ e)) (paired_snoc (d.tmono (tups_same gt)) ⟨t, rfl, upd_same⟩)

/-- dicts that were not there before -/
def Frs (H : Hp) (us : List V) : Prop := ∀ d, V.ref d ∈ us → H d = none
theorem Frs.snoc {H : Hp} {us : List V} {p : Addr} (h : Frs H us) (hp : H p = none) : Frs H (us ++ [.ref p]) := fun d z => by
  rcases List.mem_append.mp z with y | y
  · exact h d y
  · rw [V.ref.inj (List.mem_singleton.mp y)]; exact hp
end My

set_option Elab.async false
set_option linter.all false
set_option maxRecDepth 100000
set_option maxHeartbeats 1000000
namespace My
open PySem L2
theorem WkI.mono {H H' H2 : Hp} {pa : Addr} {c : Ctx} {i : Nat} {up : List V} {sts : List Stp} {cv : V} (w : WkI H pa c i up sts cv H') (g : Same H' H2) : WkI H pa c i up sts cv H2 := by
  refine ⟨w.g.trans g, g _ _ w.ep, Stps.tmono (tups_same g) w.st, w.us, w.len, ?_⟩
  rcases w.cv with h | ⟨cl, us, cs, h1, h2, h3, h4, h5, h6⟩
  · exact .inl h
  · exact .inr ⟨cl, us, cs, h1, h2, g _ _ h3, Dcts.mono g h4, h5, h6⟩
end My

set_option Elab.async false
set_option linter.all false
set_option maxRecDepth 100000
set_option maxHeartbeats 1000000
namespace My
open PySem L2
/-- every cell is pinned as the table has it -/
def Full (n D : Nat) (pns : Pns) (rows : List (List Int)) : Prop := ∀ h d : Nat, h < n → d < D → valV pns (k2 h d) = some (.int (val rows h d))
end My

set_option Elab.async false
set_option linter.all false
set_option maxRecDepth 100000
set_option maxHeartbeats 1000000
namespace My
open PySem L2
/-- a case of the walk: the first cells are pinned, the others are not -/
structure CaseAt (n D : Nat) (os : List (Nat × Nat)) (p : Pns) : Prop where
  ok : PinOk n D 0 p
  le : p.length ≤ os.length
  fr : ∀ j c, p.length ≤ j → os[j]? = some c → valV p (k2 c.1 c.2) = none
  pi : ∀ j c, j < p.length → os[j]? = some c → (valV p (k2 c.1 c.2)).isSome = true
theorem CaseAt.nil {n D : Nat} {os : List (Nat × Nat)} : CaseAt n D os [] := ⟨PinOk.nil, Nat.zero_le _, fun _ _ _ _ => rfl, fun j _ h _ => absurd h (Nat.not_lt_zero _)⟩
theorem val_has {k : List Key} : ∀ {p : Pns} {kv : List Key × V}, kv ∈ p → kv.1 = k → (valV p k).isSome = true
  | x :: p, kv, m, e => by
    by_cases z : x.1 = k
    · rw [valV_pos z]
      rfl
    · rw [valV_neg z]
      rcases List.mem_cons.mp m with r | r
      · exact absurd (r ▸ e) z
      · exact val_has r e
theorem len_put_new {p : Pns} {k : List Key} {v : V} (h : valV p k = none) : (putK p k v).length = p.length + 1 := by
  unfold putK
  split
  · rename_i z
    obtain ⟨kv, m, e⟩ := List.any_eq_true.mp z
    have := val_has m (of_decide_eq_true e)
    rw [h] at this
    cases this
  · rw [List.length_append]
    rfl
theorem os_inj {os : List (Nat × Nat)} (hn : os.Nodup) {i j : Nat} {c : Nat × Nat} (hi : os[i]? = some c) (hj : os[j]? = some c) : i = j := by
  obtain ⟨h1, e1⟩ := List.getElem?_eq_some_iff.mp hi
  obtain ⟨h2, e2⟩ := List.getElem?_eq_some_iff.mp hj
  exact (List.getElem_inj hn).mp (e1.trans e2.symm)
theorem CaseAt.put {n D : Nat} {os : List (Nat × Nat)} {p : Pns} (h : CaseAt n D os p) (hn : os.Nodup) (hb : ∀ c ∈ os, c.1 < n ∧ c.2 < D) {c : Nat × Nat} (hc : os[p.length]? = some c) (v : Int) : CaseAt n D os (putK p (k2 c.1 c.2) (.int v)) ∧ (putK p (k2 c.1 c.2) (.int v)).length = p.length + 1 := by
  have hl := len_put_new (v := .int v) (h.fr _ c (Nat.le_refl _) hc)
  have hlt := (List.getElem?_eq_some_iff.mp hc).1
  obtain ⟨b1, b2⟩ := hb c (List.mem_of_getElem? hc)
  refine ⟨⟨h.ok.put b1 b2 v, by omega, fun j c' hj hj' => ?_, fun j c' hj hj' => ?_⟩, hl⟩
  · rw [hl] at hj
    have ne : c' ≠ c := fun z => by
      rw [z] at hj'
      have := os_inj hn hj' hc
      omega
    rw [valV_put, if_neg (fun z => ne (by
      obtain ⟨z1, z2⟩ := k2_inj z
      exact Prod.ext (by omega) (by omega)))]
    exact h.fr j c' (by omega) hj'
  · rw [hl] at hj
    rw [valV_put]
    by_cases z : k2 (c'.1 : Int) c'.2 = k2 c.1 c.2
    · rw [if_pos z]
      rfl
    · rw [if_neg z]
      refine h.pi j c' ?_ hj'
      rcases Nat.lt_or_ge j p.length with y | y
      · exact y
      · have : j = p.length := by omega
        rw [this, hc] at hj'
        cases hj'
        exact absurd rfl z
theorem CaseAt.free {n D : Nat} {os : List (Nat × Nat)} {p : Pns} (h : CaseAt n D os p) (hb : ∀ c ∈ os, c.1 < n ∧ c.2 < D) {c : Nat × Nat} (hc : os[p.length]? = some c) : isFree n D p c.1 c.2 = true := by
  obtain ⟨b1, b2⟩ := hb c (List.mem_of_getElem? hc)
  unfold isFree
  rw [h.fr _ c (Nat.le_refl _) hc, decide_eq_true (Int.natCast_nonneg _), decide_eq_true (by omega), decide_eq_true (Int.natCast_nonneg _), decide_eq_true (by omega)]
  rfl
end My

set_option Elab.async false
set_option linter.all false
set_option maxRecDepth 100000
set_option maxHeartbeats 1000000
namespace My
open PySem L2
/-- the paper that is made: each step on the case that was met -/
structure Made (c : Ctx) (os : List (Nat × Nat)) (sts : List Stp) (met : List Pns) (cs : List Pns) : Prop where
  lf : leftM c sts = some cs
  ml : met.length = sts.length
  at_ : ∀ i p, met[i]? = some p → ∃ cs', leftM c (sts.take i) = some (cs' ++ [p])
  ca : ∀ p ∈ cs, CaseAt c.n c.D os p
theorem Made.step {c : Ctx} {os : List (Nat × Nat)} {sts : List Stp} {met cs : List Pns} {p : Pns} {st : Stp} (m : Made c os sts met (cs ++ [p])) (hs : isStep c p st = true) (hb : ∀ q ∈ behM c p st, CaseAt c.n c.D os q) : Made c os (sts ++ [st]) (met ++ [p]) (cs ++ behM c p st) := by
  have hl := m.ml
  refine ⟨?_, by rw [List.length_append, List.length_append, hl]; rfl, fun i q hq => ?_, fun q hq => ?_⟩
  · rw [leftM_snoc, m.lf]
    show stepM c (cs ++ [p]) st = _
    rw [stepM_last, if_pos hs]
  · by_cases z : i < met.length
    · rw [List.getElem?_append_left z] at hq
      rw [List.take_append_of_le_length (by omega)]
      exact m.at_ i q hq
    · rw [List.getElem?_append_right (by omega)] at hq
      have hi : i - met.length < [p].length := (List.getElem?_eq_some_iff.mp hq).1
      rw [List.length_singleton] at hi
      have hi' : i = sts.length := by omega
      rw [show i - met.length = 0 by omega] at hq
      cases hq
      rw [hi', List.take_left' rfl]
      exact ⟨cs, m.lf⟩
  · rcases List.mem_append.mp hq with z | z
    · exact m.ca q (List.mem_append_left _ z)
    · exact hb q z
end My

set_option Elab.async false
set_option linter.all false
set_option maxRecDepth 100000
set_option maxHeartbeats 1000000
namespace My
open PySem L2
theorem cls_len (n D : Nat) : (cls n D).length = n * D := by
  induction n with
  | zero => rw [Nat.zero_mul]; rfl
  | succ n ih => rw [cls_succ, List.length_append, ih, List.length_map, List.length_range, Nat.succ_mul]
def TwiceSt : Stp → Stp → Prop
  | .part h d, .part h' d' => h = h' ∧ d = d'
  | .sum vs, .sum us => ∃ i j t1 t2, us = [(i, j, 1)] ∧ vs = [(i, j, t1), (i, j, t2)] ∧ 1 ≤ t1 ∧ 1 ≤ t2
  | _, _ => False
end My
namespace L2
open PySem PySem.Spec PyProof.Rows
end L2

set_option Elab.async false
set_option linter.all false
set_option maxRecDepth 100000
set_option maxHeartbeats 1000000
namespace My
open PySem L2
/-- no line up to here ends the case alone -/
def NoC (lls : List (List Lin)) (rows : List (List Int)) (D : Nat) (p : Pns) (i j : Nat) : Prop := ∀ (i' j' : Nat) ls ℓ, (i' < i ∨ (i' = i ∧ j' < j)) → lls[i']? = some ls → ls[j']? = some ℓ → dueU lls [((i' : Int), (j' : Int), 1)] p (fun h => rows[h]?.getD []) rows.length D = false
def NoR (lls : List (List Lin)) (rows : List (List Int)) (D : Nat) (p : Pns) (i : Nat) : Prop := NoC lls rows D p i 0
theorem NoR.all {lls : List (List Lin)} {rows : List (List Int)} {D : Nat} {p : Pns} (h : NoR lls rows D p lls.length) : ∀ (i j : Nat) ls ℓ, lls[i]? = some ls → ls[j]? = some ℓ → dueU lls [((i : Int), (j : Int), 1)] p (fun h => rows[h]?.getD []) rows.length D = false := fun i j ls ℓ e1 e2 => h i j ls ℓ (.inl (List.getElem?_eq_some_iff.mp e1).1) e1 e2
end My

set_option Elab.async false
set_option linter.all false
set_option maxRecDepth 100000
set_option maxHeartbeats 1000000
namespace My
open PySem L2
theorem DuI.ins {H H' : Hp} {L t : Addr} {fr : List (Int × Int)} {a b : Int} (h : DuI H L fr H') (hL : H L = none) (ht : H' t = none) (j : Nat) (us : List V) (eu : upd H' t (.tup [.int a, .int b]) L = some (.lst us)) : DuI H L (fr.take j ++ (a, b) :: fr.drop j) (upd (upd H' t (.tup [.int a, .int b])) L (.lst (us.take j ++ .ref t :: us.drop j))) := by
  obtain ⟨us', g, e, hT⟩ := h.ex
  have gt := same_new ht (.tup [.int a, .int b])
  have e2 := gt _ _ e
  rw [eu] at e2
  cases e2
  refine ⟨_, same_upd hL (g.trans gt) _, upd_same, Dues.tmono (tups_lst eu) ?_⟩
  have hT := Dues.tmono (tups_same gt) hT
  have : ∀ (j : Nat) {xs : List V} {ys : List (Int × Int)}, Dues (upd H' t (.tup [.int a, .int b])) xs ys → Dues (upd H' t (.tup [.int a, .int b])) (xs.take j ++ .ref t :: xs.drop j) (ys.take j ++ (a, b) :: ys.drop j) := by
    intro j
    induction j with
    | zero => intro xs ys h; exact .cons ⟨t, rfl, upd_same⟩ h
    | succ j ih =>
      intro xs ys h
      cases h with
      | nil => exact .cons ⟨t, rfl, upd_same⟩ .nil
      | cons x r => exact .cons x (ih r)
  exact this j hT
theorem ins_permA {α : Type} {ts bs : List α} {x : α} (h : ts.Perm bs) (j : Nat) : (ts.take j ++ x :: ts.drop j).Perm (bs ++ [x]) := by
  have h1 : (ts.take j ++ x :: ts.drop j).Perm (x :: (ts.take j ++ ts.drop j)) := List.perm_middle
  rw [List.take_append_drop] at h1
  refine h1.trans ?_
  exact (List.Perm.cons x h).trans (List.perm_append_singleton x bs).symm
abbrev c2 (c : Nat × Nat) : Int × Int := ((c.1 : Int), (c.2 : Int))
/-- the cells put in some order, under way -/
structure OrI (H : Hp) (L : Addr) (D i j : Nat) (H' : Hp) : Prop where
  ex : ∃ os : List (Nat × Nat), DuI H L (os.map fun c => ((c.1 : Int), (c.2 : Int))) H' ∧ os.Perm (cls i D ++ (List.range j).map fun d => (i, d))
theorem OrI.len {H H' : Hp} {L : Addr} {D i j : Nat} (h : OrI H L D i j H') : ∃ us, H' L = some (.lst us) ∧ us.length = i * D + j := by
  obtain ⟨os, h, p⟩ := h.ex
  obtain ⟨us, _, e, d⟩ := h.ex
  have hl := Paired.length d
  refine ⟨us, e, ?_⟩
  rw [hl, List.length_map, p.length_eq, List.length_append, cls_len, List.length_map, List.length_range]
theorem OrI.mono {H H' H2 : Hp} {L : Addr} {D i j : Nat} (h : OrI H L D i j H') (g : Same H' H2) : OrI H L D i j H2 := by
  obtain ⟨os, h, p⟩ := h.ex
  exact ⟨os, h.mono g, p⟩
theorem OrI.step {H H' : Hp} {L t : Addr} {D i j : Nat} (h : OrI H L D i j H') (hL : H L = none) (ht : H' t = none) (k : Nat) (us : List V) (eu : upd H' t (.tup [.int (i : Int), .int (j : Int)]) L = some (.lst us)) : OrI H L D i (j + 1) (upd (upd H' t (.tup [.int (i : Int), .int (j : Int)])) L (.lst (us.take k ++ .ref t :: us.drop k))) := by
  obtain ⟨os, h, p⟩ := h.ex
  have h2 := h.ins hL ht k us eu
  refine ⟨os.take k ++ (i, j) :: os.drop k, ?_, ?_⟩
  · rw [List.map_append, List.map_cons, List.map_take, List.map_drop]
    exact h2
  · rw [List.range_succ, List.map_append, ← List.append_assoc]
    exact ins_permA p k
structure MdH (H : Hp) (Lc Lm Lp : Addr) (cs met : List Pns) (sts : List Stp) (H' : Hp) : Prop where
  g : Same H H'
  c : ∃ us, H' Lc = some (.lst us) ∧ Dcts H' us cs
  m : ∃ um, H' Lm = some (.lst um) ∧ Dcts H' um met
  p : ∃ up, H' Lp = some (.lst up) ∧ Stps H' up sts
section
variable {H H' H2 : Hp} {Lc Lm Lp : Addr} {cs cs' met : List Pns} {sts : List Stp}
theorem MdH.mono (h : MdH H Lc Lm Lp cs met sts H') (g : Same H' H2) : MdH H Lc Lm Lp cs met sts H2 := by
  obtain ⟨us, c1, c2⟩ := h.c
  obtain ⟨um, m1, m2⟩ := h.m
  obtain ⟨up, p1, p2⟩ := h.p
  exact ⟨h.g.trans g, ⟨us, g _ _ c1, Dcts.mono g c2⟩, ⟨um, g _ _ m1, Dcts.mono g m2⟩, ⟨up, g _ _ p1, Stps.tmono (tups_same g) p2⟩⟩
end
end My

set_option Elab.async false
set_option linter.all false
set_option maxRecDepth 100000
namespace L2
open PySem PySem.Spec PyProof.Rows
section
variable {P : Program} {w : World} {κ : Type} [DecidableEq κ] {kn : HeapKind P w κ} {d : Addr} {A : Around} {E : Value → Shared → Prop} {s : Shared}
end
section
variable {X : Cx}
end
end L2

set_option Elab.async false
set_option linter.all false
set_option maxRecDepth 100000
set_option maxHeartbeats 1000000
namespace My
open PySem L2
structure RwI (H : Hp) (l : Addr) (p : Pns) (i j : Nat) (H' : Hp) : Prop where
  ex : ∃ ys : List Int, Same H H' ∧ H' l = some (.lst (ys.map V.int)) ∧ ys.length = j ∧ ∀ d, d < j → valV p (k2 i d) = some (.int (ys[d]?.getD 0))
section
variable {H H' H2 : Hp} {l L : Addr} {p : Pns} {i j D : Nat} {v : Int}
theorem RwI.step (h : RwI H l p i j H') (hl : H l = none) (g : Same H' H2) (hv : valV p (k2 i j) = some (.int v)) (hj : j ≤ 900) : ∃ xs, H2 l = some (.lst xs) ∧ xs.length < sizeLine ∧ RwI H l p i (j + 1) (upd H2 l (.lst (xs ++ [.int v]))) := by
  obtain ⟨ys, g0, e, hy, hd⟩ := h.ex
  refine ⟨_, g _ _ e, small1000 (by rw [List.length_map]; omega), ys ++ [v], same_upd hl (g0.trans g) _, by rw [upd_same, List.map_append]; rfl, by rw [List.length_append, hy]; rfl, fun d hd' => ?_⟩
  by_cases z : d < j
  · rw [List.getElem?_append_left (by omega)]
    exact hd d z
  · have : d = j := by omega
    subst this
    rw [List.getElem?_append_right (by omega), hv, hy, Nat.sub_self]
    rfl
structure TaI (H : Hp) (L : Addr) (p : Pns) (D i : Nat) (H' : Hp) : Prop where
  ex : ∃ (us : List V) (tab : List (List Int)), Same H H' ∧ H' L = some (.lst us) ∧ Rows H' us tab ∧ tab.length = i ∧ (∀ t, V.ref t ∈ us → t ≠ L) ∧ ∀ j, j < i → (tab[j]?.getD []).length = D ∧ ∀ d, d < D → valV p (k2 j d) = some (.int (val tab j d))
theorem TaI.step (h : TaI H L p D i H') (hL : H L = none) (hl : H' l = none) (r : RwI H' l p i D H2) (hi : i ≤ 900) : ∃ xs, H2 L = some (.lst xs) ∧ xs.length < sizeLine ∧ TaI H L p D (i + 1) (upd H2 L (.lst (xs ++ [.ref l]))) := by
  obtain ⟨us, tab, g, e, hR, ht, fr, hv⟩ := h.ex
  obtain ⟨ys, g2, e2, hy, hd⟩ := r.ex
  have hul := hR.len
  have ne : L ≠ l := ne_of_none e hl
  refine ⟨us, g2 _ _ e, small1000 (by omega), us ++ [.ref l], tab ++ [ys], same_upd hL (g.trans g2) _, upd_same, ?_, by rw [List.length_append, ht]; rfl, fun t z => ?_, fun k hk => ?_⟩
  · refine Rows.off (Rows.snoc (hR.mono g2) ⟨l, rfl, e2⟩) fun z => ?_
    rcases List.mem_append.mp z with z | z
    · exact fr L z rfl
    · exact ne (V.ref.inj (List.mem_singleton.mp z))
  · rcases List.mem_append.mp z with z | z
    · exact fr t z
    · rw [V.ref.inj (List.mem_singleton.mp z)]; exact ne.symm
  · by_cases z : k < i
    · have e3 : (tab ++ [ys])[k]? = tab[k]? := List.getElem?_append_left (by omega)
      unfold val
      rw [e3]
      exact hv k z
    · have : k = i := by omega
      subst this
      have e3 : (tab ++ [ys])[k]? = some ys := by
        rw [List.getElem?_append_right (by omega), ht, Nat.sub_self]
        rfl
      unfold val
      rw [e3]
      exact ⟨hy, hd⟩
theorem TaI.done (h : TaI H L p D i H') : ∃ us tab, Same H H' ∧ H' L = some (.lst us) ∧ Rows H' us tab ∧ tab.length = i ∧ (∀ row ∈ tab, row.length = D) ∧ Full i D p tab := by
  obtain ⟨us, tab, g, e, hR, ht, fr, hv⟩ := h.ex
  refine ⟨us, tab, g, e, hR, ht, fun row hr => ?_, fun h d hh hd => (hv h hh).2 d hd⟩
  obtain ⟨j, hj, rfl⟩ := List.mem_iff_getElem.mp hr
  have := (hv j (by omega)).1
  rw [List.getElem?_eq_getElem hj] at this
  exact this
end
/-- lines taken twice, under way -/
structure TmI (H : Hp) (L : Addr) (sts : List Stp) (i : Nat) (H' : Hp) : Prop where
  ex : ∃ (us : List V) (sts2 : List Stp), Same H H' ∧ H' L = some (.lst us) ∧ Stps H' us sts2 ∧ (∀ st ∈ sts2, StUs st) ∧ Paired TwiceSt sts2 (sts.take i)
section
variable {H H' H2 : Hp} {L : Addr} {sts : List Stp} {i : Nat} {v : V} {st st2 : Stp}
theorem TmI.mono (h : TmI H L sts i H') (g : Same H' H2) : TmI H L sts i H2 := by
  obtain ⟨us, s2, g0, e, a, b, c⟩ := h.ex
  exact ⟨us, s2, g0.trans g, g _ _ e, Stps.tmono (tups_same g) a, b, c⟩
theorem TmI.step (h : TmI H L sts i H') (hL : H L = none) (hs : sts[i]? = some st) (hi : i ≤ 900) (hv : StpV H' v st2) (hu : StUs st2) (tw : TwiceSt st2 st) : ∃ xs, H' L = some (.lst xs) ∧ xs.length < sizeLine ∧ TmI H L sts (i + 1) (upd H' L (.lst (xs ++ [v]))) := by
  obtain ⟨us, s2, g0, e, a, b, c⟩ := h.ex
  have h1 := Paired.length a
  have h2 := Paired.length c
  have h3 : (sts.take i).length ≤ i := by rw [List.length_take]; omega
  refine ⟨us, e, small1000 (by omega), us ++ [v], s2 ++ [st2], same_upd hL g0 _, upd_same, Stps.tmono (tups_lst e) (paired_snoc a hv), fun s hm => ?_, ?_⟩
  · rcases List.mem_append.mp hm with z | z
    · exact b s z
    · rw [List.mem_singleton.mp z]; exact hu
  · rw [take_one hs]
    exact paired_snoc c tw
end
end My

set_option Elab.async false
set_option linter.all false
set_option maxRecDepth 100000
set_option maxHeartbeats 1000000
namespace My
open PySem L2
def Agr (rows : List (List Int)) (p : Pns) : Prop := ∀ (h d : Nat) (v : V), valV p (k2 h d) = some v → v = .int (val rows h d)
theorem Agr.nil {rows : List (List Int)} : Agr rows [] := fun h d v z => by cases z
open Classical in
section
variable {rows : List (List Int)} {ps : List Pst} {row : List Int} {h : Nat} {s c : Int} {n : Nat}
end
end My

set_option Elab.async false
set_option linter.all false
set_option maxRecDepth 100000
set_option maxHeartbeats 1000000
namespace My
open PySem L2
end My

set_option Elab.async false
set_option linter.all false
set_option maxRecDepth 100000
set_option maxHeartbeats 1000000
namespace My
open PySem L2
def AgrI (rows : List (List Int)) (pns : Pns) (i : Nat) : Prop := ∀ (j : Nat) (k : List Key) (v : V), j < i → pns[j]? = some (k, v) → ∀ h d : Nat, k = k2 h d → v = .int (val rows h d)
theorem AgrI.done {rows : List (List Int)} {pns : Pns} (a : AgrI rows pns pns.length) : Agr rows pns := fun h d v e => by
  obtain ⟨j, hj, e1⟩ := List.mem_iff_getElem.mp (val_mem e)
  exact a j (k2 h d) v hj (by rw [List.getElem?_eq_getElem hj, e1]) h d rfl
structure SwH (H : Hp) (Lc Lp : Addr) (cs : List Pns) (sts : List Stp) (H' : Hp) : Prop where
  g : Same H H'
  c : ∃ us, H' Lc = some (.lst us) ∧ Dcts H' us cs
  p : ∃ up, H' Lp = some (.lst up) ∧ Stps H' up sts
section
variable {H H' H2 : Hp} {Lc Lp : Addr} {cs cs' : List Pns} {sts : List Stp}
theorem SwH.mono (h : SwH H Lc Lp cs sts H') (g : Same H' H2) : SwH H Lc Lp cs sts H2 := by
  obtain ⟨us, c1, c2⟩ := h.c
  obtain ⟨up, p1, p2⟩ := h.p
  exact ⟨h.g.trans g, ⟨us, g _ _ c1, Dcts.mono g c2⟩, ⟨up, g _ _ p1, Stps.tmono (tups_same g) p2⟩⟩
end
theorem CsOk.drop {n D k : Nat} {cs : List Pns} {p : Pns} (o : CsOk n D k (cs ++ [p])) : CsOk n D (k + 1) cs := by
  obtain ⟨o1, o2⟩ := o
  rw [List.length_append, List.length_singleton] at o1
  exact ⟨by omega, fun q hq => ⟨(o2 q (List.mem_append_left _ hq)).1, Nat.le_succ_of_le (o2 q (List.mem_append_left _ hq)).2⟩⟩
def PartOk (n D : Nat) : Stp → Prop
  | .part h d => ∃ h' d' : Nat, h = h' ∧ d = d' ∧ h' < n ∧ d' < D
  | .sum _ => True
  | .oth _ => False
def GoodSt (n D : Nat) (H : Hp) (v : V) : Prop := ∃ st, StpV H v st ∧ StUs st ∧ PartOk n D st
theorem GoodSt.mono {n D : Nat} {H H' : Hp} {v : V} (g : Same H H') (h : GoodSt n D H v) : GoodSt n D H' v := by
  obtain ⟨st, a, b, c⟩ := h
  exact ⟨st, a.tmono (tups_same g), b, c⟩
/-- free cells under way -/
structure FcI (H : Hp) (L : Addr) (n D : Nat) (p : Pns) (H' : Hp) : Prop where
  ex : ∃ fs : List (Nat × Nat), DuI H L (fs.map fun c => ((c.1 : Int), (c.2 : Int))) H' ∧ (∀ c ∈ fs, c.1 < n ∧ c.2 < D ∧ valV p (k2 c.1 c.2) = none)
/-- triples that are uses -/
structure UsI (H : Hp) (L : Addr) (i : Nat) (H' : Hp) : Prop where
  ex : ∃ us : List Tri, TriI H L us H' ∧ us.length = i ∧ ∀ u ∈ us, -(2 ^ 40) < u.2.2 ∧ u.2.2 < 2 ^ 40
theorem FcI.mono {H H' H2 : Hp} {L : Addr} {n D : Nat} {p : Pns} (h : FcI H L n D p H') (g : Same H' H2) : FcI H L n D p H2 := by
  obtain ⟨fs, d, a⟩ := h.ex
  exact ⟨fs, d.mono g, a⟩
theorem FcI.step {H H' : Hp} {L t : Addr} {n D : Nat} {p : Pns} {h d : Nat} {us : List V} (f : FcI H L n D p H') (hL : H L = none) (ht : H' t = none) (eL : H' L = some (.lst us)) (hl : us.length ≤ 900) (hh : h < n) (hd : d < D) (hv : valV p (k2 h d) = none) :
    upd H' t (.tup [.int (h : Int), .int (d : Int)]) L = some (.lst us) ∧ us.length < sizeLine ∧ FcI H L n D p (upd (upd H' t (.tup [.int (h : Int), .int (d : Int)])) L (.lst (us ++ [.ref t]))) := by
  obtain ⟨fs, dI, a⟩ := f.ex
  obtain ⟨us', _, e', hD⟩ := dI.ex
  rw [eL] at e'
  cases e'
  have hlen := Paired.length hD
  rw [List.length_map] at hlen
  obtain ⟨xs, e1, e2, e3⟩ := dI.step (a := h) (b := d) hL (by rw [List.length_map]; omega) ht
  have gt := same_new ht (.tup [.int (h : Int), .int (d : Int)])
  have e4 := gt _ _ eL
  rw [e4] at e1
  cases e1
  refine ⟨e4, e2, fs ++ [(h, d)], by rw [List.map_append]; exact e3, fun c hc => ?_⟩
  rcases List.mem_append.mp hc with z | z
  · exact a c z
  · rw [List.mem_singleton.mp z]; exact ⟨hh, hd, hv⟩
theorem UsI.step {H H' H2 : Hp} {L t : Addr} {i : Nat} {a b c : Int} (h : UsI H L i H') (hL : H L = none) (hi : i ≤ 900) (g : Same H' H2) (ht : H2 t = none) (c0 : -(2 ^ 40) < c) (c1 : c < 2 ^ 40) :
    ∃ xs, upd H2 t (.tup [.int a, .int b, .int c]) L = some (.lst xs) ∧ xs.length < sizeLine ∧ UsI H L (i + 1) (upd (upd H2 t (.tup [.int a, .int b, .int c])) L (.lst (xs ++ [.ref t]))) := by
  obtain ⟨us, tI, ui, hus⟩ := h.ex
  obtain ⟨uu, g0, eL, hT⟩ := tI.ex
  have hl := Paired.length hT
  have gt := g.trans (same_new ht (.tup [.int a, .int b, .int c]))
  refine ⟨uu, gt _ _ eL, small1000 (by omega), us ++ [(a, b, c)], ⟨_, same_upd hL (g0.trans gt) _, upd_same, Tris.tmono (tups_lst (gt _ _ eL)) (paired_snoc (Tris.tmono (tups_same gt) hT) ⟨t, rfl, upd_same⟩)⟩, by rw [List.length_append, ui]; rfl, fun u hu => ?_⟩
  rcases List.mem_append.mp hu with z | z
  · exact hus u z
  · rw [List.mem_singleton.mp z]; exact ⟨c0, c1⟩
theorem Paired.take {α β : Type} {F : α → β → Prop} : ∀ {xs : List α} {ys : List β} (n : Nat), Paired F xs ys → Paired F (xs.take n) (ys.take n)
  | _, _, 0, _ => .nil
  | _, _, _ + 1, .nil => .nil
  | _, _, n + 1, .cons a r => .cons a (Paired.take n r)
end My

set_option Elab.async false
set_option linter.all false
set_option maxRecDepth 100000
set_option maxHeartbeats 1000000
namespace L2
open PySem PySem.Spec PyProof.Rows HT
section
variable {prog : Program} {w : World} {A : Around} {E : Value → Shared → Prop} {s : Shared}
end
section
variable {X : Cx}
end
end L2

set_option Elab.async false
set_option linter.all false
set_option maxRecDepth 100000
set_option maxHeartbeats 1000000
namespace L2
open PySem PySem.Spec PyProof.Rows
section
variable {prog : Program} {w : World} {A : Around} {E : Value → Shared → Prop} {h : Heap} {g : Array GenState} {d : Drawn} {t : Nat} {os : OsState}
variable {nm q : Str} {C N : Addr} {bs bm bmB : List Value} {hdct : Bool} {sn : List Str} {sub : List Value} {ab : Bool} {col : Option Bool} {dd : Option Addr} {k0 k1 k2 k3 k5 : Option Value} {B newId initId : String}
end
section
variable {X : Cx} {CX : CXT} {k : Nat} {f C : Addr} {fd : FuncData} {ps : List Str} {sp : Sp} {E : XK} {x : Str} {p pos : Pos} {e : Expr} {es : List Expr} {t : TA}
end
section
variable {X : Cx} {pins : List (Addr × Obj)} {σ : St} {H : Hp} {s : Shared} {E : Value → Shared → Prop} {Q : Value → Shared → Prop} {a C f : Addr} {x y : Str} {us : List Value}
end
end L2

set_option Elab.async false
set_option linter.all false
set_option maxRecDepth 100000
set_option maxHeartbeats 1000000
namespace L2
open PySem PySem.Spec PyProof.Rows Builtin Builtin.ObjectAttr
section
variable {prog : Program} {w : World} {A : Around} {E : Value → Shared → Prop} {h : Heap} {g : Array GenState} {d : Drawn} {t : Nat} {os : OsState}
variable {nm q : Str} {C N x : Addr} {bs bm bmB : List Value} {sn : List Str} {sub : List Value} {ab : Bool} {col : Option Bool} {dd : Option Addr} {k0 k1 k2 k3 k5 : Option Value} {B newId sa owner : String}
  {mN mA : Str → Option Value} {name : Str} {v : Value} {K : PySem.W.Frag}
end
end L2

set_option Elab.async false
set_option linter.all false
set_option maxRecDepth 100000
set_option maxHeartbeats 1000000
namespace L2
open PySem PySem.Spec PyProof.Rows
section
variable {X : Cx} {pins : List (Addr × Obj)} {σ : St} {H : Hp} {s : Shared} {E : Value → Shared → Prop} {a C fI : Addr} {yn f : Str}
end
section
variable {K : PySem.W.Frag} {prog : Program} {w : World} {A : Around} {E : Value → Shared → Prop} {h : Heap} {g : Array GenState} {d : Drawn} {t : Nat} {os : OsState} {a C dx : Addr} {o : Obj} {f : Str} {v : Value} {mA : Str → Option Value}
end
section
variable {X : Cx} {e : Expr} {ta : TE} {f : Str} {pos : Pos}
end
end L2
namespace My
open PySem L2
end My

set_option Elab.async false
set_option linter.all false
set_option maxRecDepth 100000
set_option maxHeartbeats 4000000
namespace My
open PySem L2
def top (i : Nat) : Stmt := PySem.Challenge.pw_rotaward_k35_whole_no_paper_for_what_can.main.body.getD i (.Pass ⟨0, 0, 0, 0⟩)
section
variable {P : Program} {w : World} {K : PySem.W.Frag} {mg : Str → Option Value} {base : Heap}
local macro_rules | `(tactic| walk_at "rd") => `(tactic| try simp only [tSeq, tRet, tRetN, tIfS, tNext, tDrop, tOp, tUn, tVar, tC, rI0, rI, rU, rEq, rNe, L2.start, tAsg, gName, tTest, tB, tCB, tCons, tNil, rIxL, rIxT, tNot, tAnd, tOr, tNotV, tAndV, tOrV, tCall, rIsi, iRng1, iRng2, tFor, tWhile, tChain, tIf, tTup, tLst, tComp, tBlk, compSt, tTrue, Cx.comp, List.replicate_one, List.replicate_zero, Option.getD_some, tBM, tBM0, rLen, rListOf, rTupL, tRaise, tCallX, tDropX, tSetX, tTry0, tTryA, Ends.gone, rIsx, rExc, vO, tFld, tMeth, tMake, sFld, iEnL, iEnT, gTup, gCons, gNil, gSub, rSetL, rCat, rInsert, tSl, tNoPart, tPart, rSlL, rAppend, rClear, iList, iTup, cxOf, Cx.nox, Cx.wish, List.map_cons, List.map_nil, List.length_cons, List.length_nil, Nat.reduceAdd, Nat.reduceSub, List.reduceReplicate, List.cons_append, List.nil_append, List.append_nil, List.getElem?_cons_zero, List.getElem?_cons_succ, List.set_cons_zero, List.set_cons_succ, Option.some.injEq, V.int.injEq, V.bl.injEq, V.ref.injEq, V.str.injEq, V.ty.injEq, List.cons.injEq, and_true, true_and, and_assoc, exists_eq_left, exists_eq_left', exists_eq_right, exists_eq, exists_eq', exists_and_left, exists_const, decide_eq_true_eq, scal_ii, scal_bb, scal_ss, tEqI', Bool.not_eq_true', Bool.not_eq_true, decide_eq_false_iff_not, if_true, if_false, Bool.false_eq_true, reduceIte, tyN_int, tyN_bl, tyN_str, tyN_ref, okT_int, okT_bool, okT_str, okT_list, okT_tuple, subN_ii, subN_ib, subN_bb, subN_bi, subN_ss, subN_ll, subN_tt, Bool.not_true, Bool.not_false, not_true_eq_false, Bool.true_eq_false, rSlT, rCatA, iEnL, rExtend, rIsK, rRng2, rListR, rStr, iRng3, iZip, rIn, rRep, tDNewT, tDGet2, tDGet, sDPut, tDNotIn, tDIn, rIsd, rClearT, iDT, tThaw, rCopyT, rDictP, rListT, rEqT, rNeT, iRev, tIsN, tNotN])
def sp_law (K : PySem.W.Frag) : Sp := fun vs H Q _ => ∃ (a : Addr) (ns : List Int), vs = [.ref a] ∧ SqL K H a (ns.map V.int) ∧ ns.length ≤ 63 ∧ ∀ H', Q (.bl true) H'
end
section
variable {P : Program} {w : World} {K : PySem.W.Frag} {mg : Str → Option Value} {base : Heap} {x qual : Str} {st : Stmt} {f : Addr} {fd : FuncData} {k : Nat} {sp : Sp} {ps : List Str} {C : Addr} {m : Str}
end
theorem walk {l : PySem.W.OpenLaw} {q : Program} {loose : List Str} {XP : (Str → Option Value) → Heap → Prop} {YP : World → Heap → Prop} {d : DefRec} {K : Params → PySem.W.Frag} (hn : l.most = some 63) (hdf : d.params.defaults = [])
    (hY : ∀ (w : World) (h : Heap), YP w h → (K w.params).In h)
    (F : ∀ (w : World) (mg : Str → Option Value) (fa : Addr) (h : Heap), (K w.params).In h → h.Ns mainGlobals mg → mg d.name = some (.ref fa) →
      ∃ fd : FuncData, (∀ (s : Shared) (u : Value), BindsTo s fd ⟨[u], []⟩ [("_law_script", u)]) ∧ ∀ base : Heap, (K w.params).In base → base.Ns mainGlobals mg → FnOk l.prog w (K w.params) mg base CX0 9 fa fd ["_law_script"] (sp_law (K w.params))) :
    PySem.W.WalkO q loose XP YP l.row.toRowW d [] (fun f vs => PySem.call f vs) :=
  L2.walk_of (n := 63) (k := 9) (x := "_law_script") (CX := fun _ => CX0) (sp := fun w => sp_law (K w.params)) hn (by decide) hdf ⟨rfl, by decide, by decide⟩ hY F (fun _ _ a ns hl _ hS => ⟨a, ns, rfl, hS, hl, fun _ => rfl⟩) fun _ _ _ _ _ z => z
end My
open PySem PySem.W PyProof.Rows
