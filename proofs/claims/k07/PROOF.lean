import PyProof.Rows.All
import Wide.All
import OpenK.AllK
import Wide.FinOn
import Lean
import PyProof.EqAt
import PyProof.EqKinds
import PyProof.TupleCall
import PySem.Challenge.RW_onceways_k07_closed_ways
set_option Elab.async false
set_option linter.all false
set_option maxRecDepth 100000
set_option maxHeartbeats 4000000
/-! THE HAND LAYER, for ints, bools, texts, own classes, LISTS and tuples (index, slices, in, append, pop ..), calls, loops. Paste it whole ahead of your own text; what your proof does not reach may be deleted. -/
namespace L2
open PySem PySem.Spec PyProof.Rows

/-- a key: an int or a str -/
abbrev Key := Sum Int Str
def keyIs : Key → Value → Bool
  | .inl k, v => Value.isInt k v
  | .inr x, v => Value.isStrOf x v
def keyH (w : World) : Key → Int
  | .inl k => hashInt k
  | .inr x => hashStr w x
theorem keyIs_shape : ∀ {k : Key} {v : Value}, keyIs k v = true → (∃ i t, k = Sum.inl i ∧ v = Value.int i t) ∨ (∃ x t, k = Sum.inr x ∧ v = Value.str x t)
  | .inl i, v, h => by
    obtain ⟨t, e⟩ := Value.isInt_shape (k := i) (v := v) h
    exact .inl ⟨i, t, rfl, e⟩
  | .inr x, v, h => by
    obtain ⟨t, e⟩ := Value.isStrOf_shape (x := x) (v := v) h
    exact .inr ⟨x, t, rfl, e⟩
theorem keyIs_int (i : Int) (t : Tok) : keyIs (.inl i) (.int i t) = true := by simp [keyIs, Value.isInt]
theorem keyIs_str (x : Str) (t : Tok) : keyIs (.inr x) (.str x t) = true := by simp [keyIs, Value.isStrOf]
theorem key_ll (a b : Int) : decide ((Sum.inl a : Key) = Sum.inl b) = (a == b) := by
  by_cases e : a = b
  · subst e; simp
  · have h : ¬ (Sum.inl a : Key) = Sum.inl b := fun q => e (Sum.inl.inj q)
    rw [decide_eq_false h]
    exact (beq_eq_false_iff_ne.mpr e).symm
theorem key_rr (a b : Str) : decide ((Sum.inr a : Key) = Sum.inr b) = decide (a = b) := by
  by_cases e : a = b
  · subst e; simp
  · have h : ¬ (Sum.inr a : Key) = Sum.inr b := fun q => e (Sum.inr.inj q)
    rw [decide_eq_false h, decide_eq_false e]
theorem key_lr (a : Int) (b : Str) : decide ((Sum.inl a : Key) = Sum.inr b) = false := decide_eq_false (fun q => nomatch q)
theorem key_rl (a : Str) (b : Int) : decide ((Sum.inr a : Key) = Sum.inl b) = false := decide_eq_false (fun q => nomatch q)

def mixKind (prog : Program) (w : World) : PySem.KeyKind prog w Key where
  is := keyIs
  hash := keyH w
  inj := fun v a b ha hb => by
    rcases keyIs_shape ha with ⟨i, t, rfl, rfl⟩ | ⟨x, t, rfl, rfl⟩
    · rcases keyIs_shape hb with ⟨j, u, rfl, e⟩ | ⟨y, u, rfl, e⟩
      · injection e with e1 _; rw [e1]
      · exact nomatch e
    · rcases keyIs_shape hb with ⟨j, u, rfl, e⟩ | ⟨y, u, rfl, e⟩
      · exact nomatch e
      · injection e with e1 _; rw [e1]
  byValue := fun k v h => by
    rcases keyIs_shape h with ⟨i, t, rfl, rfl⟩ | ⟨x, t, rfl, rfl⟩ <;> rfl
  pyHash := fun hv h => by
    rcases keyIs_shape hv with ⟨i, t, rfl, rfl⟩ | ⟨x, t, rfl, rfl⟩
    · exact wpAny_pyHash_int h
    · exact wpAny_pyHash_str h
  eqBool := fun hu hv h => by
    rcases keyIs_shape hu with ⟨i, t, rfl, rfl⟩ | ⟨x, t, rfl, rfl⟩
    · rcases keyIs_shape hv with ⟨j, u, rfl, rfl⟩ | ⟨y, u, rfl, rfl⟩
      · rw [key_ll] at h; exact wpAny_eqBool_int h
      · rw [key_lr] at h; exact SeqAt.EqAt.int_str i t y u _ _ _ _ h
    · rcases keyIs_shape hv with ⟨j, u, rfl, rfl⟩ | ⟨y, u, rfl, rfl⟩
      · rw [key_rl] at h; exact SeqAt.EqAt.str_int x t j u _ _ _ _ h
      · rw [key_rr] at h; exact wpAny_eqBool_str h
  «strs» := fun k x t v h => by
    rcases keyIs_shape h with ⟨i, u, rfl, e⟩ | ⟨y, u, rfl, e⟩
    · exact nomatch e
    · injection e with e1 _
      subst e1
      cases v <;> rfl

theorem mixKind_int (prog : Program) (w : World) (i : Int) (t : Tok) : (mixKind prog w).is (.inl i) (.int i t) = true := keyIs_int i t
theorem mixKind_str (prog : Program) (w : World) (x : Str) (t : Tok) : (mixKind prog w).is (.inr x) (.str x t) = true := keyIs_str x t
end L2

namespace L2
open PySem PySem.Spec PyProof.Rows

/-- a value, without the heap -/
inductive V where
  | non | bl (b : Bool) | int (i : Int) | str (x : Str) | byt (b : Array UInt8) | flt (b : UInt64) | ref (a : Addr) | ty (n : String)
  deriving DecidableEq

def RelV : V → Value → Prop
  | .non, u => u = Value.none
  | .bl b, u => u = Value.bool b
  | .int i, u => ∃ t, u = Value.int i t
  | .str x, u => ∃ t, u = Value.str x t
  | .byt b, u => ∃ t, u = Value.bytes b t
  | .flt b, u => ∃ t, u = Value.float b t
  | .ref a, u => u = Value.ref a
  | .ty n, u => u = Value.type n

abbrev Vals : List V → List Value → Prop := Paired RelV
theorem Vals.length {xs : List V} {us : List Value} (r : Vals xs us) : xs.length = us.length := Paired.length r
theorem Vals.get : ∀ {xs : List V} {us : List Value} {i : Nat} {x : V}, Vals xs us → xs[i]? = some x → ∃ u, us[i]? = some u ∧ RelV x u
  | _, _, _, _, .nil, e => by simp at e
  | _, _, 0, _, .cons r _, e => by simp at e; subst e; exact ⟨_, rfl, r⟩
  | _, _, i + 1, x, .cons _ t, e => by
    obtain ⟨u, h1, h2⟩ := Vals.get (i := i) (x := x) t (by simpa using e)
    exact ⟨u, by simpa using h1, h2⟩
theorem Vals.set {x : V} {u : Value} (r : RelV x u) : ∀ {xs : List V} {us : List Value} (i : Nat), Vals xs us → Vals (xs.set i x) (us.set i u)
  | _, _, _, .nil => .nil
  | _, _, 0, .cons _ t => .cons r t
  | _, _, i + 1, .cons q t => .cons q (Vals.set r i t)
theorem Vals.append : ∀ {xs ys : List V} {us ws : List Value}, Vals xs us → Vals ys ws → Vals (xs ++ ys) (us ++ ws)
  | _, _, _, _, .nil, s => s
  | _, _, _, _, .cons r t, s => .cons r (Vals.append t s)
theorem Vals.take : ∀ {xs : List V} {us : List Value} (n : Nat), Vals xs us → Vals (xs.take n) (us.take n)
  | _, _, 0, _ => .nil
  | _, _, _ + 1, .nil => .nil
  | _, _, n + 1, .cons r t => .cons r (Vals.take n t)
theorem Vals.drop : ∀ {xs : List V} {us : List Value} (n : Nat), Vals xs us → Vals (xs.drop n) (us.drop n)
  | _, _, 0, r => r
  | _, _, _ + 1, .nil => .nil
  | _, _, n + 1, .cons _ t => Vals.drop n t
def RelO : Option V → Option Value → Prop
  | some v, some u => RelV v u
  | none, none => True
  | _, _ => False
def KV {κ : Type} : List (κ × V) → List (κ × Value) → Prop := Paired fun (p : κ × V) (q : κ × Value) => p.1 = q.1 ∧ RelV p.2 q.2

/-- a key of a dict (00_mix): an int or a text -/
def kV : Key → V
  | .inl i => .int i
  | .inr x => .str x

/-- what stands at a tracked address -/
inductive HO where
  /-- a list -/
  | lst (xs : List V)
  /-- a tuple (never changes) -/
  | tup (xs : List V)
  /-- a dict whose keys are ints and texts; one whose keys are tuples of ints and texts (the empty one is both) -/
  | dK (kvs : List (Key × V)) | dT (kvs : List (List Key × V))
  /-- a set of ints: its members, its size -/
  | set (S : Int → Bool) (n : Nat)
  /-- an instance of the class at C, its dict at dx, its attributes -/
  | ins (C dx : Addr) (fs : List (Str × V))
  /-- the dict of the instance at x -/
  | own (x : Addr)
  /-- the dict of an exception -/
  | xd (fs : List (Str × V))
  /-- a bound method, f of x -/
  | met (f x : Addr)
  /-- a range object lo, lo + 1, .. below hi -/
  | rng (lo hi : Int)
  /-- a thing that is known to the object (the script; a dict while a loop walks it): read, never written while it is so -/
  | frz (o : Obj) (u : HO)
  /-- a code object's table -/
  | tbl (ps : Array Value)
  /-- any other thing, by what is true of its one object (a def of one's own: SetO a S n := HO.ext fun h => ..) -/
  | ext (φ : Heap → Prop)

abbrev Hp := Addr → Option HO
def upd (H : Hp) (a : Addr) (o : HO) : Hp := fun b => if b = a then some o else H b
theorem upd_same {H : Hp} {a : Addr} {o : HO} : upd H a o a = some o := by unfold upd; rw [if_pos rfl]
theorem upd_ne {H : Hp} {a b : Addr} {o : HO} (h : b ≠ a) : upd H a o b = H b := by unfold upd; rw [if_neg h]
/-- two objects of different content stand apart -/
theorem ne_of {H : Hp} {a b : Addr} {o u : HO} (h : H a = some o) (h' : H b = some u) (d : o ≠ u) : a ≠ b := by
  intro e; subst e; rw [h] at h'; exact d (Option.some.inj h')
theorem ne_of_none {H : Hp} {a b : Addr} {o : HO} (h : H a = some o) (h' : H b = none) : a ≠ b := by
  intro e; subst e; rw [h] at h'; cases h'

section
variable (P : Program) (w : World)
def ObjOk (H : Hp) (h : Heap) (a : Addr) : HO → Prop
  | .lst xs => xs.length ≤ sizeLine ∧ ∃ (its : List Value) (n : Nat), Vals xs its ∧ h.get? a = some { cls := .type "list", data := .seq its.toArray n }
  | .tup xs => xs.length ≤ sizeLine ∧ ∃ its : List Value, Vals xs its ∧ IsTup h a its.toArray
  | .dK kvs => kvs.length ≤ sizeLine ∧ (a == sysModules) = false ∧ ∃ vs, KV kvs vs ∧ h.DictOf (mixKind P w) a vs
  | .dT kvs => kvs.length ≤ sizeLine ∧ (a == sysModules) = false ∧ ∃ xs : List (List Key × Addr × Value),
      Paired (fun (p : List Key × V) (q : List Key × Addr × Value) => p.1 = q.1 ∧ H q.2.1 = some (.tup (p.1.map kV)) ∧ RelV p.2 q.2.2) kvs xs ∧
      ∃ o es ep, h.get? a = some o ∧ o.ExactDict ∧ o.data = .dict es ep ∧ es.toList = xs.map (entryOfKey (tupleKind (mixKind P w))) ∧ (xs.map (·.1)).Nodup
  | .set S n => h.SetOf (intKind P w) a S n
  | .ins C dx fs => H dx = some (.own a) ∧ fs.length ≤ 1000 ∧ dx ≠ a ∧ h.get? a = some (PySem.W.instObj C dx) ∧
      ∃ mA, h.Ns1 dx mA ∧ (∀ f, RelO (fs.lookup f) (mA f)) ∧ PySem.Within mA (fs.map (·.1))
  | .own _ => ∃ o, h.get? a = some o
  | .xd fs => ∃ mA, h.Ns1 a mA ∧ ∀ f, RelO (fs.lookup f) (mA f)
  | .rng lo hi => ∃ t u v, h.get? a = some { cls := .type "range", data := .fields #[.int lo t, .int hi u, .int 1 v] }
  | .frz o u => h.get? a = some o ∧ ObjOk H h a u
  | .tbl ps => h.get? a = some { cls := .none, data := .fields ps }
  | .met f x => h.get? a = some (PySem.W.methodObj (.ref f) (.ref x))
  | .ext φ => φ h ∧ (∃ o, h.get? a = some o) ∧ ∀ h1 h2 : Heap, φ h1 → (∀ o, h1.get? a = some o → h2.get? a = some o) → φ h2
/-- the abstract heap is held -/
def HOk (H : Hp) (h : Heap) : Prop := ∀ a o, H a = some o → ObjOk P w H h a o
end

section
variable {P : Program} {w : World} {H H' : Hp} {h h' : Heap} {a : Addr} {o : HO}
theorem ObjOk.lt (x : ObjOk P w H h a o) : a < h.objs.size := by
  cases o with
  | lst xs => obtain ⟨_, _, _, _, e⟩ := x; exact Heap.lt_size e
  | tup xs => obtain ⟨_, _, _, p⟩ := x; exact p.lt
  | dK kvs => obtain ⟨_, _, _, _, o, _, _, e, _⟩ := x; exact Heap.lt_size e
  | dT kvs => obtain ⟨_, _, _, _, o, _, _, e, _⟩ := x; exact Heap.lt_size e
  | set S n => obtain ⟨o, _, _, _, e, _⟩ := x; exact Heap.lt_size e
  | ins C dx fs => obtain ⟨_, _, _, e, _⟩ := x; exact Heap.lt_size e
  | own y => obtain ⟨_, e⟩ := x; exact Heap.lt_size e
  | xd fs => obtain ⟨_, ⟨_, _, _, e, _⟩, _⟩ := x; exact Heap.lt_size e
  | rng lo hi => obtain ⟨_, _, _, e⟩ := x; exact Heap.lt_size e
  | frz ob u => obtain ⟨e, _⟩ := x; exact Heap.lt_size e
  | tbl ps => exact Heap.lt_size (show h.get? a = some _ from x)
  | met f y => exact Heap.lt_size (show h.get? a = some _ from x)
  | ext φ => obtain ⟨_, ⟨_, e⟩, _⟩ := x; exact Heap.lt_size e
theorem Paired.mapP {α β : Type} {F G : α → β → Prop} : ∀ {l₁ : List α} {l₂ : List β}, Paired F l₁ l₂ → (∀ a b, F a b → G a b) → Paired G l₁ l₂
  | _, _, .nil, _ => .nil
  | _, _, .cons r t, f => .cons (f _ _ r) (Paired.mapP t f)
/-- what an object's description leans on: its own object, its own dict, the tuples -/
theorem ObjOk.stay (x : ObjOk P w H h a o) (k : ∀ b u, (b = a ∨ H b = some (.own a)) → h.get? b = some u → h'.get? b = some u)
    (ho : ∀ b, H b = some (.own a) → H' b = some (.own a)) (ht : ∀ b xs, H b = some (.tup xs) → H' b = some (.tup xs)) : ObjOk P w H' h' a o := by
  induction o with
  | lst xs => obtain ⟨z, its, n, r, e⟩ := x; exact ⟨z, its, n, r, k _ _ (.inl rfl) e⟩
  | tup xs => obtain ⟨z, its, r, ob, e, c⟩ := x; exact ⟨z, its, r, ob, k _ _ (.inl rfl) e, c⟩
  | dK kvs => obtain ⟨z, y, vs, r, ob, es, ep, e, c⟩ := x; exact ⟨z, y, vs, r, ob, es, ep, k _ _ (.inl rfl) e, c⟩
  | dT kvs =>
    obtain ⟨z, y, xs, r, ob, es, ep, e, c⟩ := x
    exact ⟨z, y, xs, Paired.mapP r fun p q z => ⟨z.1, ht _ _ z.2.1, z.2.2⟩, ob, es, ep, k _ _ (.inl rfl) e, c⟩
  | set S n => obtain ⟨ob, es, ep, t, e, c⟩ := x; exact ⟨ob, es, ep, t, k _ _ (.inl rfl) e, c⟩
  | ins C dx fs =>
    obtain ⟨d, z, ne, e, mA, ⟨od, es, ep, e2, c⟩, r⟩ := x
    exact ⟨ho _ d, z, ne, k _ _ (.inl rfl) e, mA, ⟨od, es, ep, k _ _ (.inr d) e2, c⟩, r⟩
  | own y => obtain ⟨ob, e⟩ := x; exact ⟨ob, k _ _ (.inl rfl) e⟩
  | xd fs => obtain ⟨mA, ⟨od, es, ep, e, c⟩, r⟩ := x; exact ⟨mA, ⟨od, es, ep, k _ _ (.inl rfl) e, c⟩, r⟩
  | rng lo hi => obtain ⟨t, u, v, e⟩ := x; exact ⟨t, u, v, k _ _ (.inl rfl) e⟩
  | frz ob u ih => obtain ⟨e, q⟩ := x; exact ⟨k _ _ (.inl rfl) e, ih q⟩
  | tbl ps =>
    have e : h.get? a = some { cls := .none, data := .fields ps } := x
    show h'.get? a = some { cls := .none, data := .fields ps }
    exact k a _ (.inl rfl) e
  | met f y =>
    have e : h.get? a = some (PySem.W.methodObj (.ref f) (.ref y)) := x
    show h'.get? a = some (PySem.W.methodObj (.ref f) (.ref y))
    exact k a _ (.inl rfl) e
  | ext φ => obtain ⟨p, ⟨o, e⟩, st⟩ := x; exact ⟨st _ _ p fun o q => k _ _ (.inl rfl) q, ⟨o, k _ _ (.inl rfl) e⟩, st⟩
theorem HOk.lt (x : HOk P w H h) (e : H a = some o) : a < h.objs.size := (x a o e).lt
theorem HOk.fresh (x : HOk P w H h) (e : h.objs.size ≤ a) : H a = none := by
  cases q : H a with
  | none => rfl
  | some u => exact absurd (Nat.lt_of_lt_of_le (x.lt q) e) (Nat.lt_irrefl _)
/-- every object of the heap is kept -/
theorem HOk.kept (x : HOk P w H h) (k : ∀ b u, h.get? b = some u → h'.get? b = some u) : HOk P w H h' := fun a o e =>
  (x a o e).stay (fun b u _ q => k b u q) (fun _ q => q) fun _ _ q => q
/-- a new object is laid and tracked -/
theorem HOk.laid (x : HOk P w H h) (k : ∀ b u, h.get? b = some u → h'.get? b = some u) (hp : h.objs.size ≤ a) (new : ObjOk P w (upd H a o) h' a o) : HOk P w (upd H a o) h' := fun b u e => by
  have hn := x.fresh hp
  by_cases hb : b = a
  · subst hb; rw [upd_same] at e; cases e; exact new
  · rw [upd_ne hb] at e
    exact (x b u e).stay (fun c v _ q => k c v q) (fun c q => by rw [upd_ne (ne_of_none q hn)]; exact q) fun c xs q => by rw [upd_ne (ne_of_none q hn)]; exact q
end

/-- what may be read as u: it is u, or a known u -/
def Rd (H : Hp) (a : Addr) (u : HO) : Prop := H a = some u ∨ ∃ o, H a = some (.frz o u)
theorem Rd.ok {P : Program} {w : World} {H : Hp} {h : Heap} {a : Addr} {u : HO} (r : Rd H a u) (x : HOk P w H h) : ObjOk P w H h a u := by
  rcases r with r | ⟨o, r⟩
  · exact x a u r
  · obtain ⟨_, q⟩ := x a _ r
    exact q
/-- what may be written -/
def Mut : Option HO → Prop
  | some (.lst _) => True
  | some (.dK _) => True
  | some (.dT _) => True
  | some (.set _ _) => True
  | some (.ins _ _ _) => True
  | some (.ext _) => True
  | _ => False
section
variable {P : Program} {w : World} {H : Hp} {h h' : Heap} {x e : Addr} {o' : HO}
/-- the object at e is changed: x itself, or the dict of the instance x -/
theorem HOk.write (ok : HOk P w H h) (mu : Mut (H x)) (he : e = x ∨ H e = some (.own x)) (k : ∀ b u, b ≠ e → h.get? b = some u → h'.get? b = some u) (heo : ∃ u, h'.get? e = some u)
    (new : ObjOk P w (upd H x o') h' x o') : HOk P w (upd H x o') h' := fun b u q => by
  have nown : ∀ c y, H c = some (.own y) → c ≠ x := fun c y r z => by subst z; rw [r] at mu; exact mu
  have ntup : ∀ c xs, H c = some (.tup xs) → c ≠ x := fun c xs r z => by subst z; rw [r] at mu; exact mu
  by_cases hb : b = x
  · subst hb; rw [upd_same] at q; cases q; exact new
  · rw [upd_ne hb] at q
    by_cases hbe : b = e
    · have q' : H b = some (.own x) := by
        rcases he with z | z
        · exact absurd (hbe.trans z) hb
        · rw [hbe]; exact z
      rw [q] at q'; cases q'
      obtain ⟨v, hv⟩ := heo
      exact ⟨v, by rw [hbe]; exact hv⟩
    · refine (ok b u q).stay (fun c v hc r => k c v ?_ r) (fun c r => by rw [upd_ne (nown c b r)]; exact r) fun c xs r => by rw [upd_ne (ntup c xs r)]; exact r
      rcases hc with rfl | hc
      · exact hbe
      · rintro rfl
        rcases he with z | z
        · exact nown c b hc z
        · rw [hc] at z; cases z; exact hb rfl
end

/-! ### kept unless tracked; of the frames at fs (the callers') the slots may change (an exception that passes writes there); of the records at ex (iterators) nothing is said -/
structure Un (fs ex : List Addr) (H H' : Hp) (h h' : Heap) : Prop where
  keep : ∀ b o, h.get? b = some o → H b = none → b ∉ fs → b ∉ ex → h'.get? b = some o
  slot : ∀ b o, h.get? b = some o → H b = none → b ∈ fs → b ∉ ex → ∃ sl, h'.get? b = some { o with slots := sl }
  free : ∀ b o, h.get? b = some o → H b = none → b ∉ ex → H' b = none
  there : ∀ b o, h.get? b = some o → b ∉ ex → ∃ o', h'.get? b = some o'
  tups : ∀ b xs, H b = some (.tup xs) → H' b = some (.tup xs)
  frzs : ∀ b o u, H b = some (.frz o u) → H' b = some (.frz o u)
  tbls : ∀ b ps, H b = some (.tbl ps) → ∃ more, H' b = some (.tbl (ps ++ more))
section
variable {fs fs' ex ex' : List Addr} {H H1 H2 : Hp} {h h1 h2 h' : Heap} {a x e : Addr} {o : HO}
theorem Un.any (u : Un fs ex H H1 h h1) {b : Addr} {ob : Obj} (q : h.get? b = some ob) (n : H b = none) (hx : b ∉ ex) : ∃ sl, h1.get? b = some { ob with slots := sl } := by
  by_cases hb : b ∈ fs
  · exact u.slot b ob q n hb hx
  · exact ⟨ob.slots, u.keep b ob q n hb hx⟩
theorem Un.kept (k : ∀ b u, h.get? b = some u → h'.get? b = some u) : Un fs ex H H h h' :=
  ⟨fun b ob q _ _ _ => k b ob q, fun b ob q _ _ _ => ⟨ob.slots, k b ob q⟩, fun _ _ _ n _ => n, fun b ob q _ => ⟨ob, k b ob q⟩, fun _ _ q => q, fun _ _ _ q => q, fun _ ps q => ⟨#[], by rw [q]; simp⟩⟩
theorem Un.refl : Un fs ex H H h h := Un.kept fun _ _ q => q
theorem Un.laid (k : ∀ b u, h.get? b = some u → h'.get? b = some u) (hp : h.objs.size ≤ a) (hn : H a = none) : Un fs ex H (upd H a o) h h' where
  keep := fun b u q _ _ _ => k b u q
  slot := fun b u q _ _ _ => ⟨u.slots, k b u q⟩
  free := fun b u q n _ => by rw [upd_ne (Nat.ne_of_lt (Nat.lt_of_lt_of_le (Heap.lt_size q) hp))]; exact n
  there := fun b u q _ => ⟨u, k b u q⟩
  tups := fun b xs q => by rw [upd_ne (ne_of_none q hn)]; exact q
  frzs := fun b u xs q => by rw [upd_ne (ne_of_none q hn)]; exact q
  tbls := fun b ps q => ⟨#[], by rw [upd_ne (ne_of_none q hn), q]; simp⟩
theorem Un.write (mu : Mut (H x)) (he : e = x ∨ H e = some (.own x)) (k : ∀ b u, b ≠ e → h.get? b = some u → h'.get? b = some u) (heo : ∃ u, h'.get? e = some u) : Un fs ex H (upd H x o) h h' := by
  have hx : ∀ b, H b = none → b ≠ x := fun b n z => by subst z; rw [n] at mu; exact mu
  have hb : ∀ b, H b = none → b ≠ e := fun b n z => by
    subst z
    rcases he with r | r
    · exact hx b n r
    · rw [n] at r; cases r
  have hm : ∀ b u, H b = some u → ¬ Mut (some u) → b ≠ x := fun b u q nm z => by subst z; rw [q] at mu; exact nm mu
  refine ⟨fun b u q n _ _ => k b u (hb b n) q, fun b u q n _ _ => ⟨u.slots, k b u (hb b n) q⟩, fun b u q n _ => by rw [upd_ne (hx b n)]; exact n, fun b u q _ => ?_,
    fun b xs q => by rw [upd_ne (hm b _ q fun z => z)]; exact q, fun b u xs q => by rw [upd_ne (hm b _ q fun z => z)]; exact q, fun b ps q => ⟨#[], by rw [upd_ne (hm b _ q fun z => z), q]; simp⟩⟩
  by_cases hbe : b = e
  · subst hbe; exact heo
  · exact ⟨u, k b u hbe q⟩
end

/-! ### the heap without what is tracked -/
def trk (h : Heap) (H : Hp) : List Addr := (List.range h.objs.size).filter fun a => (H a).isSome
def hidT (h : Heap) (H : Hp) : Heap := PySem.W.hideAll h (trk h H)
theorem hidT_size (h : Heap) (H : Hp) : (hidT h H).objs.size = h.objs.size := PySem.W.hideAll_size _ _
theorem hidT_get {h : Heap} {H : Hp} {b : Addr} {o : Obj} (e : h.get? b = some o) (n : H b = none) : (hidT h H).get? b = some o :=
  PySem.W.hideAll_get _ e fun hm => by
    have q : (H b).isSome = true := (List.mem_filter.mp hm).2
    rw [n] at q; simp at q
theorem of_hidT {h : Heap} {H : Hp} {b : Addr} {o : Obj} (e : (hidT h H).get? b = some o) : h.get? b = some o ∧ H b = none := by
  have e' : h.get? b = some o := PySem.W.of_hideAll (trk h H) e
  refine ⟨e', ?_⟩
  cases q : H b with
  | none => rfl
  | some x =>
    have hm : b ∈ trk h H := List.mem_filter.mpr ⟨List.mem_range.mpr (Heap.lt_size e'), by simp [q]⟩
    have z : (hidT h H).get? b = none := PySem.W.hideAll_none (trk h H) hm
    rw [z] at e; cases e

/-! ### OpenK's ledger, filled with every new object but one -/
def allNews (g h : Heap) (L : Addr) : List (Addr × Obj) := (List.range h.objs.size).filterMap fun a => if a = L ∨ (g.get? a).isSome = true then none else (h.get? a).map fun o => (a, o)
def rest (g h : Heap) (L d : Addr) : List (Addr × Obj) := (allNews g h L).filter fun p => decide (p.1 ≠ d)
end L2

namespace L2
open PySem PySem.Spec PyProof.Rows

/-- the module's facts, over the base: the heap at the law's entry without what is tracked there -/
structure Mod (K : PySem.W.Frag) (mg : Str → Option Value) (base : Heap) : Prop where
  kin : K.In base
  glob : base.Ns mainGlobals mg
  blt : ∃ mb, base.Ns builtinsNs mb ∧ ∀ x : Str, x ≠ "__name__" → mb x = bootBuiltins x
  nolimit : base.NoLimit

/-- the context: a def's body (or a comprehension's block) running. base: fixed through the whole law; s₀, H₀: the entry; outer: the frames whose slots others may change (a def's callers); stack: all frames that run;
   ex: iterators that were made ahead of the entry and are walked here (a comprehension's); fn: the names whose cells were made at the entry (a def: all; a comprehension's block: its own); calm: not within an except suite; pn: pins that every state bears; xe: what is wanted of an exception that leaves the code -/
structure Cx where
  prog : Program
  w : World
  K : PySem.W.Frag
  mg : Str → Option Value
  base : Heap
  A : Around
  N : List Str
  s₀ : Shared
  H₀ : Hp
  env : Env
  outer : List Env
  stack : List Env
  ex : List Addr
  fn : Str → Bool
  calm : Bool
  pn : List (Addr × Obj)
  xe : Value → Shared → Prop
/-- the callers' frames -/
def frs (l : List Env) : List Addr := l.filterMap (·.frame)
abbrev Cx.fs (X : Cx) : List Addr := frs X.outer

def Vis (sc : Scope) (x : Str) : Prop := sc.names.lookup x = some .local ∨ sc.names.lookup x = some .cell ∨ sc.names.lookup x = some .free
def Loc (sc : Scope) (x : Str) : Prop := sc.names.lookup x = some .local ∨ sc.names.lookup x = some .cell
def Look (env : Env) (h : Heap) (m : Str → Option Value) (x : Str) (u : Value) : Prop :=
  (env.kindOf x = some .local ∧ m x = some u) ∨ ((env.kindOf x = some .cell ∨ env.kindOf x = some .free) ∧ ∃ c, env.cells.lookup x = some c ∧ h.IsCell c (some u))

structure Cx.Ok (X : Cx) : Prop where
  mod : Mod X.K X.mg X.base
  kind : X.env.scope.kind = .function
  glob : X.env.globals = mainGlobals
  blt : X.env.builtins = builtinsNs
  above : X.s₀.heap.objs.size ≤ X.env.locals
  inj : ∀ x y c, X.env.cells.lookup x = some c → X.env.cells.lookup y = some c → x = y
  has : ∀ x, (X.env.kindOf x = some .cell ∨ X.env.kindOf x = some .free) → ∃ c, X.env.cells.lookup x = some c
  cab : ∀ x c, X.fn x = true → X.env.cells.lookup x = some c → X.s₀.heap.objs.size ≤ c
  hd : X.calm = true → X.A.handled = none
  frames : X.A.frames = some X.stack
  stk : X.stack = X.outer ∨ (X.stack = X.env :: X.outer ∧ X.env.frame = some X.env.locals)
  exf : ∀ b ∈ X.ex, b ≠ X.env.locals ∧ ∀ x c, X.env.cells.lookup x = some c → c ≠ b
  bs : ∀ b o, X.base.get? b = some o → X.s₀.heap.get? b = some o ∧ X.H₀ b = none
  bsz : X.base.objs.size ≤ X.s₀.heap.objs.size
  noex : ∀ b o, X.base.get? b = some o → b ∉ X.ex
  exfs : ∀ b ∈ X.ex, b ∉ X.fs
  funs : X.s₀.heap.FunFrames X.base X.outer
  frf : ∀ b ∈ X.fs, X.H₀ b = none

structure Inv (X : Cx) (pins : List (Addr × Obj)) (σ : List (Option V)) (H : Hp) (s : Shared) : Prop where
  ok : X.Ok
  os : s.os = X.s₀.os
  bare : AllBare s.gens
  base : Un X.fs X.ex X.H₀ H X.s₀.heap s.heap
  loc : ∃ m, s.heap.Ns X.env.locals m ∧ ∀ (i : Nat) (x : Str) (v : V), X.N[i]? = some x → σ[i]? = some (some v) → Vis X.env.scope x → ∃ u, RelV v u ∧ Look X.env s.heap m x u
  cell : ∀ x c, X.env.cells.lookup x = some c → ∃ v, s.heap.IsCell c v
  free : H X.env.locals = none
  freeC : ∀ x c, X.env.cells.lookup x = some c → H c = none
  pin : ∀ p ∈ X.pn ++ pins, s.heap.get? p.1 = some p.2 ∧ H p.1 = none ∧ p.1 ≠ X.env.locals ∧ p.1 ∉ X.fs ∧ ∀ v, p.2.data ≠ .cell v
  hok : HOk X.prog X.w H s.heap
  len : σ.length = X.N.length

section
variable {X : Cx} {pins : List (Addr × Obj)} {σ : List (Option V)} {H H' : Hp} {s : Shared} {h' : Heap}

theorem Cx.Ok.nofr (ok : X.Ok) {b : Addr} {o : Obj} (e : X.base.get? b = some o) : b ∉ X.fs := fun hb => by
  have := (ok.funs.mem hb).1
  rw [e] at this; cases this
theorem Inv.bs (I : Inv X pins σ H s) : ∀ b o, X.base.get? b = some o → s.heap.get? b = some o ∧ H b = none := fun b o e =>
  ⟨I.base.keep b o (I.ok.bs b o e).1 (I.ok.bs b o e).2 (I.ok.nofr e) (I.ok.noex b o e), I.base.free b o (I.ok.bs b o e).1 (I.ok.bs b o e).2 (I.ok.noex b o e)⟩
theorem Inv.bk (I : Inv X pins σ H s) : ∀ b o, X.base.get? b = some o → s.heap.get? b = some o := fun b o e => (I.bs b o e).1
theorem Inv.mod (I : Inv X pins σ H s) : Mod X.K X.mg X.base := I.ok.mod
theorem Inv.kIn (I : Inv X pins σ H s) : X.K.In s.heap := I.ok.mod.kin.keeps I.bk
theorem Inv.lt (I : Inv X pins σ H s) : X.env.locals < s.heap.objs.size := let ⟨_, hn, _⟩ := I.loc; hn.lt
theorem Inv.sz (I : Inv X pins σ H s) : X.s₀.heap.objs.size ≤ s.heap.objs.size := Nat.le_trans I.ok.above (Nat.le_of_lt I.lt)
theorem Inv.nofs (I : Inv X pins σ H s) {a : Addr} (h : s.heap.objs.size ≤ a) : a ∉ X.fs := fun hb => by
  obtain ⟨_, o, ho, _⟩ := I.ok.funs.mem hb
  exact absurd (Nat.lt_of_lt_of_le (Heap.lt_size ho) (Nat.le_trans I.sz h)) (Nat.lt_irrefl _)
theorem Inv.cne (I : Inv X pins σ H s) : ∀ x c, X.env.cells.lookup x = some c → c ≠ X.env.locals := fun x c e z => by
  obtain ⟨v, o, ho, hd⟩ := I.cell x c e
  obtain ⟨m, ⟨o', es, ep, ho', hd', _⟩, _⟩ := I.loc
  rw [z, ho'] at ho; cases ho; rw [hd'] at hd; cases hd
theorem Inv.funs (I : Inv X pins σ H s) : s.heap.FunFrames X.base X.outer := by
  have all : ∀ (l : List Env), (∀ b ∈ frs l, b ∈ X.fs) → X.s₀.heap.FunFrames X.base l → s.heap.FunFrames X.base l := by
    intro l
    induction l with
    | nil => intro _ _; trivial
    | cons env r ih =>
      intro hs hl
      obtain ⟨hk, ⟨L, o, hf, hn, ho, hd⟩, hr⟩ := hl
      have hL : L ∈ X.fs := hs L (by unfold frs; rw [List.filterMap_cons, hf]; exact List.mem_cons_self)
      obtain ⟨sl, e⟩ := I.base.slot L o ho (I.ok.frf L hL) hL fun z => I.ok.exfs L z hL
      exact ⟨hk, ⟨L, _, hf, hn, e, hd⟩, ih (fun b hb => hs b (by unfold frs; rw [List.filterMap_cons, hf]; exact List.mem_cons_of_mem _ hb)) hr⟩
  exact all X.outer (fun _ hb => hb) I.ok.funs

/-- the frames that run, for a call -/
theorem Inv.stack (I : Inv X pins σ H s) : s.heap.FunFrames X.base X.stack := by
  rcases I.ok.stk with e | ⟨e, hf⟩
  · rw [e]; exact I.funs
  · rw [e]
    obtain ⟨m, hn, _⟩ := I.loc
    refine .cons (by rw [I.ok.kind]; decide) hf hn ?_ I.funs
    exact Heap.get?_none_of_le (Nat.le_trans I.ok.bsz I.ok.above)
theorem Inv.stkSub (I : Inv X pins σ H s) : ∀ b ∈ frs X.stack, b ∈ X.env.locals :: X.fs := fun b hb => by
  rcases I.ok.stk with e | ⟨e, hf⟩
  · rw [e] at hb; exact List.mem_cons_of_mem _ hb
  · rw [e] at hb
    unfold frs at hb
    rw [List.filterMap_cons, hf] at hb
    exact hb
theorem Inv.stkFree (I : Inv X pins σ H s) : ∀ b ∈ frs X.stack, H b = none := fun b hb => by
  rcases List.mem_cons.mp (I.stkSub b hb) with e | hb
  · rw [e]; exact I.free
  · obtain ⟨_, o, ho, _⟩ := I.ok.funs.mem hb
    exact I.base.free b o ho (I.ok.frf b hb) fun z => I.ok.exfs b z hb

/-- THE STEP: the untracked objects but the frame and the records at ch are kept (the callers' frames up to slots), the frame's map is kept, the new abstract heap is held -/
theorem Inv.step {g' : Array GenState} {t' : Nat} {d' : Drawn} {ch : List Addr} (I : Inv X pins σ H s)
    (hch : ∀ b ∈ ch, (b ∈ X.ex ∨ X.s₀.heap.objs.size ≤ b) ∧ b ≠ X.env.locals ∧ (∀ x c, X.env.cells.lookup x = some c → c ≠ b) ∧ ∀ p ∈ X.pn ++ pins, p.1 ≠ b)
    (keep : ∀ b o, b ≠ X.env.locals → b ∉ X.fs → b ∉ ch → s.heap.get? b = some o → H b = none → h'.get? b = some o)
    (slot : ∀ b o, b ≠ X.env.locals → b ∈ X.fs → b ∉ ch → s.heap.get? b = some o → H b = none → ∃ sl, h'.get? b = some { o with slots := sl }) (free : ∀ b o, b ∉ ch → s.heap.get? b = some o → H b = none → H' b = none)
    (there : ∀ b o, b ∉ ch → s.heap.get? b = some o → ∃ o', h'.get? b = some o')
    (tups : ∀ b xs, H b = some (.tup xs) → H' b = some (.tup xs)) (frzs : ∀ b o u, H b = some (.frz o u) → H' b = some (.frz o u)) (tbls : ∀ b ps, H b = some (.tbl ps) → ∃ more, H' b = some (.tbl (ps ++ more)))
    (ns : ∀ m, s.heap.Ns X.env.locals m → h'.Ns X.env.locals m) (hok : HOk X.prog X.w H' h') (hg : AllBare g') :
    Inv X pins σ H' { s with heap := h', gens := g', drawn := d', toks := t' } := by
  have neL : ∀ b o, X.s₀.heap.get? b = some o → b ≠ X.env.locals := fun b o e => Nat.ne_of_lt (Nat.lt_of_lt_of_le (Heap.lt_size e) I.ok.above)
  have neC : ∀ b o, X.s₀.heap.get? b = some o → b ∉ X.ex → b ∉ ch := fun b o e hx hb => by
    rcases (hch b hb).1 with z | z
    · exact hx z
    · exact absurd (Nat.lt_of_lt_of_le (Heap.lt_size e) z) (Nat.lt_irrefl _)
  have cellK : ∀ x c, X.env.cells.lookup x = some c → ∀ v, s.heap.IsCell c v → h'.IsCell c v := fun x c e v ⟨o, ho, hd⟩ => by
    have nch : c ∉ ch := fun z => (hch c z).2.2.1 x c e rfl
    by_cases hc : c ∈ X.fs
    · obtain ⟨sl, q⟩ := slot c o (I.cne x c e) hc nch ho (I.freeC x c e)
      exact ⟨_, q, hd⟩
    · exact ⟨o, keep c o (I.cne x c e) hc nch ho (I.freeC x c e), hd⟩
  refine ⟨I.ok, I.os, hg, ⟨fun b o e n hb hx => ?_, fun b o e n hb hx => ?_, fun b o e n hx => ?_, fun b o e hx => ?_, fun b xs e => tups b xs (I.base.tups b xs e), fun b o xs e => frzs b o xs (I.base.frzs b o xs e), fun b ps e => ?_⟩, ?_, fun x c e => ?_, ?_, fun x c e => ?_, fun p hp => ?_, hok, I.len⟩
  · exact keep b o (neL b o e) hb (neC b o e hx) (I.base.keep b o e n hb hx) (I.base.free b o e n hx)
  · obtain ⟨sl, e1⟩ := I.base.slot b o e n hb hx
    obtain ⟨sl', e2⟩ := slot b _ (neL b o e) hb (neC b o e hx) e1 (I.base.free b o e n hx)
    exact ⟨sl', e2⟩
  · obtain ⟨o', e1⟩ := I.base.there b o e hx
    exact free b o' (neC b o e hx) e1 (I.base.free b o e n hx)
  · obtain ⟨o', e1⟩ := I.base.there b o e hx
    exact there b o' (neC b o e hx) e1
  · obtain ⟨m1, e1⟩ := I.base.tbls b ps e
    obtain ⟨m2, e2⟩ := tbls b _ e1
    exact ⟨m1 ++ m2, by rw [e2, Array.append_assoc]⟩
  · obtain ⟨m, hn, hl⟩ := I.loc
    refine ⟨m, ns m hn, fun i x v e1 e2 e3 => ?_⟩
    obtain ⟨u, r, l⟩ := hl i x v e1 e2 e3
    refine ⟨u, r, ?_⟩
    rcases l with l | ⟨k, c, e, z⟩
    · exact .inl l
    · exact .inr ⟨k, c, e, cellK x c e _ z⟩
  · obtain ⟨v, z⟩ := I.cell x c e
    exact ⟨v, cellK x c e v z⟩
  · obtain ⟨m, ⟨o, _, _, ho, _⟩, _⟩ := I.loc
    exact free _ o (fun z => (hch _ z).2.1 rfl) ho I.free
  · obtain ⟨v, o, ho, hd⟩ := I.cell x c e
    exact free c o (fun z => (hch c z).2.2.1 x c e rfl) ho (I.freeC x c e)
  · obtain ⟨e, n, ne, nf, d⟩ := I.pin p hp
    have nch : p.1 ∉ ch := fun z => (hch p.1 z).2.2.2 p hp rfl
    exact ⟨keep p.1 p.2 ne nf nch e n, free p.1 p.2 nch e n, ne, nf, d⟩
/-- .. where the frame's own object is kept too -/
theorem Inv.un {t' : Nat} (I : Inv X pins σ H s) (u : Un X.fs [] H H' s.heap h') (hok : HOk X.prog X.w H' h') : Inv X pins σ H' { s with heap := h', toks := t' } := by
  obtain ⟨m, ⟨o, es, ep, ho, r⟩, _⟩ := id I.loc
  obtain ⟨sl, hL⟩ := u.any ho I.free (by simp)
  exact I.step (g' := s.gens) (d' := s.drawn) (ch := []) (fun _ z => nomatch z) (fun b o _ hb _ e n => u.keep b o e n hb (by simp)) (fun b o _ hb _ e n => u.slot b o e n hb (by simp)) (fun b o _ e n => u.free b o e n (by simp)) (fun b o _ e => u.there b o e (by simp)) u.tups u.frzs u.tbls (fun m' hm => by
    obtain ⟨o', es', ep', ho', r'⟩ := hm
    rw [ho] at ho'; cases ho'
    exact ⟨_, es', ep', hL, r'⟩) hok I.bare
/-- behind a call (or a comprehension's block): the slots of this frame may have changed too, the records at ch may have turned -/
theorem Inv.call {g' : Array GenState} {t' : Nat} {d' : Drawn} {ch : List Addr} (I : Inv X pins σ H s) (u : Un (frs X.stack) ch H H' s.heap h') (hok : HOk X.prog X.w H' h') (hg : AllBare g')
    (hch : ∀ b ∈ ch, (b ∈ X.ex ∨ X.s₀.heap.objs.size ≤ b) ∧ b ≠ X.env.locals ∧ (∀ x c, X.env.cells.lookup x = some c → c ≠ b) ∧ ∀ p ∈ X.pn ++ pins, p.1 ≠ b) :
    Inv X pins σ H' { s with heap := h', gens := g', drawn := d', toks := t' } := by
  obtain ⟨m, ⟨o, es, ep, ho, r⟩, _⟩ := id I.loc
  obtain ⟨sl, hL⟩ := u.any ho I.free fun z => (hch _ z).2.1 rfl
  exact I.step (ch := ch) hch (fun b o hL hb hc e n => u.keep b o e n (fun z => (List.mem_cons.mp (I.stkSub b z)).elim hL hb) hc) (fun b o _ _ hc e n => u.any e n hc) (fun b o hc e n => u.free b o e n hc) (fun b o hc e => u.there b o e hc) u.tups u.frzs u.tbls (fun m' hm => by
    obtain ⟨o', es', ep', ho', r'⟩ := hm
    rw [ho] at ho'; cases ho'
    exact ⟨_, es', ep', hL, r'⟩) hok hg
/-- an untracked record of ours (an iterator) has turned -/
theorem Inv.turned {t' : Nat} {it : Addr} (I : Inv X pins σ H s) (k : ∀ b o, b ≠ it → s.heap.get? b = some o → h'.get? b = some o) (hn : H it = none) (hL : it ≠ X.env.locals)
    (h1 : it ∈ X.ex ∨ X.s₀.heap.objs.size ≤ it) (h2 : ∀ x c, X.env.cells.lookup x = some c → c ≠ it) (h3 : ∀ p ∈ X.pn ++ pins, p.1 ≠ it) : Inv X pins σ H { s with heap := h', toks := t' } := by
  have nit : ∀ b u, H b = some u → b ≠ it := fun b u e z => by rw [z, hn] at e; cases e
  refine I.step (g' := s.gens) (d' := s.drawn) (ch := [it]) (fun b hb => ?_) (fun b o _ _ hc e _ => k b o (fun z => hc (by simp [z])) e) (fun b o _ _ hc e _ => ⟨o.slots, k b o (fun z => hc (by simp [z])) e⟩) (fun _ _ _ _ n => n)
    (fun b o hc e => ⟨o, k b o (fun z => hc (by simp [z])) e⟩) (fun _ _ e => e) (fun _ _ _ e => e) (fun b ps e => ⟨#[], by rw [e]; simp⟩) (fun m hm => ?_) (fun b u e => ?_) I.bare
  · have e : b = it := by simpa using hb
    subst e
    exact ⟨h1, hL, h2, h3⟩
  · obtain ⟨o, es, ep, ho, r⟩ := hm
    exact ⟨o, es, ep, k _ o (Ne.symm hL) ho, r⟩
  · refine (I.hok b u e).stay (fun c v hc q => k c v ?_ q) (fun _ q => q) fun _ _ q => q
    rcases hc with z | z
    · rw [z]; exact nit b u e
    · exact nit c _ z
theorem Inv.tok (I : Inv X pins σ H s) (t : Nat) : Inv X pins σ H { s with toks := t } := I.un (h' := s.heap) (t' := t) Un.refl I.hok
/-- all objects kept -/
theorem Inv.kept {t' : Nat} (I : Inv X pins σ H s) (k : ∀ b u, s.heap.get? b = some u → h'.get? b = some u) : Inv X pins σ H { s with heap := h', toks := t' } := I.un (Un.kept k) (I.hok.kept k)
/-- a new object laid and tracked -/
theorem Inv.laid {a : Addr} {o : HO} {t' : Nat} (I : Inv X pins σ H s) (k : ∀ b u, s.heap.get? b = some u → h'.get? b = some u) (hp : s.heap.objs.size ≤ a) (new : ObjOk X.prog X.w (upd H a o) h' a o) :
    Inv X pins σ (upd H a o) { s with heap := h', toks := t' } := I.un (Un.laid k hp (I.hok.fresh hp)) (I.hok.laid k hp new)
/-- an object written -/
theorem Inv.write {x e : Addr} {o : HO} {t' : Nat} (I : Inv X pins σ H s) (mu : Mut (H x)) (he : e = x ∨ H e = some (.own x)) (k : ∀ b u, b ≠ e → s.heap.get? b = some u → h'.get? b = some u) (heo : ∃ u, h'.get? e = some u)
    (new : ObjOk X.prog X.w (upd H x o) h' x o) : Inv X pins σ (upd H x o) { s with heap := h', toks := t' } := I.un (Un.write mu he k heo) (I.hok.write mu he k heo new)
/-- forgetting slots, pins -/
theorem Inv.weak {σ' : List (Option V)} (I : Inv X pins σ H s) (hl : σ'.length = σ.length) (w : ∀ (i : Nat) v, σ'[i]? = some (some v) → σ[i]? = some (some v)) : Inv X pins σ' H s :=
  ⟨I.ok, I.os, I.bare, I.base, let ⟨m, hn, hl'⟩ := I.loc; ⟨m, hn, fun i x v e1 e2 e3 => hl' i x v e1 (w i v e2) e3⟩, I.cell, I.free, I.freeC, I.pin, I.hok, hl.trans I.len⟩
theorem Inv.pins_of {pins' : List (Addr × Obj)} (I : Inv X pins σ H s) (h : ∀ p ∈ pins', s.heap.get? p.1 = some p.2 ∧ H p.1 = none ∧ p.1 ≠ X.env.locals ∧ p.1 ∉ X.fs ∧ ∀ v, p.2.data ≠ .cell v) : Inv X pins' σ H s :=
  ⟨I.ok, I.os, I.bare, I.base, I.loc, I.cell, I.free, I.freeC, fun p hp => (List.mem_append.mp hp).elim (fun z => I.pin p (List.mem_append_left _ z)) (h p), I.hok, I.len⟩

theorem nodup_ix {N : List Str} (hN : N.Nodup) {i j : Nat} {x : Str} (a : N[i]? = some x) (b : N[j]? = some x) : i = j := by
  obtain ⟨h1, e1⟩ := List.getElem?_eq_some_iff.mp a
  obtain ⟨h2, e2⟩ := List.getElem?_eq_some_iff.mp b
  exact (List.getElem_inj hN).mp (e1.trans e2.symm)

/-- a name is stored; what changed -/
theorem store_ok2 {M : Model} {A : Around} {E : Value → Shared → Prop} {i : Nat} {x : Str} {v : V} {u : Value} {Q : Unit → Shared → Prop} (I : Inv X pins σ H s) (hN : X.N.Nodup) (hi : X.N[i]? = some x) (hx : Loc X.env.scope x) (r : RelV v u)
    (h : ∀ s', Inv X pins (σ.set i (some v)) H s' → (∃ a, Heap.SameBut a s.heap s'.heap ∧ (a = X.env.locals ∨ X.env.cells.lookup x = some a)) → Q () s') (hf : X.fn x = true ∨ X.env.scope.names.lookup x = some .local := by first | exact .inl rfl | exact .inr rfl | assumption) : wpAny M A (storeName X.env x u) Q E s := by
  obtain ⟨m, hn, hl⟩ := id I.loc
  have hcls : (X.env.scope.kind == .class || (X.env.scope.kind == .module && X.env.locals != X.env.globals)) = false := by rw [I.ok.kind]; rfl
  have hiσ : i < σ.length := by rw [I.len]; exact (List.getElem?_eq_some_iff.mp hi).1
  have cne := I.cne
  have tracked : ∀ {a : Addr} {h' : Heap}, (∃ o, s.heap.get? a = some o ∧ H a = none) → Heap.SameBut a s.heap h' → HOk X.prog X.w H h' := fun {a h'} ha hs b ob e => by
    obtain ⟨_, _, hfree⟩ := ha
    refine (I.hok b ob e).stay (fun c w' hc q => (hs.2 c ?_).trans q) (fun _ q => q) fun _ _ q => q
    rintro rfl
    rcases hc with rfl | hc
    · rw [hfree] at e; cases e
    · rw [hfree] at hc; cases hc
  rcases hx with hk | hk
  · refine wpAny_storeName_local hk hn (fun h' hn' hs => ?_) hcls
    obtain ⟨oL, _, _, hoL, _⟩ := id hn
    refine h _ ⟨I.ok, I.os, I.bare, ⟨fun b o e n hb hx => ?_, fun b o e n hb hx => ?_, I.base.free, fun b o e hx => ?_, I.base.tups, I.base.frzs, I.base.tbls⟩, ⟨_, hn', fun j y v' e1 e2 e3 => ?_⟩, fun y c e => ?_, I.free, I.freeC, fun p hp => ?_, tracked ⟨oL, hoL, I.free⟩ hs, by simpa using I.len⟩ ⟨_, hs, .inl rfl⟩
    · exact (hs.2 b (Nat.ne_of_lt (Nat.lt_of_lt_of_le (Heap.lt_size e) I.ok.above))).trans (I.base.keep b o e n hb hx)
    · obtain ⟨sl, e1⟩ := I.base.slot b o e n hb hx
      exact ⟨sl, (hs.2 b (Nat.ne_of_lt (Nat.lt_of_lt_of_le (Heap.lt_size e) I.ok.above))).trans e1⟩
    · obtain ⟨o', e1⟩ := I.base.there b o e hx
      exact ⟨o', (hs.2 b (Nat.ne_of_lt (Nat.lt_of_lt_of_le (Heap.lt_size e) I.ok.above))).trans e1⟩
    · by_cases hj : j = i
      · subst hj
        rw [hi] at e1; cases e1
        rw [List.getElem?_set_self hiσ] at e2
        cases e2
        exact ⟨u, r, .inl ⟨hk, by simp⟩⟩
      · rw [List.getElem?_set_ne (Ne.symm hj)] at e2
        obtain ⟨u', r', q⟩ := hl j y v' e1 e2 e3
        refine ⟨u', r', ?_⟩
        rcases q with ⟨k, e⟩ | ⟨k, c, e, z⟩
        · refine .inl ⟨k, ?_⟩
          have : y ≠ x := fun e => hj (nodup_ix hN e1 (e ▸ hi))
          simp [this, e]
        · exact .inr ⟨k, c, e, z.sameBut hs (cne y c e)⟩
    · obtain ⟨w', z⟩ := I.cell y c e
      exact ⟨w', z.sameBut hs (cne y c e)⟩
    · obtain ⟨e, n, ne, nf, d⟩ := I.pin p hp
      exact ⟨(hs.2 p.1 ne).trans e, n, ne, nf, d⟩
  · have hfn : X.fn x = true := by
      rcases hf with z | z
      · exact z
      · rw [z] at hk; cases hk
    obtain ⟨c, hc⟩ := I.ok.has x (.inl hk)
    obtain ⟨w', z⟩ := I.cell x c hc
    refine wpAny_storeName_cell I.ok.kind hk hc z (fun h' hc' hs => ?_)
    obtain ⟨oc, hoc, hocd⟩ := id z
    refine h { s with heap := h' } ⟨I.ok, I.os, I.bare, ⟨fun b o e n hb hx => ?_, fun b o e n hb hx => ?_, I.base.free, fun b o e hx => ?_, I.base.tups, I.base.frzs, I.base.tbls⟩, ⟨m, hn.sameBut hs (Ne.symm (cne x c hc)), fun j y v' e1 e2 e3 => ?_⟩, fun y c' e => ?_, I.free, I.freeC, fun p hp => ?_, tracked ⟨oc, hoc, I.freeC x c hc⟩ hs, by simpa using I.len⟩ ⟨c, hs, .inr hc⟩
    · exact (hs.2 b (Nat.ne_of_lt (Nat.lt_of_lt_of_le (Heap.lt_size e) (I.ok.cab x c hfn hc)))).trans (I.base.keep b o e n hb hx)
    · obtain ⟨sl, e1⟩ := I.base.slot b o e n hb hx
      exact ⟨sl, (hs.2 b (Nat.ne_of_lt (Nat.lt_of_lt_of_le (Heap.lt_size e) (I.ok.cab x c hfn hc)))).trans e1⟩
    · obtain ⟨o', e1⟩ := I.base.there b o e hx
      exact ⟨o', (hs.2 b (Nat.ne_of_lt (Nat.lt_of_lt_of_le (Heap.lt_size e) (I.ok.cab x c hfn hc)))).trans e1⟩
    · by_cases hj : j = i
      · subst hj
        rw [hi] at e1; cases e1
        rw [List.getElem?_set_self hiσ] at e2
        cases e2
        exact ⟨u, r, .inr ⟨.inl hk, c, hc, hc'⟩⟩
      · rw [List.getElem?_set_ne (Ne.symm hj)] at e2
        obtain ⟨u', r', q⟩ := hl j y v' e1 e2 e3
        refine ⟨u', r', ?_⟩
        rcases q with q | ⟨k, c', e, z'⟩
        · exact .inl q
        · refine .inr ⟨k, c', e, z'.sameBut hs ?_⟩
          rintro rfl
          exact hj (nodup_ix hN e1 (I.ok.inj _ _ _ e hc ▸ hi))
    · by_cases hcc : c' = c
      · subst hcc; exact ⟨_, hc'⟩
      · obtain ⟨w2, z2⟩ := I.cell y c' e
        exact ⟨w2, z2.sameBut hs hcc⟩
    · obtain ⟨e, n, ne, nf, d⟩ := I.pin p hp
      refine ⟨(hs.2 p.1 ?_).trans e, n, ne, nf, d⟩
      intro q
      rw [q, hoc] at e
      have q' : oc = p.2 := Option.some.inj e
      exact d w' (by rw [← q']; exact hocd)
theorem store_ok {M : Model} {A : Around} {E : Value → Shared → Prop} {i : Nat} {x : Str} {v : V} {u : Value} {Q : Unit → Shared → Prop} (I : Inv X pins σ H s) (hN : X.N.Nodup) (hi : X.N[i]? = some x) (hx : Loc X.env.scope x) (r : RelV v u)
    (h : ∀ s', Inv X pins (σ.set i (some v)) H s' → Q () s') (hf : X.fn x = true ∨ X.env.scope.names.lookup x = some .local := by first | exact .inl rfl | exact .inr rfl | assumption) : wpAny M A (storeName X.env x u) Q E s :=
  store_ok2 I hN hi hx r (fun s' I' _ => h s' I') hf
/-- behind a call or a block, the state as it is -/
theorem Inv.call' {s' : Shared} {ch : List Addr} (I : Inv X pins σ H s) (ho : s'.os = s.os) (u : Un (frs X.stack) ch H H' s.heap s'.heap) (hok : HOk X.prog X.w H' s'.heap) (hg : AllBare s'.gens)
    (hch : ∀ b ∈ ch, (b ∈ X.ex ∨ X.s₀.heap.objs.size ≤ b) ∧ b ≠ X.env.locals ∧ (∀ x c, X.env.cells.lookup x = some c → c ≠ b) ∧ ∀ p ∈ X.pn ++ pins, p.1 ≠ b) : Inv X pins σ H' s' := by
  obtain ⟨h', g', d', t', o'⟩ := s'
  have e : o' = s.os := ho
  subst e
  exact I.call (g' := g') (t' := t') (d' := d') u hok hg hch
end

/-! ### the judgements -/
/-- an exception: its class, its own dict's address (where it has one), the abstract heap behind it -/
abbrev XK := Value → Option Addr → Hp → Prop
abbrev St := List (Option V)
abbrev VK := V → Hp → Prop
/-- an expression's reading; a test's; an argument list's -/
abbrev TE := St → Hp → VK → Prop
abbrev TT := St → Hp → (Bool → Hp → Prop) → Prop
abbrev TA := St → Hp → (List V → Hp → Prop) → Prop
/-- what is wanted behind a statement -/
structure Ends where
  nx : St → Hp → Prop
  rt : VK
  bk : St → Hp → Prop := fun _ _ => False
  ct : St → Hp → Prop := fun _ _ => False
abbrev TS := Ends → St → Hp → Prop

def EP (X : Cx) (pins : List (Addr × Obj)) (σ : St) (Q : VK) (u : Value) (s' : Shared) : Prop := ∃ v H', Inv X pins σ H' s' ∧ RelV v u ∧ Q v H'
def TP (X : Cx) (pins : List (Addr × Obj)) (σ : St) (Q : Bool → Hp → Prop) (b : Bool) (s' : Shared) : Prop := ∃ H', Inv X pins σ H' s' ∧ Q b H'
def AP (X : Cx) (pins : List (Addr × Obj)) (σ : St) (Q : List V → Hp → Prop) (us : List Value) (s' : Shared) : Prop := ∃ vs H', Inv X pins σ H' s' ∧ Vals vs us ∧ Q vs H'
def SP (X : Cx) (pins : List (Addr × Obj)) (D : Ends) (f : Flow) (s' : Shared) : Prop :=
  match f with
  | .next => ∃ σ' H', Inv X pins σ' H' s' ∧ D.nx σ' H'
  | .brk => ∃ σ' H', Inv X pins σ' H' s' ∧ D.bk σ' H'
  | .cont => ∃ σ' H', Inv X pins σ' H' s' ∧ D.ct σ' H'
  | .ret u => ∃ v σ' H', Inv X pins σ' H' s' ∧ RelV v u ∧ D.rt v H'

def PE (X : Cx) (e : Expr) (t : TE) : Prop :=
  ∀ (pins : List (Addr × Obj)) (s : Shared) (σ : St) (H : Hp) (Q : VK), Inv X pins σ H s → t σ H Q → wpAny (model X.prog X.w) X.A (eval e X.env) (EP X pins σ Q) X.xe s
def PT (X : Cx) (e : Expr) (t : TT) : Prop :=
  ∀ (pins : List (Addr × Obj)) (s : Shared) (σ : St) (H : Hp) (Q : Bool → Hp → Prop), Inv X pins σ H s → t σ H Q → wpAny (model X.prog X.w) X.A (isTrue e X.env (eval e X.env)) (TP X pins σ Q) X.xe s
/-- a test whatever its 'whole' is (and, or) -/
def PW (X : Cx) (e : Expr) (t : TT) : Prop :=
  ∀ (whole : Sem Value) (pins : List (Addr × Obj)) (s : Shared) (σ : St) (H : Hp) (Q : Bool → Hp → Prop), Inv X pins σ H s → t σ H Q → wpAny (model X.prog X.w) X.A (isTrue e X.env whole) (TP X pins σ Q) X.xe s
theorem PW.pt {X : Cx} {e : Expr} {t : TT} (h : PW X e t) : PT X e t := h _
/-- an argument list (no star), from the left -/
def PA (X : Cx) (es : List Expr) (t : TA) : Prop :=
  ∀ (pos : Pos) (pins : List (Addr × Obj)) (s : Shared) (σ : St) (H : Hp) (Q : List V → Hp → Prop), Inv X pins σ H s → t σ H Q → wpAny (model X.prog X.w) X.A (spliced (backTo pos (starEach es X.env))) (AP X pins σ Q) X.xe s
def PS (X : Cx) (st : Stmt) (t : TS) : Prop :=
  ∀ (pins : List (Addr × Obj)) (s : Shared) (σ : St) (H : Hp) (D : Ends), Inv X pins σ H s → t D σ H → wpAny (model X.prog X.w) X.A (exec st X.env) (SP X pins D) X.xe s
def PSs (X : Cx) (st : List Stmt) (t : TS) : Prop :=
  ∀ (pins : List (Addr × Obj)) (s : Shared) (σ : St) (H : Hp) (D : Ends), Inv X pins σ H s → t D σ H → wpAny (model X.prog X.w) X.A (execs st X.env) (SP X pins D) X.xe s
/-- weaken the end -/
theorem thn {α : Type} {t : Sem α} {Q Q' : α → Shared → Prop} {M : Model} {A : Around} {E : Value → Shared → Prop} {s : Shared} (h : wpAny M A t Q E s) (hQ : ∀ a s, Q a s → Q' a s) : wpAny M A t Q' E s := wpAny_mono h hQ fun _ _ x => x
end L2

namespace L2
open PySem PySem.Spec PyProof.Rows
section
variable {X : Cx}

/-! ### names and constants -/
def tVar (i : Nat) : TE := fun σ H Q => ∃ v, σ[i]? = some (some v) ∧ Q v H
def tC (v : V) : TE := fun _ H Q => Q v H
theorem pe_var {i : Nat} {x : Str} {pos : Pos} (hN : X.N[i]? = some x) (hv : Vis X.env.scope x) (hd : (x == ("__debug__" : Str)) = false := by decide) (hcd : (x == ("__classdict__" : Str)) = false := by decide) : PE X (.Name x pos) (tVar i) := by
  intro pins s σ H Q I h
  obtain ⟨v, e, h⟩ := h
  obtain ⟨m, hn, hl⟩ := I.loc
  obtain ⟨u, r, l⟩ := hl i x v hN e hv
  have fin : EP X pins σ Q u s := ⟨v, H, I, r, h⟩
  rcases l with ⟨hk, hm⟩ | ⟨hk, c, hc, hcell⟩
  · exact wpAny_Name (wpAny_loadName_local I.ok.kind hk hn hm fin) hd
  · rcases hk with hk | hk
    · exact wpAny_Name (wpAny_loadName_cell I.ok.kind hk hc hcell fin) hd
    · exact wpAny_Name (wpAny_loadName_free I.ok.kind hk hc hcell fin hcd) hd
theorem pe_int {i j pos} : PE X (.Constant (.int i) j pos) (tC (.int i)) := fun _ _ _ H _ I h => wpAny_Constant_int ⟨.int i, H, I.tok _, ⟨_, rfl⟩, h⟩
theorem pe_bl {b j pos} : PE X (.Constant (.bool b) j pos) (tC (.bl b)) := fun _ _ _ H _ I h => Constant_bool ⟨.bl b, H, I, rfl, h⟩
/-- a global name of the def -/
def Gl (X : Cx) (x : Str) : Prop := X.env.kindOf x = some .globalImplicit
theorem ld_glob {E : Value → Shared → Prop} {pins : List (Addr × Obj)} {s : Shared} {σ : St} {H : Hp} {x : Str} {u : Value} {pos : Pos} {Q : Value → Shared → Prop} (I : Inv X pins σ H s) (hg : Gl X x) (hm : X.mg x = some u) (h : Q u s)
    (hd : (x == ("__debug__" : Str)) = false := by decide) : wpAny (model X.prog X.w) X.A (eval (.Name x pos) X.env) Q E s :=
  Calls.Name_function_global I.ok.kind hg (Calls.loadGlobal_global (by rw [I.ok.glob]; exact I.mod.glob.keeps I.bk) hm h) hd
theorem ld_blt {E : Value → Shared → Prop} {pins : List (Addr × Obj)} {s : Shared} {σ : St} {H : Hp} {x : Str} {u : Value} {pos : Pos} {Q : Value → Shared → Prop} (I : Inv X pins σ H s) (hg : Gl X x) (hm : X.mg x = none) (hv : bootBuiltins x = some u) (h : Q u s)
    (hn : x ≠ "__name__" := by decide) (hd : (x == ("__debug__" : Str)) = false := by decide) : wpAny (model X.prog X.w) X.A (eval (.Name x pos) X.env) Q E s := by
  obtain ⟨mb, h1, h2⟩ := I.mod.blt
  exact Calls.Name_function_global I.ok.kind hg (Calls.loadGlobal_builtin (by rw [I.ok.glob]; exact I.mod.glob.keeps I.bk) hm (by rw [I.ok.blt]; exact h1.keeps I.bk) ((h2 x hn).trans hv) h) hd
theorem pe_bltn {x : Str} {v : V} {u : Value} {pos : Pos} (hg : Gl X x) (hm : X.mg x = none) (hv : bootBuiltins x = some u) (r : RelV v u) (hn : x ≠ "__name__" := by decide) (hd : (x == ("__debug__" : Str)) = false := by decide) : PE X (.Name x pos) (tC v) :=
  fun _ _ _ H _ I h => ld_blt I hg hm hv ⟨v, H, I, r, h⟩ hn hd

/-! ### arithmetic -/
/-- two ints -/
def t2I (ta tb : TE) (k : Int → Int → Hp → Prop) : St → Hp → Prop := fun σ H => ta σ H fun x H1 => tb σ H1 fun y H2 => ∃ i j, x = .int i ∧ y = .int j ∧ k i j H2
def tAdd (ta tb : TE) : TE := fun σ H Q => t2I ta tb (fun i j H2 => Q (.int (i + j)) H2) σ H
def tSub (ta tb : TE) : TE := fun σ H Q => t2I ta tb (fun i j H2 => Q (.int (i - j)) H2) σ H
/-- the left factor below 2^64 -/
def tMul (ta tb : TE) : TE := fun σ H Q => t2I ta tb (fun i j H2 => (-(2 ^ 64) < i ∧ i < 2 ^ 64) ∧ Q (.int (i * j)) H2) σ H
variable {a b : Expr} {ta tb : TE} {pos : Pos}
/-! ### comparisons -/
def PC (X : Cx) (op : CmpOp) (a b : Expr) (t : TE) : Prop :=
  ∀ (pins : List (Addr × Obj)) (s : Shared) (σ : St) (H : Hp) (Q : VK), Inv X pins σ H s → t σ H Q →
    wpAny (model X.prog X.w) X.A (eval a X.env) (fun v s₁ => wpAny (model X.prog X.w) X.A (eval b X.env) (fun u s₂ => wpAny (model X.prog X.w) X.A (compareOp op v u) (EP X pins σ Q) X.xe s₂) X.xe s₁) X.xe s
def tCmp (p : Int → Int → Bool) (ta tb : TE) : TE := fun σ H Q => t2I ta tb (fun i j H2 => Q (.bl (p i j)) H2) σ H
abbrev tLt : TE → TE → TE := tCmp fun i j => decide (i < j)
abbrev tLe : TE → TE → TE := tCmp fun i j => decide (i ≤ j)
abbrev tGt : TE → TE → TE := tCmp fun i j => decide (j < i)
abbrev tGe : TE → TE → TE := tCmp fun i j => decide (j ≤ i)
abbrev tEqI : TE → TE → TE := tCmp fun i j => decide (i = j)
abbrev tNeI : TE → TE → TE := tCmp fun i j => !decide (i = j)
/-- is None -/
def tIsN (ta : TE) : TE := fun σ H Q => ta σ H fun x H1 => Q (.bl (decide (x = .non))) H1
def tNotN (ta : TE) : TE := fun σ H Q => ta σ H fun x H1 => Q (.bl (!decide (x = .non))) H1
/-- a comparison as a value, as a test -/
def tB (t : TE) : TT := fun σ H Q => t σ H fun x H1 => ∃ c, x = .bl c ∧ Q c H1
theorem pe_cmp {op : CmpOp} {t : TE} (h : PC X op a b t) (h1 : behindInMarks op b = false := by first | exact nobehind _ (by decide) (by decide) | rfl) : PE X (.Compare a [op] [b] pos) t := fun pins s σ H Q I hw => wpAny_Compare1 (h pins s σ H Q I hw) h1
/-- an expression whose value is a bool, as a test -/
theorem pt_val {e : Expr} {t : TE} (h : PE X e t) (he : ∀ whole, isTrue e X.env whole = (do let v ← whole; standAt e.pos; holding [v] (truthy v)) := by intro _; rfl) : PT X e (tB t) := by
  intro pins s σ H Q I hw
  refine isTrue_plain (thn (h pins s σ H _ I hw) fun v s1 ⟨x, H1, I1, r1, q1⟩ => ?_) (he _)
  obtain ⟨d, rfl, q⟩ := q1
  cases r1
  exact wpAny_truthy_bool ⟨H1, I1, q⟩

/-! ### and, or, not -/
variable {tA tB' : TT} {rest : List Expr}
def tAnd (t u : TT) : TT := fun σ H Q => t σ H fun c H1 => if c = true then u σ H1 Q else Q false H1
def tOr (t u : TT) : TT := fun σ H Q => t σ H fun c H1 => if c = true then Q true H1 else u σ H1 Q
def tNot (t : TT) : TT := fun σ H Q => t σ H fun c H1 => Q (!c) H1
theorem pw_and1 (ha : PT X a tA) : PW X (.BoolOp .And [a] pos) tA := by
  intro wh pins s σ H Q I h
  refine isTrue_and (thn (ha pins s σ H Q I h) fun c s1 e => ?_)
  cases c with
  | true => exact isTrue_and_nil e
  | false => exact e
theorem pw_or1 (ha : PT X a tA) : PW X (.BoolOp .Or [a] pos) tA := by
  intro wh pins s σ H Q I h
  refine isTrue_or (thn (ha pins s σ H Q I h) fun c s1 e => ?_)
  cases c with
  | false => exact isTrue_or_nil e
  | true => exact e
theorem pw_and (ha : PT X a tA) (hb : PW X (.BoolOp .And (b :: rest) pos) tB') : PW X (.BoolOp .And (a :: b :: rest) pos) (tAnd tA tB') := by
  intro wh pins s σ H Q I h
  refine isTrue_and (thn (ha pins s σ H _ I h) fun c s1 ⟨H1, I1, q1⟩ => ?_)
  cases c with
  | true => exact hb wh pins s1 σ H1 Q I1 q1
  | false => exact ⟨H1, I1, q1⟩
theorem pw_or (ha : PT X a tA) (hb : PW X (.BoolOp .Or (b :: rest) pos) tB') : PW X (.BoolOp .Or (a :: b :: rest) pos) (tOr tA tB') := by
  intro wh pins s σ H Q I h
  refine isTrue_or (thn (ha pins s σ H _ I h) fun c s1 ⟨H1, I1, q1⟩ => ?_)
  cases c with
  | true => exact ⟨H1, I1, q1⟩
  | false => exact hb wh pins s1 σ H1 Q I1 q1
theorem pt_not (ha : PT X a tA) : PT X (.UnaryOp .Not a pos) (tNot tA) := by
  intro pins s σ H Q I h
  exact isTrue_not (ha pins s σ H (fun c H1 => Q (!c) H1) I h)
/-- .. as values (bools) -/
def tAndV (ta tb : TE) : TE := fun σ H Q => ta σ H fun x H1 => ∃ c, x = .bl c ∧ if c = true then tb σ H1 Q else Q (.bl false) H1
def tOrV (ta tb : TE) : TE := fun σ H Q => ta σ H fun x H1 => ∃ c, x = .bl c ∧ if c = true then Q (.bl true) H1 else tb σ H1 Q
def tNotV (ta : TE) : TE := fun σ H Q => ta σ H fun x H1 => ∃ c, x = .bl c ∧ Q (.bl (!c)) H1
theorem pe_one {op} {t : TE} (h : PE X a t) : PE X (.BoolOp op [a] pos) t := fun pins s σ H Q I hw => BoolOp_one (h pins s σ H Q I hw)
theorem pe_and (ha : PE X a ta) (hb : PE X (.BoolOp .And (b :: rest) pos) tb) : PE X (.BoolOp .And (a :: b :: rest) pos) (tAndV ta tb) := by
  intro pins s σ H Q I h
  refine BoolOp_and (thn (ha pins s σ H _ I h) fun v s1 ⟨x, H1, I1, r1, q1⟩ => ?_)
  obtain ⟨c, rfl, q1⟩ := q1
  cases r1
  refine wpAny_truthy_bool ?_
  cases c with
  | true => exact hb pins s1 σ H1 Q I1 q1
  | false => exact ⟨.bl false, H1, I1, rfl, q1⟩
/-- a if t else b -/
def tIf (t : TT) (ta tb : TE) : TE := fun σ H Q => t σ H fun c H1 => if c = true then ta σ H1 Q else tb σ H1 Q
end
end L2

namespace L2
open PySem PySem.Spec PyProof.Rows

/-! ### a list, a tuple that is read: tracked, frozen, or an object of the module -/
def SqL (K : PySem.W.Frag) (H : Hp) (a : Addr) (xs : List V) : Prop :=
  Rd H a (.lst xs) ∨
    ∃ (o : Obj) (its : Array Value) (n : Nat), K.lookup a = some o ∧ o.cls = .type "list" ∧ o.dict = none ∧ o.data = .seq its n ∧ its.size ≤ sizeLine ∧ Vals xs its.toList
def SqT (K : PySem.W.Frag) (H : Hp) (a : Addr) (xs : List V) : Prop :=
  Rd H a (.tup xs) ∨
    ∃ (o : Obj) (its : Array Value) (n : Nat), K.lookup a = some o ∧ o.cls = .type "tuple" ∧ o.data = .seq its n ∧ its.size ≤ sizeLine ∧ Vals xs its.toList
def absV : Value → Option V
  | .none => some .non
  | .bool b => some (.bl b)
  | .int i _ => some (.int i)
  | .str x _ => some (.str x)
  | .bytes b _ => some (.byt b)
  | .float b _ => some (.flt b)
  | .ref a => some (.ref a)
  | .type n => some (.ty n)
  | _ => none
theorem RelV.abs {x : V} {u : Value} (r : RelV x u) : absV u = some x := by
  cases x with
  | non => cases r; rfl
  | bl _ => cases r; rfl
  | int _ => obtain ⟨t, rfl⟩ := r; rfl
  | str _ => obtain ⟨t, rfl⟩ := r; rfl
  | byt _ => obtain ⟨t, rfl⟩ := r; rfl
  | flt _ => obtain ⟨t, rfl⟩ := r; rfl
  | ref _ => cases r; rfl
  | ty _ => cases r; rfl
theorem RelV.inj {x y : V} {u : Value} (r : RelV x u) (q : RelV y u) : x = y := Option.some.inj (r.abs.symm.trans q.abs)
theorem Vals.inj : ∀ {xs ys : List V} {us : List Value}, Vals xs us → Vals ys us → xs = ys
  | _, _, _, .nil, .nil => rfl
  | _, _, _, .cons r t, .cons r' t' => by rw [r.inj r', Vals.inj t t']
section
variable {X : Cx} {pins : List (Addr × Obj)} {σ : St} {H : Hp} {s : Shared} {a : Addr} {xs ys : List V}
theorem SqL.of {K : PySem.W.Frag} (h : H a = some (.lst xs)) : SqL K H a xs := .inl (.inl h)
theorem SqT.of {K : PySem.W.Frag} (h : H a = some (.tup xs)) : SqT K H a xs := .inl (.inl h)
theorem Inv.list (I : Inv X pins σ H s) (h : SqL X.K H a xs) : ∃ its : List Value, Vals xs its ∧ PlainL s.heap a its.toArray ∧ xs.length ≤ sizeLine := by
  rcases h with h | ⟨o, its, n, hk, hc, hd, hs, hz, r⟩
  · obtain ⟨z, its, n, r, e⟩ := h.ok I.hok
    exact ⟨its, r, ⟨_, n, e, rfl, rfl, rfl⟩, z⟩
  · refine ⟨its.toList, r, ⟨o, n, I.kIn a o hk, hc, hd, by simpa using hs⟩, ?_⟩
    have e := r.length
    simp only [Array.length_toList] at e
    omega
theorem Inv.tuple (I : Inv X pins σ H s) (h : SqT X.K H a xs) : ∃ its : List Value, Vals xs its ∧ IsTup s.heap a its.toArray ∧ xs.length ≤ sizeLine := by
  rcases h with h | ⟨o, its, n, hk, hc, hs, hz, r⟩
  · obtain ⟨z, its, r, p⟩ := h.ok I.hok
    exact ⟨its, r, p, z⟩
  · refine ⟨its.toList, r, ⟨o, I.kIn a o hk, hc, n, by simpa using hs⟩, ?_⟩
    have e := r.length
    simp only [Array.length_toList] at e
    omega
theorem Inv.list_inj (I : Inv X pins σ H s) (h : SqL X.K H a xs) (h' : SqL X.K H a ys) : xs = ys := by
  obtain ⟨its, r, ⟨o, n, e, _, _, d⟩, _⟩ := I.list h
  obtain ⟨its', r', ⟨o', n', e', _, _, d'⟩, _⟩ := I.list h'
  rw [e] at e'; cases e'
  rw [d] at d'
  injection d' with d1 _
  have : its = its' := by simpa using congrArg Array.toList d1
  subst this
  exact r.inj r'
end

/-! ### another wish about exceptions -/
abbrev Cx.wish (X : Cx) (E : Value → Shared → Prop) : Cx := { X with xe := E }
/-- no exception leaves -/
abbrev Cx.nox (X : Cx) : Cx := X.wish fun _ _ => False
theorem Cx.Ok.wish {X : Cx} (ok : X.Ok) (E : Value → Shared → Prop) : (X.wish E).Ok :=
  ⟨ok.mod, ok.kind, ok.glob, ok.blt, ok.above, ok.inj, ok.has, ok.cab, ok.hd, ok.frames, ok.stk, ok.exf, ok.bs, ok.bsz, ok.noex, ok.exfs, ok.funs, ok.frf⟩
theorem Cx.Ok.unwish {X : Cx} {E : Value → Shared → Prop} (ok : (X.wish E).Ok) : X.Ok :=
  ⟨ok.mod, ok.kind, ok.glob, ok.blt, ok.above, ok.inj, ok.has, ok.cab, ok.hd, ok.frames, ok.stk, ok.exf, ok.bs, ok.bsz, ok.noex, ok.exfs, ok.funs, ok.frf⟩
section
variable {X : Cx} {pins : List (Addr × Obj)} {σ : St} {H : Hp} {s : Shared} {E : Value → Shared → Prop}
theorem Inv.wish (I : Inv X pins σ H s) (E : Value → Shared → Prop) : Inv (X.wish E) pins σ H s := ⟨I.ok.wish E, I.os, I.bare, I.base, I.loc, I.cell, I.free, I.freeC, I.pin, I.hok, I.len⟩
theorem Inv.unwish (I : Inv (X.wish E) pins σ H s) : Inv X pins σ H s := ⟨I.ok.unwish, I.os, I.bare, I.base, I.loc, I.cell, I.free, I.freeC, I.pin, I.hok, I.len⟩
theorem SP.unwish {D : Ends} {f : Flow} {s' : Shared} (h : SP (X.wish E) pins D f s') : SP X pins D f s' := by
  cases f with
  | next => obtain ⟨σ', H', I, q⟩ := h; exact ⟨σ', H', I.unwish, q⟩
  | brk => obtain ⟨σ', H', I, q⟩ := h; exact ⟨σ', H', I.unwish, q⟩
  | cont => obtain ⟨σ', H', I, q⟩ := h; exact ⟨σ', H', I.unwish, q⟩
  | ret u => obtain ⟨v, σ', H', I, r, q⟩ := h; exact ⟨v, σ', H', I.unwish, r, q⟩
theorem PSs.nox {st : List Stmt} {t : TS} (h : PSs X.nox st t) : PSs X st t := fun pins s σ H D I hw =>
  wpAny_mono (h pins s σ H D (I.wish _) hw) (fun _ _ q => q.unwish) fun _ _ z => False.elim z
end

/-! ### blocks and small statements -/
section
variable {X : Cx} {st : Stmt} {rest : List Stmt} {t u : TS} {e : Expr} {te : TE} {pos : Pos}
def tNext : TS := fun D σ H => D.nx σ H
def tSeq (t u : TS) : TS := fun D σ H => t { D with nx := u D } σ H
theorem pss_nil : PSs X [] tNext := fun _ _ σ H _ I h => wpAny_execs_nil ⟨σ, H, I, h⟩
theorem pss_cons (h1 : PS X st t) (h2 : PSs X rest u) : PSs X (st :: rest) (tSeq t u) := by
  intro pins s σ H D I h
  refine wpAny_execs_cons (thn (h1 pins s σ H { D with nx := u D } I h) fun f s1 q => ?_)
  cases f with
  | next =>
    obtain ⟨σ', H', I', q⟩ := q
    exact h2 pins s1 σ' H' D I' q
  | ret v => exact q
  | brk => exact q
  | cont => exact q
theorem pss_one (h1 : PS X st t) : PSs X [st] t := by
  intro pins s σ H D I h
  refine wpAny_execs_cons (thn (h1 pins s σ H D I h) fun f s1 q => ?_)
  cases f with
  | next => exact wpAny_execs_nil q
  | ret v => exact q
  | brk => exact q
  | cont => exact q
def tBreak : TS := fun D σ H => D.bk σ H
def tCont : TS := fun D σ H => D.ct σ H
/-- in a def's body nothing is shown -/
theorem Inv.quiet {pins : List (Addr × Obj)} {σ : St} {H : Hp} {s : Shared} (I : Inv X pins σ H s) : interactive X.env = false := by simp [interactive, I.ok.kind]
/-- an expression whose value is dropped -/
def tDrop (te : TE) : TS := fun D σ H => te σ H fun _ H1 => D.nx σ H1
theorem ps_expr (he : PE X e te) (hs : swapsWith e none pos.line X.env = pure false := by rfl) : PS X (.Expr e pos) (tDrop te) := by
  intro pins s σ H D I h
  exact wpAny_Expr_any (thn (he pins s σ H _ I h) fun v s1 ⟨x, H1, I1, r1, q1⟩ => ⟨σ, H1, I1, q1⟩) I.quiet hs
def tRet (te : TE) : TS := fun D σ H => te σ H D.rt
theorem ps_ret (he : PE X e te) : PS X (.Return (some e) pos) (tRet te) := by
  intro pins s σ H D I h
  exact wpAny_Return_some (thn (he pins s σ H _ I h) fun v s1 ⟨x, H1, I1, r1, q1⟩ => ⟨x, σ, H1, I1, r1, q1⟩)
def tRetN : TS := fun D _ H => D.rt .non H
def tIfS (c : TT) (t u : TS) : TS := fun D σ H => c σ H fun b H1 => if b = true then t D σ H1 else u D σ H1
theorem ps_if {c : Expr} {a b : List Stmt} {tc : TT} (hc : PT X c tc) (ha : PSs X a t) (hb : PSs X b u) : PS X (.If c a b pos) (tIfS tc t u) := by
  intro pins s σ H D I h
  refine wpAny_If (thn (hc pins s σ H _ I h) fun d s1 ⟨H1, I1, q1⟩ => ?_)
  cases d with
  | true => exact ha pins s1 σ H1 D I1 q1
  | false => exact hb pins s1 σ H1 D I1 q1
/-- code that the proof never comes to -/
def tNever : TS := fun _ _ _ => False
end

/-! ### targets -/
abbrev TG := V → St → Hp → (St → Hp → Prop) → Prop
abbrev TGs := List V → St → Hp → (St → Hp → Prop) → Prop
def PG (X : Cx) (target : Expr) (t : TG) : Prop :=
  ∀ (pins : List (Addr × Obj)) (s : Shared) (σ : St) (H : Hp) (v : V) (u : Value) (Q : St → Hp → Prop), Inv X pins σ H s → RelV v u → t v σ H Q →
    wpAny (model X.prog X.w) X.A (assign target X.env u) (fun _ s' => ∃ σ' H', Inv X pins σ' H' s' ∧ Q σ' H') X.xe s
/-- several targets, one after another -/
def PGs (X : Cx) (ts : List Expr) (t : TGs) : Prop :=
  ∀ (pins : List (Addr × Obj)) (s : Shared) (σ : St) (H : Hp) (vs : List V) (us : List Value) (Q : St → Hp → Prop), Inv X pins σ H s → Vals vs us → t vs σ H Q →
    wpAny (model X.prog X.w) X.A (assignInOrder ((assignEach ts X.env).map (·.2)) us) (fun _ s' => ∃ σ' H', Inv X pins σ' H' s' ∧ Q σ' H') X.xe s
/-- o[i] = v, by values -/
abbrev TSet := V → V → V → Hp → (Hp → Prop) → Prop
def PSet (X : Cx) (t : TSet) : Prop :=
  ∀ (pins : List (Addr × Obj)) (s : Shared) (σ : St) (H : Hp) (o i v : V) (ov iv u : Value) (Q : Hp → Prop), Inv X pins σ H s → RelV o ov → RelV i iv → RelV v u → t o i v H Q →
    wpAny (model X.prog X.w) X.A (setItem ov iv u) (fun _ s' => ∃ H', Inv X pins σ H' s' ∧ Q H') X.xe s
/-- a op= b, by values -/
abbrev TIp := V → V → Hp → VK → Prop
def PIp (X : Cx) (op : Operator) (t : TIp) : Prop :=
  ∀ (pins : List (Addr × Obj)) (s : Shared) (σ : St) (H : Hp) (x y : V) (v u : Value) (Q : VK), Inv X pins σ H s → RelV x v → RelV y u → t x y H Q →
    wpAny (model X.prog X.w) X.A (inplaceOp op v u) (EP X pins σ Q) X.xe s
section
variable {X : Cx} {pos : Pos}
def gName (i : Nat) : TG := fun v σ H Q => Q (σ.set i (some v)) H
theorem pg_name {i : Nat} {x : Str} (hN : X.N.Nodup) (hi : X.N[i]? = some x) (hx : Loc X.env.scope x) (hf : X.fn x = true ∨ X.env.scope.names.lookup x = some .local := by first | exact .inl rfl | exact .inr rfl | assumption) : PG X (.Name x pos) (gName i) := by
  intro pins s σ H v u Q I r h
  exact wpAny_assign_Name (store_ok I hN hi hx r (fun s' I' => ⟨_, H, I', h⟩) hf)
def gNil : TGs := fun vs σ H Q => vs = [] ∧ Q σ H
def gCons (t : TG) (u : TGs) : TGs := fun vs σ H Q => ∃ v r, vs = v :: r ∧ t v σ H fun σ' H' => u r σ' H' Q
theorem pgs_nil : PGs X [] gNil := by
  intro pins s σ H vs us Q I r h
  obtain ⟨e, h⟩ := h
  subst e
  cases r
  exact assignInOrder_nil ⟨σ, H, I, h⟩
theorem pgs_cons {e : Expr} {es : List Expr} {t : TG} {u : TGs} (h1 : PG X e t) (h2 : PGs X es u)
    (hs : (assignEach (e :: es) X.env).map (·.2) = assign e X.env :: (assignEach es X.env).map (·.2) := by rfl) : PGs X (e :: es) (gCons t u) := by
  intro pins s σ H vs us Q I r h
  obtain ⟨v, vr, e1, h⟩ := h
  subst e1
  cases r with
  | cons r rr =>
    rw [hs]
    refine assignInOrder_cons (thn (h1 pins s σ H _ _ _ I r h) fun _ s1 ⟨σ1, H1, I1, q1⟩ => ?_)
    exact h2 pins s1 σ1 H1 _ _ Q I1 rr q1
/-- (a, b, ..) = a tuple of that length -/
def gTup (K : PySem.W.Frag) (n : Nat) (t : TGs) : TG := fun v σ H Q => ∃ a xs, v = .ref a ∧ SqT K H a xs ∧ xs.length = n ∧ t xs σ H Q
theorem pg_tup {es : List Expr} {k : Nat} {t : TGs} {n : Nat} (hc : X.calm = true) (h : PGs X es t)
    (hn : (assignEach es X.env).length = n := by rfl) (hst : (assignEach es X.env).findIdx? (·.1) = none := by rfl) : PG X (.Tuple es k pos) (gTup X.K n t) := by
  intro pins s σ H v u Q I r hw
  obtain ⟨a, xs, e1, hq, hl, hw⟩ := hw
  subst e1
  cases r
  obtain ⟨its, rv, ht, hz⟩ := I.tuple hq
  refine assign_Tuple_tuple (I.ok.hd hc) ht (by simp [hn, ← hl, rv.length]) hst fun h' hx => ?_
  have I1 : Inv X pins σ H { s with heap := h' } := I.kept (t' := s.toks) fun b o e => hx b o (Nat.ne_of_lt (Heap.lt_size e)) e
  exact h pins _ σ H xs _ Q I1 (by simpa using rv) hw
/-- o[i] = .. -/
def gSub (to ti : TE) (t : TSet) : TG := fun v σ H Q => to σ H fun o H1 => ti σ H1 fun i H2 => t o i v H2 fun H3 => Q σ H3
theorem pg_sub {o i : Expr} {to ti : TE} {t : TSet} (ho : PE X o to) (hi : PE X i ti) (hs : PSet X t)
    (ha : ∀ v, assign (.Subscript o i pos) X.env v = (do
      let ov ← holding [v] (eval o X.env)
      let iv ← holding [v, ov] (eval i X.env)
      standAt pos
      holding [v, ov, iv] (setItem ov iv v)
      release [v, ov, iv] []) := by intro _; rfl) : PG X (.Subscript o i pos) (gSub to ti t) := by
  intro pins s σ H v u Q I r h
  rw [ha]
  refine wpAny_bind (wpAny_holding (thn (ho pins s σ H _ I h) fun ov s1 ⟨x, H1, I1, r1, q1⟩ => ?_))
  refine wpAny_bind (wpAny_holding (thn (hi pins s1 σ H1 _ I1 q1) fun iv s2 ⟨y, H2, I2, r2, q2⟩ => ?_))
  refine wpAny_bind (wpAny_standAt (wpAny_bind (wpAny_holding (thn (hs pins s2 σ H2 x y v ov iv u _ I2 r1 r2 r q2) fun _ s3 ⟨H3, I3, q3⟩ => ?_))))
  exact wpAny_release ⟨σ, H3, I3, q3⟩
/-- target = value -/
def tAsg (te : TE) (g : TG) : TS := fun D σ H => te σ H fun x H1 => g x σ H1 D.nx
theorem ps_asg {tg e : Expr} {te : TE} {g : TG} (he : PE X e te) (hg : PG X tg g) (hs : swapsWithSole [tg] e pos.line X.env = pure false := by rfl) (hw : swappedStores [tg] e X.env = pure none := by rfl)
    (h1 : (assignEach [tg] X.env).map (·.2) = [assign tg X.env] := by rfl) : PS X (.Assign [tg] e pos) (tAsg te g) := by
  intro pins s σ H D I h
  refine wpAny_Assign_stores (thn (he pins s σ H _ I h) fun v s1 ⟨x, H1, I1, r1, q1⟩ => ?_) hs hw
  rw [h1]
  exact thn (hg pins s1 σ H1 x v _ I1 r1 q1) fun _ s2 q => q
/-- name = value -/
theorem ps_set {i : Nat} {x : Str} {e : Expr} {te : TE} {pos' : Pos} (hN : X.N.Nodup) (hi : X.N[i]? = some x) (hx : Loc X.env.scope x) (he : PE X e te) (hs : swapsWith e (some (.Name x pos')) pos.line X.env = pure false := by rfl) (hf : X.fn x = true ∨ X.env.scope.names.lookup x = some .local := by first | exact .inl rfl | exact .inr rfl | assumption) :
    PS X (.Assign [.Name x pos'] e pos) (tAsg te (gName i)) := by
  intro pins s σ H D I h
  refine wpAny_Assign_Name (thn (he pins s σ H _ I h) fun v s1 ⟨y, H1, I1, r1, q1⟩ => ?_) hs
  exact store_ok I1 hN hi hx r1 (fun s2 I2 => ⟨_, H1, I2, q1⟩) hf
/-- a, b = x, y with plain local names: stored from the right; the pair itself is not tracked (the opening rows as in PyProof/Rows/TupAssign.lean:23) -/
def tPar (i j : Nat) (ta : TA) : TS := fun D σ H => ta σ H fun vs H1 => ∃ v w, vs = [v, w] ∧ D.nx ((σ.set i (some v)).set j (some w)) H1
/-- name op= e -/
def tAug (i : Nat) (te : TE) (ti : TIp) : TS := fun D σ H => ∃ x, σ[i]? = some (some x) ∧ te σ H fun y H1 => ti x y H1 fun z H2 => D.nx (σ.set i (some z)) H2
/-- o[i] op= e -/
def tAugS (to ti te : TE) (tget : V → V → Hp → VK → Prop) (tip : TIp) (tset : TSet) : TS := fun D σ H => to σ H fun o H1 => ti σ H1 fun i H2 => tget o i H2 fun x H3 => te σ H3 fun y H4 => tip x y H4 fun z H5 => tset o i z H5 fun H6 => D.nx σ H6
/-- o[i], by values -/
def PGet (X : Cx) (t : V → V → Hp → VK → Prop) : Prop :=
  ∀ (pins : List (Addr × Obj)) (s : Shared) (σ : St) (H : Hp) (o i : V) (ov iv : Value) (Q : VK), Inv X pins σ H s → RelV o ov → RelV i iv → t o i H Q →
    wpAny (model X.prog X.w) X.A (getItem ov iv) (EP X pins σ Q) X.xe s
/-- ints -/
def ipI (f : Int → Int → Int) : TIp := fun x y H Q => ∃ i j, x = .int i ∧ y = .int j ∧ Q (.int (f i j)) H
end

/-! ### while -/
section
variable {X : Cx} {pos : Pos}
/-- the invariant W with its measure -/
def tWhile (c : TT) (tb : TS) : TS := fun D σ H => ∃ W : Nat → St → Hp → Prop, (∃ m, W m σ H) ∧ ∀ m σ H, W m σ H →
  c σ H fun b H1 => if b = true then ∃ N : St → Hp → Prop, (∀ σ' H', N σ' H' → ∃ m', m' < m ∧ W m' σ' H') ∧ tb { D with nx := N, ct := N, bk := D.nx } σ H1 else D.nx σ H1
end

/-! ### what a loop or a comprehension walks -/
/-- at turn i: it yields x (the heap may grow), or it stops -/
structure It where
  go : Nat → Hp → Prop
  yld : Nat → Hp → V → Hp → Prop
  stop : Nat → Hp → Prop
/-- the iterator's own objects may turn: they are not the frame's, not pinned, younger than the entry (or a comprehension's own) -/
def FpOk (X : Cx) (pins : List (Addr × Obj)) (H : Hp) (b : Addr) : Prop :=
  H b = none ∧ b ≠ X.env.locals ∧ b ∉ X.fs ∧ (b ∈ X.ex ∨ X.s₀.heap.objs.size ≤ b) ∧ (∀ x c, X.env.cells.lookup x = some c → c ≠ b) ∧ ∀ p ∈ X.pn ++ pins, p.1 ≠ b
theorem Inv.fpOk {X : Cx} {pins : List (Addr × Obj)} {σ : St} {H H' : Hp} {s : Shared} {b : Addr} (I : Inv X pins σ H s) (hb : s.heap.objs.size ≤ b) (hn : H' b = none) : FpOk X pins H' b := by
  refine ⟨hn, Nat.ne_of_gt (Nat.lt_of_lt_of_le I.lt hb), I.nofs hb, .inr (Nat.le_trans I.sz hb), fun x c e z => ?_, fun p hp z => ?_⟩
  · obtain ⟨v, q⟩ := I.cell x c e
    exact absurd (Nat.lt_of_lt_of_le q.lt (by rw [z]; exact hb)) (Nat.lt_irrefl _)
  · exact absurd (Nat.lt_of_lt_of_le (Heap.lt_size (I.pin p hp).1) (by rw [z]; exact hb)) (Nat.lt_irrefl _)
structure Turn (P : Program) (w : World) (K : PySem.W.Frag) (tg : Expr) (J : It) (fp : List Addr) (it : Addr) (tn : Nat → Heap → Prop) : Prop where
  mem : it ∈ fp
  obj : ∀ i h, tn i h → ∀ b ∈ fp, ∃ o, h.get? b = some o ∧ ∀ v, o.data ≠ .cell v
  keep : ∀ i h h', tn i h → (∀ b ∈ fp, ∀ o, h.get? b = some o → h'.get? b = some o) → tn i h'
  item : ∀ (X : Cx), X.prog = P → X.w = w → X.K = K → X.calm = true → ∀ (i : Nat) (pins : List (Addr × Obj)) (s : Shared) (σ : St) (H : Hp) (E : Value → Shared → Prop), Inv X pins σ H s → (∀ b ∈ fp, FpOk X pins H b) → tn i s.heap → J.go i H →
    wpAny (model P w) X.A (pyNext (.ref it)) (fun r s1 => ∃ u, r = some u ∧
      wpAny (model P w) X.A (letOwnedTupleGo tg (.ref it) u) (fun _ s2 => ∃ x H', Inv X pins σ H' s2 ∧ RelV x u ∧ J.yld i H x H' ∧ tn (i + 1) s2.heap ∧ ∀ b ∈ fp, H' b = none) E s1) E s
  done : ∀ (X : Cx), X.prog = P → X.w = w → X.K = K → X.calm = true → ∀ (i : Nat) (pins : List (Addr × Obj)) (s : Shared) (σ : St) (H : Hp) (E : Value → Shared → Prop), Inv X pins σ H s → (∀ b ∈ fp, FpOk X pins H b) → tn i s.heap → J.stop i H →
    wpAny (model P w) X.A (pyNext (.ref it)) (fun r s1 => r = none ∧ Inv X pins σ H s1) E s
  self : ∀ (A : Around) (i : Nat) (s : Shared) (Q : Value → Shared → Prop) (E : Value → Shared → Prop), tn i s.heap → Q (.ref it) s → wpAny (model P w) A (pyIter (.ref it)) Q E s
abbrev TI := St → Hp → (It → Hp → Prop) → Prop
/-- an iterator has come -/
def PIE (X : Cx) (pins : List (Addr × Obj)) (σ : St) (tg : Expr) (R : It → Hp → Prop) (itv : Value) (s2 : Shared) : Prop :=
  ∃ (it : Addr) (fp : List Addr) (tn : Nat → Heap → Prop) (J : It) (H' : Hp), itv = .ref it ∧ Inv X pins σ H' s2 ∧ Turn X.prog X.w X.K tg J fp it tn ∧ tn 0 s2.heap ∧ (∀ b ∈ fp, FpOk X pins H' b) ∧ R J H'
def PI (X : Cx) (tg iter : Expr) (wi : TI) : Prop :=
  ∀ (pins : List (Addr × Obj)) (s : Shared) (σ : St) (H : Hp) (R : It → Hp → Prop), Inv X pins σ H s → wi σ H R →
    wpAny (model X.prog X.w) X.A (eval iter X.env) (fun v s1 => wpAny (model X.prog X.w) X.A (pyIter v) (PIE X pins σ tg R) X.xe s1) X.xe s

/-- the step ahead of the store is nothing for an iterator that keeps no tuple -/
theorem go_of {M : Model} {A : Around} {E : Value → Shared → Prop} {s : Shared} {tg : Expr} {it : Addr} {u : Value} {o : Obj} {n : String} {vs : Array Value} {Q : Unit → Shared → Prop} (ho : s.heap.get? it = some o) (hc : o.cls = .type n) (hd : o.data = .fields vs)
    (hn : ["enumerate", "zip", "dict_itemiterator", "dict_reverseitemiterator", "odict_iterator", "itertools.zip_longest", "itertools.pairwise"].contains n = false) (hQ : Q () s) : wpAny M A (letOwnedTupleGo tg (.ref it) u) Q E s := by
  unfold letOwnedTupleGo
  cases tg <;> first
    | exact wpAny_pure hQ
    | (cases u <;> first
        | exact wpAny_pure hQ
        | (refine wpAny_bind (wpAny_load ho ?_)
           rw [hc, hd]
           show wpAny M A (if (["enumerate", "zip", "dict_itemiterator", "dict_reverseitemiterator", "odict_iterator", "itertools.zip_longest", "itertools.pairwise"].contains n && vs[0]? == some (rawInt _)) = true then _ else _) Q E s
           rw [if_neg (by intro h; rw [hn, Bool.false_and] at h; cases h)]
           exact wpAny_pure hQ))

/-- the list at a, as it stands at each turn (a loop may append to it) -/
def Itl (K : PySem.W.Frag) (a : Addr) : It :=
  ⟨fun i H => ∃ xs x, SqL K H a xs ∧ xs[i]? = some x, fun i H x H' => H' = H ∧ ∀ xs, SqL K H a xs → xs[i]? = some x, fun i H => ∃ xs, SqL K H a xs ∧ xs.length ≤ i⟩
def Itt (K : PySem.W.Frag) (a : Addr) : It :=
  ⟨fun i H => ∃ xs x, SqT K H a xs ∧ xs[i]? = some x, fun i H x H' => H' = H ∧ ∀ xs, SqT K H a xs → xs[i]? = some x, fun i H => ∃ xs, SqT K H a xs ∧ xs.length ≤ i⟩
/-- lo, lo + 1, .. (n of them) -/
def Itr (lo : Int) (n : Nat) : It := ⟨fun i _ => i < n, fun i H x H' => H' = H ∧ x = .int (lo + i), fun i _ => n ≤ i⟩
theorem turn_list {P : Program} {w : World} {K : PySem.W.Frag} {tg : Expr} (a it : Addr) : Turn P w K tg (Itl K a) [it] it (fun i h => h.IsListIter it a i) where
  mem := by simp
  obj := fun i h st b hb => by
    have e : b = it := by simpa using hb
    subst e
    obtain ⟨o, e, c, d⟩ := st
    exact ⟨o, e, fun v z => by rw [d] at z; cases z⟩
  keep := fun i h h' st k => st.at fun o e => k it (by simp) o e
  item := by
    intro X hP hw hK hc i pins s σ H E I hf st hg
    subst hP hw hK
    obtain ⟨xs, x, hq, hx⟩ := hg
    obtain ⟨its, rv, p, hz⟩ := I.list hq
    obtain ⟨u, hu, ru⟩ := rv.get hx
    obtain ⟨f0, f1, f2, f3, f4, f5⟩ := hf it (by simp)
    refine wpAny_pyNext_list_item st p.isList (x := u) (by simpa using hu) fun h' st' sb => ?_
    have I1 : Inv X pins σ H { s with heap := h' } := I.turned (t' := s.toks) (fun b o hb e => (sb.2 b hb).trans e) f0 f1 f3 f4 f5
    obtain ⟨o, e, c, d⟩ := id st'
    exact ⟨u, rfl, go_of (s := { s with heap := h' }) e c d (by decide) ⟨x, H, I1, ru, ⟨rfl, fun ys hy => by rw [I.list_inj hy hq]; exact hx⟩, st', fun b hb => (hf b hb).1⟩⟩
  done := by
    intro X hP hw hK hc i pins s σ H E I hf st hg
    subst hP hw hK
    obtain ⟨xs, hq, hx⟩ := hg
    obtain ⟨its, rv, p, hz⟩ := I.list hq
    obtain ⟨f0, f1, f2, f3, f4, f5⟩ := hf it (by simp)
    have hl := rv.length
    exact wpAny_pyNext_list_end (I.ok.hd hc) st p.isList (by simp; omega) fun h' eb => ⟨rfl, I.turned (t' := s.toks) (fun b o hb e => eb b o hb e) f0 f1 f3 f4 f5⟩
  self := fun _ _ _ _ _ st h => wpAny_pyIter_listiter st h
theorem turn_range {P : Program} {w : World} {K : PySem.W.Frag} {tg : Expr} (it : Addr) (lo : Int) (n : Nat) : Turn P w K tg (Itr lo n) [it] it (fun i h => IsRangeIter h it (lo + (i : Nat) * 1) ((n : Int) - (i : Nat)) 1) where
  mem := by simp
  obj := fun i h st b hb => by
    have e : b = it := by simpa using hb
    subst e
    exact ⟨_, st, fun v z => by
      have z' : Data.fields _ = Data.cell v := z
      cases z'⟩
  keep := fun i h h' st k => k it (by simp) _ st
  item := by
    intro X hP hw hK hc i pins s σ H E I hf st hg
    subst hP hw hK
    obtain ⟨f0, f1, f2, f3, f4, f5⟩ := hf it (by simp)
    have W := Walks.range (prog := X.prog) (w := X.w) (I.ok.hd hc) it lo 1 n
    refine W.item i s _ _ hg st fun v h' tk hv st' kk => ?_
    obtain ⟨t, rfl⟩ := hv
    have I1 : Inv X pins σ H { s with heap := h', toks := tk } := I.turned (fun b o hb e => kk b o (by simpa using hb) e) f0 f1 f3 f4 f5
    refine ⟨_, rfl, go_of (s := { s with heap := h', toks := tk }) (n := "range_iterator") st' rfl rfl (by decide) ⟨.int (lo + i), H, I1, ⟨t, ?_⟩, ⟨rfl, rfl⟩, st', fun b hb => (hf b hb).1⟩⟩
    rw [Int.mul_one]
  done := by
    intro X hP hw hK hc i pins s σ H E I hf st hg
    subst hP hw hK
    obtain ⟨f0, f1, f2, f3, f4, f5⟩ := hf it (by simp)
    exact wpAny_pyNext_range_end (I.ok.hd hc) st (by have : n ≤ i := hg; omega) fun h' eb => ⟨rfl, I.turned (t' := s.toks) (fun b o hb e => eb b o hb e) f0 f1 f3 f4 f5⟩
  self := fun _ _ _ _ _ st h => wpAny_pyIter_rangeiter st h
end L2

namespace L2
open PySem PySem.Spec PyProof.Rows
section
variable {X : Cx} {tg : Expr}
def iList (K : PySem.W.Frag) (tl : TE) : TI := fun σ H R => tl σ H fun x H1 => ∃ a, x = .ref a ∧ (∃ xs, SqL K H1 a xs) ∧ R (Itl K a) H1
def iTup (K : PySem.W.Frag) (tl : TE) : TI := fun σ H R => tl σ H fun x H1 => ∃ a, x = .ref a ∧ (∃ xs, SqT K H1 a xs) ∧ R (Itt K a) H1
theorem pi_list {l : Expr} {tl : TE} (hl : PE X l tl) : PI X tg l (iList X.K tl) := by
  intro pins s σ H R I h
  refine thn (hl pins s σ H _ I h) fun v s1 ⟨x, H1, I1, r1, q1⟩ => ?_
  obtain ⟨a, e, ⟨xs, hq⟩, q⟩ := q1
  subst e
  cases r1
  obtain ⟨its, rv, p, hz⟩ := I1.list hq
  refine wpAny_pyIter_list p.isList ?_
  refine ⟨s1.heap.objs.size, [s1.heap.objs.size], _, _, H1, rfl, I1.kept (t' := s1.toks) fun b o e => Heap.get?_push_of_some _ e, turn_list a _, ⟨_, Heap.get?_push_size _ rfl, rfl, rfl⟩, fun b hb => ?_, q⟩
  have e : b = s1.heap.objs.size := by simpa using hb
  subst e
  exact I1.fpOk (Nat.le_refl _) (I1.hok.fresh (Nat.le_refl _))
/-- a range object just made, walked -/
theorem range_it {pins : List (Addr × Obj)} {σ : St} {H : Hp} {s : Shared} {R : It → Hp → Prop} {E : Value → Shared → Prop} {lo hi : Int} {t u v : Tok} {tk : Nat} (I : Inv X pins σ H s) (h1 : -(2 ^ 62) ≤ lo) (h2 : lo < 2 ^ 62) (h3 : -(2 ^ 62) ≤ hi) (h4 : hi < 2 ^ 62)
    (q : R (Itr lo (hi - lo).toNat) H) : wpAny (model X.prog X.w) X.A (pyIter (.ref s.heap.objs.size)) (PIE X pins σ tg R) E { s with heap := s.heap.push { cls := .type "range", data := .fields #[.int lo t, .int hi u, .int 1 v] }, toks := tk } := by
  refine wpAny_pyIter_range (IsRange.new ..) (small_one h1 h2 h3 h4) ?_
  have I1 : Inv X pins σ H { s with heap := s.heap.push { cls := .type "range", data := .fields #[.int lo t, .int hi u, .int 1 v] }, toks := tk } := I.kept fun b o e => Heap.get?_push_of_some _ e
  refine ⟨(s.heap.push { cls := .type "range", data := .fields #[.int lo t, .int hi u, .int 1 v] }).objs.size, [(s.heap.push { cls := .type "range", data := .fields #[.int lo t, .int hi u, .int 1 v] }).objs.size], _, _, H, rfl,
    I1.kept (t' := tk) fun b o e => Heap.get?_push_of_some _ e, turn_range _ lo (hi - lo).toNat, ?_, fun b hb => ?_, q⟩
  · have e1 : lo + ((0 : Nat) : Int) * 1 = lo := by simp
    have e2 : (((hi - lo).toNat : Nat) : Int) - ((0 : Nat) : Int) = Builtin.Range.rangeSize lo hi 1 := by rw [rangeSize_one]; split <;> omega
    show IsRangeIter _ _ (lo + ((0 : Nat) : Int) * 1) ((((hi - lo).toNat : Nat) : Int) - ((0 : Nat) : Int)) 1
    rw [e1, e2]
    exact Heap.get?_push_size _ rfl
  · have e : b = (s.heap.push { cls := .type "range", data := .fields #[.int lo t, .int hi u, .int 1 v] }).objs.size := by simpa using hb
    subst e
    exact I1.fpOk (Nat.le_refl _) (I1.hok.fresh (Nat.le_refl _))
def iRng1 (ta : TA) : TI := fun σ H R => ta σ H fun vs H1 => ∃ j : Int, vs = [.int j] ∧ -(2 ^ 62) ≤ j ∧ j < 2 ^ 62 ∧ R (Itr 0 j.toNat) H1
def iRng2 (ta : TA) : TI := fun σ H R => ta σ H fun vs H1 => ∃ i j : Int, vs = [.int i, .int j] ∧ (-(2 ^ 62) ≤ i ∧ i < 2 ^ 62 ∧ -(2 ^ 62) ≤ j ∧ j < 2 ^ 62) ∧ R (Itr i (j - i).toNat) H1
theorem pi_range1 {a : Expr} {ta : TA} {p pos : Pos} (hg : Gl X "range") (hm : X.mg "range" = none) (ha : PA X [a] ta) (hs : starEach [a] X.env = [(false, eval a X.env)] := by rfl) : PI X tg (.Call (.Name "range" p) [a] [] pos) (iRng1 ta) := by
  intro pins s σ H R I h
  refine Call_ (ld_blt I hg hm boot_range (PyProof.Rows.callWith_type1 (thn (ha pos pins s σ H _ I h) fun us s1 ⟨vs, H1, I1, r1, q1⟩ => ?_) hs rfl))
  obtain ⟨j, e, q1, q2, q⟩ := q1
  subst e
  cases r1 with
  | cons r rr =>
    cases rr
    obtain ⟨t, rfl⟩ := r
    exact call_range_1 (range_it I1 (by omega) (by omega) q1 q2 (by simpa using q))
/-! ### for -/
/-- W: the invariant by the turn and a measure; N: what the body is to reach -/
def tFor (wi : TI) (g : TG) (tb : TS) : TS := fun D σ H => wi σ H fun J H1 => ∃ W : Nat → Nat → St → Hp → Prop, (∃ m, W 0 m σ H1) ∧ ∀ i m σ H, W i m σ H →
  (J.stop i H ∧ D.nx σ H) ∨ (J.go i H ∧ ∃ N : St → Hp → Prop, (∀ σ' H', N σ' H' → ∃ m', m' < m ∧ W (i + 1) m' σ' H') ∧ ∀ x H', J.yld i H x H' → g x σ H' fun σ2 H2 => tb { D with nx := N, ct := N, bk := D.nx } σ2 H2)
/-- the records at fp as they stand -/
def pinsAt (fp : List Addr) (h : Heap) : List (Addr × Obj) := fp.filterMap fun b => (h.get? b).map fun o => (b, o)
theorem mem_pinsAt {fp : List Addr} {h : Heap} {b : Addr} {o : Obj} (hb : b ∈ fp) (e : h.get? b = some o) : (b, o) ∈ pinsAt fp h := List.mem_filterMap.mpr ⟨b, hb, by rw [e]; rfl⟩
theorem of_pinsAt {fp : List Addr} {h : Heap} {p : Addr × Obj} (hp : p ∈ pinsAt fp h) : p.1 ∈ fp ∧ h.get? p.1 = some p.2 := by
  obtain ⟨b, hb, e⟩ := List.mem_filterMap.mp hp
  cases q : h.get? b with
  | none => rw [q] at e; cases e
  | some o =>
    rw [q] at e
    have e' : (b, o) = p := Option.some.inj e
    subst e'
    exact ⟨hb, q⟩
theorem Inv.pinned {pins : List (Addr × Obj)} {σ : St} {H : Hp} {s : Shared} {fp : List Addr} (I : Inv X pins σ H s) (hf : ∀ b ∈ fp, FpOk X pins H b) (ho : ∀ b ∈ fp, ∃ o, s.heap.get? b = some o ∧ ∀ v, o.data ≠ .cell v) : Inv X (pins ++ pinsAt fp s.heap) σ H s :=
  I.pins_of fun p hp => (List.mem_append.mp hp).elim (fun z => I.pin p (List.mem_append_right _ z)) fun z => by
    obtain ⟨hb, e⟩ := of_pinsAt z
    obtain ⟨f0, f1, f2, _⟩ := hf p.1 hb
    obtain ⟨o, e', d⟩ := ho p.1 hb
    rw [e] at e'; cases e'
    exact ⟨e, f0, f1, f2, d⟩
theorem Inv.unpinned {pins pl : List (Addr × Obj)} {σ : St} {H : Hp} {s : Shared} (I : Inv X (pins ++ pl) σ H s) : Inv X pins σ H s := I.pins_of fun p hp => I.pin p (List.mem_append_right _ (List.mem_append_left _ hp))
theorem ps_for {iter : Expr} {body : List Stmt} {wi : TI} {g : TG} {tb : TS} {pos : Pos} (hp : PassesOwn (model X.prog X.w) X.A X.env X.xe) (hc : X.calm = true) (hi : PI X tg iter wi) (hg : PG X tg g) (hb : PSs X body tb)
    (hs : ∀ x, foldedSetIterable iter X.env x = pure x := by intro _; rfl) : PS X (.For tg iter body [] pos) (tFor wi g tb) := by
  intro pins s σ H D I h
  refine wpAny_For (thn (hi pins s σ H _ I h) fun v s1 h1 => thn h1 fun itv s2 h2 => ?_) hs
  obtain ⟨it, fp, tn, J, H2, e, I2, T, st2, f2, W, ⟨m0, w0⟩, turn⟩ := h2
  subst e
  -- what stays true of the iterator's objects through the loop
  have stat : ∀ {H' : Hp}, (∀ b ∈ fp, H' b = none) → ∀ b ∈ fp, FpOk X pins H' b := fun hn b hb => ⟨hn b hb, (f2 b hb).2⟩
  refine codeAny_forLoop_any (fun n s' => ∃ i σ' H', Inv X pins σ' H' s' ∧ tn i s'.heap ∧ (∀ b ∈ fp, H' b = none) ∧ W i n σ' H') ?_ m0 ⟨0, σ, H2, I2, st2, fun b hb => (f2 b hb).1, w0⟩
  rintro n s3 ⟨i, σ3, H3, I3, st3, fr3, w3⟩
  rcases turn i n σ3 H3 w3 with ⟨stop, qn⟩ | ⟨go, N, hN, step⟩
  · refine wpAny_passesOwn hp (thn (T.done X rfl rfl rfl hc i pins s3 σ3 H3 X.xe I3 (stat fr3) st3 stop) fun r s4 ⟨hr, I4⟩ => ?_)
    subst hr
    exact wpAny_execs_nil ⟨σ3, H3, I4, qn⟩
  · refine wpAny_passesOwn hp (thn (T.item X rfl rfl rfl hc i pins s3 σ3 H3 X.xe I3 (stat fr3) st3 go) fun r s4 ⟨u, hr, h4⟩ => ?_)
    subst hr
    refine wpAny_passesOwn hp (thn h4 fun _ s5 ⟨x, H5, I5, r5, y5, st5, fr5⟩ => ?_)
    have I5' := I5.pinned (stat fr5) (T.obj _ _ st5)
    refine wpAny_passesOwn hp (thn (hg _ s5 σ3 H5 x u _ I5' r5 (step x H5 y5)) fun _ s6 ⟨σ6, H6, I6, q6⟩ => ?_)
    refine wpAny_passesOwn hp (thn (hb _ s6 σ6 H6 _ I6 q6) fun f s7 q7 => ?_)
    have again : ∀ {σ7 : St} {H7 : Hp}, Inv X (pins ++ pinsAt fp s5.heap) σ7 H7 s7 → N σ7 H7 → ∃ m, m < n ∧ ∃ i σ' H', Inv X pins σ' H' s7 ∧ tn i s7.heap ∧ (∀ b ∈ fp, H' b = none) ∧ W i m σ' H' := fun {σ7 H7} I7 n7 => by
      obtain ⟨m', hm, w7⟩ := hN σ7 H7 n7
      refine ⟨m', hm, i + 1, σ7, H7, I7.unpinned, T.keep _ _ _ st5 fun b hb o e => (I7.pin (b, o) (List.mem_append_right _ (List.mem_append_right _ (mem_pinsAt hb e)))).1, fun b hb => ?_, w7⟩
      obtain ⟨o, e, d⟩ := T.obj _ _ st5 b hb
      exact (I7.pin (b, o) (List.mem_append_right _ (List.mem_append_right _ (mem_pinsAt hb e)))).2.1
    cases f with
    | next => obtain ⟨σ7, H7, I7, n7⟩ := q7; exact again I7 n7
    | cont => obtain ⟨σ7, H7, I7, n7⟩ := q7; exact again I7 n7
    | brk => obtain ⟨σ7, H7, I7, q7⟩ := q7; exact ⟨σ7, H7, I7.unpinned, q7⟩
    | ret v => obtain ⟨x7, σ7, H7, I7, r7, q7⟩ := q7; exact ⟨x7, σ7, H7, I7.unpinned, r7, q7⟩
end

/-! ### the forms one uses -/
/-- over a list that the body leaves as it is -/
theorem for_list {K : PySem.W.Frag} {a : Addr} {xs : List V} {g : TG} {tb : TS} {D : Ends} {σ : St} {H : Hp} (Pv : Nat → St → Hp → Prop) (h0 : Pv 0 σ H) (hl : ∀ i σ H, i ≤ xs.length → Pv i σ H → SqL K H a xs)
    (hs : ∀ i x σ H, xs[i]? = some x → Pv i σ H → g x σ H fun σ2 H2 => tb { D with nx := Pv (i + 1), ct := Pv (i + 1), bk := D.nx } σ2 H2) (hd : ∀ σ H, Pv xs.length σ H → D.nx σ H) :
    ∃ W : Nat → Nat → St → Hp → Prop, (∃ m, W 0 m σ H) ∧ ∀ i m σ H, W i m σ H →
      ((Itl K a).stop i H ∧ D.nx σ H) ∨ ((Itl K a).go i H ∧ ∃ N : St → Hp → Prop, (∀ σ' H', N σ' H' → ∃ m', m' < m ∧ W (i + 1) m' σ' H') ∧ ∀ x H', (Itl K a).yld i H x H' → g x σ H' fun σ2 H2 => tb { D with nx := N, ct := N, bk := D.nx } σ2 H2) := by
  refine ⟨fun i m σ H => m = xs.length - i ∧ i ≤ xs.length ∧ Pv i σ H, ⟨xs.length, by simp, Nat.zero_le _, h0⟩, ?_⟩
  rintro i m σ H ⟨rfl, hi, p⟩
  have q := hl i σ H hi p
  by_cases hlt : i < xs.length
  · refine .inr ⟨⟨xs, xs[i], q, by simp [hlt]⟩, Pv (i + 1), fun σ' H' p' => ⟨xs.length - (i + 1), by omega, rfl, hlt, p'⟩, fun x H' y => ?_⟩
    obtain ⟨e, y⟩ := y
    subst e
    exact hs i x σ _ (y xs q) p
  · have e : i = xs.length := by omega
    subst e
    exact .inl ⟨⟨xs, q, Nat.le_refl _⟩, hd σ H p⟩
theorem for_range {lo : Int} {n : Nat} {g : TG} {tb : TS} {D : Ends} {σ : St} {H : Hp} (Pv : Nat → St → Hp → Prop) (h0 : Pv 0 σ H)
    (hs : ∀ i σ H, i < n → Pv i σ H → g (.int (lo + i)) σ H fun σ2 H2 => tb { D with nx := Pv (i + 1), ct := Pv (i + 1), bk := D.nx } σ2 H2) (hd : ∀ σ H, Pv n σ H → D.nx σ H) :
    ∃ W : Nat → Nat → St → Hp → Prop, (∃ m, W 0 m σ H) ∧ ∀ i m σ H, W i m σ H →
      ((Itr lo n).stop i H ∧ D.nx σ H) ∨ ((Itr lo n).go i H ∧ ∃ N : St → Hp → Prop, (∀ σ' H', N σ' H' → ∃ m', m' < m ∧ W (i + 1) m' σ' H') ∧ ∀ x H', (Itr lo n).yld i H x H' → g x σ H' fun σ2 H2 => tb { D with nx := N, ct := N, bk := D.nx } σ2 H2) := by
  refine ⟨fun i m σ H => m = n - i ∧ i ≤ n ∧ Pv i σ H, ⟨n, by simp, Nat.zero_le _, h0⟩, ?_⟩
  rintro i m σ H ⟨rfl, hi, p⟩
  by_cases hlt : i < n
  · refine .inr ⟨hlt, Pv (i + 1), fun σ' H' p' => ⟨n - (i + 1), by omega, rfl, hlt, p'⟩, fun x H' y => ?_⟩
    obtain ⟨e, y⟩ := y
    subst e y
    exact hs i σ _ hlt p
  · have e : i = n := by omega
    subst e
    exact .inl ⟨Nat.le_refl _, hd σ H p⟩
end L2

namespace L2
open PySem PySem.Spec PyProof.Rows

abbrev R2 := V → V → Hp → VK → Prop
/-- a two-place operation on values: f is binaryOp op, inplaceOp op or compareOp op -/
def OpR (X : Cx) (f : Value → Value → Sem Value) (r : R2) : Prop :=
  ∀ (pins : List (Addr × Obj)) (s : Shared) (σ : St) (H : Hp) (x y : V) (v u : Value) (Q : VK), Inv X pins σ H s → RelV x v → RelV y u → r x y H Q →
    wpAny (model X.prog X.w) X.A (f v u) (EP X pins σ Q) X.xe s
/-- a one-place operation -/
def UnR (X : Cx) (f : Value → Sem Value) (r : V → Hp → VK → Prop) : Prop :=
  ∀ (pins : List (Addr × Obj)) (s : Shared) (σ : St) (H : Hp) (x : V) (v : Value) (Q : VK), Inv X pins σ H s → RelV x v → r x H Q →
    wpAny (model X.prog X.w) X.A (f v) (EP X pins σ Q) X.xe s
/-- a call of a value that is known (a builtin, a type) with values -/
def CallR (X : Cx) (f : Value) (r : List V → Hp → VK → Prop) : Prop :=
  ∀ (pins : List (Addr × Obj)) (s : Shared) (σ : St) (H : Hp) (xs : List V) (us : List Value) (Q : VK), Inv X pins σ H s → Vals xs us → r xs H Q →
    wpAny (model X.prog X.w) X.A (call f us) (EP X pins σ Q) X.xe s
/-- a value's truth -/
def TruR (X : Cx) (r : V → Hp → (Bool → Hp → Prop) → Prop) : Prop :=
  ∀ (pins : List (Addr × Obj)) (s : Shared) (σ : St) (H : Hp) (x : V) (v : Value) (Q : Bool → Hp → Prop), Inv X pins σ H s → RelV x v → r x H Q →
    wpAny (model X.prog X.w) X.A (truthy v) (TP X pins σ Q) X.xe s

def tOp (r : R2) (ta tb : TE) : TE := fun σ H Q => ta σ H fun x H1 => tb σ H1 fun y H2 => r x y H2 Q
def tUn (r : V → Hp → VK → Prop) (ta : TE) : TE := fun σ H Q => ta σ H fun x H1 => r x H1 Q
/-- ints in, under C, and a value out -/
def rI (C : Int → Int → Prop) (g : Int → Int → V) : R2 := fun x y H Q => ∃ i j, x = .int i ∧ y = .int j ∧ C i j ∧ Q (g i j) H
def rI0 (g : Int → Int → V) : R2 := fun x y H Q => ∃ i j, x = .int i ∧ y = .int j ∧ Q (g i j) H
def rU (g : Int → V) : V → Hp → VK → Prop := fun x H Q => ∃ i, x = .int i ∧ Q (g i) H

section
variable {X : Cx} {a b c : Expr} {ta tb tc : TE} {pos : Pos}

theorem binT (ha : PE X a ta) (hb : PE X b tb) {pins : List (Addr × Obj)} {s : Shared} {σ : St} {H : Hp} {R : V → V → Hp → Prop} (I : Inv X pins σ H s)
    (h : ta σ H fun x H1 => tb σ H1 fun y H2 => R x y H2) {Q : Value → Shared → Prop} {f : Value → Value → Sem Value}
    (hf : ∀ v u s2 x y H2, Inv X pins σ H2 s2 → RelV x v → RelV y u → R x y H2 → wpAny (model X.prog X.w) X.A (f v u) Q X.xe s2) :
    wpAny (model X.prog X.w) X.A (eval a X.env) (fun v s₁ => wpAny (model X.prog X.w) X.A (eval b X.env) (fun u s₂ => wpAny (model X.prog X.w) X.A (f v u) Q X.xe s₂) X.xe s₁) X.xe s := by
  refine thn (ha pins s σ H _ I h) fun v s1 ⟨x, H1, I1, r1, q1⟩ => ?_
  refine thn (hb pins s1 σ H1 _ I1 q1) fun u s2 ⟨y, H2, I2, r2, q2⟩ => ?_
  exact hf v u s2 x y H2 I2 r1 r2 q2

theorem pe_op {op : Operator} {r : R2} (ho : OpR X (binaryOp op) r) (ha : PE X a ta) (hb : PE X b tb) : PE X (.BinOp a op b pos) (tOp r ta tb) := by
  intro pins s σ H Q I h
  exact wpAny_BinOp (binT ha hb I h fun v u s2 x y H2 I2 rx ry q => ho pins s2 σ H2 x y v u Q I2 rx ry q)
theorem pe_un {op : UnaryOp} {r : V → Hp → VK → Prop} (ho : UnR X (unaryOp op) r) (ha : PE X a ta) : PE X (.UnaryOp op a pos) (tUn r ta) := by
  intro pins s σ H Q I h
  exact UnaryOp_ (thn (ha pins s σ H _ I h) fun v s1 ⟨x, H1, I1, r1, q1⟩ => ho pins s1 σ H1 x v Q I1 r1 q1)
/-! ### ints -/
theorem opI {f : Value → Value → Sem Value} {C : Int → Int → Prop} {g : Int → Int → Int}
    (rule : ∀ (i j : Int) (t u : Tok) (s : Shared) (Q : Value → Shared → Prop) (E : Value → Shared → Prop), C i j → Q (.int (g i j) s.toks) { s with toks := s.toks + 1 } → wpAny (model X.prog X.w) X.A (f (.int i t) (.int j u)) Q E s) :
    OpR X f (rI C fun i j => .int (g i j)) := by
  intro pins s σ H x y v u Q I rx ry h
  obtain ⟨i, j, rfl, rfl, hc, q⟩ := h
  obtain ⟨t, rfl⟩ := rx
  obtain ⟨t', rfl⟩ := ry
  exact rule i j t t' s _ _ hc ⟨.int (g i j), H, I.tok _, ⟨_, rfl⟩, q⟩
theorem opI0 {f : Value → Value → Sem Value} {g : Int → Int → Int}
    (rule : ∀ (i j : Int) (t u : Tok) (s : Shared) (Q : Value → Shared → Prop) (E : Value → Shared → Prop), Q (.int (g i j) s.toks) { s with toks := s.toks + 1 } → wpAny (model X.prog X.w) X.A (f (.int i t) (.int j u)) Q E s) :
    OpR X f (rI0 fun i j => .int (g i j)) := by
  intro pins s σ H x y v u Q I rx ry h
  obtain ⟨i, j, rfl, rfl, q⟩ := h
  obtain ⟨t, rfl⟩ := rx
  obtain ⟨t', rfl⟩ := ry
  exact rule i j t t' s _ _ ⟨.int (g i j), H, I.tok _, ⟨_, rfl⟩, q⟩
theorem opB0 {f : Value → Value → Sem Value} {g : Int → Int → Bool}
    (rule : ∀ (i j : Int) (t u : Tok) (s : Shared) (Q : Value → Shared → Prop) (E : Value → Shared → Prop), Q (.bool (g i j)) s → wpAny (model X.prog X.w) X.A (f (.int i t) (.int j u)) Q E s) :
    OpR X f (rI0 fun i j => .bl (g i j)) := by
  intro pins s σ H x y v u Q I rx ry h
  obtain ⟨i, j, rfl, rfl, q⟩ := h
  obtain ⟨t, rfl⟩ := rx
  obtain ⟨t', rfl⟩ := ry
  exact rule i j t t' s _ _ ⟨.bl (g i j), H, I, rfl, q⟩

def CDiv (i j : Int) : Prop := 0 < j ∧ j < 1073741824
def CDivN (i j : Int) : Prop := j ≠ 0 ∧ j.natAbs < 1073741824
def CPow (i j : Int) : Prop := 0 ≤ j ∧ j ≤ 1000000 ∧ i.natAbs < 2 ^ 64
def CMul (i j : Int) : Prop := (-(2 ^ 64) < i ∧ i < 2 ^ 64) ∨ (-(2 ^ 64) < j ∧ j < 2 ^ 64)
theorem CMul.ok {i j : Int} (h : CMul i j) : IntMulOk i j := by
  rcases h with ⟨h1, h2⟩ | ⟨h1, h2⟩
  · exact .of_left (intBits_le_64 h1 h2)
  · exact .of_right (intBits_le_64 h1 h2)
theorem op_add : OpR X (binaryOp .Add) (rI0 fun i j => .int (i + j)) := opI0 fun _ _ _ _ _ _ _ q => add_int q
theorem op_sub : OpR X (binaryOp .Sub) (rI0 fun i j => .int (i - j)) := opI0 fun _ _ _ _ _ _ _ q => sub_int q
theorem op_mul : OpR X (binaryOp .Mult) (rI CMul fun i j => .int (i * j)) := opI fun _ _ _ _ _ _ _ hc q => mul_int q hc.ok
/-- % by a positive divisor of any size -/
theorem op_mod : OpR X (binaryOp .Mod) (rI (fun _ j => 0 < j) fun i j => .int (i % j)) := opI fun i j _ _ _ _ _ hc q => by
  have h1 : (0 : Int) < j := hc
  exact mod_int' (by omega) (by rw [Int.fmod_eq_emod_of_nonneg i (by omega)]; exact q)
theorem op_pow : OpR X (binaryOp .Pow) (rI CPow fun i j => .int (i ^ j.toNat)) := opI fun _ _ _ _ _ _ _ hc q => pow_int_small hc.1 hc.2.1 hc.2.2 q
/-! ### bools among ints: n += (a < b) -/
end

/-! ### comparisons -/
/-- the scalars that == tells apart as data does -/
def scal : V → V → Bool
  | .non, .non => true | .non, .int _ => true | .int _, .non => true | .non, .bl _ => true | .bl _, .non => true | .non, .str _ => true | .str _, .non => true
  | .int _, .int _ => true | .bl _, .bl _ => true | .str _, .str _ => true | .byt _, .byt _ => true
  | .int _, .str _ => true | .str _, .int _ => true | .bl _, .str _ => true | .str _, .bl _ => true
  | _, _ => false
def rEq : R2 := fun x y H Q => scal x y = true ∧ Q (.bl (decide (x = y))) H
def rNe : R2 := fun x y H Q => scal x y = true ∧ Q (.bl (!decide (x = y))) H

theorem dec_int {i j : Int} : decide (V.int i = V.int j) = (i == j) := by
  rw [Bool.eq_iff_iff]
  simp
theorem dec_bl {i j : Bool} : decide (V.bl i = V.bl j) = (i == j) := by
  rw [Bool.eq_iff_iff]
  simp
theorem dec_str {i j : Str} : decide (V.str i = V.str j) = (i == j) := by
  rw [Bool.eq_iff_iff]
  simp
theorem dec_byt {i j : Array UInt8} : decide (V.byt i = V.byt j) = (i.toList == j.toList) := by
  rw [Bool.eq_iff_iff]
  cases i
  cases j
  simp

section
variable {X : Cx} {a b c : Expr} {ta tb tc : TE} {pos : Pos}
theorem fin_bl {pins : List (Addr × Obj)} {σ : St} {H : Hp} {s : Shared} {Q : VK} {k k' : Bool} (I : Inv X pins σ H s) (q : Q (.bl k) H) (e : k = k') : EP X pins σ Q (.bool k') s := by
  subst e
  exact ⟨.bl k, H, I, rfl, q⟩
theorem op_eq : OpR X (compareOp .Eq) rEq := by
  intro pins s σ H x y v u Q I rx ry h
  obtain ⟨hs, q⟩ := h
  cases x with
  | non =>
    cases rx
    cases y with
    | non => cases ry; exact PySem.EqNone.eq_none_none (fin_bl I q (by simp))
    | bl j => cases ry; exact PySem.EqNone.eq_none_bool (fin_bl I q (by simp))
    | int j => obtain ⟨t', rfl⟩ := ry; exact PySem.EqNone.eq_none_int (fin_bl I q (by simp))
    | str j => obtain ⟨t', rfl⟩ := ry; exact PySem.EqNone.eq_none_str (fin_bl I q (by simp))
    | _ => exact absurd (show false = true from hs) Bool.false_ne_true
  | bl i =>
    cases rx
    cases y with
    | non => cases ry; exact PySem.EqNone.eq_bool_none (fin_bl I q (by simp))
    | bl j => cases ry; exact eq_bool (fin_bl I q dec_bl)
    | str j => obtain ⟨t', rfl⟩ := ry; exact PySem.EqMixed.eq_bool_str (fin_bl I q (by simp))
    | _ => exact absurd (show false = true from hs) Bool.false_ne_true
  | int i =>
    obtain ⟨t, rfl⟩ := rx
    cases y with
    | non => cases ry; exact PySem.EqNone.eq_int_none (fin_bl I q (by simp))
    | int j => obtain ⟨t', rfl⟩ := ry; exact eq_int (fin_bl I q dec_int)
    | str j => obtain ⟨t', rfl⟩ := ry; exact PySem.EqMixed.eq_int_str (fin_bl I q (by simp))
    | _ => exact absurd (show false = true from hs) Bool.false_ne_true
  | str i =>
    obtain ⟨t, rfl⟩ := rx
    cases y with
    | non => cases ry; exact PySem.EqNone.eq_str_none (fin_bl I q (by simp))
    | bl j => cases ry; exact PySem.EqMixed.eq_str_bool (fin_bl I q (by simp))
    | int j => obtain ⟨t', rfl⟩ := ry; exact PySem.EqMixed.eq_str_int (fin_bl I q (by simp))
    | str j => obtain ⟨t', rfl⟩ := ry; exact eq_str (fin_bl I q dec_str)
    | _ => exact absurd (show false = true from hs) Bool.false_ne_true
  | byt i =>
    obtain ⟨t, rfl⟩ := rx
    cases y with
    | byt j => obtain ⟨t', rfl⟩ := ry; exact PySem.W.eq_bytes (fin_bl I q dec_byt)
    | _ => exact absurd (show false = true from hs) Bool.false_ne_true
  | _ => cases y <;> exact absurd (show false = true from hs) Bool.false_ne_true
theorem op_ne : OpR X (compareOp .NotEq) rNe := by
  intro pins s σ H x y v u Q I rx ry h
  obtain ⟨hs, q⟩ := h
  cases x with
  | non =>
    cases rx
    cases y with
    | non => cases ry; exact PySem.EqNone.ne_none_none (fin_bl I q (by simp))
    | bl j => cases ry; exact PySem.EqNone.ne_none_bool (fin_bl I q (by simp))
    | int j => obtain ⟨t', rfl⟩ := ry; exact PySem.EqNone.ne_none_int (fin_bl I q (by simp))
    | str j => obtain ⟨t', rfl⟩ := ry; exact PySem.EqNone.ne_none_str (fin_bl I q (by simp))
    | _ => exact absurd (show false = true from hs) Bool.false_ne_true
  | bl i =>
    cases rx
    cases y with
    | non => cases ry; exact PySem.EqNone.ne_bool_none (fin_bl I q (by simp))
    | bl j => cases ry; exact ne_bool (fin_bl I q (congrArg not dec_bl))
    | str j => obtain ⟨t', rfl⟩ := ry; exact PySem.EqMixed.ne_bool_str (fin_bl I q (by simp))
    | _ => exact absurd (show false = true from hs) Bool.false_ne_true
  | int i =>
    obtain ⟨t, rfl⟩ := rx
    cases y with
    | non => cases ry; exact PySem.EqNone.ne_int_none (fin_bl I q (by simp))
    | int j => obtain ⟨t', rfl⟩ := ry; exact ne_int (fin_bl I q (congrArg not dec_int))
    | str j => obtain ⟨t', rfl⟩ := ry; exact PySem.EqMixed.ne_int_str (fin_bl I q (by simp))
    | _ => exact absurd (show false = true from hs) Bool.false_ne_true
  | str i =>
    obtain ⟨t, rfl⟩ := rx
    cases y with
    | non => cases ry; exact PySem.EqNone.ne_str_none (fin_bl I q (by simp))
    | bl j => cases ry; exact PySem.EqMixed.ne_str_bool (fin_bl I q (by simp))
    | int j => obtain ⟨t', rfl⟩ := ry; exact PySem.EqMixed.ne_str_int (fin_bl I q (by simp))
    | str j => obtain ⟨t', rfl⟩ := ry; exact ne_str (fin_bl I q (congrArg not dec_str))
    | _ => exact absurd (show false = true from hs) Bool.false_ne_true
  | byt i =>
    obtain ⟨t, rfl⟩ := rx
    cases y with
    | byt j => obtain ⟨t', rfl⟩ := ry; exact PySem.W.ne_bytes (fin_bl I q (congrArg not dec_byt))
    | _ => exact absurd (show false = true from hs) Bool.false_ne_true
  | _ => cases y <;> exact absurd (show false = true from hs) Bool.false_ne_true

theorem op_lt : OpR X (compareOp .Lt) (rI0 fun i j => .bl (decide (i < j))) := opB0 fun _ _ _ _ _ _ _ q => lt_int q
theorem op_gt : OpR X (compareOp .Gt) (rI0 fun i j => .bl (decide (j < i))) := opB0 fun _ _ _ _ _ _ _ q => gt_int q
theorem op_ge : OpR X (compareOp .GtE) (rI0 fun i j => .bl (decide (j ≤ i))) := opB0 fun _ _ _ _ _ _ _ q => ge_int q
/-- is, is not of two objects that are tracked lists or instances -/
def isObj : HO → Bool
  | .lst _ => true
  | .ins _ _ _ => true
  | _ => false
theorem nomark (b : Expr) {op : CmpOp} (h : op ≠ .In := by decide) (h2 : op ≠ .NotIn := by decide) : behindInMarks op b = false := by
  have e1 : (op == CmpOp.In) = false := by cases op <;> first | rfl | exact absurd rfl h
  have e2 : (op == CmpOp.NotIn) = false := by cases op <;> first | rfl | exact absurd rfl h2
  cases b <;> simp [behindInMarks, e1, e2]
/-- a comparison as a value; hm: nomark b, or (for in, not in) by with_unfolding_all rfl -/
theorem pe_cmpR {op : CmpOp} {r : R2} (ho : OpR X (compareOp op) r) (ha : PE X a ta) (hb : PE X b tb) (hm : behindInMarks op b = false) : PE X (.Compare a [op] [b] pos) (tOp r ta tb) := by
  intro pins s σ H Q I h
  exact wpAny_Compare1 (binT ha hb I h fun v u s2 x y H2 I2 rx ry q => ho pins s2 σ H2 x y v u Q I2 rx ry q) hm
/-- a reading of a value as a test -/
def tTest (t : TE) : TT := fun σ H Q => t σ H fun x H' => ∃ k, x = .bl k ∧ Q k H'
theorem pt_cmpR {op : CmpOp} {r : R2} (ho : OpR X (compareOp op) r) (ha : PE X a ta) (hb : PE X b tb) (hm : behindInMarks op b = false) : PT X (.Compare a [op] [b] pos) (tTest (tOp r ta tb)) := by
  intro pins s σ H Q I h
  refine wpAny_isTrue_Compare1 (thn (ha pins s σ H _ I h) fun v s1 ⟨x, H1, I1, r1, q1⟩ => thn (hb pins s1 σ H1 _ I1 q1) fun u s2 ⟨y, H2, I2, r2, q2⟩ =>
    thn (ho pins s2 σ H2 x y v u _ I2 r1 r2 q2) fun c s3 ⟨z, H3, I3, r3, k, e, q3⟩ => ?_) hm
  subst e
  cases r3
  exact wpAny_truthy_bool ⟨H3, I3, q3⟩
/-- a op1 b op2 c -/
def tChain (r r' : R2) (ta tb tc : TE) : TE := fun σ H Q => ta σ H fun x H1 => tb σ H1 fun y H2 => r x y H2 fun z H3 => ∃ k, z = .bl k ∧
  (if k = true then tc σ H3 fun w' H4 => r' y w' H4 Q else Q (.bl false) H3)
/-! ### truth -/
/-- a value's truth by the abstract heap -/
def TruV (K : PySem.W.Frag) (x : V) (H : Hp) (k : Bool) : Prop :=
  match x with
  | .non => k = false
  | .bl b => k = b
  | .int i => k = (i != 0)
  | .str y => y.length ≤ sizeLine ∧ k = ((y.length : Int) != 0)
  | .byt y => y.size ≤ sizeLine ∧ k = ((y.size : Int) != 0)
  | .ref p => (∃ xs, SqL K H p xs ∧ k = !xs.isEmpty) ∨ (∃ xs, SqT K H p xs ∧ k = !xs.isEmpty) ∨ ∃ kvs, H p = some (.dK kvs) ∧ k = !kvs.isEmpty
  | _ => False
theorem line63 : (sizeLine : Nat) < 2 ^ 63 := by rw [sizeLine_eq]; decide
/-! ### strs and bytes -/
def PlainIxT (b : Expr) : Prop := ∀ o i, subscripted b false o i = operate [o, i] (getItem o i)
/-! ### scalar builtins, by CallR -/
theorem vals1 {x : V} {us : List Value} (r : Vals [x] us) : ∃ u, us = [u] ∧ RelV x u := by
  cases r with
  | cons r1 r2 => cases r2; exact ⟨_, rfl, r1⟩
theorem vals2 {x y : V} {us : List Value} (r : Vals [x, y] us) : ∃ u w', us = [u, w'] ∧ RelV x u ∧ RelV y w' := by
  cases r with
  | cons r1 r2 =>
    cases r2 with
    | cons r3 r4 => cases r4; exact ⟨_, _, rfl, r1, r3⟩
theorem call_max2 (hc : X.calm = true) : CallR X (.builtin "max") (fun xs H Q => ∃ i j, xs = [.int i, .int j] ∧ Q (.int (if j > i then j else i)) H) := by
  intro pins s σ H xs us Q I r h
  obtain ⟨i, j, rfl, q⟩ := h
  obtain ⟨u, w', rfl, ⟨t, rfl⟩, ⟨t', rfl⟩⟩ := vals2 r
  refine max_two_ints (I.ok.hd hc) fun h' tk k => ⟨_, H, I.kept k, ?_, q⟩
  by_cases hj : j > i
  · rw [if_pos hj, if_pos hj]; exact ⟨_, rfl⟩
  · rw [if_neg hj, if_neg hj]; exact ⟨_, rfl⟩
theorem call_min2 (hc : X.calm = true) : CallR X (.builtin "min") (fun xs H Q => ∃ i j, xs = [.int i, .int j] ∧ Q (.int (if j < i then j else i)) H) := by
  intro pins s σ H xs us Q I r h
  obtain ⟨i, j, rfl, q⟩ := h
  obtain ⟨u, w', rfl, ⟨t, rfl⟩, ⟨t', rfl⟩⟩ := vals2 r
  refine min_two_ints (I.ok.hd hc) fun h' tk k => ⟨_, H, I.kept k, ?_, q⟩
  by_cases hj : j < i
  · rw [if_pos hj, if_pos hj]; exact ⟨_, rfl⟩
  · rw [if_neg hj, if_neg hj]; exact ⟨_, rfl⟩
theorem call_int1 : CallR X (.type "int") (fun xs H Q => (∃ i, xs = [.int i] ∧ Q (.int i) H) ∨ ∃ k, xs = [.bl k] ∧ Q (.int (if k then 1 else 0)) H) := by
  intro pins s σ H xs us Q I r h
  rcases h with ⟨i, rfl, q⟩ | ⟨k, rfl, q⟩
  · obtain ⟨u, rfl, t, rfl⟩ := vals1 r
    exact call_int_int ⟨.int i, H, I, ⟨_, rfl⟩, q⟩
  · obtain ⟨u, rfl, r1⟩ := vals1 r
    cases r1
    exact call_int_bool ⟨.int (if k then 1 else 0), H, I.tok _, ⟨_, rfl⟩, q⟩
/-- len of a str, a bytes, a list, a tuple -/
def LenV (K : PySem.W.Frag) (x : V) (H : Hp) (n : Nat) : Prop :=
  match x with
  | .str y => y.length ≤ sizeLine ∧ n = y.length
  | .byt y => y.size ≤ sizeLine ∧ n = y.size
  | .ref p => (∃ xs, SqL K H p xs ∧ n = xs.length) ∨ ∃ xs, SqT K H p xs ∧ n = xs.length
  | _ => False
end
end L2

namespace L2
open PySem PySem.Spec PyProof.Rows

/-! ### an instance, its attributes a map -/
structure ObjM (h : Heap) (x dx C : Addr) (mA : Str → Option Value) : Prop where
  obj : h.get? x = some (PySem.W.instObj C dx)
  ns : h.Ns1 dx mA
  ne : dx ≠ x

theorem lookIn_ns {h : Heap} {dx : Addr} {mA : Str → Option Value} (n : h.Ns1 dx mA) : ∃ od, h.get? dx = some od ∧ ∀ name, PySem.W.lookIn name od = some (mA name) := by
  obtain ⟨o, es, ep, ho, hd, hk, _, hm⟩ := n
  refine ⟨o, ho, fun name => ?_⟩
  have e := hm name
  unfold nsFind findBy at e
  rw [← Array.find?_toList] at e
  unfold PySem.W.lookIn
  rw [hd]
  dsimp only
  split
  · rename_i y q
    rw [q] at e
    exact congrArg some e
  · rename_i q
    rw [q] at e
    have a : es.toList.any (·.refKey) = false := by
      rw [List.any_eq_false]
      intro y hy
      obtain ⟨z, t, hkey⟩ := hk y (Array.mem_toList_iff.mp hy)
      simp [DictEntry.refKey, hkey]
    have a' : ¬ es.toList.any (·.refKey) = true := by rw [a]; exact Bool.false_ne_true
    rw [if_neg a']
    exact congrArg some e

theorem ObjM.look {h : Heap} {x dx C : Addr} {mA : Str → Option Value} (I : ObjM h x dx C mA) : ∃ od, PySem.W.InstAt h x (PySem.W.instObj C dx) C (some od) ∧ ∀ name, PySem.W.lookIn name od = some (mA name) :=
  let ⟨od, ho, hl⟩ := lookIn_ns I.ns
  ⟨od, ⟨I.obj, rfl, rfl, ho⟩, hl⟩

section
variable {prog : Program} {w : World} {A : Around} {E : Value → Shared → Prop} {s : Shared} {K : PySem.W.Frag} {x dx C f : Addr} {mA : Str → Option Value} {name : Str} {v : Value}

end

/-! ### the attributes as a list of pairs -/
def putF (f : Str) (v : V) : List (Str × V) → List (Str × V)
  | [] => [(f, v)]
  | (g, x) :: r => if g = f then (g, v) :: r else (g, x) :: putF f v r
section
variable {P : Program} {w : World} {H H' : Hp} {h h' : Heap} {a C dx : Addr} {fs fs' : List (Str × V)}
theorem ins_get (hok : HOk P w H h) (e : H a = some (.ins C dx fs)) : ∃ mA, ObjM h a dx C mA ∧ (∀ f, RelO (fs.lookup f) (mA f)) ∧ PySem.Within mA (fs.map (·.1)) ∧ fs.length ≤ 1000 ∧ H dx = some (.own a) := by
  obtain ⟨d, z, ne, ob, mA, n, r, q⟩ := (show ObjOk P w H h a (.ins C dx fs) from hok a _ e)
  exact ⟨mA, ⟨ob, n, ne⟩, r, q, z, d⟩
end

/-! ### what of the text a class must have -/
structure Cls (K : PySem.W.Frag) (C : Addr) : Prop where
  pg : PySem.W.plainGet K C Str.empty = true
  hd : PySem.W.hasDictIn K C = true
  po : PySem.W.plainOver K C = true
  sa : PySem.W.findIn K (.ref C) "__setattr__" = some (some (.builtin "object.__setattr__"))
theorem Cls.get {K : PySem.W.Frag} {C : Addr} (c : Cls K C) (f : Str) : PySem.W.plainGet K C f = true := c.pg
/-- no class of it has the name -/
def NoAttr (K : PySem.W.Frag) (C : Addr) (f : Str) : Prop := PySem.W.findIn K (.ref C) f = some none
/-- a constant of the class -/
structure Con (K : PySem.W.Frag) (C : Addr) (f : Str) (v : V) (u : Value) : Prop where
  at_ : PySem.W.findIn K (.ref C) f = some (some u)
  rel : RelV v u
  get : PySem.W.specialIn K u "__get__" = some none
  cp : PySem.W.copiedNames.contains f = false
/-- a method: a plain def of the class or of one above it -/
structure Meth (K : PySem.W.Frag) (C : Addr) (m : Str) (f : Addr) : Prop where
  at_ : PySem.W.findIn K (.ref C) m = some (some (.ref f))
  fn : PySem.W.isFn K (.ref f) = true
  kp : PySem.W.keepIn K (.ref f) = true

section
variable {X : Cx} {pins : List (Addr × Obj)} {σ : St} {H : Hp} {s : Shared} {a C dx : Addr} {fs : List (Str × V)} {f : Str} {v : V} {A : Around} {E : Value → Shared → Prop}

end

/-! ### readings and rules -/
/-- e.f, an attribute of the instance -/
def tFld (K : PySem.W.Frag) (ta : TE) (f : Str) : TE := fun σ H Q => ta σ H fun x H1 => ∃ a C dx fs v, x = .ref a ∧ H1 a = some (.ins C dx fs) ∧ Cls K C ∧ NoAttr K C f ∧ fs.lookup f = some v ∧ Q v H1
/-- e.f, a constant of the class -/
def tCon (K : PySem.W.Frag) (ta : TE) (f : Str) : TE := fun σ H Q => ta σ H fun x H1 => ∃ a C dx fs v u, x = .ref a ∧ H1 a = some (.ins C dx fs) ∧ Cls K C ∧ Con K C f v u ∧ fs.lookup f = none ∧ Q v H1
/-- e.f = value -/
def sFld (K : PySem.W.Frag) (ta tv : TE) (f : Str) : TS := fun D σ H => tv σ H fun y H1 => ta σ H1 fun x H2 => ∃ a C dx fs, x = .ref a ∧ H2 a = some (.ins C dx fs) ∧ Cls K C ∧ NoAttr K C f ∧ fs.length < 1000 ∧
  D.nx σ (upd H2 a (.ins C dx (putF f y fs)))
/-- an augmented operator on two values -/
def InOp (X : Cx) (op : Operator) (rd : V → V → Hp → VK → Prop) : Prop :=
  ∀ (pins : List (Addr × Obj)) (s : Shared) (σ : St) (H : Hp) (x y : V) (u v : Value) (Q : VK), Inv X pins σ H s → RelV x u → RelV y v → rd x y H Q → wpAny (model X.prog X.w) X.A (inplaceOp op u v) (EP X pins σ Q) X.xe s
/-- e.f op= value -/
def sFldAug (K : PySem.W.Frag) (ta tv : TE) (rd : V → V → Hp → VK → Prop) (f : Str) : TS := fun D σ H => ta σ H fun x H1 => ∃ a C dx fs v, x = .ref a ∧ H1 a = some (.ins C dx fs) ∧ Cls K C ∧ NoAttr K C f ∧ fs.lookup f = some v ∧
  tv σ H1 fun y H2 => rd v y H2 fun z H3 => ∃ dx' fs', H3 a = some (.ins C dx' fs') ∧ fs'.length < 1000 ∧ D.nx σ (upd H3 a (.ins C dx' (putF f z fs')))

section
variable {X : Cx} {o e value : Expr} {f : Str} {pos pos' tpos : Pos} {ta tv : TE}
def rAdd : V → V → Hp → VK → Prop := fun x y H Q => ∃ i j, x = .int i ∧ y = .int j ∧ Q (.int (i + j)) H
def rSub : V → V → Hp → VK → Prop := fun x y H Q => ∃ i j, x = .int i ∧ y = .int j ∧ Q (.int (i - j)) H
end

/-! ### isinstance -/
section
variable {X : Cx} {pins : List (Addr × Obj)} {σ : St} {H : Hp} {s : Shared} {A : Around} {E : Value → Shared → Prop} {Q : Value → Shared → Prop} {c : Value} {b : Bool}
/-- the type of a value, as the fragment's deciders take it; for an instance its class -/
inductive TyOf (K : PySem.W.Frag) (H : Hp) : V → Value → Prop where
  | non : TyOf K H .non (.type "NoneType")
  | bl (x : Bool) : TyOf K H (.bl x) (.type "bool")
  | int (i : Int) : TyOf K H (.int i) (.type "int")
  | str (x : Str) : TyOf K H (.str x) (.type "str")
  | flt (x : UInt64) : TyOf K H (.flt x) (.type "float")
  | lst {a : Addr} {xs : List V} (e : H a = some (.lst xs)) : TyOf K H (.ref a) (.type "list")
  | frz {a : Addr} {o : Obj} {xs : List V} (e : H a = some (.frz o (.lst xs))) : TyOf K H (.ref a) (.type "list")
  | tup {a : Addr} {xs : List V} (e : H a = some (.tup xs)) : TyOf K H (.ref a) (.type "tuple")
  | dK {a : Addr} {kvs : List (Key × V)} (e : H a = some (.dK kvs)) : TyOf K H (.ref a) (.type "dict")
  | dT {a : Addr} {kvs : List (List Key × V)} (e : H a = some (.dT kvs)) : TyOf K H (.ref a) (.type "dict")
  | ins {a C dx : Addr} {fs : List (Str × V)} (e : H a = some (.ins C dx fs)) (cl : Cls K C) (ha : PySem.W.findIn K (.ref C) "__class__" = some (some (.builtin "object.__class__")))
      (hn : PySem.W.specialIn K (.builtin "object.__class__") "__get__" = some (some (.builtin "getset_descriptor.__get__"))) (htk : PySem.W.takesIn K (.builtin "object.__class__") = some true)
      (hm : PySem.W.mroIn K C (.type "object") = some true) : TyOf K H (.ref a) (.ref C)
/-- isinstance(x, c) for one class c, a built-in or an own one: kitOne's answer -/
theorem isinst_ok {x : V} {u t : Value} (I : Inv X pins σ H s) (rx : RelV x u) (ty : TyOf X.K H x t) (e : PySem.W.kitOne X.K t c = some b) (h : ∀ tk, Q (.bool b) { s with toks := tk }) :
    wpAny (model X.prog X.w) A (call (.builtin "isinstance") [u, c]) Q E s := by
  cases ty with
  | non => cases (show u = Value.none from rx); exact PySem.W.kia_one PySem.W.kitx_none I.kIn True.intro e (fun z => nomatch z) h
  | bl y => cases (show u = Value.bool y from rx); exact PySem.W.kia_one PySem.W.kitx_bool I.kIn True.intro e (fun z => nomatch z) h
  | int i => obtain ⟨t, q⟩ := (show ∃ t, u = Value.int i t from rx); cases q; exact PySem.W.kia_one PySem.W.kitx_int I.kIn True.intro e (fun z => nomatch z) h
  | str y => obtain ⟨t, q⟩ := (show ∃ t, u = Value.str y t from rx); cases q; exact PySem.W.kia_one PySem.W.kitx_str I.kIn True.intro e (fun z => nomatch z) h
  | flt y => obtain ⟨t, q⟩ := (show ∃ t, u = Value.float y t from rx); cases q; exact PySem.W.kia_one PySem.W.kitx_float I.kIn True.intro e (fun z => nomatch z) h
  | @lst a xs ea =>
    cases (show u = Value.ref a from rx)
    obtain ⟨_, _, n, _, h1⟩ := (show ObjOk X.prog X.w H s.heap a (.lst xs) from I.hok a _ ea)
    exact PySem.W.kia_one PySem.W.kitx_list I.kIn ⟨_, h1, rfl⟩ e (fun z => nomatch z) h
  | @frz a ob xs ea =>
    cases (show u = Value.ref a from rx)
    obtain ⟨_, _, _, n, _, h1⟩ := (show ObjOk X.prog X.w H s.heap a (.frz ob (.lst xs)) from I.hok a _ ea)
    exact PySem.W.kia_one PySem.W.kitx_list I.kIn ⟨_, h1, rfl⟩ e (fun z => nomatch z) h
  | @tup a xs ea =>
    cases (show u = Value.ref a from rx)
    obtain ⟨_, _, _, p⟩ := (show ObjOk X.prog X.w H s.heap a (.tup xs) from I.hok a _ ea)
    obtain ⟨o, h1, h2, _⟩ := p
    exact PySem.W.kia_one PySem.W.kitx_tuple I.kIn ⟨o, h1, h2⟩ e (fun z => nomatch z) h
  | @dK a kvs ea =>
    cases (show u = Value.ref a from rx)
    obtain ⟨_, _, vs, _, p⟩ := (show ObjOk X.prog X.w H s.heap a (.dK kvs) from I.hok a _ ea)
    obtain ⟨o, es, ep, h1, h2, _⟩ := p
    exact PySem.W.kia_one PySem.W.kitx_dict I.kIn ⟨o, h1, h2.1⟩ e (fun z => nomatch z) h
  | @dT a kvs ea =>
    cases (show u = Value.ref a from rx)
    obtain ⟨_, _, xs, _, o, es, ep, h1, h2, _⟩ := (show ObjOk X.prog X.w H s.heap a (.dT kvs) from I.hok a _ ea)
    exact PySem.W.kia_one PySem.W.kitx_dict I.kIn ⟨o, h1, h2.1⟩ e (fun z => nomatch z) h
  | @ins a C dx fs ea cl ha hn htk hm =>
    cases (show u = Value.ref a from rx)
    obtain ⟨mA, O, _⟩ := ins_get I.hok ea
    obtain ⟨od, J, _⟩ := O.look
    exact PySem.W.kia_one (PySem.W.kitx_own (cl.get _) cl.hd ha hn htk hm) I.kIn J e (fun z => nomatch z) h
end
end L2

namespace L2
open PySem PySem.Spec PyProof.Rows

/-! ### room -/
structure Room (k : Nat) (A : Around) : Prop where
  hd : A.handled = none
  dp : A.depth + 3 * k + 5 < recursionLimit
  un : A.units + 16 * k + 200 < cLine
theorem Room.mono {j k : Nat} {A : Around} (r : Room k A) (h : j ≤ k) : Room j A := ⟨r.hd, by have := r.dp; omega, by have := r.un; omega⟩
theorem Room.deeper {k : Nat} {A : Around} (r : Room (k + 1) A) (env : Env) : Room k (A.deeper env) :=
  ⟨r.hd, by have := r.dp; show A.depth + 1 + 3 * k + 5 < _; omega, by have := r.un; show A.units + 3 + 16 * k + 200 < _; omega⟩
theorem Room.depth {k : Nat} {A : Around} (r : Room k A) : A.depth < recursionLimit := by have := r.dp; omega
theorem Room.units {k : Nat} {A : Around} (r : Room k A) : A.units + 64 < cLine := by have := r.un; omega
/-! ### argument lists and displays -/
def tNil : TA := fun _ H Q => Q [] H
def tCons (ta : TE) (tr : TA) : TA := fun σ H Q => ta σ H fun x H1 => tr σ H1 fun xs H2 => Q (x :: xs) H2
section
variable {X : Cx} {e : Expr} {es : List Expr} {te : TE} {t : TA} {pos : Pos}
theorem pa_nil : PA X [] tNil := fun _ _ _ _ H Q I h => Calls.spliced_nil ⟨[], H, I, .nil, h⟩
theorem pa_cons (ha : PE X e te) (hr : PA X es t) (hs : starEach (e :: es) X.env = (false, eval e X.env) :: starEach es X.env := by rfl) : PA X (e :: es) (tCons te t) := by
  intro pos pins s σ H Q I h
  rw [hs]
  show wpAny _ _ (spliced ((false, eval e X.env) :: backTo pos (starEach es X.env))) _ _ s
  refine Calls.spliced_cons (thn (ha pins s σ H _ I h) fun u s1 ⟨x, H1, I1, r1, q1⟩ => ?_)
  exact thn (hr pos pins s1 σ H1 _ I1 q1) fun us s2 ⟨xs, H2, I2, r2, q2⟩ => ⟨x :: xs, H2, I2, .cons r1 r2, q2⟩

/-- a tuple, a list of written items -/
def tTup (t : TA) : TE := fun σ H Q => t σ H fun xs H1 => xs.length ≤ sizeLine ∧ ∀ p, H1 p = none → Q (.ref p) (upd H1 p (.tup xs))
def tLst (t : TA) : TE := fun σ H Q => t σ H fun xs H1 => xs.length ≤ sizeLine ∧ ∀ p, H1 p = none → Q (.ref p) (upd H1 p (.lst xs))
theorem pe_tup {x1} (h : PA X es t) : PE X (.Tuple es x1 pos) (tTup t) := by
  intro pins s σ H Q I hq
  refine wpAny_Tuple_spliced (thn (h pos pins s σ H _ I hq) fun us s1 ⟨xs, H1, I1, r, z, q⟩ => ⟨by rw [← r.length]; exact z, ?_⟩)
  have hf : H1 s1.heap.objs.size = none := I1.hok.fresh (Nat.le_refl _)
  refine ⟨.ref s1.heap.objs.size, upd H1 s1.heap.objs.size (.tup xs), I1.laid (t' := s1.toks) (fun b u e => Heap.get?_push_of_some _ e) (Nat.le_refl _) ?_, rfl, q _ hf⟩
  exact ⟨z, us, r, ⟨_, Heap.get?_push_size _ rfl, rfl, _, rfl⟩⟩
theorem pe_lst (h : PA X es t) : PE X (.List es pos) (tLst t) := by
  intro pins s σ H Q I hq
  refine wpAny_List_spliced (thn (h pos pins s σ H _ I hq) fun us s1 ⟨xs, H1, I1, r, z, q⟩ => ⟨by rw [← r.length]; exact z, ?_⟩)
  have hf : H1 s1.heap.objs.size = none := I1.hok.fresh (Nat.le_refl _)
  refine ⟨.ref s1.heap.objs.size, upd H1 s1.heap.objs.size (.lst xs), I1.laid (t' := s1.toks) (fun b u e => Heap.get?_push_of_some _ e) (Nat.le_refl _) ?_, rfl, q _ hf⟩
  exact ⟨z, us, 0, r, Heap.get?_push_size _ rfl⟩
end

/-! ### what a def promises -/
/-- a def's promise: the bound arguments in the parameters' order, the heap, the wanted end, the wanted exception -/
abbrev Sp := List V → Hp → VK → XK → Prop
/-- how an exception lies behind a call (file 08 gives it): the callers' frames, abstract heap and state ahead of the call, the wish, the exception, the state -/
abbrev CXT := List Env → Hp → Shared → XK → Value → Shared → Prop

/-- the state at a call -/
structure Env0 (P : Program) (w : World) (K : PySem.W.Frag) (mg : Str → Option Value) (base : Heap) (A : Around) (outer : List Env) (s : Shared) (H : Hp) : Prop where
  frames : A.frames = some outer
  mod : Mod K mg base
  bs : ∀ b o, base.get? b = some o → s.heap.get? b = some o ∧ H b = none
  bsz : base.objs.size ≤ s.heap.objs.size
  funs : s.heap.FunFrames base outer
  frf : ∀ b ∈ frs outer, H b = none
  hok : HOk P w H s.heap
  bare : AllBare s.gens
/-- a call's end -/
def CE (outer : List Env) (P : Program) (w : World) (H : Hp) (s : Shared) (Q : VK) (u : Value) (s' : Shared) : Prop :=
  ∃ v H', s'.os = s.os ∧ AllBare s'.gens ∧ Un (frs outer) [] H H' s.heap s'.heap ∧ HOk P w H' s'.heap ∧ RelV v u ∧ Q v H'
def CR (CX : CXT) (outer : List Env) (P : Program) (w : World) (H : Hp) (s : Shared) (Q : VK) (E : XK) (r : Result) (s' : Shared) : Prop :=
  match r with
  | .ok (.ret u) => CE outer P w H s Q u s'
  | .ok _ => False
  | .error e => CX outer H s E e s'
structure FnOk (P : Program) (w : World) (K : PySem.W.Frag) (mg : Str → Option Value) (base : Heap) (CX : CXT) (k : Nat) (f : Addr) (fd : FuncData) (ps : List Str) (sp : Sp) : Prop where
  len : ∀ vs H Q E, sp vs H Q E → vs.length = ps.length
  run : ∀ (A : Around) (outer : List Env) (s : Shared) (H : Hp) (args : Args) (us : List Value) (vs : List V) (Q : VK) (E : XK), Room k A → Env0 P w K mg base A outer s H → BindsTo s fd args (ps.zip us) → Vals vs us → sp vs H Q E →
    codeAny (model P w) A (.call (.ref f) args) (CR CX outer P w H s Q E) s
section
variable {X : Cx} {pins : List (Addr × Obj)} {σ : St} {H : Hp} {s s' : Shared}
/-- from a body: what a callee wants -/
theorem Inv.env0 (I : Inv X pins σ H s) : Env0 X.prog X.w X.K X.mg X.base X.A X.stack s H :=
  ⟨I.ok.frames, I.ok.mod, I.bs, Nat.le_trans I.ok.bsz I.sz, I.stack, I.stkFree, I.hok, I.bare⟩
/-- behind a call -/
theorem Inv.after {Q : VK} {u : Value} (I : Inv X pins σ H s) (h : CE X.stack X.prog X.w H s Q u s') : EP X pins σ Q u s' := by
  obtain ⟨v, H', os, bare, un, hok, r, q⟩ := h
  obtain ⟨hh, g, d, t, os'⟩ := s'
  obtain rfl : os' = s.os := os
  exact ⟨v, H', I.call (h' := hh) (g' := g) (d' := d) (t' := t) (ch := []) un hok bare (fun b z => absurd z (by simp)), r, q⟩
end

/-! ### calls -/
/-- f(..): the written arguments, then the defaults dvs; E: what is wanted of an exception -/
def tCall (sp : Sp) (dvs : List V) (E : XK) (t : TA) : TE := fun σ H Q => t σ H fun vs H1 => sp (vs ++ dvs) H1 Q E
/-- o.m(..) of an instance of the class at C -/
def tMeth (C : Addr) (m : Str) (sp : Sp) (dvs : List V) (E : XK) (ta : TE) (t : TA) : TE := fun σ H Q => ta σ H fun x H1 => ∃ a dx fs, x = .ref a ∧ H1 a = some (.ins C dx fs) ∧ fs.lookup m = none ∧
  t σ H1 fun vs H2 => sp (x :: (vs ++ dvs)) H2 Q E
/-- C(..): a new instance and its dict, then __init__ -/
def tMake (C : Addr) (sp : Sp) (dvs : List V) (E : XK) (t : TA) : TE := fun σ H Q => t σ H fun vs H1 => ∀ x dx, H1 x = none → H1 dx = none → dx ≠ x →
  sp (.ref x :: (vs ++ dvs)) (upd (upd H1 dx (.own x)) x (.ins C dx [])) (fun v H2 => v = .non ∧ Q (.ref x) H2) E

/-- how the parameters are bound: us the positional arguments, kw the keywords' values by name, ds the defaults that fill up -/
def Binds (K : PySem.W.Frag) (fd : FuncData) (ps : List Str) (ds : List Value) : Prop :=
  ∀ (s : Shared) (us : List Value), K.In s.heap → (us ++ ds).length = ps.length → BindsTo s fd ⟨us, []⟩ (ps.zip (us ++ ds))
/-- every parameter is given -/
theorem Binds.all {K : PySem.W.Frag} {fd : FuncData} {ps : List Str} (h : ∀ us : List Value, us.length = ps.length → bindArgs fd ⟨us, []⟩ = pure (ps.zip us)) : Binds K fd ps [] := fun s us _ hl => by
  rw [List.append_nil] at hl ⊢
  exact .of_eq (h us hl)

/-- an exception of a callee reaches what this body wants of exceptions -/
def Passes (CX : CXT) (X : Cx) (E : XK) : Prop := ∀ (pins : List (Addr × Obj)) (σ : St) (H : Hp) (s : Shared) (e : Value) (s' : Shared), Inv X pins σ H s → CX X.stack H s E e s' → X.xe e s'

section
variable {X : Cx} {CX : CXT} {k : Nat} {f C : Addr} {fd : FuncData} {ps : List Str} {sp : Sp} {dvs : List V} {ds : List Value} {E : XK} {x m : Str} {p pos apos : Pos} {e o : Expr} {es : List Expr} {ta : TE} {t : TA}

/-- the callee runs -/
theorem run_fn {pins : List (Addr × Obj)} {σ : St} {H : Hp} {s : Shared} {Q : VK} {us : List Value} {vs : List V} (F : FnOk X.prog X.w X.K X.mg X.base CX k f fd ps sp) (hr : Room k X.A) (hb : Binds X.K fd ps ds) (hd : Vals dvs ds) (hx : Passes CX X E)
    (I : Inv X pins σ H s) (r : Vals vs us) (h : sp (vs ++ dvs) H Q E) : wpAny (model X.prog X.w) X.A (call (.ref f) us) (EP X pins σ Q) X.xe s := by
  have r2 : Vals (vs ++ dvs) (us ++ ds) := r.append hd
  have hl : (us ++ ds).length = ps.length := by rw [← r2.length]; exact F.len _ _ _ _ h
  refine wpAny_call (codeAny_mono (F.run X.A X.stack s H ⟨us, []⟩ (us ++ ds) (vs ++ dvs) Q E hr I.env0 (hb s us I.kIn hl) r2 h) fun r s' hq => ?_)
  cases r with
  | error e => exact hx pins σ H s e s' I hq
  | ok fl =>
    cases fl with
    | ret u => exact I.after hq
    | next => exact False.elim hq
    | brk => exact False.elim hq
    | cont => exact False.elim hq

theorem pe_call (F : FnOk X.prog X.w X.K X.mg X.base CX k f fd ps sp) (hr : Room k X.A) (hg : Gl X x) (hm : X.mg x = some (.ref f)) (hk : PySem.W.keepIn X.K (.ref f) = true) (hb : Binds X.K fd ps ds) (hd : Vals dvs ds) (hx : Passes CX X E)
    (ha : PA X (e :: es) t) (hdb : (x == ("__debug__" : Str)) = false := by decide) (he : starEach (e :: es) X.env = (false, eval e X.env) :: starEach es X.env := by rfl) (hpl : (backTo pos (starEach es X.env)).any (·.1) = false := by rfl) :
    PE X (.Call (.Name x p) (e :: es) [] pos) (tCall sp dvs E t) := by
  intro pins s σ H Q I h
  refine wpAny_Call_Name_kw (ld_glob I hg hm ?_ hdb)
  refine PySem.W.callWith_K (h₀ := X.base) I.ok.mod.kin hk (thn (ha pos pins s σ H _ I h) fun us s1 ⟨vs, H1, I1, r, q⟩ => ⟨I1.kIn, ?_⟩) he hpl
  exact run_fn F hr hb hd hx I1 r q
/-- what a class must have to be made -/
structure Mk (K : PySem.W.Frag) (C f : Addr) : Prop where
  makes : PySem.W.makesIn K C = true
  init : PySem.W.findIn K (.ref C) "__init__" = some (some (.ref f))
  fn : PySem.W.isFn K (.ref f) = true
  kp : PySem.W.keepIn K (.ref C) = true

end

/-! ### keywords -/
/-- the values of the keywords, from the left -/
def PK (X : Cx) (kws : List Keyword) (t : TA) : Prop :=
  ∀ (pos : Pos) (pins : List (Addr × Obj)) (s : Shared) (σ : St) (H : Hp) (Q : List V → Hp → Prop), Inv X pins σ H s → t σ H Q → wpAny (model X.prog X.w) X.A (evalAll ((backToKw pos (keywordEach kws X.env)).map (·.2))) (AP X pins σ Q) X.xe s
section
variable {X : Cx} {CX : CXT} {k : Nat} {f C : Addr} {fd : FuncData} {ps ks : List Str} {sp : Sp} {E : XK} {x m : Str} {p pos apos kpos : Pos} {e o : Expr} {es : List Expr} {kws : List Keyword} {te ta : TE} {t tk : TA} {nm : Option Str}
/-- how a call with keywords binds: g puts the positional values us and the keywords' values ws (names ks) in the parameters' order, defaults among them -/
structure KBinds (K : PySem.W.Frag) (fd : FuncData) (ps ks : List Str) (g : List Value → List Value → List Value) (gV : List V → List V → List V) : Prop where
  to : ∀ (s : Shared) (us ws : List Value), K.In s.heap → (g us ws).length = ps.length → BindsTo s fd ⟨us, ks.zip ws⟩ (ps.zip (g us ws))
  rel : ∀ {vs : List V} {us : List Value} {zs : List V} {ws : List Value}, Vals vs us → Vals zs ws → Vals (gV vs zs) (g us ws)
def tCallK (sp : Sp) (gV : List V → List V → List V) (E : XK) (t tk : TA) : TE := fun σ H Q => t σ H fun vs H1 => tk σ H1 fun zs H2 => sp (gV vs zs) H2 Q E
variable {g : List Value → List Value → List Value} {gV : List V → List V → List V}
end

/-! ### a def's body keeps its promise -/
/-- names: the parameters first -/
structure FnScope (N P : List Str) (sc : Scope) : Prop where
  kind : sc.kind = .function
  co : sc.isCoroutine = false
  gen : sc.isGenerator = false
  nd : N.Nodup
  pre : N.take P.length = P
  par : ∀ x ∈ P, sc.names.lookup x = some .local ∨ sc.names.lookup x = some .cell
  nofree : ∀ y ∈ sc.names, y.2 ≠ .free

theorem bindL_out {kindOf : Str → Option NameKind} {x : Str} : ∀ {binds : List (Str × Value)} {m : Str → Option Value}, (∀ v, (x, v) ∉ binds) → bindL kindOf binds m x = m x
  | [], _, _ => rfl
  | (n, v) :: r, m, h => by
    unfold bindL
    rw [bindL_out fun w hw => h w (List.mem_cons_of_mem _ hw)]
    split
    · have : x ≠ n := by rintro rfl; exact h v List.mem_cons_self
      simp [this]
    · rfl
theorem bindC_out {kindOf : Str → Option NameKind} {x : Str} : ∀ {binds : List (Str × Value)} {m : Str → Option Value}, (∀ v, (x, v) ∉ binds) → bindC kindOf binds m x = m x
  | [], _, _ => rfl
  | (n, v) :: r, m, h => by
    unfold bindC
    rw [bindC_out fun w hw => h w (List.mem_cons_of_mem _ hw)]
    split
    · rfl
    · have : x ≠ n := by rintro rfl; exact h v List.mem_cons_self
      simp [this]
theorem bindL_get {kindOf : Str → Option NameKind} {x : Str} {v : Value} : ∀ {P : List Str} {vs : List Value} {i : Nat} {m : Str → Option Value}, P.Nodup → P[i]? = some x → vs[i]? = some v → kindOf x = some .local →
    bindL kindOf (P.zip vs) m x = some v
  | [], _, _, _, _, h, _, _ => by simp at h
  | _ :: _, [], _, _, _, _, h, _ => by simp at h
  | p :: P, w :: vs, 0, m, nd, h1, h2, hk => by
    simp at h1 h2; subst h1; subst h2
    show bindL kindOf ((p, w) :: P.zip vs) m p = _
    unfold bindL
    rw [bindL_out fun v hv => (List.nodup_cons.mp nd).1 (List.of_mem_zip hv).1, if_pos hk]
    simp
  | p :: P, w :: vs, i + 1, m, nd, h1, h2, hk => by
    show bindL kindOf ((p, w) :: P.zip vs) m x = _
    unfold bindL
    exact bindL_get (i := i) (List.nodup_cons.mp nd).2 (by simpa using h1) (by simpa using h2) hk
theorem bindC_get {kindOf : Str → Option NameKind} {x : Str} {v : Value} : ∀ {P : List Str} {vs : List Value} {i : Nat} {m : Str → Option Value}, P.Nodup → P[i]? = some x → vs[i]? = some v → kindOf x ≠ some .local →
    bindC kindOf (P.zip vs) m x = some v
  | [], _, _, _, _, h, _, _ => by simp at h
  | _ :: _, [], _, _, _, _, h, _ => by simp at h
  | p :: P, w :: vs, 0, m, nd, h1, h2, hk => by
    simp at h1 h2; subst h1; subst h2
    show bindC kindOf ((p, w) :: P.zip vs) m p = _
    unfold bindC
    rw [bindC_out fun v hv => (List.nodup_cons.mp nd).1 (List.of_mem_zip hv).1, if_neg hk]
    simp
  | p :: P, w :: vs, i + 1, m, nd, h1, h2, hk => by
    show bindC kindOf ((p, w) :: P.zip vs) m x = _
    unfold bindC
    exact bindC_get (i := i) (List.nodup_cons.mp nd).2 (by simpa using h1) (by simpa using h2) hk

/-- the names' values at the entry -/
def start (N : List Str) (vs : List V) : St := vs.map some ++ List.replicate (N.length - vs.length) none

/-- the context of a def's body, at its entry; an exception leaves the frame, then lies as CX says -/
def cxOf (CX : CXT) (P : Program) (w : World) (K : PySem.W.Frag) (mg : Str → Option Value) (base : Heap) (N : List Str) (qual : Str) (scope : Scope) (f : Addr) (cd : Value) (A : Around) (outer : List Env) (s : Shared) (H : Hp) (E : XK) : Cx where
  prog := P
  w := w
  K := K
  mg := mg
  base := base
  A := A.deeper (envOfC qual scope s.heap.objs.size f cd)
  N := N
  s₀ := s
  H₀ := H
  env := envOfC qual scope s.heap.objs.size f cd
  outer := outer
  stack := envOfC qual scope s.heap.objs.size f cd :: outer
  ex := []
  calm := true
  fn := fun _ => true
  pn := []
  xe := fun e s' => wpAny (model P w) (A.deeper (envOfC qual scope s.heap.objs.size f cd)) (leaving (envOfC qual scope s.heap.objs.size f cd) e) (fun _ s'' => CX outer H s E e s'') (fun e' s'' => CX outer H s E e' s'') s'

theorem cell_has {sc : Scope} {n : Nat} {x : Str} (h : sc.names.lookup x = some .cell) : ∃ c, (cellsFrom n sc.names []).lookup x = some c := by
  have q := PySem.W.cellsFrom_some sc.names n [] (.inl h)
  exact Option.isSome_iff_exists.mp q

theorem inv_start {CX : CXT} {P : Program} {w : World} {K : PySem.W.Frag} {mg : Str → Option Value} {base : Heap} {N ps : List Str} {qual : Str} {scope : Scope} {f : Addr} {cd : Value} {A : Around} {outer : List Env} {s s1 : Shared} {H : Hp} {E : XK} {us : List Value} {vs : List V}
    (S : FnScope N ps scope) (hd : A.handled = none) (e0 : Env0 P w K mg base A outer s H) (hl : vs.length = ps.length) (r : Vals vs us)
    (x : InCallC s s.heap.objs.size (bindL (envOfC qual scope s.heap.objs.size f cd).kindOf (ps.zip us) fun _ => none) (cellsFrom (s.heap.objs.size + 1) scope.names []) (bindC (envOfC qual scope s.heap.objs.size f cd).kindOf (ps.zip us) fun _ => none) s1) :
    Inv (cxOf CX P w K mg base N qual scope f cd A outer s H E) [] (start N vs) H s1 := by
  have hpl : ps.length ≤ N.length := by have := congrArg List.length S.pre; rw [List.length_take] at this; omega
  obtain ⟨h1, tk, rfl, hk⟩ := x.done
  have noA : ∀ b : Addr, b ∉ (cxOf CX P w K mg base N qual scope f cd A outer s H E).ex := fun b z => absurd (show b ∈ ([] : List Addr) from z) (by simp)
  refine ⟨⟨e0.mod, S.kind, rfl, rfl, Nat.le_refl _, fun y z c h1 h2 => ?_, fun y hy => ?_, fun y c _ h => ?_, fun _ => hd, Around.frames_deeper e0.frames, .inr ⟨rfl, rfl⟩, fun b z => absurd z (noA b), e0.bs, e0.bsz, fun b _ _ => noA b, fun b z => absurd z (noA b), e0.funs, e0.frf⟩,
    rfl, e0.bare, Un.kept hk, ⟨_, x.toInCall.ns, fun i y v h1 h2 h3 => ?_⟩, fun y c h => ⟨_, x.cell y c h⟩, e0.hok.fresh (Nat.le_refl _), fun y c h => ?_, fun p hp => absurd (show p ∈ ([] : List (Addr × Obj)) from hp) (by simp), e0.hok.kept hk, ?_⟩
  · exact name_of_addr x.apart (PySem.mem_of_lookup h1) (PySem.mem_of_lookup h2)
  · have hy : scope.names.lookup y = some .cell ∨ scope.names.lookup y = some .free := hy
    rcases hy with hy | hy
    · exact cell_has hy
    · exact absurd rfl (S.nofree _ (PySem.mem_of_lookup hy))
  · exact Nat.le_of_lt (x.above y c (PySem.mem_of_lookup h))
  · have hi : i < vs.length := by
      unfold start at h2
      by_cases hi : i < vs.length
      · exact hi
      · rw [List.getElem?_append_right (by simpa using hi)] at h2
        rw [List.getElem?_replicate] at h2
        split at h2 <;> cases h2
    have ha : vs[i]? = some v := by
      unfold start at h2
      rw [List.getElem?_append_left (by simpa using hi), List.getElem?_map] at h2
      cases e : vs[i]? with
      | none => rw [e] at h2; cases h2
      | some a => rw [e] at h2; cases h2; rfl
    obtain ⟨u, hu, rv⟩ := r.get ha
    have hp : ps[i]? = some y := by
      rw [← S.pre, List.getElem?_take_of_lt (by omega)]; exact h1
    have ndP : ps.Nodup := by rw [← S.pre]; exact S.nd.sublist (List.take_sublist _ _)
    refine ⟨u, rv, ?_⟩
    rcases S.par y (List.mem_of_getElem? hp) with k | k
    · exact .inl ⟨k, bindL_get ndP hp hu k⟩
    · obtain ⟨c, e⟩ := cell_has (n := s.heap.objs.size + 1) k
      refine .inr ⟨.inl k, c, e, ?_⟩
      have q := x.cell y c e
      rw [bindC_get ndP hp hu (by show scope.names.lookup y ≠ _; rw [k]; decide)] at q
      exact q
  · exact e0.hok.fresh (Nat.le_of_lt (x.above y c (PySem.mem_of_lookup h)))
  · unfold start
    show _ = N.length
    rw [List.length_append, List.length_map, List.length_replicate]
    omega

/-- THE RULE: a def (or a method) of the text, by its body. The body's reading t is chosen for each entry; it is run at the parameters' values -/
theorem fn_of {CX : CXT} {P : Program} {w : World} {K : PySem.W.Frag} {mg : Str → Option Value} {base : Heap} {k : Nat} {f : Addr} {name qual : Str} {params : Arguments} {body : List Stmt} {scope : Scope} {dV kV doc pm cdv ct oc : Value} {an od : Option Addr}
    {osl : Array (Option Value)} {N ps : List Str} {sp : Sp} (lk : K.lookup f = some ⟨oc, od, .func (PySem.W.fnOf name qual params body scope dV kV doc pm an cdv ct), osl⟩) (hcd : PySem.W.codeIn K cdv qual = true) (S : FnScope N ps scope)
    (len : ∀ vs H Q E, sp vs H Q E → vs.length = ps.length)
    (hbody : ∀ (A : Around) (outer : List Env) (s : Shared) (H : Hp) (vs : List V) (Q : VK) (E : XK), Room k (A.deeper (envOfC qual scope s.heap.objs.size f cdv)) → sp vs H Q E →
      ∃ t, PSs (cxOf CX P w K mg base N qual scope f cdv A outer s H E) body t ∧ t { nx := fun _ H' => Q .non H', rt := Q } (start N vs) H) :
    FnOk P w K mg base CX (k + 1) f (PySem.W.fnOf name qual params body scope dV kV doc pm an cdv ct) ps sp := by
  refine ⟨len, fun A outer s H args us vs Q E hr e0 hb r hsp => ?_⟩
  have hl := len _ _ _ _ hsp
  have KX : K.In s.heap := e0.mod.kin.keeps fun b o e => (e0.bs b o e).1
  have lim : s.heap.NoLimit := e0.mod.nolimit.keeps fun b o e => (e0.bs b o e).1
  have hkind : ∀ y ∈ ps.zip us, scope.names.lookup y.1 = some .local ∨ (scope.names.lookup y.1 = some .cell ∧ ((cellsFrom (s.heap.objs.size + 1) scope.names []).lookup y.1).isSome = true) := fun ⟨n, v⟩ hy => by
    rcases S.par n (List.of_mem_zip hy).1 with q | q
    · exact .inl q
    · exact .inr ⟨q, PySem.W.cellsFrom_some _ _ _ (.inl q)⟩
  refine codeAny_call_function hr.depth (KX _ _ lk) rfl S.co S.gen rfl (PySem.W.codeRec_of KX hcd) (hb _ _ _ _ ?_)
  refine wpAny_newFunctionEnv_cells S.kind hkind fun env he s1 x => ?_
  subst he
  refine ⟨lim.keeps x.toInCall.keep, codeAny_func ?_⟩
  obtain ⟨t, ht, hq⟩ := hbody A outer s H vs Q E (hr.deeper _) hsp
  have I : Inv (cxOf CX P w K mg base N qual scope f cdv A outer s H E) [] (start N vs) H s1 := inv_start S hr.hd e0 hl r x
  refine wpAny_mono (ht [] s1 (start N vs) H _ I hq) (fun fl s' hs => ?_) fun e s' hs => hs
  have fin : ∀ {σ' : St} {H' : Hp} {v : V} {u : Value}, Inv (cxOf CX P w K mg base N qual scope f cdv A outer s H E) [] σ' H' s' → RelV v u → Q v H' → CE outer P w H s Q u s' :=
    fun {σ' H' v u} J rv q => ⟨v, H', J.os, J.bare, J.base, J.hok, rv, q⟩
  cases fl with
  | ret u =>
    obtain ⟨v, σ', H', J, rv, q⟩ := hs
    exact fin J rv q
  | next =>
    obtain ⟨σ', H', J, q⟩ := hs
    exact fin (v := V.non) (u := Value.none) J rfl q
  | brk =>
    obtain ⟨_, _, _, q⟩ := hs
    exact False.elim q
  | cont =>
    obtain ⟨_, _, _, q⟩ := hs
    exact False.elim q
end L2

namespace L2
open PySem PySem.Spec PyProof.Rows
section
variable {X : Cx} {x : Str} {p pos : Pos} {e : Expr} {es : List Expr} {t : TA} {id T : String} {r : List V → Hp → VK → Prop}

def tCB (r : List V → Hp → VK → Prop) (t : TA) : TE := fun σ H Q => t σ H fun vs H1 => r vs H1 Q
/-- f(e, ..), f a built-in function -/
theorem pe_callB (hc : CallR X (.builtin id) r) (hg : Gl X x) (hm : X.mg x = none) (hv : bootBuiltins x = some (.builtin id)) (ha : PA X (e :: es) t) (hn : x ≠ "__name__" := by decide) (hdb : (x == ("__debug__" : Str)) = false := by decide)
    (he : starEach (e :: es) X.env = (false, eval e X.env) :: starEach es X.env := by rfl) (hpl : (backTo pos (starEach es X.env)).any (·.1) = false := by rfl) : PE X (.Call (.Name x p) (e :: es) [] pos) (tCB r t) := by
  intro pins s σ H Q I h
  refine wpAny_Call_Name_kw (ld_blt I hg hm hv ?_ hn hdb)
  exact PyProof.Rows.callWith_builtin1 (thn (ha pos pins s σ H _ I h) fun us s1 ⟨vs, H1, I1, r1, q1⟩ => hc pins s1 σ H1 vs us Q I1 r1 q1) he hpl
/-- T(e, ..), T a built-in type -/
theorem pe_callTy (hc : CallR X (.type T) r) (hg : Gl X x) (hm : X.mg x = none) (hv : bootBuiltins x = some (.type T)) (ha : PA X (e :: es) t) (hn : x ≠ "__name__" := by decide) (hdb : (x == ("__debug__" : Str)) = false := by decide)
    (he : starEach (e :: es) X.env = (false, eval e X.env) :: starEach es X.env := by rfl) (hpl : (backTo pos (starEach es X.env)).any (·.1) = false := by rfl) : PE X (.Call (.Name x p) (e :: es) [] pos) (tCB r t) := by
  intro pins s σ H Q I h
  refine wpAny_Call_Name_kw (ld_blt I hg hm hv ?_ hn hdb)
  exact PyProof.Rows.callWith_type1 (thn (ha pos pins s σ H _ I h) fun us s1 ⟨vs, H1, I1, r1, q1⟩ => hc pins s1 σ H1 vs us Q I1 r1 q1) he hpl
end
end L2

namespace HT
open PySem PyProof.Rows

/-- t < u of tuples of ints -/
def lexLt : List Int → List Int → Bool
  | [], [] => false
  | [], _ :: _ => true
  | _ :: _, [] => false
  | x :: xs, y :: ys => if x = y then lexLt xs ys else decide (x < y)
section
open PySem.SeqAt
open PySem.AutoSeq1 (wpAny_loadPart')
open PySem.MeetsSeq PySem.MeetsSeq2 PySem.MeetsSeq3

end

section
variable {prog : Program} {w : World} {A : Around} {E : Value → Shared → Prop} {s : Shared}

/-! ### t[a:b], not the whole -/
/-- a slice's bound as a place among n (d where it is left out) -/
def sIx (n d : Nat) : Option Int → Nat
  | none => d
  | some v => if v < 0 then (v + (n : Int)).toNat else min v.toNat n
theorem sIx_none (n d : Nat) : sIx n d none = d := rfl
theorem sIx_nat (n d k : Nat) : sIx n d (some (k : Int)) = min k n := by
  show (if (k : Int) < 0 then ((k : Int) + (n : Int)).toNat else min (k : Int).toNat n) = min k n
  rw [if_neg (by omega), Int.toNat_natCast]
end
end HT

namespace L2
open PySem PySem.Spec PyProof.Rows

/-! ### the parts of a slice -/
abbrev TO := St → Hp → (Option Int → Hp → Prop) → Prop
/-- a slice's part (left out, or an int) -/
def PO (X : Cx) (e : Option Expr) (t : TO) : Prop :=
  ∀ (pins : List (Addr × Obj)) (s : Shared) (σ : St) (H : Hp) (Q : Option Int → Hp → Prop), Inv X pins σ H s → t σ H Q →
    wpAny (model X.prog X.w) X.A (evalPart e X.env) (fun u s' => ∃ o H', Inv X pins σ H' s' ∧ IsPart u o ∧ Q o H') X.xe s
def tNoPart : TO := fun _ H Q => Q none H
def tPart (t : TE) : TO := fun σ H Q => t σ H fun x H1 => ∃ i, x = .int i ∧ Q (some i) H1

theorem intsAre_of {ns : List Int} : ∀ {us : List Value}, Vals (ns.map V.int) us → IntsAre us ns := by
  induction ns with
  | nil => intro us r; rw [List.map_nil] at r; cases r; exact .nil
  | cons n ns ih =>
    intro us r
    rw [List.map_cons] at r
    cases r with
    | cons r1 r2 =>
      obtain ⟨t, e⟩ := r1
      subst e
      exact .cons n t (ih r2)

section
variable {X : Cx} {e : Expr} {te : TE} {lo hi : Option Expr} {tl th : TO} {pos p2 : Pos}

theorem po_none : PO X none tNoPart := by
  intro pins s σ H Q I h
  rw [evalPart_none]
  exact wpAny_pure ⟨none, H, I, .none, h⟩
theorem po_some (h : PE X e te) : PO X (some e) (tPart te) := by
  intro pins s σ H Q I hw
  rw [evalPart_some]
  refine thn (h pins s σ H _ I hw) fun u s1 ⟨x, H1, I1, r1, q1⟩ => ?_
  obtain ⟨i, rfl, q⟩ := q1
  obtain ⟨t, rfl⟩ := r1
  exact ⟨some i, H1, I1, .int i t, q⟩

/-- what a slice of a value is, by values: the slice object stands at sl -/
def SlR (X : Cx) (r : V → Option Int → Option Int → Hp → VK → Prop) : Prop :=
  ∀ (pins : List (Addr × Obj)) (s : Shared) (σ : St) (H : Hp) (x : V) (v vl vu : Value) (lo hi : Option Int) (sl : Addr) (Q : VK), Inv X pins σ H s → RelV x v → s.heap.IsSliceOf sl vl vu .none → IsPart vl lo → IsPart vu hi → r x lo hi H Q →
    ∃ T id, typeLookup (.type T) "__getitem__" = pure (some (.builtin id)) ∧ s.TypeIs v T ∧ wpAny (model X.prog X.w) X.A (getItem v (.ref sl)) (EP X pins σ Q) X.xe s
def tSl (r : V → Option Int → Option Int → Hp → VK → Prop) (te : TE) (tl th : TO) : TE := fun σ H Q => te σ H fun x H1 => tl σ H1 fun l H2 => th σ H2 fun u H3 => r x l u H3 Q
/-- a[lo:hi], any a -/
theorem pe_slice {r : V → Option Int → Option Int → Hp → VK → Prop} (hr : SlR X r) (he : PE X e te) (hl : PO X lo tl) (hu : PO X hi th) : PE X (.Subscript e (.Slice lo hi none p2) pos) (tSl r te tl th) := by
  intro pins s σ H Q I h
  refine Subscript_ (thn (he pins s σ H _ I h) fun v s1 ⟨x, H1, I1, r1, q1⟩ => ?_)
  refine wpAny_Slice (thn (hl pins s1 σ H1 _ I1 q1) fun vl s2 ⟨l, H2, I2, pl, q2⟩ => thn (hu pins s2 σ H2 _ I2 q2) fun vu s3 ⟨u, H3, I3, pu, q3⟩ => ?_)
  rw [evalPart_none]
  refine wpAny_pure ?_
  have I4 : Inv X pins σ H3 { s3 with heap := s3.heap.push { cls := .type "slice", data := .fields #[vl, vu, .none] } } := I3.kept (t' := s3.toks) fun b ob q => Heap.get?_push_of_some _ q
  obtain ⟨T, id, hT, ht, hg⟩ := hr pins { s3 with heap := s3.heap.push { cls := .type "slice", data := .fields #[vl, vu, .none] } } σ H3 x v vl vu l u s3.heap.objs.size Q I4 r1 (Heap.IsSliceOf.new ..) pl pu q3
  show wpAny (model X.prog X.w) X.A (subscriptTail e (.Slice lo hi none p2) v (.ref s3.heap.objs.size)) (EP X pins σ Q) X.xe { s3 with heap := s3.heap.push { cls := .type "slice", data := .fields #[vl, vu, .none] } }
  exact tail_any (ops := [.ref s3.heap.objs.size, v]) ht hT hg (by with_unfolding_all rfl)

/-- the items of xs[lo:hi] -/
def cutV (xs : List V) (lo hi : Option Int) : List V := (xs.drop (HT.sIx xs.length 0 lo)).take (HT.sIx xs.length xs.length hi - HT.sIx xs.length 0 lo)
theorem cutV_length (xs : List V) (lo hi : Option Int) : (cutV xs lo hi).length ≤ xs.length := by
  unfold cutV
  rw [List.length_take, List.length_drop]
  omega
/-- t[lo:hi], not the whole of it (the whole would be t itself) -/
def rSlT (K : PySem.W.Frag) : V → Option Int → Option Int → Hp → VK → Prop := fun x lo hi H Q => ∃ a xs, x = .ref a ∧ SqT K H a xs ∧
  ¬ (HT.sIx xs.length 0 lo = 0 ∧ HT.sIx xs.length xs.length hi = xs.length) ∧ ∀ p, H p = none → Q (.ref p) (upd H p (.tup (cutV xs lo hi)))
/-! ### t < u, t + u -/
def rLtT (K : PySem.W.Frag) : R2 := fun x y H Q => ∃ a b ns ms, x = .ref a ∧ y = .ref b ∧ SqT K H a (ns.map V.int) ∧ SqT K H b (ms.map V.int) ∧ Q (.bl (HT.lexLt ns ms)) H
/-- t + u, t not empty: u empty gives t itself -/
def rCatT (K : PySem.W.Frag) : R2 := fun x y H Q => ∃ a b xs ys, x = .ref a ∧ y = .ref b ∧ SqT K H a xs ∧ SqT K H b ys ∧ xs ≠ [] ∧ xs.length + ys.length ≤ sizeLine ∧
  (ys = [] → Q (.ref a) H) ∧ (ys ≠ [] → ∀ p, H p = none → Q (.ref p) (upd H p (.tup (xs ++ ys))))
end
end L2

namespace L2
open PySem PySem.Spec PyProof.Rows

/-! ### places -/
/-- the place that an index of any sign means -/
def ixN (n : Nat) (i : Int) : Option Nat := if 0 ≤ i then (if i < n then some i.toNat else none) else if -(n : Int) ≤ i then some (i + n).toNat else none
def atI {α : Type} (xs : List α) (i : Int) : Option α := (ixN xs.length i).bind fun j => xs[j]?
theorem ixN_seq {n : Nat} {i : Int} {j : Nat} (h : ixN n i = some j) : seqIndex? i n = some j ∧ j < n ∧ -(n : Int) ≤ i ∧ i < n := by
  unfold ixN at h
  by_cases h0 : 0 ≤ i
  · rw [if_pos h0] at h
    by_cases h1 : i < n
    · rw [if_pos h1] at h
      have e : i.toNat = j := Option.some.inj h
      exact ⟨by rw [seqIndex_of h0 h1, e], by omega, by omega, h1⟩
    · rw [if_neg h1] at h; cases h
  · rw [if_neg h0] at h
    by_cases h1 : -(n : Int) ≤ i
    · rw [if_pos h1] at h
      have e : (i + n).toNat = j := Option.some.inj h
      exact ⟨by rw [seqIndex_neg (by omega) h1, e], by omega, h1, by omega⟩
    · rw [if_neg h1] at h; cases h
theorem atI_get {α : Type} {xs : List α} {i : Int} {v : α} (h : atI xs i = some v) : ∃ j, seqIndex? i xs.length = some j ∧ xs[j]? = some v ∧ j < xs.length ∧ -(xs.length : Int) ≤ i ∧ i < xs.length := by
  unfold atI at h
  cases e : ixN xs.length i with
  | none => rw [e] at h; cases h
  | some j =>
    rw [e] at h
    obtain ⟨h1, h2, h3, h4⟩ := ixN_seq e
    exact ⟨j, h1, h, h2, h3, h4⟩
theorem atI_nat {α : Type} {xs : List α} {j : Nat} {v : α} (h : xs[j]? = some v) : atI xs (j : Int) = some v := by
  have hj : j < xs.length := (List.getElem?_eq_some_iff.mp h).1
  have e : ixN xs.length (j : Int) = some j := by
    unfold ixN
    rw [if_pos (by omega), if_pos (by omega)]; simp
  unfold atI; rw [e]; exact h
/-! ### what may be subscripted -/
/-- what stands as an index of a plain subscript -/
def PlainIx (b : Expr) : Prop := ∀ o i, subscripted b false o i = operate [o, i] (getItem o i)
/-- a subscript by values -/
def IxR (X : Cx) (r : R2) : Prop :=
  ∀ (value slice : Expr) (pins : List (Addr × Obj)) (s : Shared) (σ : St) (H : Hp) (x y : V) (v u : Value) (Q : VK), Inv X pins σ H s → RelV x v → RelV y u → r x y H Q →
    subscripted slice false v u = operate [v, u] (getItem v u) → wpAny (model X.prog X.w) X.A (subscriptTail value slice v u) (EP X pins σ Q) X.xe s
/-- a call of a builtin's method by values: the receiver, the arguments -/
def MtR (X : Cx) (id : String) (r : V → List V → Hp → VK → Prop) : Prop :=
  ∀ (pins : List (Addr × Obj)) (s : Shared) (σ : St) (H : Hp) (x : V) (xs : List V) (v : Value) (us : List Value) (Q : VK), Inv X pins σ H s → RelV x v → Vals xs us → r x xs H Q →
    wpAny (model X.prog X.w) X.A (call (.builtin id) (v :: us)) (EP X pins σ Q) X.xe s
section
variable {X : Cx} {a b : Expr} {ta tb : TE} {pos : Pos}
/-- a[b] -/
theorem pe_ix {r : R2} (hr : IxR X r) (ha : PE X a ta) (hb : PE X b tb) (hs : PlainIx b) : PE X (.Subscript a b pos) (tOp r ta tb) := by
  intro pins s σ H Q I h
  exact Subscript_ (binT ha hb I h fun v u s2 x y H2 I2 rx ry q => hr a b pins s2 σ H2 x y v u Q I2 rx ry q (hs _ _))

def rIxL (K : PySem.W.Frag) : R2 := fun x y H Q => ∃ p xs i v, x = .ref p ∧ y = .int i ∧ SqL K H p xs ∧ atI xs i = some v ∧ Q v H
def rIxT (K : PySem.W.Frag) : R2 := fun x y H Q => ∃ p xs i v, x = .ref p ∧ y = .int i ∧ SqT K H p xs ∧ atI xs i = some v ∧ Q v H
def rIxS : R2 := fun x y H Q => ∃ z i c, x = .str z ∧ y = .int i ∧ z.length ≤ sizeLine ∧ atI z.cps.toList i = some c ∧ Q (.str ⟨#[c]⟩) H
theorem ix_list : IxR X (rIxL X.K) := by
  intro value slice pins s σ H x y v u Q I rx ry h hs
  obtain ⟨p, xs, i, z, rfl, rfl, hq, he, q⟩ := h
  cases rx
  obtain ⟨t, rfl⟩ := ry
  obtain ⟨its, r, pl, hz⟩ := I.list hq
  obtain ⟨j, h1, h2, h3, h4, h5⟩ := atI_get he
  obtain ⟨w, ew, rw'⟩ := r.get h2
  have hl := r.length
  have hn := line63
  have fin : EP X pins σ Q w s := ⟨z, H, I, rw', q⟩
  by_cases h0 : 0 ≤ i
  · have hj : i.toNat = j := by
      rw [seqIndex_of h0 h5] at h1
      exact Option.some.inj h1
    exact item_listR pl.isList h0 (by omega) (by rw [hj]; simpa using ew) fin hs
  · have hj : (i + (its.toArray.size : Int)).toNat = j := by
      rw [seqIndex_neg (by omega) h4] at h1
      rw [List.size_toArray, ← hl]
      exact Option.some.inj h1
    exact subscriptTail_builtinR (x := w) pl.isList.typeIs slot_list_getitem.lookup
      (wpAny_getItem_list_neg (Q := fun r s' => r = w ∧ EP X pins σ Q r s') pl.isList (by omega) (by rw [List.size_toArray] <;> omega) (by omega) (by rw [hj]; simpa using ew) ⟨rfl, fin⟩) hs
theorem ix_tup : IxR X (rIxT X.K) := by
  intro value slice pins s σ H x y v u Q I rx ry h hs
  obtain ⟨p, xs, i, z, rfl, rfl, hq, he, q⟩ := h
  cases rx
  obtain ⟨t, rfl⟩ := ry
  obtain ⟨its, r, pl, hz⟩ := I.tuple hq
  obtain ⟨j, h1, h2, h3, h4, h5⟩ := atI_get he
  obtain ⟨w, ew, rw'⟩ := r.get h2
  have hl := r.length
  have hn := line63
  have fin : EP X pins σ Q w s := ⟨z, H, I, rw', q⟩
  exact subscriptTail_builtinR (x := w) pl.typeIs slot_tuple_getitem.lookup
    (getItem_tuple (j := j) (Q := fun r s' => r = w ∧ EP X pins σ Q r s') pl (by omega) (by omega) (by rw [List.size_toArray, ← hl]; exact h1) (by simpa using ew) ⟨rfl, fin⟩) hs
/-- list, tuple or str -/
def rIx (K : PySem.W.Frag) : R2 := fun x y H Q => rIxL K x y H Q ∨ rIxT K x y H Q ∨ rIxS x y H Q
/-! ### xs[i] = v, any sign -/
/-- the list's object behind a store -/
theorem mapSeq_set (its : List Value) (n j : Nat) (u : Value) : Obj.mapSeq (·.setIfInBounds j u) { cls := .type "list", data := .seq its.toArray n } = { cls := .type "list", data := .seq (its.set j u).toArray n } := by
  simp [Obj.mapSeq]
theorem Inv.lst {pins : List (Addr × Obj)} {σ : St} {H : Hp} {s : Shared} {p : Addr} {xs : List V} (I : Inv X pins σ H s) (h : H p = some (.lst xs)) :
    ∃ (its : List Value) (n : Nat), Vals xs its ∧ s.heap.get? p = some { cls := .type "list", data := .seq its.toArray n } ∧ xs.length ≤ sizeLine := by
  obtain ⟨z, its, n, r, e⟩ := I.hok p _ h
  exact ⟨its, n, r, e, z⟩
/-- the list at p is written by an update of its object -/
theorem Inv.lstUpd {pins : List (Addr × Obj)} {σ : St} {H : Hp} {s : Shared} {p : Addr} {xs ys : List V} {its its' : List Value} {n n' : Nat} {f : Obj → Obj} (I : Inv X pins σ H s) (h : H p = some (.lst xs))
    (ho : s.heap.get? p = some { cls := .type "list", data := .seq its.toArray n }) (hf : f { cls := .type "list", data := .seq its.toArray n } = { cls := .type "list", data := .seq its'.toArray n' }) (r : Vals ys its') (hz : ys.length ≤ sizeLine) (t : Nat) :
    Inv X pins σ (upd H p (.lst ys)) { s with heap := s.heap.update p f, toks := t } := by
  have e : (s.heap.update p f).get? p = some { cls := .type "list", data := .seq its'.toArray n' } := by
    rw [Heap.get?_update_self f ho (by rw [hf] <;> rfl), hf]
  refine I.write (x := p) (e := p) (by rw [h]; trivial) (.inl rfl) (fun b u hb q => (Heap.get?_update_other _ _ (Ne.symm hb)).trans q) ⟨_, e⟩ ?_
  exact ⟨hz, its', n', r, e⟩
def rSetL : V → V → V → Hp → (Hp → Prop) → Prop := fun o i v H Q => ∃ p xs k j, o = .ref p ∧ i = .int k ∧ H p = some (.lst xs) ∧ ixN xs.length k = some j ∧ Q (upd H p (.lst (xs.set j v)))
theorem set_list : PSet X rSetL := by
  intro pins s σ H o i v ov iv u Q I ro ri rv h
  obtain ⟨p, xs, k, j, rfl, rfl, hp, hj, q⟩ := h
  cases ro
  obtain ⟨t, rfl⟩ := ri
  obtain ⟨its, n, r, ho, hz⟩ := I.lst hp
  obtain ⟨h1, h2, h3, h4⟩ := ixN_seq hj
  have hl := r.length
  have hn := line63
  have I' : Inv X pins σ (upd H p (.lst (xs.set j v))) { s with heap := s.heap.update p (Obj.mapSeq (·.setIfInBounds j u)) } :=
    I.lstUpd hp ho (mapSeq_set its n j u) (r.set rv j) (by rw [List.length_set]; exact hz) s.toks
  by_cases h0 : 0 ≤ k
  · have hk : k.toNat = j := by
      rw [seqIndex_of h0 h4] at h1
      exact Option.some.inj h1
    exact PySem.W.ki_setAt ho h0 (by omega) (by rw [List.size_toArray, ← hl]; exact h4) (by rw [hk]; exact ⟨_, I', q⟩)
  · have hk : (k + (its.toArray.size : Int)).toNat = j := by
      rw [seqIndex_neg (by omega) h3] at h1
      rw [List.size_toArray, ← hl]
      exact Option.some.inj h1
    exact PySem.W.ki_setBack ho (by omega) (by rw [List.size_toArray, ← hl]; exact h3) (by omega) (by rw [hk]; exact ⟨_, I', q⟩)

/-! ### slices -/
theorem slice_bounds (lo hi : Option Int) (n : Nat) : (sliceBounds lo hi none n).1 = ((HT.sIx n 0 lo : Nat) : Int) ∧ (sliceBounds lo hi none n).2.1 = ((HT.sIx n n hi : Nat) : Int) ∧ (sliceBounds lo hi none n).2.2 = 1 := by
  refine ⟨?_, ?_, rfl⟩
  · cases lo with
    | none => simp [sliceBounds, HT.sIx]
    | some i =>
      simp only [sliceBounds, HT.sIx, Option.getD_none, show (1 : Int) > 0 by decide, if_true]
      by_cases h : i < 0
      · simp only [h, if_true] <;> omega
      · simp only [h, if_false] <;> omega
  · cases hi with
    | none => simp [sliceBounds, HT.sIx]
    | some i =>
      simp only [sliceBounds, HT.sIx, Option.getD_none, show (1 : Int) > 0 by decide, if_true]
      by_cases h : i < 0
      · simp only [h, if_true] <;> omega
      · simp only [h, if_false] <;> omega
theorem slicePick_cut (its : List Value) (lo hi : Option Int) : slicePick its.toArray lo hi none = ((its.drop (HT.sIx its.length 0 lo)).take (HT.sIx its.length its.length hi - HT.sIx its.length 0 lo)).toArray := by
  obtain ⟨h1, h2, h3⟩ := slice_bounds lo hi its.toArray.size
  unfold slicePick
  rw [h1, h2, h3]
  simp only [sliceRange_one, pick_run, List.size_toArray] <;> rfl
/-- xs[lo:hi] of a list: a new list -/
def rSlL (K : PySem.W.Frag) : V → Option Int → Option Int → Hp → VK → Prop := fun x lo hi H Q => ∃ a xs, x = .ref a ∧ SqL K H a xs ∧ ∀ p, H p = none → Q (.ref p) (upd H p (.lst (cutV xs lo hi)))
theorem sl_list : SlR X (rSlL X.K) := by
  intro pins s σ H x v vl vu lo hi sl Q I rx hs pl pu h
  obtain ⟨a, xs, rfl, hx, q⟩ := h
  cases rx
  obtain ⟨its, r, ht, hz⟩ := I.list hx
  have hlen := r.length
  refine ⟨"list", _, slot_list_getitem.lookup, ht.isList.typeIs, ?_⟩
  refine wpAny_getItem_list_slice ht.isList hs pl pu .none (by simp) ?_ (by rw [List.size_toArray] <;> omega)
  rw [slicePick_cut, ← hlen]
  refine ⟨.ref s.heap.objs.size, _, I.laid (t' := s.toks) (o := .lst (cutV xs lo hi)) (fun b ob q => Heap.get?_push_of_some _ q) (Nat.le_refl _) ?_, rfl, q _ (I.hok.fresh (Nat.le_refl _))⟩
  exact ⟨Nat.le_trans (cutV_length xs lo hi) hz, _, 0, (r.drop (HT.sIx xs.length 0 lo)).take (HT.sIx xs.length xs.length hi - HT.sIx xs.length 0 lo), Heap.get?_push_size _ rfl⟩

/-! ### in, not in: flat items -/
def flatV : V → Bool
  | .non => true
  | .bl _ => true
  | .int _ => true
  | .str _ => true
  | _ => false
/-- == of flat values -/
def eqV : V → V → Bool
  | .non, .non => true
  | .bl a, .bl b => a == b
  | .bl a, .int b => (if a then 1 else 0) == b
  | .int a, .bl b => a == (if b then 1 else 0)
  | .int a, .int b => a == b
  | .str a, .str b => a == b
  | _, _ => false
theorem eqAt_V {A : Around} {s : Shared} {y x : V} {u v : Value} (ry : RelV y u) (rx : RelV x v) (fy : flatV y = true) (fx : flatV x = true) : SeqAt.EqAt A s u v (eqV y x) := by
  cases y with
  | non =>
    cases ry
    cases x with
    | non => cases rx; exact SeqAt.EqAt.same _
    | bl b => cases rx; exact SeqAt.EqAt.none_bool b
    | int b => obtain ⟨t, rfl⟩ := rx; exact SeqAt.EqAt.none_int b t
    | str b => obtain ⟨t, rfl⟩ := rx; exact SeqAt.EqAt.none_str b t
    | _ => exact absurd (show false = true from fx) Bool.false_ne_true
  | bl a =>
    cases ry
    cases x with
    | non => cases rx; exact SeqAt.EqAt.bool_none a
    | bl b => cases rx; exact SeqAt.EqAt.bool_bool a b
    | int b => obtain ⟨t, rfl⟩ := rx; exact SeqAt.EqAt.bool_int a b t
    | str b => obtain ⟨t, rfl⟩ := rx; exact SeqAt.EqAt.bool_str a b t
    | _ => exact absurd (show false = true from fx) Bool.false_ne_true
  | int a =>
    obtain ⟨t', rfl⟩ := ry
    cases x with
    | non => cases rx; exact SeqAt.EqAt.int_none a t'
    | bl b => cases rx; exact SeqAt.EqAt.int_bool a t' b
    | int b => obtain ⟨t, rfl⟩ := rx; exact SeqAt.EqAt.int_int a t' b t
    | str b => obtain ⟨t, rfl⟩ := rx; exact SeqAt.EqAt.int_str a t' b t
    | _ => exact absurd (show false = true from fx) Bool.false_ne_true
  | str a =>
    obtain ⟨t', rfl⟩ := ry
    cases x with
    | non => cases rx; exact SeqAt.EqAt.str_none a t'
    | bl b => cases rx; exact SeqAt.EqAt.str_bool a t' b
    | int b => obtain ⟨t, rfl⟩ := rx; exact SeqAt.EqAt.str_int a t' b t
    | str b => obtain ⟨t, rfl⟩ := rx; exact SeqAt.EqAt.str_str a t' b t
    | _ => exact absurd (show false = true from fx) Bool.false_ne_true
  | _ => exact absurd (show false = true from fy) Bool.false_ne_true
/-- the items' answers, read off the values (a value's own answer does not lean on its token) -/
def eqU (x : V) (u : Value) : Bool := match u with
  | .none => eqV .non x
  | .bool b => eqV (.bl b) x
  | .int i _ => eqV (.int i) x
  | .str z _ => eqV (.str z) x
  | _ => false
theorem eqU_of {x y : V} {u : Value} (r : RelV y u) (f : flatV y = true) : eqU x u = eqV y x := by
  cases y with
  | non => cases r; rfl
  | bl b => cases r; rfl
  | int i => obtain ⟨t, rfl⟩ := r; rfl
  | str z => obtain ⟨t, rfl⟩ := r; rfl
  | _ => exact absurd (show false = true from f) Bool.false_ne_true
theorem any_eqU {x : V} : ∀ {xs : List V} {us : List Value}, Vals xs us → xs.all flatV = true → us.any (eqU x) = xs.any fun y => eqV y x
  | _, _, .nil, _ => rfl
  | y :: xs, u :: us, .cons r t, f => by
    rw [List.all_cons, Bool.and_eq_true] at f
    rw [List.any_cons, List.any_cons, eqU_of r f.1, any_eqU t f.2]
theorem mem_eqAt {A : Around} {s : Shared} {x : V} {v : Value} (rx : RelV x v) (fx : flatV x = true) : ∀ {xs : List V} {us : List Value}, Vals xs us → xs.all flatV = true → ∀ u ∈ us, SeqAt.EqAt A s u v (eqU x u)
  | _, _, .nil, _ => fun u hu => by cases hu
  | y :: xs, u :: us, .cons r t, f => fun u' hu => by
    rw [List.all_cons, Bool.and_eq_true] at f
    rcases List.mem_cons.mp hu with rfl | hu
    · rw [eqU_of r f.1]; exact eqAt_V r rx f.1 fx
    · exact mem_eqAt rx fx t f.2 u' hu
def inV (x : V) (xs : List V) : Bool := xs.any fun y => eqV y x
/-- x in a list or tuple of flat items -/
def rIn (K : PySem.W.Frag) (neg : Bool) : R2 := fun x y H Q => ∃ p xs, y = .ref p ∧ (SqL K H p xs ∨ SqT K H p xs) ∧ flatV x = true ∧ xs.all flatV = true ∧ Q (.bl (if neg then !inV x xs else inV x xs)) H
theorem op_in_seq : OpR X (compareOp .In) (rIn X.K false) := by
  intro pins s σ H x y v u Q I rx ry h
  obtain ⟨p, xs, rfl, hq, fx, fs, q⟩ := h
  cases ry
  rcases hq with hq | hq
  · obtain ⟨its, r, pl, hz⟩ := I.list hq
    refine SeqAt.in_listAt (eqU x) pl.isList (fun w hw => mem_eqAt rx fx r fs w (by simpa using hw)) ⟨.bl _, H, I, rfl, ?_⟩
    rw [show its.toArray.any (eqU x) = its.any (eqU x) by simp, any_eqU r fs]
    exact q
  · obtain ⟨its, r, pl, hz⟩ := I.tuple hq
    refine SeqAt.in_tupleAt (eqU x) pl (fun w hw => mem_eqAt rx fx r fs w (by simpa using hw)) ⟨.bl _, H, I, rfl, ?_⟩
    rw [show its.toArray.any (eqU x) = its.any (eqU x) by simp, any_eqU r fs]
    exact q
theorem op_notIn_seq : OpR X (compareOp .NotIn) (rIn X.K true) := by
  intro pins s σ H x y v u Q I rx ry h
  obtain ⟨p, xs, rfl, hq, fx, fs, q⟩ := h
  cases ry
  rcases hq with hq | hq
  · obtain ⟨its, r, pl, hz⟩ := I.list hq
    refine SeqAt.notIn_listAt (eqU x) pl.isList (fun w hw => mem_eqAt rx fx r fs w (by simpa using hw)) ⟨.bl _, H, I, rfl, ?_⟩
    rw [show its.toArray.any (eqU x) = its.any (eqU x) by simp, any_eqU r fs]
    exact q
  · obtain ⟨its, r, pl, hz⟩ := I.tuple hq
    refine SeqAt.notIn_tupleAt (eqU x) pl (fun w hw => mem_eqAt rx fx r fs w (by simpa using hw)) ⟨.bl _, H, I, rfl, ?_⟩
    rw [show its.toArray.any (eqU x) = its.any (eqU x) by simp, any_eqU r fs]
    exact q
/-! ### len, list(x), tuple(x) of any list or tuple that is read -/
theorem call_len_seq : CallR X (.builtin "len") (fun xs H Q => ∃ p ys, xs = [.ref p] ∧ (SqL X.K H p ys ∨ SqT X.K H p ys) ∧ Q (.int ys.length) H) := by
  intro pins s σ H xs us Q I r h
  obtain ⟨p, ys, rfl, hq, q⟩ := h
  obtain ⟨u, rfl, rx⟩ := vals1 r
  cases rx
  have hn := line63
  rcases hq with hq | hq
  · obtain ⟨its, r', pl, hz⟩ := I.list hq
    have hlen := r'.length
    exact Calls.call_len_list pl.isList (by simp only [List.size_toArray] <;> omega) ⟨.int ys.length, H, I.tok _, ⟨s.toks + 1, by rw [List.size_toArray, hlen]⟩, q⟩
  · obtain ⟨its, r', pl, hz⟩ := I.tuple hq
    have hlen := r'.length
    exact len_tuple pl (by simp only [List.size_toArray] <;> omega) ⟨.int ys.length, H, I.tok _, ⟨s.toks + 1, by rw [List.size_toArray, hlen]⟩, q⟩
theorem call_list_of : CallR X (.type "list") (fun xs H Q => ∃ p ys, xs = [.ref p] ∧ (SqL X.K H p ys ∨ SqT X.K H p ys) ∧ ∀ l, H l = none → Q (.ref l) (upd H l (.lst ys))) := by
  intro pins s σ H xs us Q I r h
  obtain ⟨p, ys, rfl, hq, q⟩ := h
  obtain ⟨u, rfl, rx⟩ := vals1 r
  cases rx
  have fin : ∀ (its : List Value), Vals ys its → ys.length ≤ sizeLine → ∀ (h' : Heap) (c' : Nat), (∀ b o', s.heap.get? b = some o' → h'.get? b = some o') →
      h'.get? s.heap.objs.size = some { cls := .type "list", dict := none, data := .seq its.toArray c', slots := #[] } → EP X pins σ Q (.ref s.heap.objs.size) { s with heap := h' } := fun its r' hz h' c' kp e =>
    ⟨.ref s.heap.objs.size, _, I.laid (t' := s.toks) kp (Nat.le_refl _) (show ObjOk X.prog X.w _ h' _ (.lst ys) from ⟨hz, its, c', r', e⟩), rfl, q _ (I.hok.fresh (Nat.le_refl _))⟩
  rcases hq with hq | hq
  · obtain ⟨its, r', pl, hz⟩ := I.list hq
    have hlen := r'.length
    obtain ⟨o, ho, hc, n, hd⟩ := pl.isList
    exact call_list_seq p (.inl rfl) ho hc hd (fun h' c' kp e => fin its r' hz h' c' kp e) (by simp only [List.size_toArray] <;> omega)
  · obtain ⟨its, r', pl, hz⟩ := I.tuple hq
    have hlen := r'.length
    obtain ⟨o, ho, hc, n, hd⟩ := pl
    exact call_list_seq p (.inr rfl) ho hc hd (fun h' c' kp e => fin its r' hz h' c' kp e) (by simp only [List.size_toArray] <;> omega)
/-! ### the call of a builtin's method: o.m(..) -/
/-- the value is of that builtin type -/
def tyV (K : PySem.W.Frag) (T : String) (x : V) (H : Hp) : Prop := match x with
  | .str _ => T = "str"
  | .int _ => T = "int"
  | .ref p => (T = "list" ∧ ∃ xs, SqL K H p xs) ∨ (T = "tuple" ∧ ∃ o, K.lookup p = some o ∧ o.cls = .type "tuple" ∧ o.dict = none) ∨
      (T = "dict" ∧ ((∃ kvs, H p = some (.dK kvs)) ∨ ∃ kvs, H p = some (.dT kvs))) ∨ (T = "set" ∧ ∃ S n, H p = some (.set S n))
  | _ => False
theorem tyV_is {pins : List (Addr × Obj)} {σ : St} {H : Hp} {s : Shared} {T : String} {x : V} {v : Value} (I : Inv X pins σ H s) (r : RelV x v) (ty : tyV X.K T x H) :
    s.TypeIs v T ∧ ∀ a, v = .ref a → ∃ ob, s.heap.get? a = some ob ∧ ob.dict = none := by
  cases x with
  | str z =>
    obtain ⟨t, rfl⟩ := r
    cases (show T = "str" from ty)
    exact ⟨typeIs_str s z t, fun _ e => nomatch e⟩
  | int i =>
    obtain ⟨t, rfl⟩ := r
    cases (show T = "int" from ty)
    exact ⟨typeIs_int s i t, fun _ e => nomatch e⟩
  | ref p =>
    cases r
    rcases ty with ⟨rfl, xs, hq⟩ | ⟨rfl, o, hk, hc, hd⟩ | ⟨rfl, hk⟩ | ⟨rfl, S, n, hk⟩
    · obtain ⟨its, _, pl, _⟩ := I.list hq
      refine ⟨pl.isList.typeIs, fun a e => ?_⟩
      cases e
      obtain ⟨o, n, e, c, hd, _⟩ := pl
      exact ⟨o, e, hd⟩
    · refine ⟨⟨o, I.kIn p o hk, hc⟩, fun a e => ?_⟩
      cases e
      exact ⟨o, I.kIn _ o hk, hd⟩
    · have z : ∃ o, s.heap.get? p = some o ∧ o.ExactDict := by
        rcases hk with ⟨kvs, hk⟩ | ⟨kvs, hk⟩
        · obtain ⟨_, _, _, _, o, _, _, e, ex, _⟩ := I.hok p _ hk
          exact ⟨o, e, ex⟩
        · obtain ⟨_, _, _, _, o, _, _, e, ex, _⟩ := I.hok p _ hk
          exact ⟨o, e, ex⟩
      obtain ⟨o, e, ex⟩ := z
      refine ⟨⟨o, e, ex.1⟩, fun a e2 => ?_⟩
      cases e2
      exact ⟨o, e, ex.2.1⟩
    · obtain ⟨o, _, _, _, e, ex, _⟩ := I.hok p _ hk
      refine ⟨⟨o, e, ex.1⟩, fun a e2 => ?_⟩
      cases e2
      exact ⟨o, e, ex.2.1⟩
  | _ => exact False.elim ty
def tBM0 (K : PySem.W.Frag) (T : String) (r : V → List V → Hp → VK → Prop) (to : TE) : TE := fun σ H Q => to σ H fun x H1 => tyV K T x H1 ∧ r x [] H1 Q
def tBM (K : PySem.W.Frag) (T : String) (r : V → List V → Hp → VK → Prop) (to : TE) (t : TA) : TE := fun σ H Q => to σ H fun x H1 => tyV K T x H1 ∧ t σ H1 fun xs H2 => r x xs H2 Q
variable {o e : Expr} {es : List Expr} {to : TE} {t : TA} {name : Str} {apos cpos : Pos} {T id : String} {r : V → List V → Hp → VK → Prop}
theorem pe_bm (pa : PlainAttrs T) (slot : Slot T name id) (hty : typeOf (.builtin id) = pure (.type "method_descriptor")) (hm : MtR X id r) (ho : PE X o to) (ha : PA X (e :: es) t)
    (hbase : attributeBase o name X.env (eval o X.env) = eval o X.env := by rfl)
    (hfew : ((backTo cpos (starEach (e :: es) X.env)).all (fun x => !x.1) && (backToKw cpos (keywordEach [] X.env)).all (fun x => x.1.isSome)
      && decide ((e :: es).length + ([] : List Keyword).length + (if ([] : List Keyword).isEmpty then 0 else 1) < 30)) = true := by rfl)
    (hline : (apos.endLine == cpos.line) = true := by rfl) (hs : starEach (e :: es) X.env = (false, eval e X.env) :: starEach es X.env := by rfl) (hplain : (backTo cpos (starEach es X.env)).any (·.1) = false := by rfl) :
    PE X (.Call (.Attribute o name apos) (e :: es) [] cpos) (tBM X.K T r to t) := by
  intro pins s σ H Q I h
  refine wpAny_Call_method_late hbase hfew hline rfl (thn (ho pins s σ H _ I h) fun v s1 ⟨x, H1, I1, r1, ty, q1⟩ => ?_)
  obtain ⟨h1, h2⟩ := tyV_is I1 r1 ty
  refine ⟨T, id, pa, slot, hty, h1, h2, ?_⟩
  have hA := ha cpos pins s1 σ H1 _ I1 q1
  rw [hs] at hA ⊢
  refine Calls.callWith_builtin (by show (false || (backTo cpos (starEach es X.env)).any (·.1)) = false; rw [hplain] <;> rfl) (Calls.evalArgs_plain ?_)
  exact thn hA fun us s2 ⟨vs, H2, I2, r2, q2⟩ => hm pins s2 σ H2 x vs v us Q I2 r1 r2 q2
/- xs.append(e), list.index on a module's tuple .. are MtR facts of 06m -/
end
end L2

namespace L2
open PySem PySem.Spec PyProof.Rows

def MtM (X : Cx) (id : String) (r : V → List V → Hp → VK → Prop) : Prop :=
  ∀ (pins : List (Addr × Obj)) (s : Shared) (σ : St) (H : Hp) (x : V) (xs : List V) (v : Value) (us : List Value) (Q : VK), Inv X pins σ H s → RelV x v → Vals xs us → r x xs H Q →
    wpAny (model X.prog X.w) X.A (call (.builtin id) (v :: us)) (EP X pins σ Q) X.xe s

/-! ### lists of values -/
theorem Vals.one : ∀ {x : V} {us : List Value}, Vals [x] us → ∃ u, us = [u] ∧ RelV x u
  | _, _, .cons r .nil => ⟨_, rfl, r⟩
theorem Vals.two : ∀ {x y : V} {us : List Value}, Vals [x, y] us → ∃ u v, us = [u, v] ∧ RelV x u ∧ RelV y v
  | _, _, _, .cons r (.cons q .nil) => ⟨_, _, rfl, r, q⟩
theorem Vals.eraseIdx : ∀ {xs : List V} {us : List Value} (i : Nat), Vals xs us → Vals (xs.eraseIdx i) (us.eraseIdx i)
  | _, _, _, .nil => .nil
  | _, _, 0, .cons _ t => t
  | _, _, i + 1, .cons r t => .cons r (Vals.eraseIdx i t)
theorem Vals.reverse {xs : List V} {us : List Value} (h : Vals xs us) : Vals xs.reverse us.reverse := by
  induction h with
  | nil => exact .nil
  | cons r t ih => rw [List.reverse_cons, List.reverse_cons]; exact Vals.append ih (.cons r .nil)
theorem len_erase {α : Type} : ∀ (l : List α) (i : Nat), (l.eraseIdx i).length ≤ l.length
  | [], _ => Nat.le_refl _
  | _ :: _, 0 => Nat.le_succ _
  | _ :: r, i + 1 => Nat.succ_le_succ (len_erase r i)
section
variable {X : Cx} {pins : List (Addr × Obj)} {σ : St} {H : Hp} {s : Shared} {l b : Addr} {xs ys zs : List V}

/-! ### the two steps: a tracked list is rewritten, a new list is laid -/
theorem Inv.lset {its its' : List Value} {n : Nat} {f : Array Value → Array Value} {t' : Nat} (I : Inv X pins σ H s) (hH : H l = some (.lst xs))
    (e : s.heap.get? l = some { cls := .type "list", data := .seq its.toArray n }) (hf : f its.toArray = its'.toArray) (hv : Vals ys its') (hz : ys.length ≤ sizeLine) :
    Inv X pins σ (upd H l (.lst ys)) { s with heap := s.heap.update l (Obj.mapSeq f), toks := t' } := by
  have q := PySem.IsL.update e f
  rw [hf] at q
  refine I.write (x := l) (e := l) (by rw [hH]; exact trivial) (.inl rfl) (fun b' u hb hu => (Heap.get?_update_other s.heap (Obj.mapSeq f) (Ne.symm hb)).trans hu) ⟨_, q⟩ ?_
  exact ⟨hz, its', _, hv, q⟩
theorem Inv.lnew {its : List Value} {t' : Nat} (I : Inv X pins σ H s) (hv : Vals ys its) (hz : ys.length ≤ sizeLine) :
    Inv X pins σ (upd H s.heap.objs.size (.lst ys)) { s with heap := s.heap.push { cls := .type "list", data := .seq its.toArray }, toks := t' } :=
  I.laid (fun _ _ q => Heap.get?_push_of_some _ q) (Nat.le_refl _) ⟨hz, its, 0, hv, Heap.get?_push_size _ rfl⟩
theorem Inv.fresh (I : Inv X pins σ H s) : H s.heap.objs.size = none := I.hok.fresh (Nat.le_refl _)
theorem Inv.lstM (I : Inv X pins σ H s) (hH : H l = some (.lst xs)) : xs.length ≤ sizeLine ∧ ∃ (its : List Value) (n : Nat), Vals xs its ∧ xs.length = its.length ∧ s.heap.get? l = some { cls := .type "list", data := .seq its.toArray n } := by
  obtain ⟨z, its, n, r, e⟩ := I.hok l _ hH
  exact ⟨z, its, n, r, r.length, e⟩

end

section
variable {X : Cx}

/-! ### methods -/
def rAppend : V → List V → Hp → VK → Prop := fun x vs H Q => ∃ l xs y, x = .ref l ∧ vs = [y] ∧ H l = some (.lst xs) ∧ xs.length < sizeLine ∧ Q .non (upd H l (.lst (xs ++ [y])))
theorem mt_append : MtM X "list.append" rAppend := by
  intro pins s σ H x vs v us Q I rx rv h
  obtain ⟨l, xs, y, rfl, rfl, hH, hz, q⟩ := h
  cases rx
  obtain ⟨u, rfl, ru⟩ := rv.one
  obtain ⟨z, its, n, r, hl, e⟩ := I.lstM hH
  refine call_meets F.slot_list_append ⟨_, e, rfl⟩ F.entry_list_append (F.args_list_append_2 _ _) (PySem.list_append l its.toArray n u (by rw [List.size_toArray]; omega)) ⟨e, ?_⟩
  refine ⟨.non, _, I.lset (its' := its ++ [u]) hH e (by simp) (r.append (.cons ru .nil)) ?_, rfl, q⟩
  rw [List.length_append, List.length_singleton]
  omega

def rExtend : V → List V → Hp → VK → Prop := fun x vs H Q => ∃ l b xs zs, x = .ref l ∧ vs = [.ref b] ∧ H l = some (.lst xs) ∧ H b = some (.lst zs) ∧ xs.length + zs.length ≤ sizeLine ∧ Q .non (upd H l (.lst (xs ++ zs)))
def rPop : V → List V → Hp → VK → Prop := fun x vs H Q => ∃ l xs y, x = .ref l ∧ vs = [] ∧ H l = some (.lst xs) ∧ xs[xs.length - 1]? = some y ∧ Q y (upd H l (.lst xs.dropLast))
def rPopAt : V → List V → Hp → VK → Prop := fun x vs H Q => ∃ l xs i k y, x = .ref l ∧ vs = [.int i] ∧ H l = some (.lst xs) ∧ -(2 ^ 63) ≤ i ∧ i < 2 ^ 63 ∧ seqIndex? i xs.length = some k ∧ xs[k]? = some y ∧ Q y (upd H l (.lst (xs.eraseIdx k)))
theorem mt_popAt : MtM X "list.pop" rPopAt := by
  intro pins s σ H x vs v us Q I rx rv h
  obtain ⟨l, xs, i, k, y, rfl, rfl, hH, h1, h2, hk, hy, q⟩ := h
  cases rx
  obtain ⟨u, rfl, ru⟩ := rv.one
  obtain ⟨t, rfl⟩ := ru
  obtain ⟨z, its, n, r, hl, e⟩ := I.lstM hH
  obtain ⟨w, hw, rw'⟩ := r.get hy
  refine call_meets F.slot_list_pop ⟨_, e, rfl⟩ F.entry_list_pop (F.args_list_pop_2 _ _)
    (MeetsSeq.list_pop_at l its.toArray n i t k w (fitsIndex_both h1 h2) (by rw [List.size_toArray, ← hl]; exact hk) (by rw [← Array.getElem?_toList]; exact hw) (by rw [List.size_toArray]; omega)) ⟨e, ?_⟩
  refine ⟨y, _, I.lset (its' := its.eraseIdx k) hH e ?_ (r.eraseIdx k) ?_, rw', q⟩
  · show its.toArray.eraseIdxIfInBounds k = (its.eraseIdx k).toArray
    rw [List.eraseIdxIfInBounds_toArray]
  · have := len_erase xs k
    omega

def rReverse : V → List V → Hp → VK → Prop := fun x vs H Q => ∃ l xs, x = .ref l ∧ vs = [] ∧ H l = some (.lst xs) ∧ Q .non (upd H l (.lst xs.reverse))
def rClear : V → List V → Hp → VK → Prop := fun x vs H Q => ∃ l xs, x = .ref l ∧ vs = [] ∧ H l = some (.lst xs) ∧ Q .non (upd H l (.lst []))
/-! ### list + list, list += list, list * int -/
def rCat : R2 := fun x y H Q => ∃ l b xs zs, x = .ref l ∧ y = .ref b ∧ H l = some (.lst xs) ∧ H b = some (.lst zs) ∧ xs.length + zs.length ≤ sizeLine ∧ ∀ p, H p = none → Q (.ref p) (upd H p (.lst (xs ++ zs)))
theorem op_cat : OpR X (binaryOp .Add) rCat := by
  intro pins s σ H x y v u Q I rx ry h
  obtain ⟨l, b, xs, zs, rfl, rfl, hH, hB, hz, q⟩ := h
  cases rx
  cases ry
  obtain ⟨z, its, n, r, hl, e⟩ := I.lstM hH
  obtain ⟨z2, its2, n2, r2, hl2, e2⟩ := I.lstM hB
  refine PySem.P.add_list e e2 ?_ (by rw [List.size_toArray, List.size_toArray]; omega)
  have ea : its.toArray ++ its2.toArray = (its ++ its2).toArray := by simp
  rw [ea]
  exact ⟨.ref _, _, I.lnew (t' := s.toks) (r.append r2) (by rw [List.length_append]; omega), rfl, q _ I.fresh⟩
/-- a list times an int (a negative one is nothing) -/
def rRep : R2 := fun x y H Q => ∃ l k xs, x = .ref l ∧ y = .int k ∧ H l = some (.lst xs) ∧ -(2 ^ 63) ≤ k ∧ k < 2 ^ 63 ∧ xs.length * k.toNat ≤ sizeLine ∧
  ∀ p, H p = none → Q (.ref p) (upd H p (.lst (List.replicate k.toNat xs).flatten))
/-! ### del xs[i] -/
end

/-! ### xs[a:b] = ys -/
section
variable {prog : Program} {w : World} {A : Around} {E : Value → Shared → Prop} {s : Shared}
end

section
variable {X : Cx}
end
end L2

namespace Att
open PySem PySem.W PySem.Calls PyProof.Rows

/-! ### the script -/
theorem ints_of_wellAll {P : Params} {h : Heap} : ∀ (ns : List Int) (vs : List Value), WellAll P h vs (ns.map WData.int) → IntsAre vs ns := by
  intro ns
  induction ns with
  | nil =>
    intro vs w
    rw [List.map_nil] at w
    cases w
    exact .nil
  | cons n ns ih =>
    intro vs w
    rw [List.map_cons] at w
    cases w with
    | cons a b =>
      cases a
      exact .cons _ _ (ih _ b)

theorem script_of {l : OpenLaw} {n : Nat} (hn : l.most = some n) {P : Params} {h : Heap} {args : List WData} {vals : List Value}
    (hpre : l.row.toRowW.claim.pre args = true) (hwl : WellAll P h vals args) :
    ∃ a vs ns, vals = [Value.ref a] ∧ args = [WData.list (ns.map WData.int)] ∧ h.get? a = some { cls := .type "list", data := .seq vs.toArray } ∧ IntsAre vs ns ∧ ns.length ≤ n := by
  have hsh : WShape.hasAll [] args [.list .int] = true := (pre_splitW hpre).1
  have hc : l.pre.holds [] { args := args } = true := (pre_splitW hpre).2
  obtain ⟨d, r, rfl, h1, h2⟩ := hasAllW_cons hsh
  obtain rfl := hasAllW_nil h2
  obtain ⟨xs, rfl, h3⟩ := hasW_list h1
  obtain ⟨ns, rfl⟩ := items_int h3
  have hlen : ns.length ≤ n := by
    unfold OpenLaw.pre at hc
    have h4 : (WTm.not (.lt (.lit (.int (n : Int))) (.len (.arg 0)))).holds [] { args := [.list (ns.map .int)] } = true := by
      have h4 := (holds_andW hc).1
      rw [hn] at h4
      exact h4
    have h5 := condW_of h4 (w_not (w_lt w_lit (w_len_list (w_arg rfl))))
    rw [List.length_map] at h5
    refine Nat.le_of_not_lt fun q => ?_
    have q' : (n : Int) < ((ns.length : Nat) : Int) := by omega
    first
      | (rw [decide_eq_true q'] at h5; exact absurd h5 (by decide))
      | (simp at h5; omega)
  cases hwl with
  | cons w1 w2 =>
    cases w2
    cases w1 with
    | list ho hall => exact ⟨_, _, ns, rfl, rfl, ho, ints_of_wellAll ns _ hall, hlen⟩

theorem post_true (l : OpenLaw) (args : List WData) : l.row.toRowW.claim.post args (.bool true) args = true :=
  postW_of (r := l.row.toRowW) (X := (true == true))
    (show WShape.has [] (.bool true) .bool = true by first | rfl | decide | simp [WShape.has, WShape.arms, WShape.armsAll])
    (show (WTm.eq .res (.lit (.bool true))).value [] { args := args, res := some (.bool true), after := args } = some (.bool (true == true)) from w_eq_bool (w_res rfl) w_lit) rfl

/-! ### the attachment: holds_open's last premise (the goal 'hc' behind k_head) from a wpAny of the law's body -/
/-- the same from a codeAny of the CALL (for a layer whose function contracts speak of calls) -/
theorem attach_call {l : OpenLaw} {n : Nat} {q : Program} {loose : List Str} {XP : (Str → Option Value) → Heap → Prop} {YP : World → Heap → Prop} {d : DefRec}
    (hn : l.most = some n) (hdf : d.params.defaults = [])
    (call : ∀ (w : World) (s₀ s₁ : Shared) (mg mb : Str → Option Value) (fa : Addr) (o : Obj) (pm cd doc : Value) (a : Addr) (vs : List Value) (ns : List Int),
      Ground q loose [] XP w s₀ mg mb s₁.heap → YP w s₁.heap →
      s₁.heap.get? fa = some o → o.data = .func (docDef d.name d.params d.body d.scope pm cd doc) → s₁.heap.CodeRec cd d.name → mg d.name = some (.ref fa) →
      s₁.heap.get? a = some { cls := .type "list", data := .seq vs.toArray } → IntsAre vs ns → ns.length ≤ n → s₁.gens = #[] →
      codeAny (model l.prog w) callerA (.call (.ref fa) ⟨[.ref a], []⟩) (fun r s' => r = .ok (.ret (.bool true)) ∧ OldK s₁.heap s'.heap ∧ s'.os = s₁.os ∧ AllBare s'.gens) s₁) :
    WalkO q loose XP YP l.row.toRowW d [] (fun f vs => PySem.call f vs) := by
  intro w s₀ s₁ mg mb G Y fa o pm cd doc dV kV ho hd hcd hD hmg hg args vals as hpre hlay hrd hwl hlo
  obtain rfl : dV = .none := Dflts.none hD hdf
  obtain rfl : kV = .none := Dflts.noKw hD
  obtain ⟨a, vs, ns, rfl, rfl, hobj, hints, hlen⟩ := script_of hn hpre hwl
  refine enter_call (codeAny_mono (call w s₀ s₁ mg mb fa o pm cd doc a vs ns G Y ho (fd_plain hd) hcd hmg hobj hints hlen hg) fun r s' hq => ?_)
  obtain ⟨rfl, h2, h3, h4⟩ := hq
  exact ⟨.inl ⟨.bool true, .bool true, [], rfl, fun _ => rfl, .bool true, post_true l _, fun _ => ⟨List.Pairwise.nil, fun _ hm => (nomatch hm)⟩⟩, h2, h3, h4⟩

/-! ### rules over ANY heap (no ledger) from facts about the written part K: the library's own take a ledger (News) for what they write -/
section
variable {prog : Program} {w : World} {A : Around} {E : Value → Shared → Prop} {s : Shared} {K : Frag}

/-! the whole heap as the ledger: makes every rule that writes through a ledger a rule over any heap -/
def noObjs (h : Heap) : Heap := { h with objs := #[] }
def ledger (h : Heap) (L d : Addr) : List (Addr × Obj) := (List.range h.objs.size).filterMap fun a => if a = L ∨ a = d then none else (h.get? a).map fun o => (a, o)
end
end Att

namespace L2
open PySem PySem.Spec PyProof.Rows

theorem vals_ints : ∀ {vs : List Value} {ns : List Int}, IntsAre vs ns → Vals (ns.map V.int) vs
  | _, _, .nil => .nil
  | _, _, .cons n t h => .cons ⟨t, rfl⟩ (vals_ints h)

/-- nothing is tracked but the script, known to the object (or it is an object of the module) -/
def Only (H : Hp) : Prop := ∀ b, H b = none ∨ ∃ o xs, H b = some (.frz o (.lst xs))

/-- THE HEAD: the law's promise, at the heap behind the top. F, the promise of the law's def, may use that base is part of the heap (so K.In base, base.Ns mainGlobals mg stand in Mod) -/
theorem law_call {P : Program} {w : World} {K : PySem.W.Frag} {mg mb : Str → Option Value} {CX : CXT} {k : Nat} {fa a : Addr} {fd : FuncData} {x : Str} {sp : Sp} {s₁ : Shared} {vs : List Value} {ns : List Int}
    (KX : K.In s₁.heap) (hns : s₁.heap.Ns mainGlobals mg) (hb : s₁.heap.Ns builtinsNs mb) (hbb : ∀ x : Str, x ≠ "__name__" → mb x = bootBuiltins x) (hlim : s₁.heap.NoLimit) (hg : s₁.gens = #[])
    (ha : s₁.heap.get? a = some { cls := .type "list", data := .seq vs.toArray }) (hi : IntsAre vs ns) (hl : ns.length ≤ sizeLine) (hr : Room k callerA)
    (F : ∀ base : Heap, K.In base → base.Ns mainGlobals mg → FnOk P w K mg base CX k fa fd [x] sp) (hbind : ∀ (s : Shared) (u : Value), BindsTo s fd ⟨[u], []⟩ [(x, u)])
    (hsp : ∀ H : Hp, Only H → SqL K H a (ns.map V.int) → sp [.ref a] H (fun v _ => v = .bl true) fun _ _ _ => False)
    (hCX : ∀ H e s', CX [] H s₁ (fun _ _ _ => False) e s' → False) :
    codeAny (model P w) callerA (.call (.ref fa) ⟨[.ref a], []⟩) (fun r s' => r = .ok (.ret (.bool true)) ∧ OldK s₁.heap s'.heap ∧ s'.os = s₁.os ∧ AllBare s'.gens) s₁ := by
  have rv := vals_ints hi
  have lenV := hi.length
  -- from an abstract heap in which nothing but the script may be tracked
  have core : ∀ H : Hp, Only H → SqL K H a (ns.map V.int) → HOk P w H s₁.heap → (∀ b, H b ≠ none → b = a) → (H a ≠ none → K.lookup a = none) →
      codeAny (model P w) callerA (.call (.ref fa) ⟨[.ref a], []⟩) (fun r s' => r = .ok (.ret (.bool true)) ∧ OldK s₁.heap s'.heap ∧ s'.os = s₁.os ∧ AllBare s'.gens) s₁ := by
    intro H hO hS hok hA hK
    have base_of : ∀ {b : Addr} {o : Obj}, s₁.heap.get? b = some o → H b = none → (hidT s₁.heap H).get? b = some o := fun e n => hidT_get e n
    have noA : ∀ {b : Addr} {o : Obj} {es : Array DictEntry} {ep : Nat}, s₁.heap.get? b = some o → o.data = .dict es ep → H b = none := fun {b o es ep} e d => by
      cases q : H b with
      | none => rfl
      | some u =>
        have e' : b = a := hA b (by rw [q]; simp)
        subst e'
        rw [ha] at e; cases e
        have d' : Data.seq vs.toArray _ = Data.dict es ep := d
        cases d'
    have nsK : ∀ {b : Addr} {m : Str → Option Value}, s₁.heap.Ns b m → (hidT s₁.heap H).Ns b m := fun {b m} ⟨o, es, ep, e, d, r⟩ => ⟨o, es, ep, base_of e (noA e d), d, r⟩
    have hKb : K.In (hidT s₁.heap H) := fun b o e => base_of (KX b o e) (by
      cases q : H b with
      | none => rfl
      | some u =>
        have e' : b = a := hA b (by rw [q]; simp)
        subst e'
        rw [hK (by rw [q]; simp)] at e; cases e)
    have hM : Mod K mg (hidT s₁.heap H) := ⟨hKb, nsK hns, ⟨mb, nsK hb, hbb⟩, let ⟨mc, h1, h2⟩ := hlim; ⟨mc, nsK h1, h2⟩⟩
    have e0 : Env0 P w K mg (hidT s₁.heap H) callerA [] s₁ H := ⟨rfl, hM, fun b o e => of_hidT e, Nat.le_of_eq (hidT_size _ _), trivial, fun b hb => absurd (show b ∈ ([] : List Addr) from hb) (by simp), hok, .of_eq hg⟩
    refine codeAny_mono ((F _ hKb (nsK hns)).run callerA [] s₁ H ⟨[.ref a], []⟩ [.ref a] [.ref a] _ _ hr e0 (hbind s₁ (.ref a)) (.cons rfl .nil) (hsp H hO hS)) fun r s' h => ?_
    cases r with
    | error e => exact (hCX H e s' h).elim
    | ok fl =>
      cases fl with
      | next => exact False.elim h
      | brk => exact False.elim h
      | cont => exact False.elim h
      | ret u =>
        obtain ⟨v, H', os, bare, un, hok', r', q⟩ := h
        have q' : v = .bl true := q
        subst q'
        obtain rfl : u = Value.bool true := r'
        refine ⟨rfl, OldK.of_keep fun b o e => ?_, os, bare⟩
        cases q : H b with
        | none => exact un.keep b o e q (by intro z; exact absurd (show b ∈ ([] : List Addr) from z) (by simp)) (by simp)
        | some u =>
          rcases hO b with z | ⟨ob, xs, z⟩
          · rw [q] at z; cases z
          · have z2 := un.frzs b ob _ z
            obtain ⟨e1, _⟩ := hok b _ z
            obtain ⟨e2, _⟩ := hok' b _ z2
            rw [e] at e1; cases e1
            exact e2
  cases hk : K.lookup a with
  | some o =>
    -- the script is one of the module's own objects
    have e := KX a o hk
    rw [ha] at e
    cases e
    refine core (fun _ => none) (fun _ => .inl rfl) (.inr ⟨_, vs.toArray, _, hk, rfl, rfl, rfl, by rw [List.size_toArray, lenV]; exact hl, by simpa using rv⟩) (fun b u z => by have z' : (none : Option HO) = some u := z; cases z') (fun b z => absurd rfl z) fun z => absurd rfl z
  | none =>
    refine core (fun b => if b = a then some (.frz { cls := .type "list", data := .seq vs.toArray } (.lst (ns.map V.int))) else none) (fun b => ?_) (.inl (.inr ⟨{ cls := .type "list", data := .seq vs.toArray }, if_pos rfl⟩)) (fun b u z => ?_) (fun b z => ?_) fun _ => hk
    · by_cases hb : b = a
      · exact .inr ⟨_, _, if_pos hb⟩
      · exact .inl (if_neg hb)
    · by_cases hb : b = a
      · have z' := (if_pos hb).symm.trans z
        cases z'
        subst hb
        exact ⟨ha, by rw [List.length_map]; exact hl, vs, _, rv, ha⟩
      · have z' := (if_neg hb).symm.trans z
        cases z'
    · by_cases hb : b = a
      · exact hb
      · exact absurd (if_neg hb) z
end L2

namespace L2
open PySem PySem.Spec PyProof.Rows

abbrev KOf {K : PySem.W.Frag} {h : Heap} (_ : K.In h) : PySem.W.Frag := K

/-- the goal that k_head leaves (case hc), from the law's promise. F gives the function object fd (K's own) once, then the promise over every base -/
theorem walk_of {l : PySem.W.OpenLaw} {n k : Nat} {q : Program} {loose : List Str} {XP : (Str → Option Value) → Heap → Prop} {YP : World → Heap → Prop} {d : DefRec} {K : Params → PySem.W.Frag} {CX : World → CXT} {sp : World → Sp} {x : Str}
    (hn : l.most = some n) (hn2 : n ≤ sizeLine) (hdf : d.params.defaults = []) (hr : Room k callerA)
    (hY : ∀ (w : World) (h : Heap), YP w h → (K w.params).In h)
    (F : ∀ (w : World) (mg : Str → Option Value) (fa : Addr) (h : Heap), (K w.params).In h → h.Ns mainGlobals mg → mg d.name = some (.ref fa) →
      ∃ fd : FuncData, (∀ (s : Shared) (u : Value), BindsTo s fd ⟨[u], []⟩ [(x, u)]) ∧
        ∀ base : Heap, (K w.params).In base → base.Ns mainGlobals mg → FnOk l.prog w (K w.params) mg base (CX w) k fa fd [x] (sp w))
    (hsp : ∀ (w : World) (H : Hp) (a : Addr) (ns : List Int), ns.length ≤ n → Only H → SqL (K w.params) H a (ns.map V.int) → sp w [.ref a] H (fun v _ => v = .bl true) fun _ _ _ => False)
    (hCX : ∀ (w : World) (H : Hp) (s : Shared) (e : Value) (s' : Shared), CX w [] H s (fun _ _ _ => False) e s' → False) :
    PySem.W.WalkO q loose XP YP l.row.toRowW d [] (fun f vs => PySem.call f vs) := by
  refine Att.attach_call hn hdf fun w s₀ s₁ mg mb fa o pm cd doc a vs ns G Y ho hd hcd hmg hobj hints hlen hg => ?_
  have KX := hY w _ Y
  obtain ⟨fd, hb, hF⟩ := F w mg fa _ KX G.T.g hmg
  exact law_call KX G.T.g G.T.b G.T.builtins G.T.nolimit hg hobj hints (Nat.le_trans hlen hn2) hr hF hb (fun H hO hS => hsp w H a ns hlen hO hS) fun H e s' => hCX w H s₁ e s'
end L2

/- THE LAST THEOREM (shape; LID, My.* are yours):
   My.Adr: a structure of the addresses that your layer names (classes, functions); My.Txt K t: a structure (Prop) of the equations over K;
   My.txt_mk : {K} {implicit addresses ..} (e1 : nsIn K mainGlobals "law" = some (some (.ref f))) (e2 : K.lookup f = some ⟨oc, od, .func (fnOf "law" "law" params body scope dV kV doc pm an cdv ct), sl⟩) (e3 : codeIn K cdv "law" = true) .. : ∃ t, My.Txt K t

set_option maxRecDepth 100000 in
set_option maxHeartbeats 0 in
theorem PySem.Challenge.cw_LID_holds : PySem.Challenge.rw_LID.Holds := by
  w_on; o_law; k_head; (case hw => w_witness2)
  k_fill
  refine L2.walk_of (l := PySem.Challenge.rw_LID) (n := 63) (k := 40) (x := "script") (CX := fun w => ..) (sp := fun _ => My.sp_law) rfl (by decide) rfl ⟨rfl, by decide, by decide⟩ (fun w h Y => PySem.W.kIn_of Y) ?F ?S ?C
  case F =>
    intro w mg fa h KX G hmg
    have T : ∃ t, My.Txt (L2.KOf KX) t := by
      dsimp only [L2.KOf]                          -- K must stand as «<heap const> w.params» for k_is
      refine' My.txt_mk ?e1 ?e2 ?e3 ..
      (case e1 => PySem.W.k_is)                    -- in the order: a name -> its address -> its object -> its parts
      (case e2 => PySem.W.k_is)
      ..
    obtain ⟨t, T⟩ := T
    have e0 := hmg.symm.trans (PySem.W.mg_of KX G T.law)
    cases e0                                       -- fa is the law's own address
    exact ⟨_, fun s u => .of_eq rfl, fun base kb nb => My.law_fn T kb nb⟩     -- if «.of_eq rfl» comes too early: refine' ⟨_, ?b, fun base kb nb => My.law_fn T kb nb⟩; exact fun s u => .of_eq rfl
  case S => exact fun w H a ns hl hO hS => ..
  case C => exact ..
(the tactic k_is has no namespace: write k_is) -/

/-! SHORT WORDS over the layer: a def of the text, its body, what a loop and a test want. -/
namespace L2
open PySem PySem.Spec PyProof.Rows

/-! ### the text by places -/
/-- the j-th statement of a class's body -/
def inClass (s : Stmt) (j : Nat) : Stmt := match s with
  | .ClassDef _ _ _ body _ _ _ _ _ _ _ => body.getD j (.Pass ⟨0, 0, 0, 0⟩)
  | _ => .Pass ⟨0, 0, 0, 0⟩
def defArgs (s : Stmt) : Arguments := match s with
  | .FunctionDef _ a _ _ _ _ _ _ _ _ => a
  | _ => { posonlyargs := [], args := [], vararg := none, kwonlyargs := [], kw_defaults := [], kwarg := none, defaults := [] }
def defBody (s : Stmt) : List Stmt := match s with
  | .FunctionDef _ _ b _ _ _ _ _ _ _ => b
  | _ => []
def defScope (s : Stmt) : Scope := match s with
  | .FunctionDef _ _ _ _ _ _ sc _ _ _ => sc
  | _ => { kind := .function, names := [], isGenerator := false, isCoroutine := false }

/-! ### no exception leaves a def -/
abbrev CX0 : CXT := fun _ _ _ _ _ _ => False
abbrev E0 : XK := fun _ _ _ => False
theorem pass0 {X : Cx} : Passes CX0 X E0 := fun _ _ _ _ _ _ _ h => h.elim

/-! ### a def (or method) of the text as it stands behind the top -/
structure Fun (K : PySem.W.Frag) (x qual : Str) (st : Stmt) (f : Addr) (fd : FuncData) : Prop where
  ex : ∃ (oc : Value) (od : Option Addr) (kV doc pm : Value) (an : Option Addr) (cdv ct : Value) (osl : Array (Option Value)),
    fd = PySem.W.fnOf x qual (defArgs st) (defBody st) (defScope st) .none kV doc pm an cdv ct ∧ K.lookup f = some ⟨oc, od, .func fd, osl⟩ ∧ PySem.W.codeIn K cdv qual = true
  kp : PySem.W.keepIn K (.ref f) = true
section
variable {P : Program} {w : World} {K : PySem.W.Frag} {mg : Str → Option Value} {base : Heap}
/-- THE RULE for a def: its body as a term of rules, and the reading of that term -/
theorem Fun.ok {x qual : Str} {st : Stmt} {f : Addr} {fd : FuncData} {N ps : List Str} {k : Nat} {sp : Sp} (F : Fun K x qual st f fd) (S : FnScope N ps (defScope st)) (len : ∀ vs H Q E, sp vs H Q E → vs.length = ps.length)
    (hbody : ∀ (cdv : Value) (A : Around) (outer : List Env) (s : Shared) (H : Hp) (vs : List V) (Q : VK) (E : XK), Room k (A.deeper (envOfC qual (defScope st) s.heap.objs.size f cdv)) → sp vs H Q E →
      ∃ t, PSs (cxOf CX0 P w K mg base N qual (defScope st) f cdv A outer s H E).nox (defBody st) t ∧ t { nx := fun _ H' => Q .non H', rt := Q } (start N vs) H) : FnOk P w K mg base CX0 (k + 1) f fd ps sp := by
  obtain ⟨oc, od, kV, doc, pm, an, cdv, ct, osl, rfl, lk, hcd⟩ := F.ex
  refine fn_of lk hcd S len fun A outer s H vs Q E hr hsp => ?_
  obtain ⟨t, h, q⟩ := hbody cdv A outer s H vs Q E hr hsp
  exact ⟨t, h.nox, q⟩
/-- how its arguments bind (no defaults): h is «fun _ _ _ _ _ _ us hl => match us, hl with | [_, _], _ => rfl», one _ a parameter -/
theorem Fun.binds {x qual : Str} {st : Stmt} {f : Addr} {fd : FuncData} {ps : List Str} (F : Fun K x qual st f fd)
    (h : ∀ (kV doc pm : Value) (an : Option Addr) (cdv ct : Value) (us : List Value), us.length = ps.length → bindArgs (PySem.W.fnOf x qual (defArgs st) (defBody st) (defScope st) .none kV doc pm an cdv ct) ⟨us, []⟩ = pure (ps.zip us)) : Binds K fd ps [] := by
  obtain ⟨oc, od, kV, doc, pm, an, cdv, ct, osl, rfl, lk, hcd⟩ := F.ex
  exact .all (h kV doc pm an cdv ct)
theorem fun_mk {x qual : Str} {st : Stmt} {f : Addr} {oc : Value} {od an : Option Addr} {osl : Array (Option Value)} {kV doc pm cdv ct : Value} (l : K.lookup f = some ⟨oc, od, .func (PySem.W.fnOf x qual (defArgs st) (defBody st) (defScope st) .none kV doc pm an cdv ct), osl⟩)
    (c : PySem.W.codeIn K cdv qual = true) (k : PySem.W.keepIn K (.ref f) = true) : Fun K x qual st f (PySem.W.fnOf x qual (defArgs st) (defBody st) (defScope st) .none kV doc pm an cdv ct) := ⟨⟨oc, od, kV, doc, pm, an, cdv, ct, osl, rfl, l, c⟩, k⟩
end
/-! ### expressions in short: the name that stands in the i-th slot -/
section
variable {X : Cx}
theorem pv (i : Nat) {x : Str} {pos : Pos} (hN : X.N[i]? = some x := by rfl) (hv : Vis X.env.scope x := by first | exact Or.inl rfl | exact Or.inr (Or.inl rfl) | exact Or.inr (Or.inr rfl)) (hd : (x == ("__debug__" : Str)) = false := by decide)
    (hcd : (x == ("__classdict__" : Str)) = false := by decide) : PE X (.Name x pos) (tVar i) := pe_var hN hv hd hcd
end

/-! ### tests -/
theorem iteF {A B : Prop} (h : B) : if false = true then A else B := by
  rw [if_neg Bool.false_ne_true]
  exact h
theorem iteT {A B : Prop} (h : A) : if true = true then A else B := by
  rw [if_pos rfl]
  exact h
theorem ite2 {c A B : Prop} [Decidable c] (h1 : c → A) (h2 : ¬ c → B) : if c then A else B := by
  by_cases h : c
  · rw [if_pos h]
    exact h1 h
  · rw [if_neg h]
    exact h2 h
/-! ### heaps -/
/-- all that was tracked is as it was -/
def Same (H H' : Hp) : Prop := ∀ b o, H b = some o → H' b = some o
theorem Same.refl (H : Hp) : Same H H := fun _ _ h => h
theorem Same.trans {H H1 H2 : Hp} (a : Same H H1) (b : Same H1 H2) : Same H H2 := fun c o h => b c o (a c o h)
theorem Same.free {H H' : Hp} (e : Same H H') {l : Addr} (h : H' l = Option.none) : H l = Option.none := by
  cases q : H l with
  | none => rfl
  | some o =>
    rw [e l o q] at h
    cases h
theorem Same.seq {K : PySem.W.Frag} {H H' : Hp} {a : Addr} {xs : List V} (e : Same H H') (h : SqL K H a xs) : SqL K H' a xs := by
  rcases h with (h | ⟨o, h⟩) | h
  · exact .inl (.inl (e _ _ h))
  · exact .inl (.inr ⟨o, e _ _ h⟩)
  · exact .inr h

end L2
namespace L2
open PySem PySem.Spec PyProof.Rows

/-! ### a list comprehension with one clause, as a block of its own -/
section
variable {prog : Program} {w : World} {A : Around} {R : Result → Shared → Prop} {s : Shared}
theorem compLoop_own {elt target iter : Expr} {ifs : List Expr} {scope : Scope} {pos : Pos} {it acc : Value} {env : Env} (I : Nat → Shared → Prop)
    (turn : ∀ n s, I n s → wpAny (model prog w) A (pyNext it) (fun r s1 => match r with
      | none => R (.ok .next) s1
      | some v => wpAny (model prog w) A (letOwnedTupleGo target it v) (fun _ s1' => wpAny (model prog w) A (assign target env v) (fun _ s2 =>
          wpAny (model prog w) A (forIn ifs true fun c r => if r = true then do let ok ← isTrue c env (eval c env); pure (ForInStep.yield ok) else pure (ForInStep.yield r)) (fun ok s3 =>
            if ok = true then wpAny (model prog w) A (eval elt env) (fun x s4 =>
              wpAny (model prog w) A (call (.builtin "list.append") [acc, x]) (fun _ s5 => ∃ m, m < n ∧ I m s5) (fun _ _ => False) s4) (fun _ _ => False) s3
            else ∃ m, m < n ∧ I m s3) (fun _ _ => False) s2) (fun _ _ => False) s1') (fun _ _ => False) s1) (fun _ _ => False) s)
    (n : Nat) (h : I n s) :
    codeAny (model prog w) A (.compLoop (.ListComp elt [⟨target, iter, ifs, 0⟩] scope pos) 0 it acc env) R s := by
  have ff : ∀ {E : Value → Shared → Prop}, ∀ (x : Value) (s : Shared), (fun (_ : Value) (_ : Shared) => False) x s → E x s := fun _ _ z => False.elim z
  refine codeAny_loop rfl I (fun n s hI => ?_) n h
  show wpAny _ A ((compTurn (.ListComp elt [⟨target, iter, ifs, 0⟩] scope pos) 0 it acc env).onRaise (fun x => do noteFrame x env; theTreesLotGoes x)) _ _ s
  refine wpAny_noted ?_
  rw [compTurn_list]
  refine wpAny_bind (wpAny_standAt (wpAny_bind (wpAny_mono (turn n s hI) (fun r s1 h1 => ?_) ff)))
  cases r with
  | none => exact wpAny_pure h1
  | some v =>
    refine wpAny_bind (wpAny_mono h1 (fun _ s1' h1' => ?_) ff)
    refine wpAny_bind (wpAny_mono h1' (fun _ s2 h2 => wpAny_bind (wpAny_mono h2 (fun ok s3 h3 => ?_) ff)) ff)
    cases ok with
    | false => exact wpAny_pure ⟨rfl, h3⟩
    | true =>
      exact wpAny_bind (wpAny_bind (wpAny_mono h3 (fun x s4 h4 => wpAny_bind (wpAny_mono h4 (fun _ s5 h5 => wpAny_pure (wpAny_pure ⟨rfl, h5⟩)) ff)) ff))
end

/-- the block's context: own names first, then the free ones; fp: the iterator's records -/
def Cx.comp (X : Cx) (scope : Scope) (cl : List (Str × Addr)) (N : List Str) (C : Addr) (s : Shared) (H : Hp) (fp : List Addr) : Cx :=
  { X with N := N, s₀ := s, H₀ := H, env := compEnvC scope cl C X.env, outer := X.stack, ex := fp, fn := fun _ => false, pn := [], xe := fun _ _ => False }

/-- the tests of a clause -/
def PIfs (X : Cx) (ifs : List Expr) (t : TT) : Prop :=
  ∀ (pins : List (Addr × Obj)) (s : Shared) (σ : St) (H : Hp) (Q : Bool → Hp → Prop), Inv X pins σ H s → t σ H Q →
    wpAny (model X.prog X.w) X.A (forIn ifs true fun c r => if r = true then do let ok ← isTrue c X.env (eval c X.env); pure (ForInStep.yield ok) else pure (ForInStep.yield r)) (TP X pins σ Q) X.xe s
def tYes : TT := fun _ H Q => Q true H
theorem pifs_nil {X : Cx} : PIfs X [] tYes := fun _ _ _ H _ I h => wpAny_tests_nil ⟨H, I, h⟩
theorem pifs_one {X : Cx} {c : Expr} {t : TT} (h : PT X c t) : PIfs X [c] t := fun pins s σ H Q I hw => wpAny_tests_one (h pins s σ H Q I hw)

/-- the free names: y stands at place j of the outer names -/
structure CompScope (X : Cx) (scope : Scope) (cl : List (Str × Addr)) (own : List Str) (fr : List (Str × Nat)) : Prop where
  clos : closureFor scope X.env = pure cl
  nocell : ∀ y ∈ scope.names, y.2 ≠ .cell
  kind : scope.kind = .function
  names : ∀ y ∈ scope.names, y.2 = .local → scope.names.lookup y.1 = some .local
  cls : ∀ y c, cl.lookup y = some c → X.env.cells.lookup y = some c
  has : ∀ y, ((relabel scope X.env).names.lookup y = some .cell ∨ (relabel scope X.env).names.lookup y = some .free) → ∃ c, cl.lookup y = some c
  free : ∀ p ∈ fr, X.N[p.2]? = some p.1 ∧ (X.env.kindOf p.1 = some .cell ∨ X.env.kindOf p.1 = some .free) ∧ ((relabel scope X.env).names.lookup p.1 = some .cell ∨ (relabel scope X.env).names.lookup p.1 = some .free)

/-- the block's names ahead of a turn -/
def compSt (own : List Str) (fr : List (Str × Nat)) (σ : St) : St := own.map (fun _ => none) ++ fr.map fun p => (σ[p.2]?).join

/-- what stood stands (the slots of the free names) -/
def keepSt : St → St → Prop
  | [], [] => True
  | none :: r, _ :: r' => keepSt r r'
  | some v :: r, some v' :: r' => v = v' ∧ keepSt r r'
  | _, _ => False
theorem keepSt_get : ∀ {a b : St}, keepSt a b → ∀ (i : Nat) (v : V), a[i]? = some (some v) → b[i]? = some (some v)
  | [], [], _, i, v, h => by simp at h
  | [], _ :: _, z, _, _, _ => z.elim
  | none :: r, [], z, _, _, _ => z.elim
  | some _ :: r, [], z, _, _, _ => z.elim
  | some _ :: r, none :: _, z, _, _, _ => z.elim
  | none :: r, _ :: r', z, 0, v, h => by simp at h
  | none :: r, _ :: r', z, i + 1, v, h => by
    have := keepSt_get (a := r) (b := r') z i v (by simpa using h)
    simpa using this
  | some x :: r, some x' :: r', z, 0, v, h => by
    obtain ⟨e, _⟩ := z
    subst e
    simpa using h
  | some x :: r, some x' :: r', z, i + 1, v, h => by
    have := keepSt_get (a := r) (b := r') z.2 i v (by simpa using h)
    simpa using this
/-- the reading: W by the turn, a measure, the items so far, the heap -/
def CompTurns (J : It) (D : Addr) (g : TG) (tc : TT) (te : TE) (σ0 : St) (W : Nat → Nat → List V → Hp → Prop) (R : Hp → Prop) : Prop :=
  ∀ i m ys H2, W i m ys H2 → (J.stop i H2 ∧ R H2) ∨ (J.go i H2 ∧ ∃ N : List V → Hp → Prop, (∀ ys' H', N ys' H' → ∃ m', m' < m ∧ W (i + 1) m' ys' H') ∧ ∀ x H3, J.yld i H2 x H3 → g x σ0 H3 fun σ4 H4 => keepSt σ0 σ4 ∧ tc σ4 H4 fun b H5 =>
    if b = true then te σ4 H5 fun y H6 => H6 D = some (.lst ys) ∧ ys.length < sizeLine ∧ N (ys ++ [y]) (upd H6 D (.lst (ys ++ [y])))
    else N ys H5)
def tComp (wi : TI) (g : TG) (tc : TT) (te : TE) (own : List Str) (fr : List (Str × Nat)) : TE := fun σ H Q => wi σ H fun J H1 => ∀ D, H1 D = none →
  ∃ W : Nat → Nat → List V → Hp → Prop, (∃ m, W 0 m [] (upd H1 D (.lst []))) ∧ CompTurns J D g tc te (compSt own fr σ) W fun H2 => Q (.ref D) H2

section
variable {X : Cx} {target iter elt : Expr} {ifs : List Expr} {scope : Scope} {cl : List (Str × Addr)} {own : List Str} {fr : List (Str × Nat)} {pos : Pos} {wi : TI} {g : TG} {tc : TT} {te : TE}

theorem Inv.sub_pins {pins pins' : List (Addr × Obj)} {σ : St} {H : Hp} {s : Shared} (I : Inv X pins σ H s) (h : ∀ p ∈ pins', p ∈ pins) : Inv X pins' σ H s := I.pins_of fun p hp => I.pin p (List.mem_append_right _ (h p hp))

theorem comp_ok {pins : List (Addr × Obj)} {σ : St} {H : Hp} {s : Shared} {C : Addr} {fp : List Addr} (S : CompScope X scope cl own fr) (I : Inv X pins σ H s) (hf : ∀ b ∈ fp, FpOk X pins H b) (hC : s.heap.objs.size ≤ C) (hfl : ∀ b ∈ fp, b < s.heap.objs.size) :
    (X.comp scope cl (own ++ fr.map (·.1)) C s H fp).Ok := by
  refine ⟨I.ok.mod, ?_, I.ok.glob, I.ok.blt, hC, fun x y c h1 h2 => I.ok.inj x y c (S.cls x c h1) (S.cls y c h2), S.has, fun x c z => absurd z (by simp [Cx.comp]), I.ok.hd, I.ok.frames, .inl rfl,
    fun b hb => ⟨Nat.ne_of_lt (Nat.lt_of_lt_of_le (hfl b hb) hC), fun x c h => (hf b hb).2.2.2.2.1 x c (S.cls x c h)⟩, I.bs, Nat.le_trans I.ok.bsz I.sz, fun b o e hb => ?_, fun b hb z => ?_, I.stack, I.stkFree⟩
  · show (relabel scope X.env).kind = .function
    exact S.kind
  · rcases (hf b hb).2.2.2.1 with z | z
    · exact I.ok.noex b o e z
    · exact absurd (Nat.lt_of_lt_of_le (Heap.lt_size e) (Nat.le_trans I.ok.bsz z)) (Nat.lt_irrefl _)
  · rcases List.mem_cons.mp (I.stkSub b z) with q | q
    · exact (hf b hb).2.1 q
    · exact (hf b hb).2.2.1 q

theorem compSt_len (own : List Str) (fr : List (Str × Nat)) (σ : St) : (compSt own fr σ).length = (own ++ fr.map (·.1)).length := by
  unfold compSt
  simp

/-- the block, from the iterator on -/
theorem comp_block {pins : List (Addr × Obj)} {σ : St} {H : Hp} {s : Shared} {it : Addr} {fp : List Addr} {tn : Nat → Heap → Prop} {J : It} {E : Value → Shared → Prop} {RR : Value → Addr → Result → Shared → Prop} {Rf : Addr → Hp → Prop}
    (hc : X.calm = true) (S : CompScope X scope cl own fr) (I : Inv X pins σ H s) (T : Turn X.prog X.w X.K target J fp it tn) (st : tn 0 s.heap) (hf : ∀ b ∈ fp, FpOk X pins H b)
    (hg : ∀ C s H fp, PG (X.comp scope cl (own ++ fr.map (·.1)) C s H fp) target g) (ht : ∀ C s H fp, PIfs (X.comp scope cl (own ++ fr.map (·.1)) C s H fp) ifs tc) (he : ∀ C s H fp, PE (X.comp scope cl (own ++ fr.map (·.1)) C s H fp) elt te)
    (hw : ∀ D, H D = none → ∃ W : Nat → Nat → List V → Hp → Prop, (∃ m, W 0 m [] (upd H D (.lst []))) ∧ CompTurns J D g tc te (compSt own fr σ) W (Rf D))
    (hRR : ∀ D C s' H', s.heap.objs.size ≤ C → C ≠ D → (∃ m, s'.heap.Ns C m) → H' C = none → Un (frs X.stack) fp H H' s.heap s'.heap → HOk X.prog X.w H' s'.heap → AllBare s'.gens → s'.os = s.os → Rf D H' → RR (.ref D) C (.ok .next) s') :
    wpAny (model X.prog X.w) X.A (newList []) (fun acc s3 => wpAny (model X.prog X.w) X.A (newFunctionEnv scope X.env.globals cl [] X.env.qual none .none (some X.env)) (fun cenv s4 =>
      codeAny (model X.prog X.w) X.A (.compStart (.ListComp elt [⟨target, iter, ifs, 0⟩] scope pos) 0 (.ref it) acc { cenv with scope := relabel scope X.env }) (RR acc cenv.locals) s4) E s3) E s := by
  have hfl : ∀ b ∈ fp, b < s.heap.objs.size := fun b hb => by
    obtain ⟨o, e, _⟩ := T.obj 0 s.heap st b hb
    exact Heap.lt_size e
  have hD : H s.heap.objs.size = none := I.fresh
  obtain ⟨W, ⟨m0, w0⟩, turns⟩ := hw s.heap.objs.size hD
  have I1 : Inv X pins σ (upd H s.heap.objs.size (.lst [])) { s with heap := s.heap.push { cls := .type "list", data := .seq ([] : List Value).toArray }, toks := s.toks } := I.lnew .nil (Nat.zero_le _)
  refine wpAny_newObj_type (wpAny_newFunctionEnv S.nocell (by intro y hy; simp at hy) (fun h1 hns1 hsb1 => ?_) S.kind)
  dsimp only at hns1 hsb1 ⊢
  generalize hH2 : s.heap.push { cls := .type "list", dict := none, data := .seq ([] : List Value).toArray } = H2 at hns1 hsb1 ⊢ I1
  have hCs : H2.objs.size = s.heap.objs.size + 1 := by rw [← hH2, Heap.size_push]
  have hCle : s.heap.objs.size ≤ H2.objs.size := by omega
  have hDC : s.heap.objs.size ≠ H2.objs.size := by omega
  have up1 : ∀ b o, H2.get? b = some o → h1.get? b = some o := fun b o e => hsb1.extBut b o (Nat.ne_of_lt (Heap.lt_size e)) (Heap.get?_push_of_some _ e)
  have up : ∀ b o, s.heap.get? b = some o → h1.get? b = some o := fun b o e => up1 b o (hH2 ▸ Heap.get?_push_of_some _ e)
  have okY := comp_ok (C := H2.objs.size) S I hf hCle hfl
  -- the block's invariant at the start
  have I0 : ∀ tk, Inv (X.comp scope cl (own ++ fr.map (·.1)) H2.objs.size s H fp) [] (compSt own fr σ) (upd H s.heap.objs.size (.lst [])) { s with heap := h1, toks := tk } := by
    intro tk
    have hok1 : HOk X.prog X.w (upd H s.heap.objs.size (.lst [])) h1 := I1.hok.kept up1
    refine ⟨okY, rfl, I.bare, ⟨fun b o e n _ _ => up b o e, fun b o e n _ _ => ⟨o.slots, up b o e⟩, fun b o e n _ => ?_, fun b o e _ => ⟨o, up b o e⟩, fun b xs q => ?_, fun b o u q => ?_, fun b ps q => ⟨#[], ?_⟩⟩,
      ⟨_, hns1, fun i x v e1 e2 e3 => ?_⟩, fun x c e => ?_, ?_, fun x c e => ?_, fun p hp => ?_, hok1, compSt_len own fr σ⟩
    · have e' : s.heap.get? b = some o := e
      show upd H s.heap.objs.size (.lst []) b = none
      rw [upd_ne (Nat.ne_of_lt (Heap.lt_size e'))]; exact n
    · rw [upd_ne (ne_of_none q hD)]; exact q
    · rw [upd_ne (ne_of_none q hD)]; exact q
    · have q' : H b = some (.tbl ps) := q
      rw [upd_ne (ne_of_none q' hD), q']; simp
    · -- the free names
      have e2' : (compSt own fr σ)[i]? = some (some v) := e2
      have e1' : (own ++ fr.map (·.1))[i]? = some x := e1
      unfold compSt at e2'
      by_cases hi : i < own.length
      · rw [List.getElem?_append_left (by simpa using hi), List.getElem?_map] at e2'
        cases q : own[i]? with
        | none => rw [q] at e2'; cases e2'
        | some y => rw [q] at e2'; cases e2'
      · rw [List.getElem?_append_right (by simpa using hi), List.length_map, List.getElem?_map] at e2'
        rw [List.getElem?_append_right (by omega), List.getElem?_map] at e1'
        cases q : fr[i - own.length]? with
        | none => rw [q] at e2'; cases e2'
        | some p =>
          rw [q] at e1' e2'
          have ex : p.1 = x := Option.some.inj e1'
          have ev : (σ[p.2]?).join = some v := Option.some.inj e2'
          have ev' : σ[p.2]? = some (some v) := by
            cases z : σ[p.2]? with
            | none => rw [z] at ev; cases ev
            | some o => rw [z] at ev; cases o with
              | none => cases ev
              | some v' => have : v' = v := Option.some.inj ev; rw [this]
          obtain ⟨f1, f2, f3⟩ := S.free p (List.mem_of_getElem? q)
          subst ex
          obtain ⟨m, hn, hl⟩ := I.loc
          have vis : Vis X.env.scope p.1 := by
            rcases f2 with f2 | f2
            · exact .inr (.inl f2)
            · exact .inr (.inr f2)
          obtain ⟨u, ru, lk⟩ := hl p.2 p.1 v f1 ev' vis
          refine ⟨u, ru, ?_⟩
          rcases lk with ⟨k, _⟩ | ⟨k, c, e, z⟩
          · rcases f2 with f2 | f2 <;> (rw [f2] at k; cases k)
          · obtain ⟨c', hc'⟩ := S.has p.1 f3
            have e' := S.cls _ _ hc'
            rw [e] at e'; cases e'
            obtain ⟨oc, ho, hd⟩ := z
            exact .inr ⟨f3, c, hc', ⟨oc, up _ _ ho, hd⟩⟩
    · obtain ⟨v, oc, ho, hd⟩ := I.cell x c (S.cls x c e)
      exact ⟨v, oc, up _ _ ho, hd⟩
    · show upd H s.heap.objs.size (.lst []) H2.objs.size = none
      rw [upd_ne (Ne.symm hDC)]
      exact I.hok.fresh hCle
    · obtain ⟨v, z⟩ := I.cell x c (S.cls x c e)
      show upd H s.heap.objs.size (.lst []) c = none
      rw [upd_ne (Nat.ne_of_lt z.lt)]
      exact I.freeC x c (S.cls x c e)
    · exact absurd (show p ∈ ([] : List (Addr × Obj)) from hp) (by simp)
  have fpf : ∀ b ∈ fp, upd H s.heap.objs.size (.lst []) b = none := fun b hb => by rw [upd_ne (Nat.ne_of_lt (hfl b hb))]; exact (hf b hb).1
  have st1 : tn 0 h1 := T.keep 0 _ _ st fun b hb o e => up b o e
  have stat : ∀ {H' : Hp}, (∀ b ∈ fp, H' b = none) → ∀ b ∈ fp, FpOk (X.comp scope cl (own ++ fr.map (·.1)) H2.objs.size s H fp) [] H' b := fun hn b hb =>
    ⟨hn b hb, (okY.exf b hb).1, okY.exfs b hb, .inl hb, (okY.exf b hb).2, fun p hp => absurd (show p ∈ ([] : List (Addr × Obj)) from hp) (by simp)⟩
  have loop : ∀ s3 : Shared, (∃ tk, s3 = { s with heap := h1, toks := tk }) →
      codeAny (model X.prog X.w) X.A (.compLoop (.ListComp elt [⟨target, iter, ifs, 0⟩] scope pos) 0 (.ref it) (.ref s.heap.objs.size) (compEnvC scope cl H2.objs.size X.env)) (RR (.ref s.heap.objs.size) H2.objs.size) s3 := by
    rintro s3 ⟨tk, rfl⟩
    refine compLoop_own (fun n s' => ∃ i ys H', Inv (X.comp scope cl (own ++ fr.map (·.1)) H2.objs.size s H fp) [] (compSt own fr σ) H' s' ∧ tn i s'.heap ∧ (∀ b ∈ fp, H' b = none) ∧ W i n ys H') ?_ m0 ⟨0, [], _, I0 tk, st1, fpf, w0⟩
    rintro n s4 ⟨i, ys, H4, I4, st4, fr4, w4⟩
    rcases turns i n ys H4 w4 with ⟨stop, q⟩ | ⟨go, N, hN, step⟩
    · refine thn (T.done (X.comp scope cl (own ++ fr.map (·.1)) H2.objs.size s H fp) rfl rfl rfl hc i [] s4 _ H4 _ I4 (stat fr4) st4 stop) fun r s5 ⟨hr, I5⟩ => ?_
      subst hr
      exact hRR _ _ s5 H4 hCle (Ne.symm hDC) ⟨_, I5.loc.choose_spec.1⟩ I5.free I5.base I5.hok I5.bare I5.os q
    · refine thn (T.item (X.comp scope cl (own ++ fr.map (·.1)) H2.objs.size s H fp) rfl rfl rfl hc i [] s4 _ H4 _ I4 (stat fr4) st4 go) fun r s5 ⟨u, hr, h5⟩ => ?_
      subst hr
      refine thn h5 fun _ s6 ⟨x, H6, I6, r6, y6, st6, fr6⟩ => ?_
      have I6' := I6.pinned (stat fr6) (T.obj _ _ st6)
      refine thn (hg H2.objs.size s H fp _ s6 _ H6 x u _ I6' r6 (step x H6 y6)) fun _ s7 ⟨σ7, H7, I7, k7, q7⟩ => ?_
      refine thn (ht H2.objs.size s H fp _ s7 σ7 H7 _ I7 q7) fun ok s8 ⟨H8, I8, q8⟩ => ?_
      have again : ∀ {s9 : Shared} {σ9 : St} {H9 : Hp} {zs : List V}, Inv (X.comp scope cl (own ++ fr.map (·.1)) H2.objs.size s H fp) ([] ++ pinsAt fp s6.heap) σ9 H9 s9 → (∀ (i : Nat) v, (compSt own fr σ)[i]? = some (some v) → σ9[i]? = some (some v)) → (∃ m', m' < n ∧ W (i + 1) m' zs H9) →
          ∃ m, m < n ∧ ∃ i ys H', Inv (X.comp scope cl (own ++ fr.map (·.1)) H2.objs.size s H fp) [] (compSt own fr σ) H' s9 ∧ tn i s9.heap ∧ (∀ b ∈ fp, H' b = none) ∧ W i m ys H' := by
        intro s9 σ9 H9 zs I9 hσ ⟨m', hm, w9⟩
        refine ⟨m', hm, i + 1, zs, H9, (I9.sub_pins (fun p hp => absurd (show p ∈ ([] : List (Addr × Obj)) from hp) (by simp))).weak ?_ hσ, T.keep _ _ _ st6 fun b hb o e => (I9.pin (b, o) (List.mem_append_right _ (List.mem_append_right _ (mem_pinsAt hb e)))).1, fun b hb => ?_, w9⟩
        · rw [I9.len]; exact compSt_len own fr σ
        · obtain ⟨o, e, d⟩ := T.obj _ _ st6 b hb
          exact (I9.pin (b, o) (List.mem_append_right _ (List.mem_append_right _ (mem_pinsAt hb e)))).2.1
      cases ok with
      | false => exact (if_neg Bool.false_ne_true).mpr (again I8 (keepSt_get k7) (hN _ _ ((if_neg Bool.false_ne_true).mp q8)))
      | true =>
        refine (if_pos rfl).mpr ?_
        have q8' := (if_pos rfl).mp q8
        refine thn (he H2.objs.size s H fp _ s8 σ7 H8 _ I8 q8') fun y s9 ⟨yv, H9, I9, r9, hD9, hz, q9⟩ => ?_
        refine thn (mt_append _ s9 σ7 H9 (.ref s.heap.objs.size) [yv] (.ref s.heap.objs.size) [y] (fun _ H' => H' = upd H9 s.heap.objs.size (.lst (ys ++ [yv]))) I9 rfl (.cons r9 .nil) ⟨_, ys, yv, rfl, rfl, hD9, hz, rfl⟩) fun _ s10 ⟨_, H10, I10, _, e10⟩ => ?_
        subst e10
        exact again I10 (keepSt_get k7) (hN _ _ q9)
  exact codeAny_compStart_list (loop _ ⟨_, rfl⟩) (T.self _ 0 _ _ _ st1 (loop _ ⟨_, rfl⟩))

theorem comp_after {pins : List (Addr × Obj)} {σ : St} {H H' : Hp} {s s' : Shared} {fp : List Addr} (I : Inv X pins σ H s) (hf : ∀ b ∈ fp, FpOk X pins H b) (un : Un (frs X.stack) fp H H' s.heap s'.heap)
    (hok : HOk X.prog X.w H' s'.heap) (bare : AllBare s'.gens) (os : s'.os = s.os) : Inv X pins σ H' s' :=
  I.call' os un hok bare fun b hb => ⟨(hf b hb).2.2.2.1, (hf b hb).2.1, (hf b hb).2.2.2.2.1, (hf b hb).2.2.2.2.2⟩
theorem comp_let {pins : List (Addr × Obj)} {σ σ' : St} {H H' : Hp} {s s' : Shared} {C : Addr} {h' : Heap} (I : Inv X pins σ H s) (hC : s.heap.objs.size ≤ C) (hn : H' C = none) (I' : Inv X pins σ' H' s') (sb : Heap.SameBut C s'.heap h') :
    Inv X pins σ' H' { s' with heap := h' } := by
  obtain ⟨f0, f1, f2, f3, f4, f5⟩ := I.fpOk hC hn
  exact I'.turned (t' := s'.toks) (fun b o hb e => (sb.2 b hb).trans e) f0 f1 f3 f4 f5

/-- [elt for target in iter if ..] as a value -/
theorem pe_comp (hc : X.calm = true) (S : CompScope X scope cl own fr) (hi : PI X target iter wi)
    (hg : ∀ C s H fp, PG (X.comp scope cl (own ++ fr.map (·.1)) C s H fp) target g) (ht : ∀ C s H fp, PIfs (X.comp scope cl (own ++ fr.map (·.1)) C s H fp) ifs tc) (he : ∀ C s H fp, PE (X.comp scope cl (own ++ fr.map (·.1)) C s H fp) elt te)
    (hs : ∀ x, foldedSetIterable iter X.env x = pure x := by intro _; rfl) : PE X (.ListComp elt [⟨target, iter, ifs, 0⟩] scope pos) (tComp wi g tc te own fr) := by
  intro pins s σ H Q I h
  rw [eval_ListComp]
  refine wpAny_comprehension_free (use := none) rfl hs S.clos S.kind S.names (thn (hi pins s σ H _ I h) fun v s1 h1 => thn h1 fun itv s2 h2 => ?_)
  obtain ⟨it, fp, tn, J, H2, e, I2, T, st2, f2, hw⟩ := h2
  subst e
  refine comp_block (RR := fun acc C => compPost (model X.prog X.w) X.A X.xe none (EP X pins σ Q) acc C) hc S I2 T st2 f2 hg ht he hw ?_
  rintro D C s' H' hC hDC ⟨m, hn⟩ hCf un hok bare os q
  refine ⟨m, hn, fun h' hs' => ⟨.ref D, H', ?_, rfl, q⟩⟩
  exact comp_let (C := C) (σ := σ) I2 hC hCf (comp_after I2 f2 un hok bare os) hs'

/-- y = [elt for target in iter if ..] -/
theorem ps_comp {i : Nat} {y : Str} {py spos : Pos} (hN : X.N.Nodup) (hi' : X.N[i]? = some y) (hx : Loc X.env.scope y) (hc : X.calm = true) (S : CompScope X scope cl own fr) (hi : PI X target iter wi)
    (hg : ∀ C s H fp, PG (X.comp scope cl (own ++ fr.map (·.1)) C s H fp) target g) (ht : ∀ C s H fp, PIfs (X.comp scope cl (own ++ fr.map (·.1)) C s H fp) ifs tc) (he : ∀ C s H fp, PE (X.comp scope cl (own ++ fr.map (·.1)) C s H fp) elt te)
    (hf : X.fn y = true ∨ X.env.scope.names.lookup y = some .local := by first | exact .inl rfl | exact .inr rfl | assumption)
    (hsw : swapsWith (.ListComp elt [⟨target, iter, ifs, 0⟩] scope pos) (some (.Name y py)) spos.line X.env = pure true := by rfl)
    (hs : ∀ x, foldedSetIterable iter X.env x = pure x := by intro _; rfl) : PS X (.Assign [.Name y py] (.ListComp elt [⟨target, iter, ifs, 0⟩] scope pos) spos) (tAsg (tComp wi g tc te own fr) (gName i)) := by
  intro pins s σ H Dn I h
  rw [exec_Assign_Name_used _ _ _ _ hsw]
  refine wpAny_bind (wpAny_standAt (wpAny_bind ?_))
  show wpAny _ X.A (do let _ ← comprehension (.ListComp elt [⟨target, iter, ifs, 0⟩] scope pos) scope X.env _ (newList []) false (eval iter X.env) (some (assign (.Name y py) X.env))) _ _ s
  refine wpAny_bind (wpAny_mono (wpAny_comprehension_free (use := some (assign (.Name y py) X.env)) (Q := fun _ s' => SP X pins Dn .next s') rfl hs S.clos S.kind S.names (thn (hi pins s σ H _ I h) fun v s1 h1 => thn h1 fun itv s2 h2 => ?_))
    (fun _ s' hq => wpAny_pure (wpAny_pure hq)) fun _ _ e => e)
  obtain ⟨it, fp, tn, J, H2, e, I2, T, st2, f2, hw⟩ := h2
  subst e
  refine comp_block (RR := fun acc C => compPost (model X.prog X.w) X.A X.xe (some (assign (.Name y py) X.env)) (fun _ s' => SP X pins Dn .next s') acc C) hc S I2 T st2 f2 hg ht he hw ?_
  rintro D C s' H' hC hDC ⟨m, hn⟩ hCf un hok bare os q
  have I3 : Inv X pins σ H' s' := comp_after I2 f2 un hok bare os
  show wpAny _ X.A (assign (.Name y py) X.env (.ref D)) _ _ s'
  refine wpAny_assign_Name (store_ok2 I3 hN hi' hx (v := .ref D) rfl (fun s4 I4 ⟨a, hsa, ha⟩ => ?_) hf)
  have hCa : C ≠ a := by
    rcases ha with z | z
    · rw [z]; exact Nat.ne_of_gt (Nat.lt_of_lt_of_le I2.lt hC)
    · obtain ⟨v, q⟩ := I2.cell y a z
      exact Nat.ne_of_gt (Nat.lt_of_lt_of_le q.lt hC)
  refine ⟨m, hn.sameBut hsa hCa, fun h' hs' => ⟨_, H', comp_let (C := C) (σ := σ) I2 hC hCf I4 hs', q⟩⟩
end

/-! ### the forms one uses -/
theorem comp_list {K : PySem.W.Frag} {a D : Addr} {xs : List V} {g : TG} {tc : TT} {te : TE} {σ0 : St} {R : Hp → Prop} {H1 : Hp} (Pv : Nat → List V → Hp → Prop) (h0 : Pv 0 [] (upd H1 D (.lst []))) (hl : ∀ i ys H, i ≤ xs.length → Pv i ys H → SqL K H a xs)
    (hs : ∀ i x ys H, xs[i]? = some x → Pv i ys H → g x σ0 H fun σ4 H4 => keepSt σ0 σ4 ∧ tc σ4 H4 fun b H5 => if b = true then te σ4 H5 fun y H6 => H6 D = some (.lst ys) ∧ ys.length < sizeLine ∧ Pv (i + 1) (ys ++ [y]) (upd H6 D (.lst (ys ++ [y]))) else Pv (i + 1) ys H5)
    (hd : ∀ ys H, Pv xs.length ys H → R H) : ∃ W : Nat → Nat → List V → Hp → Prop, (∃ m, W 0 m [] (upd H1 D (.lst []))) ∧ CompTurns (Itl K a) D g tc te σ0 W R := by
  refine ⟨fun i m ys H => m = xs.length - i ∧ i ≤ xs.length ∧ Pv i ys H, ⟨_, rfl, Nat.zero_le _, h0⟩, ?_⟩
  rintro i m ys H ⟨rfl, hi, p⟩
  have q := hl i ys H hi p
  by_cases hlt : i < xs.length
  · refine .inr ⟨⟨xs, xs[i], q, by simp [hlt]⟩, Pv (i + 1), fun ys' H' p' => ⟨xs.length - (i + 1), by omega, rfl, hlt, p'⟩, fun x H' y => ?_⟩
    obtain ⟨e, y⟩ := y
    subst e
    exact hs i x ys _ (y xs q) p
  · have e : i = xs.length := by omega
    subst e
    exact .inl ⟨⟨xs, q, Nat.le_refl _⟩, hd ys H p⟩
theorem comp_range {lo : Int} {n : Nat} {D : Addr} {g : TG} {tc : TT} {te : TE} {σ0 : St} {R : Hp → Prop} {H1 : Hp} (Pv : Nat → List V → Hp → Prop) (h0 : Pv 0 [] (upd H1 D (.lst [])))
    (hs : ∀ i ys H, i < n → Pv i ys H → g (.int (lo + i)) σ0 H fun σ4 H4 => keepSt σ0 σ4 ∧ tc σ4 H4 fun b H5 => if b = true then te σ4 H5 fun y H6 => H6 D = some (.lst ys) ∧ ys.length < sizeLine ∧ Pv (i + 1) (ys ++ [y]) (upd H6 D (.lst (ys ++ [y]))) else Pv (i + 1) ys H5)
    (hd : ∀ ys H, Pv n ys H → R H) : ∃ W : Nat → Nat → List V → Hp → Prop, (∃ m, W 0 m [] (upd H1 D (.lst []))) ∧ CompTurns (Itr lo n) D g tc te σ0 W R := by
  refine ⟨fun i m ys H => m = n - i ∧ i ≤ n ∧ Pv i ys H, ⟨_, rfl, Nat.zero_le _, h0⟩, ?_⟩
  rintro i m ys H ⟨rfl, hi, p⟩
  by_cases hlt : i < n
  · refine .inr ⟨hlt, Pv (i + 1), fun ys' H' p' => ⟨n - (i + 1), by omega, rfl, hlt, p'⟩, fun x H' y => ?_⟩
    obtain ⟨e, y⟩ := y
    subst e y
    exact hs i ys _ hlt p
  · have e : i = n := by omega
    subst e
    exact .inl ⟨Nat.le_refl _, hd ys H p⟩
end L2
namespace L2
open PySem PySem.Spec PyProof.Rows

/-! ### own exception classes -/
/-- an exception object of the class at C stands at a -/
def IsExc (a C : Addr) (h : Heap) : Prop := ∃ ob vs, h.get? a = some ob ∧ ob.cls = .ref C ∧ ob.data = .fields vs
def excO (a C : Addr) : HO := .ext (IsExc a C)
/-- an exception that flies towards the frames of `outer` -/
def Flies (P : Program) (w : World) (outer : List Env) (H H' : Hp) (s : Shared) (a C : Addr) (s' : Shared) : Prop :=
  ∃ (t : Addr) (B : Heap), s'.os = s.os ∧ AllBare s'.gens ∧ Un (frs outer) [] H H' s.heap s'.heap ∧ HOk P w H' s'.heap ∧ Heap.FlyingW B outer a (.ref C) (.ref t) s'.heap ∧
    (∀ b o, s'.heap.get? b = some o → H' b ≠ none → B.get? b = some o) ∧ (∀ b o0 o, s.heap.get? b = some o0 → s'.heap.get? b = some o → b ∉ frs outer → B.get? b = some o)
def CXr (P : Program) (w : World) : CXT := fun outer H s E e s' => ∃ (a C : Addr) (H' : Hp), e = .ref a ∧ Flies P w outer H H' s a C s' ∧ E (.ref C) none H'

section
variable {X : Cx} {pins : List (Addr × Obj)} {σ : St} {H : Hp} {s : Shared}
/-- what a raise in this body comes to -/
def RaisesTo (X : Cx) (E : XK) : Prop := ∀ (pins : List (Addr × Obj)) (σ : St) (H : Hp) (s : Shared) (h' : Heap) (a C : Addr) (vs : List Value), Inv X pins σ H s → Heap.MadeExcOf s.heap h' a (.ref C) vs → E (.ref C) none H → X.xe (.ref a) { s with heap := h' }

end
end L2
namespace L2
open PySem PySem.Spec PyProof.Rows

abbrev bmVE : List Value := [.type "ValueError", .type "Exception", .type "BaseException", .type "object"]
/-- a class of the text that stands under ValueError, straight or over others of the text -/
abbrev ExcC (K : PySem.W.Frag) (C : Addr) : Prop := PySem.W.excIn K C bmVE "ValueError.__new__" = true
theorem exc_get {K : PySem.W.Frag} {h : Heap} {C : Addr} (KX : K.In h) (ex : ExcC K C) : ∃ mro' ns' mN', (∃ nm' qn' bs' hd' sn' sub' ab' col' dd' j0 j1 j2 j3 j5,
    h.get? C = some (excClassObj nm' qn' C ns' bs' mro' hd' sn' sub' ab' col' dd' j0 j1 j2 j3 j5 "ValueError.__new__")) ∧ h.Ns ns' mN' ∧ mN' "__init__" = none ∧ OwnTail h bmVE mro' := by
  have ex' := ex
  unfold ExcC PySem.W.excIn at ex'
  split at ex'
  · rename_i dd' cd' sl' lk
    have lk' := KX _ _ lk
    split at ex'
    · rename_i C' rest' j0 j1 j2 j3 n' j5 hm hs
      rw [Bool.and_eq_true, Bool.and_eq_true, Bool.and_eq_true, Bool.and_eq_true, Bool.and_eq_true, beq_iff_eq, beq_iff_eq, beq_iff_eq] at ex'
      obtain ⟨⟨⟨⟨⟨z1, z2⟩, z3⟩, z4⟩, z5⟩, z6⟩ := ex'
      have z3' : cd'.hasDel = false := by simpa using z3
      subst z1 z2
      cases cd' with
      | mk a1 a2 a3 a4 a5 a6 a7 a8 a9 a10 a11 =>
        have hm' : a3 = .ref C' :: rest' := hm
        have h11 : a11 = false := z3'
        subst hm' h11
        have es : sl' = #[j0, j1, j2, j3, some (.builtin "ValueError.__new__"), j5] := by
          cases sl' with
          | mk l => exact congrArg Array.mk hs
        subst es
        exact ⟨rest', a4, _, ⟨_, _, _, _, _, _, _, _, _, _, _, _, _, _, lk'⟩, .of_isNs (PySem.W.isNs_of_in KX z5), PySem.W.nsMap_none_of_in KX z5 z6, PySem.W.tail_of_in KX z4⟩
    · cases ex'
  · cases ex'

section
variable {X : Cx}
/-- raise C(e, ..) in a def's own body -/
def tRaise (C : Addr) (E : XK) (t : TA) : TS := fun _ σ H => t σ H fun vs H1 => vs.length ≤ sizeLine ∧ E (.ref C) none H1
/-! ### try: one call; except W as n: a suite -/
/-- within an except suite -/
def Cx.inExc (X : Cx) (a : Addr) : Cx := { X with A := X.A.mark (some (.ref a)), calm := false, xe := fun _ _ => False }
variable {pins : List (Addr × Obj)} {σ : St} {H : Hp} {s : Shared}
end
end L2
namespace L2
open PySem PySem.Spec PyProof.Rows

theorem exc_type {M : Model} {h : Heap} {a C : Addr} (hx : IsExc a C h) : PySem.W.Looks M h (typeOf (.ref a)) (.ref C) := by
  obtain ⟨ob, vs, e, c, d⟩ := hx
  exact c ▸ (PySem.W.Looks.ld e).andThen .now
section
variable {X : Cx} {k : Nat} {f : Addr} {fd : FuncData} {ps : List Str} {sp : Sp} {dvs : List V} {ds : List Value} {fx : Str} {fp cpos bpos np hpos pos : Pos} {e : Expr} {es : List Expr} {t : TA}

/-- what the handler's suite is asked -/
def Caught (K : PySem.W.Frag) (W : Addr) (i : Nat) (ts : TS) (D : Ends) (σ : St) : XK := fun cls _ H2 => ∃ C, cls = .ref C ∧ PySem.W.kitCls K (.ref C) (.ref W) = some true ∧
  ∀ a, H2 a = none → ts { nx := fun σ' H' => D.nx (σ'.set i none) H', rt := D.rt, bk := fun σ' H' => D.bk (σ'.set i none) H', ct := fun σ' H' => D.ct (σ'.set i none) H' } (σ.set i (some (.ref a))) (upd H2 a (excO a C))

def tTry (K : PySem.W.Frag) (W : Addr) (i : Nat) (sp : Sp) (dvs : List V) (t : TA) (ts : TS) : TS := fun D σ H => t σ H fun vs H1 => sp (vs ++ dvs) H1 (fun _ H2 => D.nx σ H2) (Caught K W i ts D σ)
end
end L2
namespace L2
open PySem PySem.Spec PyProof.Rows
theorem exc_class {K : PySem.W.Frag} {prog : Program} {w : World} {A : Around} {E : Value → Shared → Prop} {Q : Option Value → Shared → Prop} {s : Shared} {a C : Addr} (KX : K.In s.heap) (hx : IsExc a C s.heap)
    (hga : PySem.W.findIn K (.ref C) "__getattribute__" = some (some (.builtin "BaseException.__getattribute__"))) (hnga : PySem.W.findIn K (.ref C) "__getattr__" = some none)
    (hcl : PySem.W.findIn K (.ref C) "__class__" = some (some (.builtin "object.__class__"))) (hm : PySem.W.mroIn K C (.type "object") = some true) (hB : PySem.W.subIn K (.ref C) (.type "BaseException") = some true)
    (h : Q (some (.ref C)) { s with toks := s.toks + 1 }) : wpAny (model prog w) A (getAttr? (.ref a) "__class__") Q E s := by
  have L0 := exc_type (M := model prog w) hx
  have L1 := PySem.W.looks_findIn (M := model prog w) KX hga
  have L2 := PySem.W.looks_findIn (M := model prog w) KX hnga
  have L3 := PySem.W.looks_findIn (M := model prog w) KX hcl
  have L4 := PySem.W.looks_subIn (M := model prog w) KX hB
  obtain ⟨h0, g, d, t, os⟩ := s
  have f3 := PySem.F.attr_ValueError.ga.bind (.ref a)
  unfold getAttr? getAttrBy? getAttrBy
  refine wpAny_bind (wpAny_mkText (wpAny_bind (wpAny_attempt (wpAny_holding (wpAny_bind (L0.at (wpAny_bind (L1.at ?_))))))))
  dsimp only
  have hx2 : (onTheHeap (Value.ref C) && Value.builtin "BaseException.__getattribute__" == Value.builtin "object.__getattribute__") = false := by
    have z : (Value.builtin "BaseException.__getattribute__" == Value.builtin "object.__getattribute__") = false := by decide +kernel
    rw [z, Bool.and_false]
  rw [hx2]
  simp only [Bool.false_eq_true, if_false]
  unfold getAttrByItsOwn
  repeat (any_goals (first | assumption | with_reducible refine L0.at ?_ | with_reducible refine L2.at ?_ | wp_step))
  have hsp : splitId "BaseException.__getattribute__" = some ("BaseException", "__getattribute__") := by decide +kernel
  have hkd : builtinKind "BaseException.__getattribute__" = some .slot := by decide +kernel
  have har := PySem.F.args_bexc_ga (.ref a) (.str (Str.ofString "__class__") t)
  refine codeAny_call_builtin PySem.F.attr_ValueError.ga.plain PySem.F.entry_bexc_ga ?_
  show wpAny _ _ (checkBuiltinCall "BaseException.__getattribute__" ⟨[.ref a, .str (Str.ofString "__class__") t], []⟩) _ _ _
  simp only [checkBuiltinCall, hkd, hsp]
  refine wpAny_bind ?_
  unfold isInstance
  have f5 := PySem.F.typeOf_object_class
  have f6 := PySem.F.slot_gs_get.lookup
  have f7 := PySem.F.slot_gs_set.lookup
  have hT5 : (⟨h0, g, d, t + 1, os⟩ : Shared).TypeIs (.builtin "object.__class__") "getset_descriptor" := PySem.F.typeOf_object_class
  refine wpAny_bind (L0.at (L4.at ?_))
  repeat (any_goals (first | assumption | with_reducible refine L0.at ?_ | with_reducible refine L3.at ?_ | wp_step))
  have Lo : PySem.W.Looks (model prog w) h0 (isSubtype (.ref C) (.type (".".intercalate ("object.__class__".cutAt '.').dropLast))) true := by
    rw [PySem.F.owner_object_class]
    exact PySem.W.looks_mroIn KX hm
  have hT6 : (⟨h0, g, d, t + 1, os⟩ : Shared).TypeIs (.builtin "object.__class__") "getset_descriptor" := PySem.F.typeOf_object_class
  refine codeAny_call_builtin PySem.F.slot_gs_get.plain PySem.F.entry_gs_get (PySem.F.slot_gs_get.check _ _ _ _ _ _ _ _ hT6 (PySem.F.args_gs_get _ _ _) ?_)
  repeat (any_goals (first | assumption | with_reducible refine L0.at ?_ | with_reducible refine Lo.at ?_ | wp_step))
  refine ⟨Code.quiet_builtin _ (by decide +kernel), codeAny_builtin PySem.F.entry_object_class ?_⟩
  repeat (any_goals (first | assumption | with_reducible refine L0.at ?_ | wp_step))
end L2
namespace L2
open PySem PySem.Spec PyProof.Rows

/-- what isinstance asks of an exception class of the text -/
structure ExcK (K : PySem.W.Frag) (C : Addr) : Prop where
  ex : ExcC K C
  ga : PySem.W.findIn K (.ref C) "__getattribute__" = some (some (.builtin "BaseException.__getattribute__"))
  nga : PySem.W.findIn K (.ref C) "__getattr__" = some none
  cl : PySem.W.findIn K (.ref C) "__class__" = some (some (.builtin "object.__class__"))
  ob : PySem.W.mroIn K C (.type "object") = some true
  be : PySem.W.subIn K (.ref C) (.type "BaseException") = some true
theorem kitx_exc {K : PySem.W.Frag} {a C : Addr} (k : ExcK K C) : PySem.W.KitX K (.ref a) (.ref C) (IsExc a C) where
  ty := fun _ _ _ p => exc_type p
  it := fun M h KX _ => by
    obtain ⟨_, _, _, ⟨_, _, _, _, _, _, _, _, _, _, _, _, _, _, hC⟩, _⟩ := exc_get KX k.ex
    intro A Q E s kk q
    unfold isType loadHead
    exact wpAny_bind (wpAny_loadPart (kk _ _ hC) (wpAny_pure q))
  ne := fun h tp dd its n sl KX htp => by
    obtain ⟨_, _, _, ⟨_, _, _, _, _, _, _, _, _, _, _, _, _, _, hC⟩, _⟩ := exc_get KX k.ex
    refine Bool.eq_false_iff.mpr fun q => ?_
    have e : C = tp := Value.ref.inj (beq_iff_eq.mp q)
    rw [← e, hC] at htp
    have z := congrArg Obj.data (Option.some.inj htp)
    unfold excClassObj at z
    cases z
  ca := fun KX p q => exc_class KX p k.ga k.nga k.cl k.ob k.be q

def clsVal : V → Value
  | .ty n => .type n
  | .ref a => .ref a
  | _ => .none
def isCls : V → Bool
  | .ty _ => true
  | .ref _ => true
  | _ => false
theorem RelV.cls {c : V} {u : Value} (r : RelV c u) (h : isCls c = true) : u = clsVal c := by
  cases c with
  | ty n => exact r
  | ref a => exact r
  | _ => cases h
theorem Vals.cls : ∀ {cs : List V} {us : List Value}, Vals cs us → cs.all isCls = true → us = cs.map clsVal
  | _, _, .nil, _ => rfl
  | _, _, .cons r t, h => by
    rw [List.all_cons, Bool.and_eq_true] at h
    rw [List.map_cons, r.cls h.1, Vals.cls t h.2]
/-- isinstance(x, c), x a plain value; isinstance(e, c), e an exception of the text; isinstance(e, (c, ..)) -/
def rIsi (K : PySem.W.Frag) : List V → Hp → VK → Prop := fun xs H Q => ∃ x c b, xs = [x, c] ∧ Q (.bl b) H ∧
  ((∃ t, TyOf K H x t ∧ isCls c = true ∧ PySem.W.kitOne K t (clsVal c) = some b) ∨
   (∃ a C, x = .ref a ∧ H a = some (excO a C) ∧ ExcK K C ∧ isCls c = true ∧ PySem.W.kitOne K (.ref C) (clsVal c) = some b) ∨
   (∃ a C tp cs, x = .ref a ∧ H a = some (excO a C) ∧ ExcK K C ∧ c = .ref tp ∧ H tp = some (.tup cs) ∧ cs.all isCls = true ∧ PySem.W.kitAny K (.ref C) (cs.map clsVal) = some b))
theorem call_isi {X : Cx} : CallR X (.builtin "isinstance") (rIsi X.K) := by
  intro pins s σ H xs us Q I rv h
  obtain ⟨x, c, b, rfl, q, h⟩ := h
  obtain ⟨u, cv, rfl, ru, rc⟩ := rv.two
  have fin : ∀ tk, EP X pins σ Q (.bool b) { s with toks := tk } := fun tk => ⟨.bl b, H, I.tok tk, rfl, q⟩
  rcases h with ⟨t, ty, hc, e⟩ | ⟨a, C, rfl, ha, k, hc, e⟩ | ⟨a, C, tp, cs, rfl, ha, k, rfl, ht, hc, e⟩
  · rw [rc.cls hc]
    exact isinst_ok I ru ty e fin
  · rw [rc.cls hc]
    cases (show u = Value.ref a from ru)
    obtain ⟨p, _⟩ := I.hok a _ ha
    exact PySem.W.kia_one (kitx_exc k) I.kIn p e (fun z => nomatch z) fin
  · cases (show u = Value.ref a from ru)
    cases (show cv = Value.ref tp from rc)
    obtain ⟨p, _⟩ := I.hok a _ ha
    obtain ⟨_, its, r, o, eo, co, n, dn⟩ := I.hok tp _ ht
    obtain ⟨ocl, odi, oda, osl⟩ := o
    cases (show ocl = .type "tuple" from co)
    cases (show oda = .seq its.toArray n from dn)
    exact PySem.W.kia_tup (its := its) (kitx_exc k) I.kIn p eo (by rw [r.cls hc]; exact e) (fun z => nomatch z) fin

/-! ### == and != of data: ints, bools, None, texts, lists and tuples of such -/
mutual
inductive DatV (K : PySem.W.Frag) (H : Hp) : V → PyData → Prop
  | non : DatV K H .non .none
  | bl (b : Bool) : DatV K H (.bl b) (.bool b)
  | int (i : Int) : DatV K H (.int i) (.int i)
  | str (x : Str) : DatV K H (.str x) (.str x)
  | lst {a : Addr} {xs : List V} {ds : List PyData} : SqL K H a xs → DatVs K H xs ds → DatV K H (.ref a) (.list ds)
  | tup {a : Addr} {xs : List V} {ds : List PyData} : SqT K H a xs → DatVs K H xs ds → DatV K H (.ref a) (.tuple ds)
inductive DatVs (K : PySem.W.Frag) (H : Hp) : List V → List PyData → Prop
  | nil : DatVs K H [] []
  | cons {x : V} {d : PyData} {xs : List V} {ds : List PyData} : DatV K H x d → DatVs K H xs ds → DatVs K H (x :: xs) (d :: ds)
end
section
variable {X : Cx} {pins : List (Addr × Obj)} {σ : St} {H : Hp} {s : Shared}
mutual
theorem DatV.reads (I : Inv X pins σ H s) : ∀ {x : V} {d : PyData} {u : Value}, DatV X.K H x d → RelV x u → ∃ as, Reads s.heap u d as
  | _, _, _, .non, r => by cases r; exact ⟨_, .none⟩
  | _, _, _, .bl b, r => by cases r; exact ⟨_, .bool b⟩
  | _, _, _, .int i, r => by obtain ⟨t, rfl⟩ := r; exact ⟨_, .int i t⟩
  | _, _, _, .str x, r => by obtain ⟨t, rfl⟩ := r; exact ⟨_, .str x t⟩
  | _, _, _, .lst hq hs, r => by
    cases r
    obtain ⟨its, rv, ⟨o, n, e, c, dd, dt⟩, _⟩ := I.list hq
    obtain ⟨as, ra⟩ := DatVs.reads I hs rv
    exact ⟨_, .list e c dt (by simpa using ra)⟩
  | _, _, _, .tup hq hs, r => by
    cases r
    obtain ⟨its, rv, ⟨o, e, c, n, dt⟩, _⟩ := I.tuple hq
    obtain ⟨as, ra⟩ := DatVs.reads I hs rv
    exact ⟨_, .tuple e c dt (by simpa using ra)⟩
theorem DatVs.reads (I : Inv X pins σ H s) : ∀ {xs : List V} {ds : List PyData} {us : List Value}, DatVs X.K H xs ds → Vals xs us → ∃ as, ReadsAll s.heap us ds as
  | _, _, _, .nil, .nil => ⟨_, .nil⟩
  | _, _, _, .cons h hs, .cons r rs => by
    obtain ⟨as, ra⟩ := DatV.reads I h r
    obtain ⟨bs, rb⟩ := DatVs.reads I hs rs
    exact ⟨_, .cons ra rb⟩
end
end
def rEqD (K : PySem.W.Frag) (neg : Bool) : R2 := fun x y H Q => ∃ d1 d2, DatV K H x d1 ∧ DatV K H y d2 ∧ SeqAt.shaped d1 = true ∧ SeqAt.shaped d2 = true ∧ Q (.bl (neg != PyData.eqv d1 d2)) H
theorem op_neD {X : Cx} (hu : X.A.units + 64 < cLine) : OpR X (compareOp .NotEq) (rEqD X.K true) := by
  intro pins s σ H x y v u Q I rx ry h
  obtain ⟨d1, d2, h1, h2, s1, s2, q⟩ := h
  obtain ⟨as, r1⟩ := h1.reads I rx
  obtain ⟨bs, r2⟩ := h2.reads I ry
  exact ne_dataH r1 r2 s1 s2 hu ⟨.bl _, H, I, by cases PyData.eqv d1 d2 <;> rfl, q⟩

/-! ### numbers of the laws' own draws -/
def Lt2 (p : Nat) (a : Int) : Prop := a.natAbs < 2 ^ p
theorem Lt2.bits {a : Int} {n : Nat} (h : Lt2 n a) : Builtin.Int.intBits a ≤ n := by
  unfold Builtin.Int.intBits
  by_cases z : a = 0
  · subst z
    exact Nat.zero_le _
  · have hp : a.natAbs ≠ 0 := by omega
    have hz : ¬ ((a == 0) = true) := by simpa using z
    rw [if_neg hz]
    exact Nat.succ_le_of_lt ((Nat.log2_lt hp).mpr h)
theorem Lt2.mul {a b : Int} {p q : Nat} (h1 : Lt2 p a) (h2 : Lt2 q b) : Lt2 (p + q) (a * b) := by
  show (a * b).natAbs < 2 ^ (p + q)
  rw [Int.natAbs_mul, Nat.pow_add]
  exact Nat.mul_lt_mul_of_lt_of_lt h1 h2
theorem Lt2.add {a b : Int} {p : Nat} (h1 : Lt2 p a) (h2 : Lt2 p b) : Lt2 (p + 1) (a + b) := by
  have h1' : a.natAbs < 2 ^ p := h1
  have h2' : b.natAbs < 2 ^ p := h2
  show (a + b).natAbs < 2 ^ (p + 1)
  rw [Nat.pow_succ]
  omega
theorem Lt2.mono {a : Int} {p q : Nat} (h : Lt2 p a) (hp : p ≤ q) : Lt2 q a := Nat.lt_of_lt_of_le h (Nat.pow_le_pow_right (by decide) hp)
theorem Lt2.mod {a b : Int} {p : Nat} (hb : 0 < b) (h : Lt2 p b) : Lt2 p (a % b) := by
  have h1 := Int.emod_nonneg a (Int.ne_of_gt hb)
  have h2 := Int.emod_lt_of_pos a hb
  have h' : b.natAbs < 2 ^ p := h
  show (a % b).natAbs < 2 ^ p
  omega
theorem Lt2.div {a b : Int} {p : Nat} (ha : 0 ≤ a) (hb : 0 ≤ b) (h : Lt2 p a) : Lt2 p (a / b) := by
  have h' : a.natAbs < 2 ^ p := h
  have h1 := Int.ediv_nonneg ha hb
  have h2 := Int.ediv_le_self b ha
  show (a / b).natAbs < 2 ^ p
  omega
/-- a product of two numbers below 2^p, 2^q -/
def CMulB (i j : Int) : Prop := ∃ p q, Lt2 p i ∧ Lt2 q j ∧ p ≤ 100000 ∧ q ≤ 100000
theorem op_mulB {X : Cx} : OpR X (binaryOp .Mult) (rI CMulB fun i j => .int (i * j)) := opI fun i j _ _ _ _ _ hc q => by
  obtain ⟨p, r, h1, h2, hp, hr⟩ := hc
  have e : (2 : Nat) ^ 20 = 1048576 := by decide
  exact mul_int q (.of_bits (by have := h1.bits; omega) (by have := h2.bits; omega))
def CDivB (i j : Int) : Prop := 0 < j ∧ Lt2 9000 j
theorem op_fdivB {X : Cx} : OpR X (binaryOp .FloorDiv) (rI CDivB fun i j => .int (i / j)) := opI fun i j _ _ _ _ _ hc q => by
  have h1 : (0 : Int) < j := hc.1
  have h2 : j.natAbs < 2 ^ 9000 := hc.2
  refine floordiv_int (by omega) (by rw [Int.fdiv_eq_ediv_of_nonneg i (by omega)]; exact q) (.inl (PyProof.noPylong_of_log2 ?_))
  exact (Nat.log2_lt (by omega)).mpr h2

/-! ### heaps that grow -/
theorem Same.new {H : Hp} {p : Addr} {o : HO} (h : H p = none) : Same H (upd H p o) := fun b u e => by rw [upd_ne (ne_of_none e h)]; exact e
theorem Same.put {H H1 : Hp} {p : Addr} {o : HO} (s : Same H H1) (h : H p = none) : Same H (upd H1 p o) := fun b u e => by rw [upd_ne (ne_of_none e h)]; exact s b u e
theorem upd_eq {H : Hp} {p b : Addr} {o u : HO} (h : H b = some u) (n : b ≠ p) : upd H p o b = some u := by rw [upd_ne n]; exact h
/-- a list of pairs of ints -/
inductive Prs (H : Hp) : List V → List (Int × Int) → Prop
  | nil : Prs H [] []
  | cons {p : Addr} {a b : Int} {xs : List V} {rs : List (Int × Int)} : H p = some (.tup [.int a, .int b]) → Prs H xs rs → Prs H (.ref p :: xs) ((a, b) :: rs)
theorem Prs.len {H : Hp} {xs : List V} {rs : List (Int × Int)} (h : Prs H xs rs) : xs.length = rs.length := by
  induction h with
  | nil => rfl
  | cons _ _ ih => rw [List.length_cons, List.length_cons, ih]
theorem Prs.snoc {H : Hp} {xs : List V} {rs : List (Int × Int)} (h : Prs H xs rs) {p : Addr} {a b : Int} (e : H p = some (.tup [.int a, .int b])) : Prs H (xs ++ [.ref p]) (rs ++ [(a, b)]) := by
  induction h with
  | nil => exact .cons e .nil
  | cons e1 _ ih => exact .cons e1 ih
theorem Prs.keep {H H' : Hp} {xs : List V} {rs : List (Int × Int)} (h : Prs H xs rs) (k : ∀ p ys, H p = some (.tup ys) → H' p = some (.tup ys)) : Prs H' xs rs := by
  induction h with
  | nil => exact .nil
  | cons e1 _ ih => exact .cons (k _ _ e1) ih
theorem Prs.same {H H' : Hp} {xs : List V} {rs : List (Int × Int)} (h : Prs H xs rs) (k : Same H H') : Prs H' xs rs := h.keep fun p ys e => k p _ e
/-- a list is written: the tuples stay -/
theorem tups_lst {H : Hp} {l : Addr} {zs : List V} {o : HO} (h : H l = some (.lst zs)) : ∀ p ys, H p = some (.tup ys) → upd H l o p = some (.tup ys) := fun p ys e => upd_eq e (ne_of e h (fun z => by cases z))
theorem tups_new {H : Hp} {l : Addr} {o : HO} (h : H l = none) : ∀ p ys, H p = some (.tup ys) → upd H l o p = some (.tup ys) := fun p ys e => upd_eq e (ne_of_none e h)
def prD (r : Int × Int) : PyData := .tuple [.int r.1, .int r.2]
theorem Prs.dats {K : PySem.W.Frag} {H : Hp} {xs : List V} {rs : List (Int × Int)} (h : Prs H xs rs) : DatVs K H xs (rs.map prD) := by
  induction h with
  | nil => exact .nil
  | cons e _ ih => exact .cons (.tup (SqT.of e) (.cons (.int _) (.cons (.int _) .nil))) ih
theorem prD_eqv (r q : Int × Int) : PyData.eqv (prD r) (prD q) = decide (r = q) := by
  obtain ⟨a, b⟩ := r
  obtain ⟨c, d⟩ := q
  simp only [prD, PyData.eqv, PyData.eqvAll, Prod.mk.injEq]
  by_cases h1 : a = c <;> by_cases h2 : b = d <;> simp [h1, h2]
theorem prs_eqv : ∀ rs qs : List (Int × Int), PyData.eqvAll (rs.map prD) (qs.map prD) = decide (rs = qs)
  | [], [] => by simp [PyData.eqvAll]
  | [], _ :: _ => by simp [PyData.eqvAll]
  | _ :: _, [] => by simp [PyData.eqvAll]
  | r :: rs, q :: qs => by
    rw [List.map_cons, List.map_cons]
    simp only [PyData.eqvAll, prD_eqv, prs_eqv rs qs]
    by_cases h1 : r = q <;> by_cases h2 : rs = qs <;> simp [h1, h2]
theorem prs_can : ∀ rs : List (Int × Int), PyData.canLayAll0 (rs.map prD) = true
  | [] => by simp [PyData.canLayAll0]
  | r :: rs => by
    rw [List.map_cons]
    simp [PyData.canLayAll0, prD, PyData.canLay0, prs_can rs]
theorem prs_depth : ∀ rs : List (Int × Int), PyData.depthAll (rs.map prD) ≤ 2
  | [] => by simp [PyData.depthAll]
  | r :: rs => by
    have ih := prs_depth rs
    rw [List.map_cons]
    simp only [PyData.depthAll, prD, PyData.depth]
    omega
theorem web_shaped (n : Int) (rs : List (Int × Int)) : SeqAt.shaped (.tuple [.int n, .list (rs.map prD)]) = true := by
  unfold SeqAt.shaped
  rw [Bool.and_eq_true]
  have := prs_depth rs
  refine ⟨by simp only [PyData.canLay0, PyData.canLayAll0, prs_can rs, Bool.and_self], decide_eq_true ?_⟩
  simp only [PyData.depth, PyData.depthAll]
  omega
theorem web_eqv (n m : Int) (rs qs : List (Int × Int)) : PyData.eqv (.tuple [.int n, .list (rs.map prD)]) (.tuple [.int m, .list (qs.map prD)]) = (decide (n = m) && decide (rs = qs)) := by
  simp only [PyData.eqv, PyData.eqvAll, prs_eqv, Bool.and_true]
  by_cases h : n = m <;> simp [h]
end L2
namespace L2
open PySem PySem.Spec PyProof.Rows
section
variable {P : Program} {w : World} {K : PySem.W.Frag} {mg : Str → Option Value} {base : Heap}
end
section
variable {X : Cx}
/-- a type of Python's own, by its name -/
theorem pe_typ {x : Str} {T : String} {pos : Pos} (hm : X.mg x = none) (hv : bootBuiltins x = some (.type T)) (hg : Gl X x := by rfl) (hn : x ≠ "__name__" := by decide) (hd : (x == ("__debug__" : Str)) = false := by decide) : PE X (.Name x pos) (tC (.ty T)) := pe_bltn hg hm hv rfl hn hd
end
theorem boot_isi : bootBuiltins "isinstance" = some (.builtin "isinstance") := by first | rfl | decide +kernel
theorem boot_list : bootBuiltins "list" = some (.type "list") := by first | rfl | decide +kernel
theorem boot_bool : bootBuiltins "bool" = some (.type "bool") := by first | rfl | decide +kernel
theorem boot_int : bootBuiltins "int" = some (.type "int") := by first | rfl | decide +kernel
theorem kit_self {K : PySem.W.Frag} {t : Value} : PySem.W.kitOne K t t = some true := by
  unfold PySem.W.kitOne
  rw [if_pos (beq_self_eq_true t)]

/-! ### the rules with the written part told by name (a comprehension's block has the same) -/
section
variable {X : Cx} (K : PySem.W.Frag)
theorem kIsi (h : X.K = K := by rfl) : CallR X (.builtin "isinstance") (rIsi K) := h ▸ call_isi
theorem kIxL (h : X.K = K := by rfl) : IxR X (rIxL K) := h ▸ ix_list
theorem kIxT (h : X.K = K := by rfl) : IxR X (rIxT K) := h ▸ ix_tup
theorem kIn (h : X.K = K := by rfl) : OpR X (compareOp .In) (rIn K false) := h ▸ op_in_seq
theorem kNotIn (h : X.K = K := by rfl) : OpR X (compareOp .NotIn) (rIn K true) := h ▸ op_notIn_seq
theorem kLen (h : X.K = K := by rfl) : CallR X (.builtin "len") (fun xs H Q => ∃ p ys, xs = [.ref p] ∧ (SqL K H p ys ∨ SqT K H p ys) ∧ Q (.int ys.length) H) := h ▸ call_len_seq
theorem kListOf (h : X.K = K := by rfl) : CallR X (.type "list") (fun xs H Q => ∃ p ys, xs = [.ref p] ∧ (SqL K H p ys ∨ SqT K H p ys) ∧ ∀ l, H l = none → Q (.ref l) (upd H l (.lst ys))) := h ▸ call_list_of
theorem kNeD (hu : X.A.units + 64 < cLine) (h : X.K = K := by rfl) : OpR X (compareOp .NotEq) (rEqD K true) := h ▸ op_neD hu
theorem kSl (h : X.K = K := by rfl) : SlR X (rSlL K) := h ▸ sl_list
theorem kTup {es : List Expr} {k : Nat} {t : TGs} {n : Nat} {pos : Pos} (hc : X.calm = true) (h : PGs X es t) (hK : X.K = K := by rfl)
    (hn : (assignEach es X.env).length = n := by rfl) (hst : (assignEach es X.env).findIdx? (·.1) = none := by rfl) : PG X (.Tuple es k pos) (gTup K n t) := hK ▸ pg_tup hc h hn hst
theorem kList {tg l : Expr} {tl : TE} (hl : PE X l tl) (h : X.K = K := by rfl) : PI X tg l (iList K tl) := h ▸ pi_list hl
end
end L2
namespace L2
open PySem
/-! ### grids -/
def gStep (r c : Nat) (p : Nat) : List (Int × Int) :=
  (if ((p : Int) + 1) % (c : Int) = 0 then [] else [((p : Int), (p : Int) + 1)]) ++ (if (p : Int) + (c : Int) < (r : Int) * (c : Int) then [((p : Int), (p : Int) + (c : Int))] else [])
def gRoads (r c i : Nat) : List (Int × Int) := (List.range i).flatMap (gStep r c)
def dStep (r c i j : Nat) : List (Int × Int) :=
  (if (j : Int) < (c : Int) - 1 then [((i : Int) * (c : Int) + (j : Int), (i : Int) * (c : Int) + (j : Int) + 1)] else []) ++
  (if (i : Int) < (r : Int) - 1 then [((i : Int) * (c : Int) + (j : Int), ((i : Int) + 1) * (c : Int) + (j : Int))] else [])
def dRow (r c i j : Nat) : List (Int × Int) := (List.range j).flatMap (dStep r c i)
def dRoads (r c i : Nat) : List (Int × Int) := (List.range i).flatMap fun k => dRow r c k c
theorem gRoads_succ (r c i : Nat) : gRoads r c (i + 1) = gRoads r c i ++ gStep r c i := by
  unfold gRoads
  rw [List.range_succ, List.flatMap_append, List.flatMap_singleton]
theorem app_pair {H H2 : Hp} {l t : Addr} {xs : List V} {rs : List (Int × Int)} {a b : Int} (s : Same H H2) (hl : H l = none) (h2 : H2 l = some (.lst xs)) (hp : Prs H2 xs rs) (ht : H2 t = none) :
    Same H (upd (upd H2 t (.tup [.int a, .int b])) l (.lst (xs ++ [.ref t]))) ∧ upd (upd H2 t (.tup [.int a, .int b])) l (.lst (xs ++ [.ref t])) l = some (.lst (xs ++ [.ref t])) ∧
      Prs (upd (upd H2 t (.tup [.int a, .int b])) l (.lst (xs ++ [.ref t]))) (xs ++ [.ref t]) (rs ++ [(a, b)]) := by
  have hne : t ≠ l := fun z => by rw [z, h2] at ht; cases ht
  have s1 : Same H (upd H2 t (.tup [.int a, .int b])) := s.put (s.free ht)
  refine ⟨s1.put hl, upd_same, ?_⟩
  have k1 := hp.keep (tups_new (o := .tup [.int a, .int b]) ht)
  have k2 := k1.keep (tups_lst (H := upd H2 t (.tup [.int a, .int b])) (l := l) (zs := xs) (o := .lst (xs ++ [.ref t])) (upd_eq h2 (Ne.symm hne)))
  exact k2.snoc (by rw [upd_ne hne, upd_same])
end L2
namespace L2
open PySem PySem.Spec PyProof.Rows
/-- all of a written list -/
def AllP {α : Type} (P : α → Prop) : List α → Prop
  | [] => True
  | x :: r => P x ∧ AllP P r
theorem AllP.mem {α : Type} {P : α → Prop} : ∀ {l : List α}, AllP P l → ∀ x ∈ l, P x
  | _ :: _, h, _, .head _ => h.1
  | _ :: _, h, x, .tail _ m => AllP.mem h.2 x m
/-- a block with free names -/
theorem compScope_free {X : Cx} {scope : Scope} {cl : List (Str × Addr)} {own : List Str} {fr : List (Str × Nat)} (L : List (Str × NameKind)) (hcl : closureFor scope X.env = pure cl) (hL : (relabel scope X.env).names = L)
    (hc : ∀ y ∈ scope.names, y.2 ≠ .cell) (hk : scope.kind = .function) (hn : ∀ y ∈ scope.names, y.2 = .local → scope.names.lookup y.1 = some .local)
    (hcs : AllP (fun p => X.env.cells.lookup p.1 = some p.2) cl) (hall : AllP (fun p => (p.2 = .cell ∨ p.2 = .free) → ∃ c, cl.lookup p.1 = some c) L)
    (hfr : AllP (fun p => X.N[p.2]? = some p.1 ∧ (X.env.kindOf p.1 = some .cell ∨ X.env.kindOf p.1 = some .free) ∧ (L.lookup p.1 = some .cell ∨ L.lookup p.1 = some .free)) fr) : CompScope X scope cl own fr :=
  ⟨hcl, hc, hk, hn, fun y c h => hcs.mem (y, c) (PySem.mem_of_lookup h), fun y h => by
    rw [hL] at h
    rcases h with h | h
    · exact hall.mem _ (PySem.mem_of_lookup h) (.inl rfl)
    · exact hall.mem _ (PySem.mem_of_lookup h) (.inr rfl), fun p hp => by
    rw [hL]
    exact hfr.mem p hp⟩
theorem no_cf {k : NameKind} {P : Prop} (h : k = .cell ∨ k = .free) (h1 : (k == .cell) = false := by rfl) (h2 : (k == .free) = false := by rfl) : P := by
  rcases h with z | z
  · subst z; exact absurd h1 (by decide)
  · subst z; exact absurd h2 (by decide)
theorem boot_min : bootBuiltins "min" = some (.builtin "min") := by first | rfl | decide +kernel

/-! ### webs -/
def GoodWeb (n : Int) (rs : List (Int × Int)) : Prop := 1 ≤ n ∧ n ≤ 16 ∧ rs.length ≤ 30 ∧ (∀ p ∈ rs, 0 ≤ p.1 ∧ p.1 < p.2 ∧ p.2 < n) ∧ rs.Nodup
instance (n : Int) (rs : List (Int × Int)) : Decidable (GoodWeb n rs) := by unfold GoodWeb; infer_instance
theorem good_grid {r c : Nat} (hr0 : 1 ≤ r) (hr : r ≤ 3) (hc0 : 1 ≤ c) (hc : c ≤ 4) : GoodWeb ((r : Int) * (c : Int)) (gRoads r c (r * c)) := by
  have h1 : r = 1 ∨ r = 2 ∨ r = 3 := by omega
  have h2 : c = 1 ∨ c = 2 ∨ c = 3 ∨ c = 4 := by omega
  rcases h1 with rfl | rfl | rfl <;> rcases h2 with rfl | rfl | rfl | rfl <;> decide +kernel
/-- from H0 to H all stands but the deck at d, which is one still -/
structure Dk (H0 H : Hp) (d : Addr) : Prop where
  keep : ∀ b o, b ≠ d → H0 b = some o → H b = some o
  at_ : ∃ n : Int, H d = some (.lst [.int n])
section
variable {H0 H H' : Hp} {d p : Addr} {o : HO}
theorem Dk.start {n : Int} (h : H d = some (.lst [.int n])) : Dk H H d := ⟨fun _ _ _ e => e, n, h⟩
theorem Dk.take (h : Dk H0 H d) (n' : Int) : Dk H0 (upd H d (.lst [.int n'])) d := ⟨fun b o n e => by rw [upd_ne n]; exact h.keep b o n e, n', upd_same⟩
theorem Dk.grow (h : Dk H0 H d) (s : Same H H') : Dk H0 H' d := ⟨fun b o n e => s b o (h.keep b o n e), h.at_.elim fun n e => ⟨n, s _ _ e⟩⟩
theorem Dk.new (h : Dk H0 H d) (hp : H p = none) : Dk H0 (upd H p o) d := h.grow (Same.new hp)
theorem Dk.free (h : Dk H0 H d) (hp : H p = none) : H0 p = none := by
  cases q : H0 p with
  | none => rfl
  | some u =>
    by_cases z : p = d
    · obtain ⟨n, e⟩ := h.at_
      rw [← z, hp] at e; cases e
    · rw [h.keep p u z q] at hp; cases hp
theorem Dk.ne (h : Dk H0 H d) (hp : H p = none) : d ≠ p := by
  obtain ⟨n, e⟩ := h.at_
  exact ne_of_none e hp
theorem Dk.put (h : Dk H0 H d) (hp : H0 p = none) (hd : d ≠ p) : Dk H0 (upd H p o) d := ⟨fun b u n e => upd_eq (h.keep b u n e) (ne_of_none e hp), h.at_.elim fun n e => ⟨n, upd_eq e hd⟩⟩
theorem Dk.trans {H1 : Hp} (a : Dk H0 H d) (b : Dk H H1 d) : Dk H0 H1 d := ⟨fun c o n e => b.keep c o n (a.keep c o n e), b.at_⟩
/-- tuples stay -/
theorem Dk.tups (h : Dk H0 H d) {n : Int} (h0 : H0 d = some (.lst [.int n])) : ∀ q ys, H0 q = some (.tup ys) → H q = some (.tup ys) := fun q ys e => h.keep q _ (ne_of e h0 (fun z => by cases z)) e
end
theorem Prs.get {H : Hp} : ∀ {xs : List V} {rs : List (Int × Int)}, Prs H xs rs → ∀ {i : Nat} {x : V}, xs[i]? = some x → ∃ t r, x = .ref t ∧ H t = some (.tup [.int r.1, .int r.2]) ∧ rs[i]? = some r
  | _, _, .nil, _, _, h => by simp at h
  | _, _, .cons (a := a) (b := b) e _, 0, _, h => by
    simp at h
    subst h
    exact ⟨_, (a, b), rfl, e, rfl⟩
  | _, _, .cons _ r, i + 1, x, h => by
    obtain ⟨t, q, h1, h2, h3⟩ := Prs.get r (i := i) (x := x) (by simpa using h)
    exact ⟨t, q, h1, h2, by simpa using h3⟩
theorem Prs.app {H : Hp} {xs ys : List V} {rs qs : List (Int × Int)} (h : Prs H xs rs) (k : Prs H ys qs) : Prs H (xs ++ ys) (rs ++ qs) := by
  induction h with
  | nil => exact k
  | cons e _ ih => exact .cons e ih
theorem Prs.erase {H : Hp} : ∀ {xs : List V} {rs : List (Int × Int)}, Prs H xs rs → ∀ i : Nat, Prs H (xs.eraseIdx i) (rs.eraseIdx i)
  | _, _, .nil, _ => .nil
  | _, _, .cons _ r, 0 => r
  | _, _, .cons e r, i + 1 => .cons e (Prs.erase r i)
theorem seq_mid {t u : TS} {D : Ends} {σ : St} {H : Hp} (Pm : St → Hp → Prop) (h2 : ∀ σ' H', Pm σ' H' → u D σ' H') (h1 : (∀ σ' H', Pm σ' H' → u D σ' H') → t { D with nx := u D } σ H) : tSeq t u D σ H := h1 h2
theorem seqIx {n : Nat} {r : Int} (h0 : 0 ≤ r) (h1 : r < n) : seqIndex? r n = some r.toNat := by
  have h : ixN n r = some r.toNat := by
    unfold ixN
    rw [if_pos h0, if_pos h1]
  exact (ixN_seq h).1
/-- one popped, one put behind: the same members -/
theorem pop_perm {α : Type} : ∀ (ps rs : List α) (k : Nat) (y : α), ps[k]? = some y → ((rs ++ [y]) ++ ps.eraseIdx k).Perm (rs ++ ps)
  | [], _, k, y, h => by simp at h
  | x :: r, rs, 0, y, h => by
    simp at h
    subst h
    rw [List.append_assoc]
    exact List.Perm.refl _
  | x :: r, rs, k + 1, y, h => by
    have ih := pop_perm r [] k y (by simpa using h)
    rw [List.eraseIdx_cons_succ, List.append_assoc]
    refine List.Perm.append_left rs ?_
    have ih' : (y :: r.eraseIdx k).Perm r := by simpa using ih
    exact (List.Perm.swap x y _).trans (ih'.cons x)
end L2
namespace L2
open PySem PySem.Spec PyProof.Rows
section
variable {X : Cx} (K : PySem.W.Frag)
/-- sorted(xs), xs a list of less than 64 ints -/
def rSorted : List V → Hp → VK → Prop := fun xs H Q => ∃ (p : Addr) (ns : List Int), xs = [.ref p] ∧ SqL K H p (ns.map V.int) ∧ ns.length < 64 ∧ ∀ (l : Addr) (ns' : List Int), H l = none → ns'.Perm ns → ns'.Pairwise (· ≤ ·) → Q (.ref l) (upd H l (.lst (ns'.map V.int)))
end
section
variable {X : Cx}
end
section
variable {X : Cx}
theorem op_negI : UnR X (unaryOp .USub) (rU fun i => .int (-i)) := by
  intro pins s σ H x v Q I rx h
  obtain ⟨i, rfl, q⟩ := h
  obtain ⟨t, rfl⟩ := rx
  exact neg_int ⟨.int (-i), H, I.tok _, ⟨_, rfl⟩, q⟩
end
theorem cut_to {xs : List V} {k : Nat} : cutV xs none (some (k : Int)) = xs.take k := by
  unfold cutV
  rw [HT.sIx_none, HT.sIx_nat, List.drop_zero, Nat.sub_zero]
  by_cases h : k ≤ xs.length
  · rw [Nat.min_eq_left h]
  · rw [Nat.min_eq_right (by omega), List.take_length, List.take_of_length_le (by omega)]
theorem cut_from {xs : List V} {k : Nat} : cutV xs (some (k : Int)) none = xs.drop k := by
  unfold cutV
  rw [HT.sIx_none, HT.sIx_nat]
  by_cases h : k ≤ xs.length
  · rw [Nat.min_eq_left h, List.take_of_length_le (by rw [List.length_drop]; exact Nat.le_refl _)]
  · rw [Nat.min_eq_right (by omega), List.drop_length, List.drop_of_length_le (by omega), List.take_nil]
theorem ints_dats {K : PySem.W.Frag} {H : Hp} : ∀ ns : List Int, DatVs K H (ns.map V.int) (ns.map PyData.int)
  | [] => .nil
  | n :: ns => .cons (.int n) (ints_dats ns)
theorem ints_can : ∀ ns : List Int, PyData.canLayAll0 (ns.map PyData.int) = true
  | [] => by simp [PyData.canLayAll0]
  | n :: ns => by
    rw [List.map_cons]
    simp [PyData.canLayAll0, PyData.canLay0, ints_can ns]
theorem ints_depth : ∀ ns : List Int, PyData.depthAll (ns.map PyData.int) ≤ 1
  | [] => by simp [PyData.depthAll]
  | n :: ns => by
    have ih := ints_depth ns
    rw [List.map_cons]
    simp only [PyData.depthAll, PyData.depth]
    omega
theorem ints_shaped (ns : List Int) : SeqAt.shaped (.list (ns.map PyData.int)) = true := by
  unfold SeqAt.shaped
  rw [Bool.and_eq_true]
  have := ints_depth ns
  refine ⟨by simp only [PyData.canLay0]; exact ints_can ns, decide_eq_true ?_⟩
  simp only [PyData.depth]
  omega
theorem ints_eqv (ns ms : List Int) : PyData.eqv (.list (ns.map PyData.int)) (.list (ms.map PyData.int)) = decide (ns = ms) := by
  rw [← PySem.W.ked_eqvAll]
  simp only [PyData.eqv]
end L2
namespace L2
open PySem PySem.Spec PyProof.Rows
/-! ### an exception passes on through a frame -/
/-! ### x in a list or tuple of data -/
section
variable {X : Cx}
def rInD (K : PySem.W.Frag) (neg : Bool) : R2 := fun x y H Q => ∃ p xs d ds, y = .ref p ∧ (SqL K H p xs ∨ SqT K H p xs) ∧ DatV K H x d ∧ DatVs K H xs ds ∧ SeqAt.shaped d = true ∧ (∀ e ∈ ds, SeqAt.shaped e = true) ∧ Q (.bl (neg != ds.any fun e => PyData.eqv e d)) H
open Classical in
/-- the data read at a value -/
noncomputable def datAt (h : Heap) (u : Value) : PyData := if q : ∃ d as, Reads h u d as ∧ SeqAt.shaped d = true then choose q else .none
theorem datAt_eq {h : Heap} {u : Value} {d : PyData} {as : List Addr} (r : Reads h u d as) (hs : SeqAt.shaped d = true) : datAt h u = d := by
  have q : ∃ d as, Reads h u d as ∧ SeqAt.shaped d = true := ⟨d, as, r, hs⟩
  unfold datAt
  rw [dif_pos q]
  obtain ⟨as', r', s'⟩ := Classical.choose_spec q
  exact SeqAt.Reads.unique _ _ _ _ _ (SeqAt.canLay_of_shaped s') r' r
theorem datsAt {h : Heap} : ∀ {us : List Value} {ds : List PyData} {as : List Addr}, ReadsAll h us ds as → (∀ e ∈ ds, SeqAt.shaped e = true) → (∀ u ∈ us, ∃ as', Reads h u (datAt h u) as' ∧ SeqAt.shaped (datAt h u) = true) ∧ us.map (datAt h) = ds
  | _, _, _, .nil, _ => ⟨fun u hu => by simp at hu, rfl⟩
  | _, _, _, .cons r rs, hs => by
    obtain ⟨i1, i2⟩ := datsAt rs fun e he => hs e (List.mem_cons_of_mem _ he)
    have h0 := hs _ (List.mem_cons_self ..)
    have e0 := datAt_eq r h0
    refine ⟨fun u hu => ?_, by rw [List.map_cons, e0, i2]⟩
    rcases List.mem_cons.mp hu with rfl | hu
    · rw [e0]; exact ⟨_, r, h0⟩
    · exact i1 u hu
theorem any_dats {h : Heap} {us : List Value} {ds : List PyData} {d : PyData} (e : us.map (datAt h) = ds) : us.any (fun u => PyData.eqv (datAt h u) d) = ds.any fun e => PyData.eqv e d := by
  rw [← e, List.any_map]
  rfl
theorem op_inD {neg : Bool} {c : CmpOp} (hc : (neg = false ∧ c = .In) ∨ (neg = true ∧ c = .NotIn)) (hu : X.A.units + 65 < cLine) : OpR X (compareOp c) (rInD X.K neg) := by
  intro pins s σ H x y v u Q I rx ry h
  obtain ⟨p, xs, d, ds, rfl, hq, hd, hds, sd, sds, q⟩ := h
  cases ry
  obtain ⟨as, ra⟩ := hd.reads I rx
  have hu1 : X.A.in1.units + 64 < cLine := by rw [Around.in1_units]; omega
  have key : ∀ its : List Value, Vals xs its → (∀ w ∈ its, SeqAt.EqAt X.A.in1 s w v (PyData.eqv (datAt s.heap w) d)) ∧ its.toArray.any (fun w => PyData.eqv (datAt s.heap w) d) = ds.any fun e => PyData.eqv e d := fun its r => by
    obtain ⟨bs, rb⟩ := hds.reads I r
    obtain ⟨k1, k2⟩ := datsAt rb sds
    refine ⟨fun w hw => ?_, ?_⟩
    · obtain ⟨as', r', s'⟩ := k1 w hw
      exact PySem.W.keq_at r' ra s' sd hu1
    · rw [List.any_toArray]
      exact any_dats k2
  rcases hq with hq | hq
  · obtain ⟨its, r, pl, hz⟩ := I.list hq
    obtain ⟨k1, k2⟩ := key its r
    rcases hc with ⟨rfl, rfl⟩ | ⟨rfl, rfl⟩
    · refine SeqAt.in_listAt (fun w => PyData.eqv (datAt s.heap w) d) pl.isList (fun w hw => k1 w (by simpa using hw)) ⟨.bl _, H, I, rfl, ?_⟩
      rw [k2]; simpa using q
    · refine SeqAt.notIn_listAt (fun w => PyData.eqv (datAt s.heap w) d) pl.isList (fun w hw => k1 w (by simpa using hw)) ⟨.bl _, H, I, rfl, ?_⟩
      rw [k2]; simpa using q
  · obtain ⟨its, r, pl, hz⟩ := I.tuple hq
    obtain ⟨k1, k2⟩ := key its r
    rcases hc with ⟨rfl, rfl⟩ | ⟨rfl, rfl⟩
    · refine SeqAt.in_tupleAt (fun w => PyData.eqv (datAt s.heap w) d) pl (fun w hw => k1 w (by simpa using hw)) ⟨.bl _, H, I, rfl, ?_⟩
      rw [k2]; simpa using q
    · refine SeqAt.notIn_tupleAt (fun w => PyData.eqv (datAt s.heap w) d) pl (fun w hw => k1 w (by simpa using hw)) ⟨.bl _, H, I, rfl, ?_⟩
      rw [k2]; simpa using q
theorem kNotInD (K : PySem.W.Frag) (hu : X.A.units + 65 < cLine) (h : X.K = K := by rfl) : OpR X (compareOp .NotIn) (rInD K true) := h ▸ op_inD (.inr ⟨rfl, rfl⟩) hu

/-- a pair among pairs -/
theorem prs_any (rs : List (Int × Int)) (q : Int × Int) : (rs.map prD).any (fun e => PyData.eqv e (prD q)) = decide (q ∈ rs) := by
  induction rs with
  | nil => rfl
  | cons r rs ih =>
    rw [List.map_cons, List.any_cons, ih, prD_eqv]
    by_cases h1 : r = q
    · subst h1; simp
    · have h2 : ¬ q = r := fun z => h1 z.symm
      simp [h1, h2]
theorem prD_shaped (r : Int × Int) : SeqAt.shaped (prD r) = true := by
  unfold SeqAt.shaped prD
  simp [PyData.canLay0, PyData.canLayAll0, PyData.depth, PyData.depthAll]
theorem prs_each (rs : List (Int × Int)) : ∀ e ∈ rs.map prD, SeqAt.shaped e = true := fun e he => by
  obtain ⟨r, _, rfl⟩ := List.mem_map.mp he
  exact prD_shaped r

/-! ### list.insert(0, x) -/
def rInsert0 : V → List V → Hp → VK → Prop := fun x vs H Q => ∃ l xs y, x = .ref l ∧ vs = [.int 0, y] ∧ H l = some (.lst xs) ∧ xs.length < sizeLine ∧ Q .non (upd H l (.lst (y :: xs)))
end
end L2
namespace L2
open PySem PySem.Spec PyProof.Rows
section
variable {X : Cx}
/-! ### list.insert(k, x) -/
def rInsert : V → List V → Hp → VK → Prop := fun x vs H Q => ∃ l xs i y, x = .ref l ∧ vs = [.int i, y] ∧ H l = some (.lst xs) ∧ 0 ≤ i ∧ i ≤ xs.length ∧ xs.length < sizeLine ∧ Q .non (upd H l (.lst (xs.take i.toNat ++ y :: xs.drop i.toNat)))
theorem Vals.drop' {xs : List V} {us : List Value} (h : Vals xs us) : ∀ k : Nat, Vals (xs.drop k) (us.drop k) := by
  induction h with
  | nil => intro k; rw [List.drop_nil, List.drop_nil]; exact .nil
  | cons r t ih =>
    intro k
    cases k with
    | zero => exact .cons r t
    | succ k => rw [List.drop_succ_cons, List.drop_succ_cons]; exact ih k
/-! ### enumerate(list) -/
def Ite (K : PySem.W.Frag) (a : Addr) : It :=
  ⟨fun i H => ∃ xs x, SqL K H a xs ∧ xs[i]? = some x, fun i H x H' => ∃ T y, x = .ref T ∧ H T = none ∧ H' = upd H T (.tup [.int (i : Nat), y]) ∧ ∀ xs, SqL K H a xs → xs[i]? = some y, fun i H => ∃ xs, SqL K H a xs ∧ xs.length ≤ i⟩
theorem turn_enum {P : Program} {w : World} {K : PySem.W.Frag} {elts : List Expr} {k : Nat} {pos : Pos} (a e it : Addr) (hne : e ≠ it) :
    Turn P w K (.Tuple elts k pos) (Ite K a) [e, it] e (fun i h => (∃ old, IsEnum h e it ((i : Nat) : Int) old) ∧ h.IsListIter it a i) where
  mem := by simp
  obj := fun i h st b hb => by
    obtain ⟨⟨old, he⟩, ⟨o, ei, c, d⟩⟩ := st
    rcases List.mem_cons.mp hb with rfl | hb
    · exact ⟨_, he, fun v z => by
        have z' : Data.fields _ = Data.cell v := z
        cases z'⟩
    · have eb : b = it := by simpa using hb
      subst eb
      exact ⟨o, ei, fun v z => by rw [d] at z; cases z⟩
  keep := fun i h h' st q => by
    obtain ⟨⟨old, he⟩, hi⟩ := st
    exact ⟨⟨old, q e (by simp) _ he⟩, hi.at fun o ho => q it (by simp) o ho⟩
  item := by
    intro X hP hw hK hc i pins s σ H E I hf st hg
    subst hP hw hK
    obtain ⟨xs, x, hq, hx⟩ := hg
    obtain ⟨its, rv, p, hz⟩ := I.list hq
    obtain ⟨u, hu, ru⟩ := rv.get hx
    obtain ⟨⟨old, he⟩, hit⟩ := st
    refine wpAny_pyNext_enum_item he hit p.isList (x := u) (by simpa using hu) hne fun h1 heo hit1 ht1 hz1 hk1 => ?_
    refine ⟨_, rfl, wpAny_letOwnedTupleGo_enum (s := { s with heap := h1, toks := s.toks + 1 }) heo fun h2 he2 hs2 => ?_⟩
    have hs2' : Heap.SameBut e h1 h2 := hs2
    have hfr : H s.heap.objs.size = none := I.fresh
    have hel : e < s.heap.objs.size := Heap.lt_size he
    have kk : ∀ b o, b ∉ [e, it] → s.heap.get? b = some o → h2.get? b = some o := fun b o hb q => by
      have n1 : b ≠ e := fun z => hb (by simp [z])
      have n2 : b ≠ it := fun z => hb (by simp [z])
      exact (hs2'.2 b n1).trans (hk1 b o n1 n2 q)
    have nT : ∀ b o, s.heap.get? b = some o → b ≠ s.heap.objs.size := fun b o q => Nat.ne_of_lt (Heap.lt_size q)
    have trk : ∀ c u, H c = some u → c ∉ [e, it] := fun c u q z => by
      rw [(hf c z).1] at q; cases q
    refine ⟨.ref s.heap.objs.size, upd H s.heap.objs.size (.tup [.int (i : Nat), x]), I.call' (ch := [e, it]) rfl ⟨fun b o q _ _ hb => kk b o hb q, fun b o q _ _ hb => ⟨o.slots, kk b o hb q⟩, fun b o q n _ => by rw [upd_ne (nT b o q)]; exact n,
      fun b o q hb => ⟨o, kk b o hb q⟩, fun b ys q => by rw [upd_ne (ne_of_none q hfr)]; exact q, fun b o u q => by rw [upd_ne (ne_of_none q hfr)]; exact q, fun b ps q => ⟨#[], by rw [upd_ne (ne_of_none q hfr), q]; simp⟩⟩ (fun b v q => ?_) I.bare (fun b hb => ?_),
      rfl, ⟨_, x, rfl, hfr, rfl, fun ys hy => by rw [I.list_inj hy hq]; exact hx⟩, ⟨⟨_, by rw [Int.natCast_add]; exact he2⟩, hit1.extBut hs2'.extBut (Ne.symm hne)⟩, fun b hb => ?_⟩
    · by_cases hb : b = s.heap.objs.size
      · subst hb
        rw [upd_same] at q; cases q
        refine ⟨by have h16 : (16777216 : Nat) = sizeLine := sizeLine_eq.symm; rw [← h16]; show 2 ≤ 16777216; omega, [.int (i : Nat) s.toks, u], .cons ⟨_, rfl⟩ (.cons ru .nil), ⟨_, (hs2'.2 _ (Nat.ne_of_gt hel)).trans ht1, rfl, _, rfl⟩⟩
      · rw [upd_ne hb] at q
        refine (I.hok b v q).stay (fun c v' hc z => kk c v' ?_ z) (fun c z => by rw [upd_ne (ne_of_none z hfr)]; exact z) fun c ys z => by rw [upd_ne (ne_of_none z hfr)]; exact z
        rcases hc with rfl | hc
        · exact trk _ _ q
        · exact trk _ _ hc
    · obtain ⟨f0, f1, f2, f3, f4, f5⟩ := hf b hb
      exact ⟨f3, f1, f4, f5⟩
    · have ho : ∃ o, s.heap.get? b = some o := by
        rcases List.mem_cons.mp hb with rfl | hb
        · exact ⟨_, he⟩
        · have eb : b = it := by simpa using hb
          subst eb
          obtain ⟨o, ei, _⟩ := hit
          exact ⟨o, ei⟩
      obtain ⟨o, ho⟩ := ho
      rw [upd_ne (nT b o ho)]
      exact (hf b hb).1
  done := by
    intro X hP hw hK hc i pins s σ H E I hf st hg
    subst hP hw hK
    obtain ⟨xs, hq, hx⟩ := hg
    obtain ⟨its, rv, p, hz⟩ := I.list hq
    obtain ⟨⟨old, he⟩, hit⟩ := st
    obtain ⟨f0, f1, f2, f3, f4, f5⟩ := hf it (by simp)
    have hl := rv.length
    exact wpAny_pyNext_enum_end (I.ok.hd hc) he hit p.isList (by simp; omega) fun h' eb => ⟨rfl, I.turned (t' := s.toks) (fun b o hb q => eb b o hb q) f0 f1 f3 f4 f5⟩
  self := fun _ _ _ _ _ ⟨⟨_, he⟩, _⟩ h => wpAny_pyIter_enum he h
def iEnum (K : PySem.W.Frag) (ta : TA) : TI := fun σ H R => ta σ H fun vs H1 => ∃ a xs, vs = [.ref a] ∧ SqL K H1 a xs ∧ R (Ite K a) H1
theorem pi_enum {elts : List Expr} {k : Nat} {p0 : Pos} {l : Expr} {ta : TA} {p pos : Pos} (hg : Gl X "enumerate") (hm : X.mg "enumerate" = none) (ha : PA X [l] ta) (hs : starEach [l] X.env = [(false, eval l X.env)] := by rfl) :
    PI X (.Tuple elts k p0) (.Call (.Name "enumerate" p) [l] [] pos) (iEnum X.K ta) := by
  intro pins s σ H R I h
  refine Call_ (ld_blt I hg hm boot_enumerate (PyProof.Rows.callWith_type1 (thn (ha pos pins s σ H _ I h) fun us s1 ⟨vs, H1, I1, r1, q1⟩ => ?_) hs rfl))
  obtain ⟨a, xs, e, hq, q⟩ := q1
  subst e
  obtain ⟨u, rfl, ru⟩ := r1.one
  cases ru
  obtain ⟨its, rv, pl, hz⟩ := I1.list hq
  refine call_enumerate_list pl.isList fun h' hE hI hsz hk => ?_
  refine wpAny_pyIter_enum hE ?_
  refine ⟨s1.heap.objs.size + 1, [s1.heap.objs.size + 1, s1.heap.objs.size], _, _, H1, rfl, I1.kept (t' := s1.toks) hk, turn_enum a _ _ (Nat.succ_ne_self _), ⟨⟨_, hE⟩, hI⟩, fun b hb => ?_, q⟩
  have e : s1.heap.objs.size ≤ b := by
    rcases List.mem_cons.mp hb with rfl | hb
    · exact Nat.le_succ _
    · have eb : b = s1.heap.objs.size := by simpa using hb
      rw [eb]; exact Nat.le_refl _
  exact I1.fpOk e (I1.hok.fresh e)
theorem kEnum (K : PySem.W.Frag) {elts : List Expr} {k : Nat} {p0 : Pos} {l : Expr} {ta : TA} {p pos : Pos} (hg : Gl X "enumerate") (hm : X.mg "enumerate" = none) (ha : PA X [l] ta) (h : X.K = K := by rfl) (hs : starEach [l] X.env = [(false, eval l X.env)] := by rfl) :
    PI X (.Tuple elts k p0) (.Call (.Name "enumerate" p) [l] [] pos) (iEnum K ta) := h ▸ pi_enum hg hm ha hs
end
/-! ### try: a body of calls -/
abbrev TB := Ends → (St → XK) → St → Hp → Prop
/-- a try's body: what it comes to, and where an exception of a callee flies -/
def PB (X : Cx) (body : List Stmt) (tb : TB) : Prop := ∀ (pins : List (Addr × Obj)) (s : Shared) (σ : St) (H : Hp) (D : Ends) (Eσ : St → XK) (QQ : Flow → Shared → Prop) (EE : Value → Shared → Prop), Inv X pins σ H s → tb D Eσ σ H →
  (∀ fl s', SP X pins D fl s' → QQ fl s') → (∀ σ1 ev H1 s1 s', Inv X pins σ1 H1 s1 → CXr X.prog X.w X.stack H1 s1 (Eσ σ1) ev s' → EE ev s') → wpAny (model X.prog X.w) X.A (execs body X.env) QQ EE s
section
variable {X : Cx} {k : Nat} {f : Addr} {fd : FuncData} {ps : List Str} {sp : Sp} {dvs : List V} {ds : List Value} {fx : Str} {fp cpos bpos np hpos pos : Pos} {e : Expr} {es : List Expr} {t : TA}
end
end L2
namespace L2
open PySem PySem.Spec PyProof.Rows
section
variable {X : Cx} {a b c d : Expr} {ta tb tc td : TE} {pos : Pos}
/-! ### a op b op c op d -/
def tChain3 (r1 r2 r3 : R2) (ta tb tc td : TE) : TE := fun σ H Q => ta σ H fun x H1 => tb σ H1 fun y H2 => r1 x y H2 fun z H3 => ∃ k, z = .bl k ∧
  (if k = true then tc σ H3 fun w' H4 => r2 y w' H4 fun z' H5 => ∃ k', z' = .bl k' ∧ (if k' = true then td σ H5 fun u' H6 => r3 w' u' H6 Q else Q (.bl false) H5) else Q (.bl false) H3)
/-! ### all(list of truths) -/
theorem boot_all : bootBuiltins "all" = some (.builtin "all") := by first | rfl | decide +kernel
theorem boot_set : bootBuiltins "set" = some (.type "set") := by first | rfl | decide +kernel
theorem vals_bool : ∀ {bs : List Bool} {us : List Value}, Vals (bs.map V.bl) us → us = bs.map Value.bool
  | [], _, .nil => rfl
  | b :: bs, _, .cons r t => by rw [List.map_cons, ← vals_bool t]; cases r; rfl
theorem all_range (bs : List Bool) : (List.range bs.length).all (fun i => bs.getD i false) = bs.all id := by
  induction bs with
  | nil => rfl
  | cons b bs ih =>
    rw [List.length_cons, List.range_succ_eq_map, List.all_cons, List.all_map, List.all_cons]
    show (b && _) = (b && _)
    congr 1
theorem kAll (K : PySem.W.Frag) (hc : X.calm = true) (h : X.K = K := by rfl) : CallR X (.builtin "all") (fun xs H Q => ∃ (p : Addr) (bs : List Bool), xs = [.ref p] ∧ SqL K H p (bs.map V.bl) ∧ Q (.bl (bs.all id)) H) := by
  subst h
  intro pins s σ H xs us Q I rv h
  obtain ⟨p, bs, rfl, hq, q⟩ := h
  obtain ⟨u, rfl, ru⟩ := rv.one
  cases ru
  obtain ⟨its, r, pl, hz⟩ := I.list hq
  have e := vals_bool r
  have hh : X.A.in1.handled = none := I.ok.hd hc
  obtain ⟨o, eo, _⟩ := id pl.isList
  have hlt : p < s.heap.objs.size := Heap.lt_size eo
  refine call_all_walk (wpAny_pyIter_list pl.isList ?_)
  refine ⟨s.heap.objs.size, _, _, _, _, _, fun i => bs.getD i false, rfl, Walks.list hh s.heap.objs.size p (Nat.ne_of_lt hlt) its.toArray, ⟨⟨_, Heap.get?_push_size _ rfl, rfl, rfl⟩, pl.isList.at fun o e => Heap.get?_push_of_some _ e⟩, ?_, fun h' tk hk => ?_⟩
  · intro i v s' Q' E' hv hq'
    have hv' : its[i]? = some v := by simpa using hv
    rw [e, List.getElem?_map] at hv'
    cases z : bs[i]? with
    | none => rw [z] at hv'; cases hv'
    | some b =>
      rw [z] at hv'
      cases hv'
      have eb : bs.getD i false = b := by rw [List.getD_eq_getElem?_getD, z]; rfl
      exact wpAny_truthy_bool (by rw [← eb]; exact hq')
  · have hl : its.toArray.size = bs.length := by rw [List.size_toArray, e, List.length_map]
    have I1 : Inv X pins σ H { s with heap := s.heap.push { cls := .type "list_iterator", data := .fields #[.ref p, .int 0 0] } } := I.kept (t' := s.toks) fun b o e => Heap.get?_push_of_some _ e
    refine ⟨.bl _, H, I.kept fun b o e' => hk b o ?_ (Heap.get?_push_of_some _ e'), ?_, q⟩
    · intro z
      have : b = s.heap.objs.size := by simpa using z
      exact absurd (Heap.lt_size e') (by rw [this]; exact Nat.lt_irrefl _)
    · show Value.bool _ = Value.bool _
      rw [hl, all_range]

/-! ### set(list of ints), len of it -/
theorem kSetI (K : PySem.W.Frag) (hc : X.calm = true) (h : X.K = K := by rfl) : CallR X (.type "set") (fun xs H Q => ∃ (p : Addr) (ns : List Int), xs = [.ref p] ∧ SqL K H p (ns.map V.int) ∧ ns.length < 1000 ∧
    ∀ l, H l = none → Q (.ref l) (upd H l (.set (fun k' => (firstMet (fun i => ns.getD i 0) ns.length).any (· == k')) (firstMet (fun i => ns.getD i 0) ns.length).length))) := by
  subst h
  intro pins s σ H xs us Q I rv h
  obtain ⟨p, ns, rfl, hq, hn, q⟩ := h
  obtain ⟨u, rfl, ru⟩ := rv.one
  cases ru
  obtain ⟨its, r, pl, hz⟩ := I.list hq
  have hl := r.length
  rw [List.length_map] at hl
  refine call_set_list (I.ok.hd hc) pl.isList (by simpa using intsAre_of r) (by rw [List.size_toArray, ← hl]; exact Nat.lt_of_lt_of_le (Nat.succ_lt_succ hn) (by decide)) fun h' tk hS hk => ?_
  have es : its.toArray.size = ns.length := by rw [List.size_toArray]; exact hl.symm
  rw [es] at hS
  exact ⟨.ref _, _, I.laid (o := .set _ _) (fun b o e => hk b o (Heap.lt_size e) e) (Nat.le_refl _) hS, rfl, q _ I.fresh⟩
theorem kLenSet : CallR X (.builtin "len") (fun xs H Q => ∃ p S n, xs = [.ref p] ∧ H p = some (.set S n) ∧ n < 2 ^ 60 ∧ Q (.int (n : Nat)) H) := by
  intro pins s σ H xs us Q I rv h
  obtain ⟨p, S, n, rfl, hp, hn, q⟩ := h
  obtain ⟨u, rfl, ru⟩ := rv.one
  cases ru
  obtain ⟨o, es, ep, t, e1, e2, e3, e4, e5, e6, e7, rfl⟩ := I.hok p _ hp
  refine call_len_set e1 e2 e3 e7 (by omega) ?_
  exact ⟨.int _, H, I.tok _, ⟨_, rfl⟩, q⟩
end
end L2
namespace L2
open PySem PySem.Spec PyProof.Rows
/-! ### lists of pairs as tables -/
section
variable {κ : Type} [DecidableEq κ]
def valV (kvs : List (κ × V)) (k : κ) : Option V := (kvs.find? fun kv => decide (kv.1 = k)).map (·.2)
/-- in its place, or at the end -/
def putK (kvs : List (κ × V)) (k : κ) (v : V) : List (κ × V) :=
  if (kvs.any fun kv => decide (kv.1 = k)) = true then kvs.map (fun kv => if kv.1 = k then (kv.1, v) else kv) else kvs ++ [(k, v)]
def dropK (kvs : List (κ × V)) (k : κ) : List (κ × V) := kvs.filter fun kv => decide (kv.1 ≠ k)

theorem valV_pos {p : κ × V} {r : List (κ × V)} {k : κ} (e : p.1 = k) : valV (p :: r) k = some p.2 := by simp [valV, List.find?_cons, e]
theorem valV_neg {p : κ × V} {r : List (κ × V)} {k : κ} (e : ¬ p.1 = k) : valV (p :: r) k = valV r k := by simp [valV, List.find?_cons, e]
theorem valV_any (k : κ) : ∀ kvs : List (κ × V), (kvs.any fun kv => decide (kv.1 = k)) = (valV kvs k).isSome
  | [] => rfl
  | p :: r => by
    rw [List.any_cons]
    by_cases e : p.1 = k
    · simp only [valV_pos e, decide_eq_true e, Bool.true_or, Option.isSome_some]
    · rw [valV_neg e, decide_eq_false e, Bool.false_or]; exact valV_any k r
theorem valV_map (k j : κ) (y : V) : ∀ kvs : List (κ × V), valV (kvs.map fun kv => if kv.1 = k then (kv.1, y) else kv) j = (valV kvs j).map fun x => if j = k then y else x
  | [] => rfl
  | p :: r => by
    have ih := valV_map k j y r
    rw [List.map_cons]
    by_cases h : p.1 = k
    · rw [if_pos h]
      by_cases e : p.1 = j
      · rw [valV_pos (p := (p.1, y)) e, valV_pos e, Option.map_some, if_pos (e.symm.trans h)]
      · rw [valV_neg (p := (p.1, y)) e, valV_neg e, ih]
    · rw [if_neg h]
      by_cases e : p.1 = j
      · rw [valV_pos (p := p) e, valV_pos e, Option.map_some, if_neg (fun z => h (e.trans z))]
      · rw [valV_neg (p := p) e, valV_neg e, ih]
theorem valV_snoc (k j : κ) (y : V) : ∀ kvs : List (κ × V), valV kvs k = none → valV (kvs ++ [(k, y)]) j = if j = k then some y else valV kvs j
  | [], _ => by
    by_cases e : k = j
    · rw [if_pos e.symm]; exact valV_pos (p := (k, y)) e
    · rw [if_neg (fun z => e z.symm)]; exact valV_neg (p := (k, y)) e
  | p :: r, hn => by
    rw [List.cons_append]
    have hk : ¬ p.1 = k := fun z => by rw [valV_pos z] at hn; cases hn
    rw [valV_neg hk] at hn
    have ih := valV_snoc k j y r hn
    by_cases e : p.1 = j
    · rw [valV_pos e, valV_pos e, if_neg (fun z => hk (e.trans z))]
    · rw [valV_neg e, valV_neg e, ih]
theorem valV_put (kvs : List (κ × V)) (k j : κ) (y : V) : valV (putK kvs k y) j = if j = k then some y else valV kvs j := by
  unfold putK
  by_cases a : (kvs.any fun kv => decide (kv.1 = k)) = true
  · rw [if_pos a, valV_map]
    rw [valV_any] at a
    by_cases e : j = k
    · obtain ⟨x, hx⟩ := Option.isSome_iff_exists.mp a
      rw [if_pos e, e, hx, Option.map_some, if_pos rfl]
    · rw [if_neg e]
      cases valV kvs j with
      | none => rfl
      | some x => rw [Option.map_some, if_neg e]
  · rw [if_neg a]
    refine valV_snoc k j y kvs ?_
    rw [valV_any] at a
    cases q : valV kvs k with
    | none => rfl
    | some x => rw [q] at a; exact (a rfl).elim
theorem length_putK (kvs : List (κ × V)) (k : κ) (v : V) : (putK kvs k v).length ≤ kvs.length + 1 := by
  unfold putK
  split
  · rw [List.length_map]; omega
  · rw [List.length_append, List.length_cons, List.length_nil]; omega
theorem RelO.isSome_eq {o : Option V} {u : Option Value} (r : RelO o u) : o.isSome = u.isSome := by
  cases o with
  | none => cases u with
    | none => rfl
    | some _ => exact (show False from r).elim
  | some _ => cases u with
    | none => exact (show False from r).elim
    | some _ => rfl
/-- raw tables of the same keys -/
theorem KV.val {kvs : List (κ × V)} {vs : List (κ × Value)} (r : KV kvs vs) (k : κ) : RelO (valV kvs k) (valueAt vs k) := by
  unfold KV at r
  induction r with
  | nil => exact True.intro
  | @cons p q ps qs h t ih =>
    obtain ⟨h1, h2⟩ := h
    by_cases e : p.1 = k
    · have e' : q.1 = k := h1.symm.trans e
      have b : valueAt (q :: qs) k = some q.2 := by simp [valueAt, List.find?_cons, e']
      rw [valV_pos e, b]; exact h2
    · have e' : ¬ q.1 = k := fun z => e (h1.trans z)
      have b : valueAt (q :: qs) k = valueAt qs k := by simp [valueAt, List.find?_cons, e']
      rw [valV_neg e, b]; exact ih
theorem KV.any {kvs : List (κ × V)} {vs : List (κ × Value)} (r : KV kvs vs) (k : κ) : (kvs.any fun kv => decide (kv.1 = k)) = vs.any fun kv => decide (kv.1 = k) := by
  unfold KV at r
  induction r with
  | nil => rfl
  | cons h t ih => rw [List.any_cons, List.any_cons, ih, h.1]
theorem KV.repl {kvs : List (κ × V)} {vs : List (κ × Value)} (r : KV kvs vs) (k : κ) {y : V} {u : Value} (ry : RelV y u) :
    KV (kvs.map fun kv => if kv.1 = k then (kv.1, y) else kv) (vs.map fun kv => if kv.1 = k then (kv.1, u) else kv) := by
  unfold KV at r ⊢
  induction r with
  | nil => exact .nil
  | @cons p q ps qs h t ih =>
    rw [List.map_cons, List.map_cons]
    refine .cons ?_ ih
    obtain ⟨h1, h2⟩ := h
    by_cases e : p.1 = k
    · rw [if_pos e, if_pos (h1.symm.trans e)]; exact ⟨h1, ry⟩
    · rw [if_neg e, if_neg (fun z => e (h1.trans z))]; exact ⟨h1, h2⟩
theorem KV.put {kvs : List (κ × V)} {vs : List (κ × Value)} (r : KV kvs vs) (k : κ) {y : V} {u : Value} (ry : RelV y u) : KV (putK kvs k y) (stored vs k u) := by
  unfold putK stored
  rw [r.any k]
  by_cases e : (vs.any fun kv => decide (kv.1 = k)) = true
  · rw [if_pos e, if_pos e]; exact r.repl k ry
  · rw [if_neg e, if_neg e]; exact Paired.snoc r ⟨rfl, ry⟩
theorem KV.length {kvs : List (κ × V)} {vs : List (κ × Value)} (r : KV kvs vs) : kvs.length = vs.length := Paired.length r
end


/-! ### a tracked dict, its keys ints and texts or tuples of these -/
theorem kV_is {P : Program} {w : World} {k : Key} {u : Value} (r : RelV (kV k) u) : (mixKind P w).is k u = true := by
  cases k with
  | inl i => obtain ⟨t, e⟩ := (show ∃ t, u = Value.int i t from r); subst e; exact mixKind_int P w i t
  | inr x => obtain ⟨t, e⟩ := (show ∃ t, u = Value.str x t from r); subst e; exact mixKind_str P w x t
theorem items_are {P : Program} {w : World} : ∀ {ks : List Key} {us : List Value}, Vals (ks.map kV) us → ItemsAre (mixKind P w) ks us
  | [], _, r => by rw [List.map_nil] at r; cases r; exact .nil
  | k :: ks, _, r => by
    rw [List.map_cons] at r
    cases r with
    | cons h t => exact .cons (kV_is h) (items_are t)

/-- raw entries of a dict with tuple keys -/
abbrev KT (H : Hp) : List (List Key × V) → List (List Key × Addr × Value) → Prop := Paired fun p q => p.1 = q.1 ∧ H q.2.1 = some (.tup (p.1.map kV)) ∧ RelV p.2 q.2.2
theorem KT.val {H : Hp} {kvs : List (List Key × V)} {xs : List (List Key × Addr × Value)} (r : KT H kvs xs) (k : List Key) : RelO (valV kvs k) ((atKey xs k).map (·.2)) := by
  induction r with
  | nil => exact True.intro
  | @cons p q ps qs h t ih =>
    obtain ⟨h1, _, h2⟩ := h
    by_cases e : p.1 = k
    · have e' : q.1 = k := h1.symm.trans e
      have b : atKey (q :: qs) k = some q.2 := by simp [atKey, List.find?_cons, e']
      rw [valV_pos e, b]; exact h2
    · have e' : ¬ q.1 = k := fun z => e (h1.trans z)
      have b : atKey (q :: qs) k = atKey qs k := by simp [atKey, List.find?_cons, e']
      rw [valV_neg e, b]; exact ih
theorem KT.repl {H : Hp} {kvs : List (List Key × V)} {xs : List (List Key × Addr × Value)} (r : KT H kvs xs) (k : List Key) {y : V} {u : Value} (ry : RelV y u) :
    KT H (kvs.map fun kv => if kv.1 = k then (kv.1, y) else kv) (xs.map (putAt k u)) := by
  induction r with
  | nil => exact .nil
  | @cons p q ps qs h t ih =>
    rw [List.map_cons, List.map_cons]
    refine .cons ?_ ih
    obtain ⟨h1, h2, h3⟩ := h
    unfold putAt
    by_cases e : p.1 = k
    · rw [if_pos e, if_pos (h1.symm.trans e)]; exact ⟨h1, h2, ry⟩
    · rw [if_neg e, if_neg (fun z => e (h1.trans z))]; exact ⟨h1, h2, h3⟩
theorem KT.put {H : Hp} {kvs : List (List Key × V)} {xs : List (List Key × Addr × Value)} (r : KT H kvs xs) (k : List Key) {b : Addr} {y : V} {u : Value} (hb : H b = some (.tup (k.map kV))) (ry : RelV y u) :
    KT H (putK kvs k y) (storedH xs k b u) := by
  have e : (kvs.any fun kv => decide (kv.1 = k)) = (atKey xs k).isSome := by
    rw [valV_any, (r.val k).isSome_eq, Option.isSome_map]
  unfold putK storedH
  rw [e]
  by_cases q : (atKey xs k).isSome = true
  · rw [if_pos q, if_pos q]; exact r.repl k ry
  · rw [if_neg q, if_neg q]; exact Paired.snoc r ⟨rfl, hb, ry⟩
theorem KT.keeps {H H' : Hp} {kvs : List (List Key × V)} {xs : List (List Key × Addr × Value)} (r : KT H kvs xs) (ht : ∀ b ys, H b = some (.tup ys) → H' b = some (.tup ys)) : KT H' kvs xs :=
  Paired.mapP r fun _ _ z => ⟨z.1, ht _ _ z.2.1, z.2.2⟩

section
variable {P : Program} {w : World} {H : Hp} {h : Heap} {a : Addr}
theorem rd_of {u : HO} (ok : HOk P w H h) (e : Rd H a u) : ObjOk P w H h a u := e.ok ok
theorem dk_rd {kvs : List (Key × V)} (ok : HOk P w H h) (e : Rd H a (.dK kvs)) : kvs.length ≤ sizeLine ∧ (a == sysModules) = false ∧ ∃ vs, KV kvs vs ∧ h.DictOf (mixKind P w) a vs :=
  show ObjOk P w H h a (.dK kvs) from rd_of ok e
theorem dk_of {kvs : List (Key × V)} (ok : HOk P w H h) (e : H a = some (.dK kvs)) : kvs.length ≤ sizeLine ∧ (a == sysModules) = false ∧ ∃ vs, KV kvs vs ∧ h.DictOf (mixKind P w) a vs := dk_rd ok (.inl e)
/-- a tracked tuple of ints and texts is a key -/
theorem key_of {ks : List Key} (ok : HOk P w H h) (e : H a = some (.tup (ks.map kV))) : (tupleKind (mixKind P w)).is h ks a := by
  obtain ⟨_, its, r, o, h1, h2, n, h3⟩ := (show ObjOk P w H h a (.tup (ks.map kV)) from ok a _ e)
  exact ⟨o, its.toArray, n, h1, h2, h3, by simpa using items_are r⟩
theorem dt_rd {kvs : List (List Key × V)} (ok : HOk P w H h) (e : Rd H a (.dT kvs)) : kvs.length ≤ sizeLine ∧ (a == sysModules) = false ∧
    ∃ xs, KT H kvs xs ∧ h.DictOfH (tupleKind (mixKind P w)) a xs := by
  obtain ⟨z, y, xs, r, o, es, ep, h1, h2, h3, h4, h5⟩ := (show ObjOk P w H h a (.dT kvs) from rd_of ok e)
  refine ⟨z, y, xs, r, o, es, ep, h1, h2, h3, h4, fun x hx => ?_, h5⟩
  have all : ∀ {l : List (List Key × V)} {m : List (List Key × Addr × Value)}, KT H l m → ∀ x ∈ m, (tupleKind (mixKind P w)).is h x.1 x.2.1 := by
    intro l m q
    induction q with
    | nil => intro x hx; exact nomatch hx
    | @cons p q ps qs hq t ih =>
      intro x hx
      rcases List.mem_cons.mp hx with e | hx
      · subst e
        exact key_of ok (by rw [← hq.1]; exact hq.2.1)
      · exact ih x hx
  exact all r x hx
theorem dt_of {kvs : List (List Key × V)} (ok : HOk P w H h) (e : H a = some (.dT kvs)) : kvs.length ≤ sizeLine ∧ (a == sysModules) = false ∧
    ∃ xs, KT H kvs xs ∧ h.DictOfH (tupleKind (mixKind P w)) a xs := dt_rd ok (.inl e)
end

/-- what the dict at a holds at the key y -/
def DGet (H : Hp) (a : Addr) (y : V) (r : Option V) : Prop :=
  (∃ kvs k, Rd H a (.dK kvs) ∧ y = kV k ∧ r = valV kvs k) ∨ ∃ kvs k b, Rd H a (.dT kvs) ∧ y = .ref b ∧ H b = some (.tup (k.map kV)) ∧ r = valV kvs k
/-- the heap behind a[y] = v -/
def DPut (H : Hp) (a : Addr) (y v : V) (H' : Hp) : Prop :=
  (∃ kvs k, H a = some (.dK kvs) ∧ y = kV k ∧ kvs.length < sizeLine ∧ H' = upd H a (.dK (putK kvs k v))) ∨
  ∃ kvs k b, H a = some (.dT kvs) ∧ y = .ref b ∧ H b = some (.tup (k.map kV)) ∧ kvs.length < sizeLine ∧ H' = upd H a (.dT (putK kvs k v))
theorem DGet.t {H : Hp} {a b : Addr} {kvs : List (List Key × V)} {k : List Key} (e : H a = some (.dT kvs)) (eb : H b = some (.tup (k.map kV))) : DGet H a (.ref b) (valV kvs k) := .inr ⟨kvs, k, b, .inl e, rfl, eb, rfl⟩
theorem DPut.t {H : Hp} {a b : Addr} {kvs : List (List Key × V)} {k : List Key} {v : V} (e : H a = some (.dT kvs)) (eb : H b = some (.tup (k.map kV))) (hl : kvs.length < sizeLine) :
    DPut H a (.ref b) v (upd H a (.dT (putK kvs k v))) := .inr ⟨kvs, k, b, e, rfl, eb, hl, rfl⟩


section
variable {X : Cx} {pins : List (Addr × Obj)} {σ : St} {H : Hp} {s : Shared} {a : Addr} {y v : V} {u r : Value} {o : Option V} {A : Around} {E : Value → Shared → Prop}

theorem Inv.big (I : Inv X pins σ H s) : sysModules < s.heap.objs.size := by
  have h : mainGlobals < s.heap.objs.size := (I.mod.glob.keeps I.bk).lt
  exact Nat.lt_trans (by decide) h

/-- y in d -/
theorem d_in {Q : Value → Shared → Prop} (hu : A.units + 1 < cLine) (I : Inv X pins σ H s) (g : DGet H a y o) (ry : RelV y u) (h : ∀ s', Inv X pins σ H s' → Q (.bool o.isSome) s') :
    wpAny (model X.prog X.w) A (compareOp .In u (.ref a)) Q E s := by
  rcases g with ⟨kvs, k, e, ey, l⟩ | ⟨kvs, k, b, e, ey, eb, l⟩
  · subst ey
    obtain ⟨z, hd, vs, rel, dd⟩ := dk_rd I.hok e
    refine wpAny_in_of (kV_is ry) hd dd.mapOf ?_
    rw [← (rel.val k).isSome_eq, ← l]
    exact h _ (I.tok _)
  · subst ey
    cases (show u = Value.ref b from ry)
    obtain ⟨z, hd, xs, rel, dd⟩ := dt_rd I.hok e
    refine wpAny_in_heap (tupleKind_room_in1 hu) (key_of I.hok eb) hd dd ?_
    have q := (rel.val k).isSome_eq
    rw [Option.isSome_map] at q
    rw [← q, ← l]
    exact h _ (I.tok _)
/-- a dict's object is replaced -/
theorem d_write {h' : Heap} {t' : Nat} {ob : HO} (I : Inv X pins σ H s) (mu : Mut (H a)) (hs : Heap.SameBut a s.heap h') (he : ∃ q, h'.get? a = some q) (new : ObjOk X.prog X.w (upd H a ob) h' a ob) :
    Inv X pins σ (upd H a ob) { s with heap := h', toks := t' } :=
  I.write (x := a) (e := a) mu (.inl rfl) (fun b q hb z => (hs.2 b hb).trans z) he new
theorem dk_new {P : Program} {w : World} {H' : Hp} {h' : Heap} {kvs : List (Key × V)} {vs : List (Key × Value)} (z : kvs.length ≤ sizeLine) (hd : (a == sysModules) = false) (rel : KV kvs vs) (dd : h'.DictOf (mixKind P w) a vs) :
    ObjOk P w H' h' a (.dK kvs) := ⟨z, hd, vs, rel, dd⟩
/-- d[y] = v -/
theorem d_setItem {H' : Hp} {Q : Unit → Shared → Prop} (hu : A.units + 1 < cLine) (I : Inv X pins σ H s) (g : DPut H a y v H') (ry : RelV y u) (rv : RelV v r) (h : ∀ s', Inv X pins σ H' s' → Q () s') :
    wpAny (model X.prog X.w) A (setItem (.ref a) u r) Q E s := by
  rcases g with ⟨kvs, k, e, ey, l, eH⟩ | ⟨kvs, k, b, e, ey, eb, l, eH⟩
  · subst ey eH
    obtain ⟨z, hd, vs, rel, dd⟩ := dk_of I.hok e
    have hz : vs.length ≤ sizeLine := by rw [← rel.length]; exact z
    have hl : (putK kvs k v).length ≤ sizeLine := by have := length_putK kvs k v; omega
    refine wpAny_setItem_pairs (hsz := hz) (kV_is ry) dd fun h' dd' hs => h _ ?_
    have he : ∃ q, h'.get? a = some q := let ⟨q, _, _, hq, _⟩ := dd'; ⟨q, hq⟩
    exact d_write I (by rw [e]; exact True.intro) hs he (dk_new hl hd (rel.put k rv) dd')
  · subst ey eH
    cases (show u = Value.ref b from ry)
    obtain ⟨z, hd, xs, rel, dd⟩ := dt_of I.hok e
    have hz : xs.length ≤ sizeLine := by rw [← Paired.length rel]; exact z
    have hl : (putK kvs k v).length ≤ sizeLine := by have := length_putK kvs k v; omega
    refine wpAny_setItem_heap (hsz := hz) (tupleKind_room_in1 hu) (key_of I.hok eb) dd fun h' dd' hs => h _ ?_
    obtain ⟨q, es, ep, hq, h2, h3, h4, _, h5⟩ := dd'
    refine d_write I (by rw [e]; exact True.intro) hs ⟨q, hq⟩ ⟨hl, hd, _, (rel.put k eb rv).keeps fun c ys ec => ?_, q, es, ep, hq, h2, h3, h4, h5⟩
    rw [upd_ne (ne_of ec e (fun z => nomatch z))]
    exact ec
end

section
variable {X : Cx} {pins : List (Addr × Obj)} {σ : St} {H : Hp} {s : Shared} {a : Addr} {kvs : List (Key × V)} {k : Key} {u : Value} {A : Around} {E : Value → Shared → Prop}
end


/-! ### readings and rules -/
/-- the element of a subscription, not a slice -/
def NoSl (i : Expr) : Prop := ∀ ov iv, subscripted i false ov iv = operate [ov, iv] (getItem ov iv)
/-- d[y] -/
def tDGet (td ty : TE) : TE := fun σ H Q => td σ H fun x H1 => ty σ H1 fun y H2 => ∃ a v, x = .ref a ∧ DGet H2 a y (some v) ∧ Q v H2
/-- y in d, y not in d -/
def tDIn (ty td : TE) : TE := fun σ H Q => ty σ H fun y H1 => td σ H1 fun x H2 => ∃ a o, x = .ref a ∧ DGet H2 a y o ∧ Q (.bl o.isSome) H2
def tDNotIn (ty td : TE) : TE := fun σ H Q => ty σ H fun y H1 => td σ H1 fun x H2 => ∃ a o, x = .ref a ∧ DGet H2 a y o ∧ Q (.bl (!o.isSome)) H2
/-- d[y] = v -/
def sDPut (td ty tv : TE) : TS := fun D σ H => tv σ H fun v H1 => td σ H1 fun x H2 => ty σ H2 fun y H3 => ∃ a H4, x = .ref a ∧ DPut H3 a y v H4 ∧ D.nx σ H4
/-- d[y] op= v -/
def sDAug (td ty tv : TE) (rd : V → V → Hp → VK → Prop) : TS := fun D σ H => td σ H fun x H1 => ty σ H1 fun y H2 => ∃ a v, x = .ref a ∧ DGet H2 a y (some v) ∧
  tv σ H2 fun y2 H3 => rd v y2 H3 fun z H4 => ∃ H5, DPut H4 a y z H5 ∧ D.nx σ H5
/-- del d[y] -/
def sDDel (td ty : TE) : TS := fun D σ H => td σ H fun x H1 => ty σ H1 fun y H2 => ∃ a kvs k, x = .ref a ∧ H2 a = some (.dK kvs) ∧ y = kV k ∧ (valV kvs k).isSome = true ∧ D.nx σ (upd H2 a (.dK (dropK kvs k)))

section
variable {X : Cx} {o i e value : Expr} {pos pos' tpos : Pos} {td ty tv : TE}
theorem pc_din (hu : X.A.units + 1 < cLine) (hi : PE X i ty) (ho : PE X o td) : PC X .In i o (tDIn ty td) := by
  intro pins s σ H Q I h
  refine thn (hi pins s σ H _ I h) fun iv s1 ⟨y, H1, I1, ry, q1⟩ => thn (ho pins s1 σ H1 _ I1 q1) fun u s2 ⟨x, H2, I2, rx, a, ov, ex, g, q2⟩ => ?_
  subst ex
  obtain rfl : u = Value.ref a := rx
  exact d_in hu I2 g ry fun s3 I3 => ⟨.bl ov.isSome, H2, I3, rfl, q2⟩
theorem ps_dput (hu : X.A.units + 1 < cLine) (ho : PE X o td) (hi : PE X i ty) (hv : PE X value tv) (hs : swapsWith value (some (.Subscript o i pos')) pos.line X.env = pure false) :
    PS X (.Assign [.Subscript o i pos'] value pos) (sDPut td ty tv) := by
  intro pins s σ H D I h
  refine wpAny_Assign_Subscript (thn (hv pins s σ H _ I h) fun r s1 ⟨v, H1, I1, rv, q1⟩ => thn (ho pins s1 σ H1 _ I1 q1) fun u s2 ⟨x, H2, I2, rx, q2⟩ => thn (hi pins s2 σ H2 _ I2 q2) fun iv s3 ⟨y, H3, I3, ry, a, H4, ex, g, q3⟩ => ?_) hs
  subst ex
  obtain rfl : u = Value.ref a := rx
  exact d_setItem hu I3 g ry rv fun s4 I4 => ⟨σ, H4, I4, q3⟩
end


/-! ### displays -/
theorem dt_empty {P : Program} {w : World} {H : Hp} (h : Heap) (hb : sysModules < h.objs.size) : ObjOk P w H (h.push { cls := .type "dict", data := .dict #[] }) h.objs.size (.dT []) :=
  ⟨Nat.zero_le _, beq_eq_false_iff_ne.mpr (Ne.symm (Nat.ne_of_lt hb)), [], .nil, _, #[], 0, Heap.get?_push_size _ rfl, ⟨rfl, rfl, rfl⟩, rfl, rfl, List.nodup_nil⟩
/-- {}, to be a dict of the kind that is wanted -/
def tDNewK : TE := fun _ H Q => ∀ p, H p = none → Q (.ref p) (upd H p (.dK []))
def tDNewT : TE := fun _ H Q => ∀ p, H p = none → Q (.ref p) (upd H p (.dT []))
section
variable {X : Cx} {pos : Pos}
theorem pe_dnewT : PE X (.Dict [] [] pos) tDNewT := fun pins s σ H Q I h =>
  wpAny_Dict_empty ⟨.ref s.heap.objs.size, _, I.laid (a := s.heap.objs.size) (o := .dT []) (t' := s.toks) (fun _ _ q => Heap.get?_push_of_some _ q) (Nat.le_refl _) (dt_empty s.heap I.big), rfl, h _ (I.hok.fresh (Nat.le_refl _))⟩
end

/-- the pairs of a display, from the left -/
def tPairs : List (TE × TE) → St → Hp → (List (V × V) → Hp → Prop) → Prop
  | [], _, H, Q => Q [] H
  | (tk, tv) :: r, σ, H, Q => tk σ H fun x H1 => tv σ H1 fun y H2 => tPairs r σ H2 fun ps H3 => Q ((x, y) :: ps) H3
abbrev VV : List (V × V) → List (Value × Value) → Prop := Paired fun p q => RelV p.1 q.1 ∧ RelV p.2 q.2
def PPs (X : Cx) (pos : Pos) (keys : List (Option Expr)) (values : List Expr) (trs : List (TE × TE)) : Prop :=
  ∀ (pins : List (Addr × Obj)) (s : Shared) (σ : St) (H : Hp) (Q : List (V × V) → Hp → Prop), Inv X pins σ H s → tPairs trs σ H Q →
    wpAny (model X.prog X.w) X.A (evalPairs (pairTrees keys values X.env pos)) (fun vs s' => ∃ ps H', Inv X pins σ H' s' ∧ VV ps vs ∧ Q ps H') X.xe s
def mergeK (kvs more : List (Key × V)) : List (Key × V) := more.foldl (fun acc kv => putK acc kv.1 kv.2) kvs
/-- {k: v, ..} with keys ints and texts; the new dict stands empty while the pairs are made -/
def tDisp (trs : List (TE × TE)) : TE := fun σ H Q => ∀ p, H p = none → tPairs trs σ (upd H p (.dK [])) fun ps H2 => H2 p = some (.dK []) ∧ ∃ kvs : List (Key × V), ps = kvs.map (fun kv => (kV kv.1, kv.2)) ∧ kvs.length ≤ 15 ∧ Q (.ref p) (upd H2 p (.dK (mergeK [] kvs)))
/-! ### methods -/
/-- a method call o.m(e) of a built-in, with one argument: what must be seen of the text -/
structure M1 (X : Cx) (o : Expr) (m : Str) (apos : Pos) (e : Expr) (cpos : Pos) : Prop where
  base : attributeBase o m X.env (eval o X.env) = eval o X.env
  few : ((backTo cpos (starEach [e] X.env)).all (fun x => !x.1) && (backToKw cpos (keywordEach [] X.env)).all (fun x => x.1.isSome)
    && decide (([e] : List Expr).length + ([] : List Keyword).length + (if ([] : List Keyword).isEmpty then 0 else 1) < 30)) = true
  line : (apos.endLine == cpos.line) = true
  trees : backTo cpos (starEach [e] X.env) = [(false, eval e X.env)]
structure M2 (X : Cx) (o : Expr) (m : Str) (apos : Pos) (e f : Expr) (cpos : Pos) : Prop where
  base : attributeBase o m X.env (eval o X.env) = eval o X.env
  few : ((backTo cpos (starEach [e, f] X.env)).all (fun x => !x.1) && (backToKw cpos (keywordEach [] X.env)).all (fun x => x.1.isSome)
    && decide (([e, f] : List Expr).length + ([] : List Keyword).length + (if ([] : List Keyword).isEmpty then 0 else 1) < 30)) = true
  line : (apos.endLine == cpos.line) = true
  trees : backTo cpos (starEach [e, f] X.env) = [(false, eval e X.env), (false, eval f X.env)]

/-- a is a dict, whatever its keys -/
def IsD (H : Hp) (a : Addr) : Prop := (∃ kvs, Rd H a (.dK kvs)) ∨ ∃ kvs, Rd H a (.dT kvs)
section
variable {X : Cx} {pins : List (Addr × Obj)} {σ : St} {H : Hp} {s : Shared} {a : Addr} {y d : V} {u r : Value} {o : Option V} {A : Around} {E : Value → Shared → Prop}
end

def tDGet1 (td ty : TE) : TE := fun σ H Q => td σ H fun x H1 => ∃ a, x = .ref a ∧ IsD H1 a ∧ ty σ H1 fun y H2 => ∃ o, DGet H2 a y o ∧ Q (o.getD .non) H2
def tDGet2 (td ty tx : TE) : TE := fun σ H Q => td σ H fun x H1 => ∃ a, x = .ref a ∧ IsD H1 a ∧ ty σ H1 fun y H2 => tx σ H2 fun z H3 => ∃ o, DGet H3 a y o ∧ Q (o.getD z) H3
/-- d.pop(k): there; d.pop(k, x): there or not -/
def tDPop1 (td ty : TE) : TE := fun σ H Q => td σ H fun x H1 => ∃ a, x = .ref a ∧ IsD H1 a ∧ ty σ H1 fun y H2 => ∃ kvs k v, H2 a = some (.dK kvs) ∧ y = kV k ∧ valV kvs k = some v ∧ Q v (upd H2 a (.dK (dropK kvs k)))
def tDPop2 (td ty tx : TE) : TE := fun σ H Q => td σ H fun x H1 => ∃ a, x = .ref a ∧ IsD H1 a ∧ ty σ H1 fun y H2 => tx σ H2 fun z H3 => ∃ kvs k, H3 a = some (.dK kvs) ∧ y = kV k ∧
  (∀ v, valV kvs k = some v → Q v (upd H3 a (.dK (dropK kvs k)))) ∧ (valV kvs k = none → Q z H3)
section
variable {X : Cx} {o e f : Expr} {apos cpos : Pos} {td ty tx : TE}
end

/-! ### dict(d): a copy -/
section
variable {X : Cx} {pins : List (Addr × Obj)} {σ : St} {H : Hp} {s : Shared} {a : Addr} {kvs : List (Key × V)} {A : Around} {E : Value → Shared → Prop}
end


section
variable {X : Cx} {pins : List (Addr × Obj)} {σ : St} {H : Hp} {s : Shared} {a : Addr} {y : V} {u : Value} {A : Around} {E : Value → Shared → Prop}
end
end L2
namespace L2
open PySem PySem.Spec PyProof.Rows
section
variable {X : Cx}
/-! ### list.index(n) of a list of ints -/
def rIndex : V → List V → Hp → VK → Prop := fun x vs H Q => ∃ (l : Addr) (ns : List Int) (i : Int), x = .ref l ∧ vs = [.int i] ∧ H l = some (.lst (ns.map V.int)) ∧ i ∈ ns ∧ Q (.int ((ns.idxOf i : Nat) : Int)) H
theorem mt_index : MtM X "list.index" rIndex := by
  intro pins s σ H x vs v us Q I rx rv h
  obtain ⟨l, ns, k, rfl, rfl, hH, hk, q⟩ := h
  cases rx
  obtain ⟨u, rfl, ru⟩ := rv.one
  obtain ⟨t, rfl⟩ := ru
  obtain ⟨z, its, n, r, hl, e⟩ := I.lstM hH
  have hi := intsAre_of r
  have hlen := hi.length
  have hj : ns.idxOf k < ns.length := List.idxOf_lt_length_iff.mpr hk
  have h16 : (16777216 : Nat) = sizeLine := sizeLine_eq.symm
  rw [List.length_map] at z
  refine call_meets F.slot_list_index ⟨_, e, rfl⟩ F.entry_list_index (F.args_list_index_2 _ _)
    (PySem.SeqAt.list_indexAt l its.toArray n _ _ (.int k t) (isInt k) (ns.idxOf k) (by simpa [hlen] using hj) (by omega) ?_ ?_) ⟨e, fun y hy => (eq_isInt k t hi y (by simpa using hy)).at _ _, ?_⟩
  · show isInt k its[ns.idxOf k] = true
    rw [isInt_at k hi _ (by omega) hj]
    simpa using List.getElem_idxOf hj
  · intro j hjs hlt
    show isInt k its[j] = false
    rw [isInt_at k hi j (by simpa using hjs) (by omega)]
    exact ne_of_lt_idxOf hlt _
  · exact ⟨.int _, H, I.tok _, ⟨_, rfl⟩, q⟩
end
end L2
namespace L2
open PySem PySem.Spec PyProof.Rows
/-! ### zip of any number of lists, whose last tuple is kept by someone: one turn, lane by lane -/
structure Lane where
  it : Addr
  l : Addr
  xs : Array Value
/-- the lane stands at place k -/
def Lane.On (r : Lane) (k : Nat) (h : Heap) : Prop := h.IsListIter r.it r.l k ∧ h.IsList r.l r.xs
theorem Lane.On.keep {r : Lane} {k : Nat} {h h' : Heap} (x : r.On k h) (e : ∀ c, c = r.it ∨ c = r.l → ∀ o, h.get? c = some o → h'.get? c = some o) : r.On k h' :=
  ⟨x.1.at (e _ (.inl rfl)), x.2.at (e _ (.inr rfl))⟩
/-- no iterator is that of two lanes, nor any lane's list -/
structure Lanes (rs : List Lane) : Prop where
  nd : (rs.map Lane.it).Nodup
  ls : ∀ r ∈ rs, ∀ q ∈ rs, q.l ≠ r.it
abbrev ZipAt (h : Heap) (z TI TO : Addr) (f0 : Value) (f1 : Bool) : Prop :=
  h.get? z = some { cls := .type "zip", dict := none, data := .fields #[f0, .bool f1, .bool false, .ref TI, .ref TO], slots := #[] }
section
variable {prog : Program} {w : World} {A : Around} {E : Value → Shared → Prop} {s : Shared}
theorem kept_told {z TI TO T : Addr} {f1 : Bool} {o : Obj} {Q : Bool → Shared → Prop} (hz : ZipAt s.heap z TI TO (rawInt T) f1) (hT : s.heap.get? T = some o)
    (h : ∀ h', ZipAt h' z TI TO (rawInt T) true → Heap.SameBut z s.heap h' → Q false { s with heap := h' }) : wpAny (model prog w) A (Builtin.SmallTypes.ownedTupleIsFree (.ref z)) Q E s := by
  wp_walk using wpAny_field hz rfl rfl
  refine PySem.W.kdx_alive (a := T) hT ?_
  cases f1
  · wp_walk using wpAny_field hz rfl rfl
    exact h _ (Heap.get?_update_self _ hz rfl) (Heap.SameBut.update ..)
  · wp_walk using wpAny_field hz rfl rfl
    exact h s.heap hz ⟨rfl, fun _ _ => rfl⟩
/-- the turn: all lanes give an item, and a new tuple is told; or one of them has ended -/
theorem zip_turn {z TI TO T : Addr} {f1 : Bool} {o : Obj} {rs : List Lane} {k : Nat} {Q : Value → Shared → Prop} (hh : A.handled = none) (ap : Lanes rs) (hz : ZipAt s.heap z TI TO (rawInt T) f1) (hT : s.heap.get? T = some o) (hr : ∀ r ∈ rs, r.it ≠ z ∧ r.l ≠ z)
    (hTI : s.heap.get? TI = some { cls := .type "tuple", data := .seq (rs.map fun r => Value.ref r.it).toArray }) (h0 : rs ≠ []) (hl : rs.length ≤ 64) (on : ∀ r ∈ rs, r.On k s.heap)
    (hQ : ∀ (vs : List Value) h', rs.map (fun r => r.xs[k]?) = vs.map some → ZipAt h' z TI TO (rawInt T) true → (∀ r ∈ rs, r.On (k + 1) h') → h'.get? s.heap.objs.size = some { cls := .type "tuple", data := .seq vs.toArray } → h'.objs.size = s.heap.objs.size + 1 →
      (∀ c o, c ≠ z → c ∉ rs.map Lane.it → s.heap.get? c = some o → h'.get? c = some o) → Q (.ref s.heap.objs.size) { s with heap := h' })
    (hE : ∀ h' e, (∃ r ∈ rs, r.xs[k]? = none) → (∀ c o, c ≠ z → c ∉ rs.map Lane.it → s.heap.get? c = some o → h'.get? c = some o) → (∃ o, h'.get? e = some o ∧ o.cls = .type "StopIteration") → E (.ref e) { s with heap := h' }) :
    wpAny (model prog w) A (Builtin.«zip.__next__» ⟨[.ref z], []⟩) (fun fin s' => ∃ v, fin = .done (.ret v) ∧ Q v s') E s := by
  have hne : (rs.map fun r => Value.ref r.it).toArray.isEmpty = false := by cases rs with
    | nil => exact absurd rfl h0
    | cons => rfl
  wp_walk using wpAny_field hz rfl rfl, wpAny_seqItems hTI rfl, kept_told hz hT
  intro h1 z1 s1
  wp_walk
  refine MeetsSeq2.wpAny_forIn_array _ (fun rest b s' => ∃ dn rm h', rs = dn ++ rm ∧ rest = rm.map (fun r => Value.ref r.it) ∧ b.1 = none ∧ dn.map (fun r => r.xs[k]?) = b.2.toList.map some ∧ s' = { s with heap := h' } ∧ h'.objs.size = s.heap.objs.size ∧
      (∀ r ∈ dn, r.On (k + 1) h') ∧ (∀ r ∈ rm, r.On k h') ∧ ∀ c o, c ∉ rs.map Lane.it → h1.get? c = some o → h'.get? c = some o) _ ?_ ?_ _ _ ?_
  · rintro x rest ⟨b1, b2⟩ s' ⟨dn, rm, h', hd, hx, hb, hv, rfl, hsz, on1, on0, kp⟩
    cases rm with
    | nil => cases hx
    | cons r rm =>
      obtain ⟨rfl, rfl⟩ : x = Value.ref r.it ∧ rest = rm.map (fun r => Value.ref r.it) := by cases hx; exact ⟨rfl, rfl⟩
      have mr : r ∈ rs := by rw [hd]; simp
      have nd := ap.nd
      rw [hd, List.map_append, List.map_cons, List.nodup_append] at nd
      obtain ⟨-, nd2, nd3⟩ := nd
      have nr : ∀ q, q ∈ dn ∨ q ∈ rm → q.it ≠ r.it ∧ q.l ≠ r.it := fun q hq => ⟨hq.elim (fun y => nd3 _ (List.mem_map_of_mem y) _ List.mem_cons_self) (fun y e => (List.nodup_cons.1 nd2).1 (e ▸ List.mem_map_of_mem y)), ap.ls r mr q (by rw [hd]; rcases hq with y | y <;> simp [y])⟩
      have o0 := on0 r List.mem_cons_self
      refine wpAny_bind (wpAny_holding (?_ : wpAny _ _ (Builtin.SmallTypes.nextOf (.ref r.it) >>= fun v => pure (some v)) _ _ _))
      cases e : r.xs[k]? with
      | none =>
        refine wpAny_bind (wpAny_nextOf_list_end hh o0.1 o0.2 e fun h2 e2 x2 c2 => ?_)
        exact hE h2 e2 ⟨r, mr, e⟩ (fun c o c1 c3 q => x2 c o (fun y => c3 (y ▸ List.mem_map_of_mem mr)) (kp c o c3 (by rw [s1.2 c c1]; exact q))) c2
      | some v =>
        refine wpAny_bind (wpAny_nextOf_list_item o0.1 o0.2 e fun h2 on2 x2 => ?_)
        wp_walk
        have ot : ∀ q, q ∈ dn ∨ q ∈ rm → ∀ c, c = q.it ∨ c = q.l → ∀ o, h'.get? c = some o → h2.get? c = some o := fun q hq c hc o y => by
          rw [x2.2 c (hc.elim (fun y => y ▸ (nr q hq).1) (fun y => y ▸ (nr q hq).2))]; exact y
        refine ⟨dn ++ [r], rm, h2, by rw [hd]; simp, rfl, rfl, ?_, rfl, x2.1.trans hsz, fun q hq => ?_, fun q hq => (on0 q (List.mem_cons_of_mem _ hq)).keep (ot q (.inr hq)), fun c o c1 q => ?_⟩
        · rw [List.map_append, hv]; simp [e]
        · rcases List.mem_append.1 hq with y | y
          · exact (on1 q y).keep (ot q (.inl y))
          · cases List.mem_singleton.1 y
            exact ⟨on2, o0.2.at fun o y => by rw [x2.2 _ (ap.ls r mr r mr)]; exact y⟩
        · rw [x2.2 c (fun y => c1 (y ▸ List.mem_map_of_mem mr))]; exact kp c o c1 q
  · rintro ⟨b1, b2⟩ s' ⟨dn, rm, h', hd, hx, hb, hv, rfl, hsz, on1, on0, kp⟩
    cases rm with
    | cons => cases hx
    | nil =>
      cases hb
      rw [List.append_nil] at hd
      subst hd
      have hlv : b2.toList.length ≤ sizeLine := by
        have := congrArg List.length hv
        rw [List.length_map, List.length_map] at this
        rw [← this, sizeLine_eq]; omega
      wp_walk using wpAny_newTuple (hsz := hlv)
      have pu : ∀ c o, h'.get? c = some o → (h'.push { cls := .type "tuple", data := .seq b2.toList.toArray }).get? c = some o := fun c o => Heap.get?_push_of_some _
      refine ⟨_, rfl, ?_⟩
      rw [hsz]
      refine hQ b2.toList _ hv (pu _ _ (kp _ _ (fun y => ?_) z1)) (fun r y => (on1 r y).keep fun c _ => pu c) ?_ (by rw [Heap.size_push, hsz]) fun c o c1 c2 q => pu _ _ (kp _ _ c2 (by rw [s1.2 c c1]; exact q))
      · obtain ⟨r, y, e⟩ := List.mem_map.1 y
        exact (hr r y).1 e
      · rw [← hsz]; exact Heap.get?_push_size _ rfl
  · exact ⟨[], rs, h1, rfl, rfl, rfl, rfl, rfl, s1.1, fun _ y => absurd y (List.not_mem_nil), fun r y => (on r y).keep fun c hc o q => by rw [s1.2 c (hc.elim (fun e => e ▸ (hr r y).1) (fun e => e ▸ (hr r y).2))]; exact q, fun _ _ _ q => q⟩
/-- next of such a zip -/
theorem zip_told {z TI TO T : Addr} {f1 : Bool} {o : Obj} {rs : List Lane} {k : Nat} {Q : Option Value → Shared → Prop} (hh : A.in1.handled = none) (ap : Lanes rs) (hz : ZipAt s.heap z TI TO (rawInt T) f1) (hT : s.heap.get? T = some o) (hr : ∀ r ∈ rs, r.it ≠ z ∧ r.l ≠ z)
    (hTI : s.heap.get? TI = some { cls := .type "tuple", data := .seq (rs.map fun r => Value.ref r.it).toArray }) (h0 : rs ≠ []) (hl : rs.length ≤ 64) (on : ∀ r ∈ rs, r.On k s.heap)
    (hQ : ∀ (vs : List Value) h', rs.map (fun r => r.xs[k]?) = vs.map some → ZipAt h' z TI TO (rawInt T) true → (∀ r ∈ rs, r.On (k + 1) h') → h'.get? s.heap.objs.size = some { cls := .type "tuple", data := .seq vs.toArray } → h'.objs.size = s.heap.objs.size + 1 →
      (∀ c o, c ≠ z → c ∉ rs.map Lane.it → s.heap.get? c = some o → h'.get? c = some o) → Q (some (.ref s.heap.objs.size)) { s with heap := h' })
    (hN : ∀ h', (∃ r ∈ rs, r.xs[k]? = none) → (∀ c o, c ≠ z → c ∉ rs.map Lane.it → s.heap.get? c = some o → h'.get? c = some o) → Q none { s with heap := h' }) : wpAny (model prog w) A (pyNext (.ref z)) Q E s := by
  have ty : s.TypeIs (.ref z) "zip" := ⟨_, hz, rfl⟩
  refine wpAny_bind (wpAny_attempt (wpAny_callSpecial?_slot ty F.slot_zip_next (wpAny_call_entry F.slot_zip_next ty F.entry_zip_next (zip_turn hh ap hz hT hr hTI h0 hl on ?_ ?_) (F.args_zip_next_1 _))))
  · intro vs h' a1 a2 a3 a4 a5 a6
    wp_walk
    exact hQ vs h' a1 a2 a3 a4 a5 a6
  · rintro h' e a1 a2 ⟨o', e1, e2⟩
    exact wpAny_bind (wpAny_isInstance ⟨o', e1, e2⟩ isSubtype_stop (wpAny_pure (hN h' a1 a2)))
/-- a zip of two lists, i items told; S is another thing, none of its own -/
def ZipSt (S z TI TO : Addr) (a b : Lane) (i : Nat) (h : Heap) : Prop :=
  ((IsZip h z TI TO .none ∧ ∃ x y, IsPair h TO x y) ∨ ∃ (T : Addr) (f1 : Bool) (o : Obj), ZipAt h z TI TO (rawInt T) f1 ∧ h.get? T = some o ∧ T ≠ z ∧ T ≠ a.it ∧ T ≠ b.it ∧ T ≠ S) ∧ IsPair h TI (.ref a.it) (.ref b.it) ∧ a.On i h ∧ b.On i h ∧ S < h.objs.size
abbrev Zap (z TI TO : Addr) (a b : Lane) : Prop := ZipApart z TI TO a.it b.it a.l b.l
theorem ZipSt.next {S z TI TO : Addr} {a b : Lane} {i : Nat} {Q : Option Value → Shared → Prop} (hh : A.in1.handled = none) (D : Zap z TI TO a b) (st : ZipSt S z TI TO a b i s.heap)
    (hQ : ∀ x y h', a.xs[i]? = some x → b.xs[i]? = some y → ZipSt S z TI TO a b (i + 1) h' → IsPair h' s.heap.objs.size x y → h'.objs.size = s.heap.objs.size + 1 → (∀ c o, c ∉ [z, TO, a.it, b.it] → s.heap.get? c = some o → h'.get? c = some o) → Q (some (.ref s.heap.objs.size)) { s with heap := h' })
    (hN : ∀ h', a.xs[i]? = none ∨ b.xs[i]? = none → (∀ c o, c ∉ [z, TO, a.it, b.it] → s.heap.get? c = some o → h'.get? c = some o) → Q none { s with heap := h' }) :
    wpAny (model prog w) A (pyNext (.ref z)) Q E s := by
  obtain ⟨st, hTI, oa, ob, lS⟩ := st
  have new : ∀ c, (∃ o, s.heap.get? c = some o) → s.heap.objs.size ≠ c := fun c ⟨o, y⟩ e => Nat.lt_irrefl _ (e ▸ Heap.lt_size y)
  have na := new a.it ⟨_, oa.1.choose_spec.1⟩
  have nb := new b.it ⟨_, ob.1.choose_spec.1⟩
  have four : ∀ {c}, c ≠ z → c ≠ TO → c ≠ a.it → c ≠ b.it → c ∉ [z, TO, a.it, b.it] := fun h1 h2 h3 h4 h => by simp [h1, h2, h3, h4] at h
  have not4 : ∀ {c}, c ∉ [z, TO, a.it, b.it] → c ≠ z ∧ c ≠ TO ∧ c ≠ a.it ∧ c ≠ b.it := fun h => by simpa using h
  rcases st with ⟨hz, p, q, hTO⟩ | ⟨T, f1, o, hz, hT, t1, t2, t3, t4⟩
  · have nz := new z ⟨_, hz⟩
    cases ea : a.xs[i]? with
    | none => exact wpAny_pyNext_zip_end hh D hz hTI hTO oa.1 ob.1 oa.2 ob.2 (.inl ea) fun h' k1 => hN h' (.inl ea) fun c o y => k1 c o (not4 y).1 (not4 y).2.1 (not4 y).2.2.1 (not4 y).2.2.2
    | some x =>
      cases eb : b.xs[i]? with
      | none => exact wpAny_pyNext_zip_end hh D hz hTI hTO oa.1 ob.1 oa.2 ob.2 (.inr eb) fun h' k1 => hN h' (.inr eb) fun c o y => k1 c o (not4 y).1 (not4 y).2.1 (not4 y).2.2.1 (not4 y).2.2.2
      | some y =>
        refine wpAny_pyNext_zip_item D hz hTI hTO oa.1 ob.1 oa.2 ob.2 ea eb fun h' b1 b2 b3 b4 b5 b6 k1 => hQ x y h' ea eb ⟨.inr ⟨_, _, _, b1, b5, nz, na, nb, Nat.ne_of_gt lS⟩, ?_, ⟨b3, oa.2.at fun o => ?_⟩, ⟨b4, ob.2.at fun o => ?_⟩, by rw [b6]; exact Nat.lt_succ_of_lt lS⟩ b5 b6 fun c o y => k1 c o (not4 y).1 (not4 y).2.1 (not4 y).2.2.1 (not4 y).2.2.2
        · exact k1 _ _ D.TIz D.TITO D.TIi1 D.TIi2 hTI
        · exact k1 _ o D.l1z D.l1TO D.l1i1 D.l1i2
        · exact k1 _ o D.l2z D.l2TO D.l2i1 D.l2i2
  · refine zip_told (rs := [a, b]) hh ⟨?_, ?_⟩ hz hT ?_ hTI (by simp) (by simp) (k := i) (fun r hr => ?_) ?_ ?_
    · simpa using D.i12
    · simpa using ⟨⟨D.l1i1, D.l2i1⟩, D.l1i2, D.l2i2⟩
    · simpa using ⟨⟨D.i1z, D.l1z⟩, D.i2z, D.l2z⟩
    · simp only [List.mem_cons, List.not_mem_nil, or_false] at hr
      rcases hr with rfl | rfl
      · exact oa
      · exact ob
    · intro vs h' e b1 on b5 b6 k1
      match vs, e with
      | [x, y], e =>
        simp only [List.map_cons, List.map_nil, List.cons.injEq, and_true] at e
        refine hQ x y h' e.1 e.2 ⟨.inr ⟨T, true, o, b1, k1 _ _ t1 (by simp [t2, t3]) hT, t1, t2, t3, t4⟩, k1 _ _ D.TIz (by simp [D.TIi1, D.TIi2]) hTI, on a (by simp), on b (by simp), by rw [b6]; exact Nat.lt_succ_of_lt lS⟩ b5 b6 fun c o y => k1 c o (not4 y).1 (by simp [(not4 y).2.2.1, (not4 y).2.2.2])
      | [], e => simp at e
      | [_], e => simp at e
      | _ :: _ :: _ :: _, e => simp at e
    · intro h' e k1
      refine hN h' (by simpa using e) fun c o y => k1 c o (not4 y).1 (by simp [(not4 y).2.2.1, (not4 y).2.2.2])
/-- what is done at S alone does not touch it -/
theorem ZipSt.aside {S z TI TO : Addr} {a b : Lane} {i : Nat} {h : Heap} (f : Obj → Obj) (hS : S ∉ [z, TI, TO, a.it, b.it, a.l, b.l]) (st : ZipSt S z TI TO a b i h) : ZipSt S z TI TO a b i (h.update S f) := by
  obtain ⟨st, hTI, oa, ob, lS⟩ := st
  have kp : ∀ c o, c ≠ S → h.get? c = some o → (h.update S f).get? c = some o := fun c o hc y => (Heap.get?_update_other _ _ (Ne.symm hc)).trans y
  have k1 : ∀ c, c ∈ [z, TI, TO, a.it, b.it, a.l, b.l] → ∀ o, h.get? c = some o → (h.update S f).get? c = some o := fun c hc o => kp c o fun e => hS (e ▸ hc)
  refine ⟨st.imp (fun ⟨hz, x, y, p⟩ => ⟨k1 z (by simp) _ hz, x, y, k1 TO (by simp) _ p⟩) fun ⟨T, f1, o, hz, hT, t1, t2, t3, t4⟩ => ⟨T, f1, o, k1 z (by simp) _ hz, kp T o t4 hT, t1, t2, t3, t4⟩, k1 TI (by simp) _ hTI, oa.keep fun c hc => k1 c (by rcases hc with rfl | rfl <;> simp),
    ob.keep fun c hc => k1 c (by rcases hc with rfl | rfl <;> simp), by rw [Heap.size_update]; exact lS⟩
end
end L2
namespace L2
open PySem PySem.Spec PyProof.Rows
theorem HOk.stayOn {P : Program} {w : World} {H : Hp} {h h' : Heap} (x : HOk P w H h) (k : ∀ b u o, H b = some u → h.get? b = some o → h'.get? b = some o) : HOk P w H h' := fun a o e =>
  (x a o e).stay (fun b u hb q => hb.elim (fun z => k b o u (by rw [z]; exact e) q) (fun z => k b _ u z q)) (fun _ q => q) fun _ _ q => q
/-- what list(zip(..)) has laid behind i items -/
def ZL (P : Program) (w : World) (H0 : Hp) (h0 : Heap) (z TO i1 i2 S : Addr) (ns ms : List Int) (i : Nat) (h : Heap) (acc : Array Value) : Prop :=
  ∃ (Hj : Hp) (vs : List V), Same H0 Hj ∧ (∀ b o, Hj b = some o → H0 b = none → h0.objs.size ≤ b) ∧ (Hj z = none ∧ Hj TO = none ∧ Hj i1 = none ∧ Hj i2 = none ∧ Hj S = none) ∧ HOk P w Hj h ∧ Vals vs acc.toList ∧ Prs Hj vs ((ns.zip ms).take i) ∧
    (∀ b o, h0.get? b = some o → h.get? b = some o) ∧ h0.objs.size ≤ h.objs.size
section
variable {P : Program} {w : World} {H0 : Hp} {h0 : Heap} {z TO i1 i2 S : Addr} {ns ms : List Int} {i : Nat} {h h' : Heap} {acc : Array Value}
theorem ZL.put (L : ZL P w H0 h0 z TO i1 i2 S ns ms i h acc) (hS : h0.objs.size ≤ S) (hk : ∀ b o, b ≠ S → h.get? b = some o → h'.get? b = some o) (hsz : h.objs.size ≤ h'.objs.size) : ZL P w H0 h0 z TO i1 i2 S ns ms i h' acc := by
  obtain ⟨Hj, vs, a1, a2, a3, a4, a5, a6, a7, a8⟩ := L
  refine ⟨Hj, vs, a1, a2, a3, a4.stayOn fun b u o e q => hk b o (fun y => ?_) q, a5, a6, fun b o e => hk b o (Nat.ne_of_lt (Nat.lt_of_lt_of_le (Heap.lt_size e) hS)) (a7 b o e), Nat.le_trans a8 hsz⟩
  rw [y, a3.2.2.2.2] at e
  cases e
theorem ZL.next {a b : Int} {x y : Value} (L : ZL P w H0 h0 z TO i1 i2 S ns ms i h acc) (hlt : z < h.objs.size ∧ TO < h.objs.size ∧ i1 < h.objs.size ∧ i2 < h.objs.size ∧ S < h.objs.size) (hge : h0.objs.size ≤ z ∧ h0.objs.size ≤ TO ∧ h0.objs.size ≤ i1 ∧ h0.objs.size ≤ i2)
    (ha : ns[i]? = some a) (hb : ms[i]? = some b) (rx : RelV (.int a) x) (ry : RelV (.int b) y) (hT : IsPair h' h.objs.size x y) (hsz : h'.objs.size = h.objs.size + 1)
    (hk : ∀ c o, c ≠ z → c ≠ TO → c ≠ i1 → c ≠ i2 → h.get? c = some o → h'.get? c = some o) : ZL P w H0 h0 z TO i1 i2 S ns ms (i + 1) h' (acc.push (.ref h.objs.size)) := by
  obtain ⟨Hj, vs, a1, a2, ⟨f1, f2, f3, f4, f5⟩, a4, a5, a6, a7, a8⟩ := L
  obtain ⟨l1, l2, l3, l4, l5⟩ := hlt
  obtain ⟨g1, g2, g3, g4⟩ := hge
  have hn : Hj h.objs.size = none := a4.fresh (Nat.le_refl _)
  have nn : ∀ c o, Hj c = some o → c ≠ z ∧ c ≠ TO ∧ c ≠ i1 ∧ c ≠ i2 := fun c o e => ⟨fun q => (by rw [q, f1] at e; cases e), fun q => (by rw [q, f2] at e; cases e), fun q => (by rw [q, f3] at e; cases e), fun q => (by rw [q, f4] at e; cases e)⟩
  have b1 : HOk P w Hj h' := a4.stayOn fun c u o e q => hk c o (nn c u e).1 (nn c u e).2.1 (nn c u e).2.2.1 (nn c u e).2.2.2 q
  have sm : Same Hj (upd Hj h.objs.size (.tup [.int a, .int b])) := Same.new hn
  refine ⟨upd Hj h.objs.size (.tup [.int a, .int b]), vs ++ [.ref h.objs.size], a1.trans sm, fun c o e n => ?_, ⟨?_, ?_, ?_, ?_, ?_⟩, fun c o e => ?_, ?_, ?_, fun c o e => ?_, by omega⟩
  · by_cases hc : c = h.objs.size
    · rw [hc]; exact a8
    · rw [upd_ne hc] at e; exact a2 c o e n
  · rw [upd_ne (Nat.ne_of_lt l1)]; exact f1
  · rw [upd_ne (Nat.ne_of_lt l2)]; exact f2
  · rw [upd_ne (Nat.ne_of_lt l3)]; exact f3
  · rw [upd_ne (Nat.ne_of_lt l4)]; exact f4
  · rw [upd_ne (Nat.ne_of_lt l5)]; exact f5
  · by_cases hc : c = h.objs.size
    · subst hc
      rw [upd_same] at e; cases e
      exact ⟨by show 2 ≤ sizeLine; decide, [x, y], .cons rx (.cons ry .nil), ⟨_, hT, rfl, _, rfl⟩⟩
    · rw [upd_ne hc] at e
      exact (b1 c o e).stay (fun _ _ _ q => q) (fun d q => sm _ _ q) fun d xs q => sm _ _ q
  · rw [Array.toList_push]
    exact a5.append (.cons rfl .nil)
  · have e : (ns.zip ms)[i]? = some (a, b) := by
      rw [List.getElem?_zip_eq_some]
      exact ⟨ha, hb⟩
    rw [List.take_add_one, e]
    exact (a6.same sm).snoc upd_same
  · have hc := Heap.lt_size e
    exact hk c o (Nat.ne_of_lt (Nat.lt_of_lt_of_le hc g1)) (Nat.ne_of_lt (Nat.lt_of_lt_of_le hc g2)) (Nat.ne_of_lt (Nat.lt_of_lt_of_le hc g3)) (Nat.ne_of_lt (Nat.lt_of_lt_of_le hc g4)) (a7 c o e)
end
/-! ### list(x) of what is told one by one -/
abbrev LstAt (h : Heap) (S : Addr) (acc : Array Value) (c : Nat) : Prop := h.get? S = some { cls := .type "list", dict := none, data := .seq acc c, slots := #[] }
/-- I tells n things one by one, and what it tells of itself does not hang on the list S that takes them -/
structure Fed (prog : Program) (w : World) (A : Around) (I S : Addr) (n : Nat) (St : Nat → Heap → Array Value → Prop) (Fi : Heap → Array Value → Prop) : Prop where
  give : ∀ i (s : Shared) acc (Q : Option Value → Shared → Prop) E, i < n → St i s.heap acc →
    (∀ v h', (∀ o, s.heap.get? S = some o → h'.get? S = some o) → St (i + 1) h' (acc.push v) → Q (some v) { s with heap := h' }) → wpAny (model prog w) A (pyNext (.ref I)) Q E s
  stop : ∀ (s : Shared) acc (o : Obj) (Q : Option Value → Shared → Prop) E, s.heap.get? S = some o → St n s.heap acc → (∀ h', (∀ o, s.heap.get? S = some o → h'.get? S = some o) → Fi h' acc → Q none { s with heap := h' }) → wpAny (model prog w) A (pyNext (.ref I)) Q E s
  aside : ∀ i h f acc, St i h acc → St i (h.update S f) acc
section
variable {prog : Program} {w : World} {A : Around} {I S : Addr} {n : Nat} {St : Nat → Heap → Array Value → Prop} {Fi : Heap → Array Value → Prop}
theorem Fed.loop (W : Fed prog w A.in1 I S n St Fi) (hn : n ≤ 1000) (res : Value) {R : Result → Shared → Prop} : ∀ (k : Nat) (s : Shared) (acc : Array Value) (c : Nat), acc.size + k = n → St acc.size s.heap acc → LstAt s.heap S acc c →
    (∀ h' acc' c', acc'.size = n → Fi h' acc' → LstAt h' S acc' c' → R (.ok (.ret res)) { s with heap := h' }) → codeAny (model prog w) A (.builtin "list.extend.loop" ⟨[.ref S, .ref I, res], []⟩) R s
  | 0, s, acc, c, e, st, hS, hR => codeAny_builtin F.entry_extend_loop <| (Around.under_plainId F.plain_extend_loop _) ▸ wpAny_bind (W.stop s acc _ _ _ hS (by rw [Nat.add_zero] at e; exact e ▸ st) fun h' k1 f => wpAny_pure (hR h' acc c e f (k1 _ hS)))
  | k + 1, s, acc, c, e, st, hS, hR => codeAny_builtin F.entry_extend_loop <| (Around.under_plainId F.plain_extend_loop _) ▸ wpAny_bind (W.give _ s acc _ _ (by omega) st fun v h' k1 st1 => by
      have h16 := sizeLine_eq
      have hS1 := k1 _ hS
      refine wpAny_bind (wpAny_updateSeq (s := { s with heap := h' }) (f := (·.push v)) hS1 rfl (wpAny_pure ⟨plainId_quiet F.plain_extend_loop _, ?_⟩) (by omega) (by rw [Array.size_push]; omega))
      have es : acc.size + 1 = (acc.push v).size := (Array.size_push ..).symm
      exact W.loop hn res k _ (acc.push v) _ (by omega) (W.aside _ _ _ _ (es ▸ st1)) (Heap.get?_update_self _ hS1 rfl) hR)
end
section
variable {prog : Program} {w : World} {A : Around} {E : Value → Shared → Prop} {s : Shared}
namespace ZF
theorem no_len : typeLookup (.type "zip") "__len__" = pure none := by rw [typeLookup_type, builtinLookup_eq_fast]; kernel_rfl
theorem no_hint : typeLookup (.type "zip") "__length_hint__" = pure none := by rw [typeLookup_type, builtinLookup_eq_fast]; kernel_rfl
end ZF
theorem list_fed {z TI TO : Addr} {f0 : Value} {n : Nat} {St : Nat → Heap → Array Value → Prop} {Fi : Heap → Array Value → Prop} {Q : Value → Shared → Prop} (hz : IsZip s.heap z TI TO f0) (W : Fed prog w A.in1.in1 z s.heap.objs.size n St Fi) (hn : n ≤ 1000)
    (st : St 0 (s.heap.push { cls := .type "list", data := .seq #[] }) #[])
    (hQ : ∀ h' acc c, acc.size = n → Fi h' acc → LstAt h' s.heap.objs.size acc c → Q (.ref s.heap.objs.size) { s with heap := h' }) : wpAny (model prog w) A (call (.type "list") [.ref z]) Q E s := by
  have hS : LstAt (s.heap.push { cls := .type "list", data := .seq #[] }) s.heap.objs.size #[] 0 := Heap.get?_push_size _ rfl
  have hz1 : IsZip (s.heap.push { cls := .type "list", data := .seq #[] }) z TI TO f0 := Heap.get?_push_of_some _ hz
  have nz : s.heap.objs.size ≠ z := fun e => Nat.lt_irrefl _ (e ▸ Heap.lt_size hz)
  refine callType_codes F.called_list (F.typeCall_list_1 _) F.entry_list_init (code_list_new (.ref z) (Q₁ := fun v t => v = .ref s.heap.objs.size ∧ t.heap = s.heap.push { cls := .type "list", data := .seq #[] } ∧ t = { s with heap := t.heap }) ⟨rfl, rfl, rfl⟩) ?_
  rintro _ t ⟨rfl, ht, he⟩
  rw [he, ht]
  clear he ht t
  refine ⟨⟨_, hS, rfl⟩, F.args_list_init_2 _ _, ?_⟩
  generalize s.heap.push { cls := .type "list", data := .seq #[] } = h1 at *
  generalize s.heap.objs.size = S at *
  wp_walk
  rw [if_neg (by simp [Builtin.List.listSameRef, nz])]
  have hz2 : IsZip (h1.update S (Obj.mapSeq fun _ => #[])) z TI TO f0 := (Heap.get?_update_other _ _ nz).trans hz1
  have hS2 := Heap.get?_update_self (Obj.mapSeq fun _ => (#[] : Array Value)) hS rfl
  have st2 := W.aside 0 h1 (Obj.mapSeq fun _ => #[]) _ st
  generalize h1.update S (Obj.mapSeq fun _ => #[]) = h2 at *
  refine wpAny_bind (wpAny_pyIter_zip hz2 ?_)
  have nl := ZF.no_len
  have nh := ZF.no_hint
  have ty : Shared.TypeIs { s with heap := h2 } (.ref z) "zip" := ⟨_, hz2, rfl⟩
  wp_walk
  exact ⟨plainId_quiet F.plain_extend_loop _, W.loop hn .none n _ #[] _ (by simp) (W.aside _ _ _ _ (W.aside _ _ _ _ st2)) (Heap.get?_update_self _ (Heap.get?_update_self _ hS2 rfl) rfl) fun h' acc c e f l => ⟨rfl, hQ h' acc c e f l⟩⟩
/-- a zip of two lists of whole numbers feeds the list of their pairs -/
theorem zip_fed {P : Program} {H0 : Hp} {h0 : Heap} {z TI TO S : Addr} {a b : Lane} {ns ms : List Int} (hh : A.in1.handled = none) (D : Zap z TI TO a b) (hS : S ∉ [z, TI, TO, a.it, b.it, a.l, b.l]) (hlt : z < S ∧ TO < S ∧ a.it < S ∧ b.it < S)
    (hge : h0.objs.size ≤ z ∧ h0.objs.size ≤ TO ∧ h0.objs.size ≤ a.it ∧ h0.objs.size ≤ b.it) (hgS : h0.objs.size ≤ S) (vx : Vals (ns.map V.int) a.xs.toList) (vy : Vals (ms.map V.int) b.xs.toList) :
    Fed prog w A z S (min ns.length ms.length) (fun i h acc => ZipSt S z TI TO a b i h ∧ ZL P w H0 h0 z TO a.it b.it S ns ms i h acc) (ZL P w H0 h0 z TO a.it b.it S ns ms (min ns.length ms.length)) := by
  have S4 : S ∉ [z, TO, a.it, b.it] := fun h => hS (by simp only [List.mem_cons, List.not_mem_nil, or_false] at h ⊢; rcases h with h | h | h | h <;> simp [h])
  have item : ∀ {ls : List Int} {r : Lane} {i : Nat}, Vals (ls.map V.int) r.xs.toList → (hi : i < ls.length) → ∃ u, r.xs[i]? = some u ∧ RelV (.int ls[i]) u := fun {ls r i} v hi => by
    obtain ⟨u, g, x⟩ := v.get (show (ls.map V.int)[i]? = some (.int ls[i]) by rw [List.getElem?_map, List.getElem?_eq_getElem hi]; rfl)
    exact ⟨u, by simpa using g, x⟩
  have last : ∀ {ls : List Int} {r : Lane} {i : Nat} {u : Value}, Vals (ls.map V.int) r.xs.toList → r.xs[i]? = some u → i < ls.length := fun {ls r i u} v e => by
    have l := v.length
    rw [List.length_map] at l
    rw [l, Array.length_toList]
    exact (Array.getElem?_eq_some_iff.1 e).1
  have out : ∀ {c}, c ≠ z → c ≠ TO → c ≠ a.it → c ≠ b.it → c ∉ [z, TO, a.it, b.it] := fun h1 h2 h3 h4 h => by simp [h1, h2, h3, h4] at h
  refine ⟨fun i s acc Q E hi ⟨st, L⟩ hQ => ?_, fun s acc oS Q E eS ⟨st, L⟩ hQ => ?_, fun i h f acc ⟨st, L⟩ => ⟨st.aside f hS, L.put hgS (fun c o hc y => (Heap.get?_update_other _ _ (Ne.symm hc)).trans y) (Nat.le_of_eq (Heap.size_update ..).symm)⟩⟩
  · obtain ⟨x, ex, rx⟩ := item (i := i) vx (by omega)
    obtain ⟨y, ey, ry⟩ := item (i := i) vy (by omega)
    have lS := st.2.2.2.2
    refine st.next hh D (fun x' y' h' fx fy st' p sz k1 => ?_) fun h' e => ?_
    · rw [ex] at fx; rw [ey] at fy
      cases fx; cases fy
      exact hQ _ h' (fun o => k1 S o S4) ⟨st', L.next ⟨Nat.lt_trans hlt.1 lS, Nat.lt_trans hlt.2.1 lS, Nat.lt_trans hlt.2.2.1 lS, Nat.lt_trans hlt.2.2.2 lS, lS⟩ hge (List.getElem?_eq_getElem (by omega)) (List.getElem?_eq_getElem (by omega)) rx ry p sz fun c o h1 h2 h3 h4 => k1 c o (out h1 h2 h3 h4)⟩
    · rw [ex, ey] at e; simp at e
  · refine st.next hh D (fun x' y' h' fx fy => ?_) fun h' e k1 => hQ h' (fun o => k1 S o S4) ?_
    · have := last vx fx; have := last vy fy; omega
    · obtain ⟨Hj, vs, a1, a2, a3, a4, a5, a6, a7, a8⟩ := L
      have old : ∀ c, h0.objs.size > c → c ∉ [z, TO, a.it, b.it] := fun c hc => out (Nat.ne_of_lt (Nat.lt_of_lt_of_le hc hge.1)) (Nat.ne_of_lt (Nat.lt_of_lt_of_le hc hge.2.1)) (Nat.ne_of_lt (Nat.lt_of_lt_of_le hc hge.2.2.1)) (Nat.ne_of_lt (Nat.lt_of_lt_of_le hc hge.2.2.2))
      have ours : ∀ c o, Hj c = some o → c ∉ [z, TO, a.it, b.it] := fun c o y h => by
        simp only [List.mem_cons, List.not_mem_nil, or_false] at h
        rcases h with rfl | rfl | rfl | rfl <;> simp [a3] at y
      exact ⟨Hj, vs, a1, a2, a3, a4.stayOn fun c u o e y => k1 c o (ours c u e) y, a5, a6, fun c o y => k1 c o (old c (Heap.lt_size y)) (a7 c o y), Nat.le_of_lt (Nat.lt_of_le_of_lt hgS (Heap.lt_size (k1 S oS S4 eS)))⟩
end
/-! ### list(zip(a, b)), a and b lists of ints -/
section
variable {X : Cx}
theorem boot_zip' : bootBuiltins "zip" = some (.type "zip") := by first | rfl | decide +kernel
def tListZip (K : PySem.W.Frag) (ta : TA) : TE := fun σ H Q => ta σ H fun vs H1 => ∃ (l1 l2 : Addr) (ns ms : List Int), vs = [.ref l1, .ref l2] ∧ SqL K H1 l1 (ns.map V.int) ∧ SqL K H1 l2 (ms.map V.int) ∧ ns.length ≤ 1000 ∧
  ∀ (S : Addr) (ws : List V) (H' : Hp), Same H1 H' → H1 S = none → H' S = some (.lst ws) → Prs H' ws (ns.zip ms) → Q (.ref S) H'
theorem pe_listzip {a b : Expr} {ta : TA} {p p2 pos pos2 : Pos} (K : PySem.W.Frag) (hc : X.calm = true) (hg : Gl X "list") (hm : X.mg "list" = none) (hg2 : Gl X "zip") (hm2 : X.mg "zip" = none) (ha : PA X [a, b] ta) (hK : X.K = K := by rfl)
    (hs : starEach [Expr.Call (.Name "zip" p2) [a, b] [] pos2] X.env = [(false, eval (.Call (.Name "zip" p2) [a, b] [] pos2) X.env)] := by rfl)
    (hs2 : starEach [a, b] X.env = (false, eval a X.env) :: starEach [b] X.env := by rfl) (hp2 : (backTo pos2 (starEach [b] X.env)).any (·.1) = false := by rfl) :
    PE X (.Call (.Name "list" p) [.Call (.Name "zip" p2) [a, b] [] pos2] [] pos) (tListZip K ta) := by
  subst hK
  intro pins s σ H Q I h
  refine wpAny_Call_Name_kw (ld_blt I hg hm boot_list (PyProof.Rows.callWith_type1 ?_ hs rfl) (by decide) (by decide))
  rw [hs]
  refine Calls.spliced_cons ?_
  refine wpAny_Call_Name_kw (ld_blt I hg2 hm2 boot_zip' (PyProof.Rows.callWith_type1 (thn (ha pos2 pins s σ H _ I h) fun us s1 ⟨vs, H1, I1, r1, q1⟩ => ?_) hs2 hp2) (by decide) (by decide))
  obtain ⟨l1, l2, ns, ms, rfl, hq1, hq2, hn, q⟩ := q1
  obtain ⟨u1, u2, rfl, ru1, ru2⟩ := r1.two
  cases ru1
  cases ru2
  obtain ⟨xs, v1, p1, hz1⟩ := I1.list hq1
  obtain ⟨ys, v2, p2', hz2⟩ := I1.list hq2
  refine call_zip_2 p1.isList p2'.isList fun h' hz hTI hTO hi1 hi2 hsz hk => ?_
  refine Calls.spliced_nil ?_
  have lt1 : l1 < s1.heap.objs.size := by obtain ⟨_, e, _⟩ := p1.isList; exact Heap.lt_size e
  have lt2 : l2 < s1.heap.objs.size := by obtain ⟨_, e, _⟩ := p2'.isList; exact Heap.lt_size e
  have D : ZipApart (s1.heap.objs.size + 4) (s1.heap.objs.size + 2) (s1.heap.objs.size + 3) s1.heap.objs.size (s1.heap.objs.size + 1) l1 l2 := by
    constructor <;> (first | exact Nat.ne_of_lt (by omega) | exact Nat.ne_of_gt (by omega) | (apply Nat.ne_of_lt; exact Nat.lt_of_lt_of_le (by assumption) (by omega)))
  have l1x := v1.length
  rw [List.length_map] at l1x
  have fr : ∀ b, s1.heap.objs.size ≤ b → H1 b = none := fun b hb => I1.hok.fresh hb
  have hS : h'.objs.size ∉ [s1.heap.objs.size + 4, s1.heap.objs.size + 2, s1.heap.objs.size + 3, s1.heap.objs.size, s1.heap.objs.size + 1, l1, l2] := by
    simp only [List.mem_cons, List.not_mem_nil, or_false]
    have g1 : l1 < h'.objs.size := by rw [hsz]; exact Nat.lt_of_lt_of_le lt1 (by omega)
    have g2 : l2 < h'.objs.size := by rw [hsz]; exact Nat.lt_of_lt_of_le lt2 (by omega)
    rintro (e | e | e | e | e | e | e) <;> first | omega | exact Nat.ne_of_gt g1 e | exact Nat.ne_of_gt g2 e
  have up : ∀ b o, s1.heap.get? b = some o → (h'.push { cls := .type "list", data := .seq #[] }).get? b = some o := fun b o e => Heap.get?_push_of_some _ (hk b o e)
  have pu : ∀ b o, h'.get? b = some o → (h'.push { cls := .type "list", data := .seq #[] }).get? b = some o := fun b o e => Heap.get?_push_of_some _ e
  have l2x := v2.length
  rw [List.length_map] at l2x
  refine list_fed hz (zip_fed (P := X.prog) (H0 := H1) (h0 := s1.heap) (a := ⟨s1.heap.objs.size, l1, xs.toArray⟩) (b := ⟨s1.heap.objs.size + 1, l2, ys.toArray⟩) (I1.ok.hd hc) D hS ⟨by show _ < h'.objs.size; omega, by show _ < h'.objs.size; omega, by show s1.heap.objs.size < h'.objs.size; omega, by show s1.heap.objs.size + 1 < h'.objs.size; omega⟩
    ⟨by omega, by omega, Nat.le_refl _, by show _ ≤ s1.heap.objs.size + 1; omega⟩ (by show _ ≤ h'.objs.size; omega) v1 v2) (by omega)
    ⟨⟨.inl ⟨pu _ _ hz, _, _, pu _ _ hTO⟩, pu _ _ hTI, ⟨hi1.at fun o => pu _ o, p1.isList.at fun o => up _ o⟩, ⟨hi2.at fun o => pu _ o, p2'.isList.at fun o => up _ o⟩, by rw [Heap.size_push]; exact Nat.lt_succ_self _⟩,
      H1, [], Same.refl _, fun b o e n => (by rw [n] at e; cases e), ⟨fr _ (by omega), fr _ (by omega), fr _ (Nat.le_refl _), fr _ (by show _ ≤ s1.heap.objs.size + 1; omega), fr _ (by show _ ≤ h'.objs.size; omega)⟩, I1.hok.kept fun b u e => up b u e, .nil, .nil, up, by rw [Heap.size_push]; show _ ≤ h'.objs.size + 1; omega⟩ ?_
  · intro h2 acc c z2 L e2
    obtain ⟨Hj, ws, a1, a2, ⟨f1, f2, f3, f4, f5⟩, a4, a5, a6, a7, a8⟩ := L
    have h16 : (16777216 : Nat) = sizeLine := sizeLine_eq.symm
    have hzl : (ns.zip ms).take (min ns.length ms.length) = ns.zip ms := List.take_of_length_le (by rw [List.length_zip]; omega)
    rw [hzl] at a6
    have hwl : ws.length ≤ sizeLine := by rw [a5.length, Array.length_toList, z2]; omega
    have sm : Same Hj (upd Hj h'.objs.size (.lst ws)) := Same.new f5
    have S1 := a1.trans sm
    refine ⟨.ref h'.objs.size, upd Hj h'.objs.size (.lst ws), I1.un (h' := h2) (t' := s1.toks) ⟨fun b o e _ _ _ => a7 b o e, fun b o e _ _ _ => ⟨o.slots, a7 b o e⟩, fun b o e n _ => ?_, fun b o e _ => ⟨o, a7 b o e⟩, fun b ys e => S1 _ _ e, fun b o u e => S1 _ _ e, fun b ps e => ⟨#[], by rw [S1 _ _ e]; simp⟩⟩ (fun b o e => ?_), rfl, ?_⟩
    · have hb := Heap.lt_size e
      rw [upd_ne (Nat.ne_of_lt (Nat.lt_of_lt_of_le hb (show s1.heap.objs.size ≤ h'.objs.size by omega)))]
      cases z : Hj b with
      | none => rfl
      | some u => exact absurd (Nat.lt_of_lt_of_le hb (a2 b u z n)) (Nat.lt_irrefl _)
    · by_cases hb : b = h'.objs.size
      · subst hb
        rw [upd_same] at e; cases e
        exact ⟨hwl, acc.toList, c, a5, e2⟩
      · rw [upd_ne hb] at e
        exact (a4 b o e).stay (fun _ _ _ q => q) (fun d q => sm _ _ q) fun d xs q => sm _ _ q
    · refine q _ ws _ S1 ?_ upd_same (a6.same sm)
      exact I1.hok.fresh (by omega)
end
end L2
namespace L2
open PySem PySem.Spec PyProof.Rows
/-! ### min(list of ints) -/
theorem boot_min' : bootBuiltins "min" = some (.builtin "min") := by first | rfl | decide +kernel
section
variable {X : Cx}
theorem kMin (K : PySem.W.Frag) (hc : X.calm = true) (h : X.K = K := by rfl) : CallR X (.builtin "min") (fun xs H Q => ∃ (p : Addr) (ns : List Int), xs = [.ref p] ∧ SqL K H p (ns.map V.int) ∧ ns ≠ [] ∧ ∀ m, m ∈ ns → (∀ n ∈ ns, m ≤ n) → Q (.int m) H) := by
  subst h
  intro pins s σ H xs us Q I rv h
  obtain ⟨p, ns, rfl, hq, hne, q⟩ := h
  obtain ⟨u, rfl, ru⟩ := rv.one
  cases ru
  obtain ⟨its, r, pl, hz⟩ := I.list hq
  have hh : X.A.in1.handled = none := I.ok.hd hc
  have hl := r.length
  rw [List.length_map] at hl
  have hpos : 0 < ns.length := List.length_pos_iff.mpr hne
  obtain ⟨o, eo, _⟩ := id pl.isList
  have hlt : p < s.heap.objs.size := Heap.lt_size eo
  have hval : ∀ (i : Nat) (v : Value), its.toArray[i]? = some v → ∃ t, v = Value.int (ns.getD i 0) t := fun i v hv => by
    have hv' : its[i]? = some v := by simpa using hv
    have hi : i < its.length := (List.getElem?_eq_some_iff.mp hv').1
    have ex : (ns.map V.int)[i]? = some (.int (ns[i]'(by omega))) := by rw [List.getElem?_map, List.getElem?_eq_getElem (by omega)]; rfl
    obtain ⟨u, gu, ru⟩ := r.get ex
    rw [gu] at hv'
    cases hv'
    obtain ⟨t, rfl⟩ := ru
    exact ⟨t, by rw [List.getD_eq_getElem?_getD, List.getElem?_eq_getElem (by omega)]; rfl⟩
  refine call_min_walk (wpAny_pyIter_list pl.isList ?_)
  refine ⟨s.heap.objs.size, _, _, _, _, _, _, rfl, Walks.list hh s.heap.objs.size p (Nat.ne_of_lt hlt) its.toArray, ⟨⟨_, Heap.get?_push_size _ rfl, rfl, rfl⟩, pl.isList.at fun o e => Heap.get?_push_of_some _ e⟩, ?_, by rw [List.size_toArray]; omega, CmpOf.ints_lt (fun i => ns.getD i 0) hval, fun v h' tk hv hk => ?_⟩
  · intro b hb
    have e : b = s.heap.objs.size ∨ b = p := by simpa using hb
    have hsz : (s.heap.push { cls := .type "list_iterator", data := .fields #[.ref p, .int 0 0] }).objs.size = s.heap.objs.size + 1 := Heap.size_push ..
    show b < (s.heap.push { cls := .type "list_iterator", data := .fields #[.ref p, .int 0 0] }).objs.size
    rw [hsz]
    rcases e with e | e
    · rw [e]; exact Nat.lt_succ_self _
    · rw [e]; exact Nat.lt_succ_of_lt hlt
  · obtain ⟨t, rfl⟩ := hval _ v hv
    have hA := argBest_lt (fun i => ns.getD i 0) (its.toArray.size - 1)
    have hsz : its.toArray.size = ns.length := by rw [List.size_toArray]; exact hl.symm
    generalize hg : argBest (fun i j => decide (ns.getD i 0 < ns.getD j 0)) (its.toArray.size - 1) = g at hA ⊢
    have hg1 : g < ns.length := by omega
    have eg : ns.getD g 0 = ns[g] := by rw [List.getD_eq_getElem?_getD, List.getElem?_eq_getElem hg1]; rfl
    refine ⟨.int (ns.getD g 0), H, I.kept fun b o e' => hk b o ?_ (Heap.get?_push_of_some _ e'), ⟨t, rfl⟩, q _ (by rw [eg]; exact List.getElem_mem hg1) fun n hn => ?_⟩
    · intro z
      have : b = s.heap.objs.size := by simpa using z
      exact absurd (Heap.lt_size e') (by rw [this]; exact Nat.lt_irrefl _)
    · obtain ⟨j, hj, rfl⟩ := List.getElem_of_mem hn
      have := hA.2 j (by omega)
      have ej : ns.getD j 0 = ns[j] := by rw [List.getD_eq_getElem?_getD, List.getElem?_eq_getElem hj]; rfl
      rw [← ej]
      exact this
end
/-! ### for over enumerate -/
theorem for_enum {K : PySem.W.Frag} {a : Addr} {xs : List V} {g : TG} {tb : TS} {D : Ends} {σ : St} {H : Hp} (Pv : Nat → St → Hp → Prop) (h0 : Pv 0 σ H) (hl : ∀ i σ H, i ≤ xs.length → Pv i σ H → SqL K H a xs)
    (hs : ∀ i x σ H T, xs[i]? = some x → Pv i σ H → H T = none → g (.ref T) σ (upd H T (.tup [.int (i : Nat), x])) fun σ2 H2 => tb { D with nx := Pv (i + 1), ct := Pv (i + 1), bk := D.nx } σ2 H2) (hd : ∀ σ H, Pv xs.length σ H → D.nx σ H) :
    ∃ W : Nat → Nat → St → Hp → Prop, (∃ m, W 0 m σ H) ∧ ∀ i m σ H, W i m σ H →
      ((Ite K a).stop i H ∧ D.nx σ H) ∨ ((Ite K a).go i H ∧ ∃ N : St → Hp → Prop, (∀ σ' H', N σ' H' → ∃ m', m' < m ∧ W (i + 1) m' σ' H') ∧ ∀ x H', (Ite K a).yld i H x H' → g x σ H' fun σ2 H2 => tb { D with nx := N, ct := N, bk := D.nx } σ2 H2) := by
  refine ⟨fun i m σ H => m = xs.length - i ∧ i ≤ xs.length ∧ Pv i σ H, ⟨xs.length, by simp, Nat.zero_le _, h0⟩, ?_⟩
  rintro i m σ H ⟨rfl, hi, p⟩
  have q := hl i σ H hi p
  by_cases hlt : i < xs.length
  · refine .inr ⟨⟨xs, xs[i], q, by simp [hlt]⟩, Pv (i + 1), fun σ' H' p' => ⟨xs.length - (i + 1), by omega, rfl, hlt, p'⟩, fun x H' y => ?_⟩
    obtain ⟨T, y', rfl, hT, rfl, hy⟩ := y
    exact hs i y' σ H T (hy xs q) p hT
  · have e : i = xs.length := by omega
    subst e
    exact .inl ⟨⟨xs, q, Nat.le_refl _⟩, hd σ H p⟩
/-! ### range(a, b, -1) -/
def ItrD (lo : Int) (n : Nat) : It := ⟨fun i _ => i < n, fun i H x H' => H' = H ∧ x = .int (lo - i), fun i _ => n ≤ i⟩
theorem turn_rangeD {P : Program} {w : World} {K : PySem.W.Frag} {tg : Expr} (it : Addr) (lo : Int) (n : Nat) : Turn P w K tg (ItrD lo n) [it] it (fun i h => IsRangeIter h it (lo + (i : Nat) * (-1)) ((n : Int) - (i : Nat)) (-1)) where
  mem := by simp
  obj := fun i h st b hb => by
    have e : b = it := by simpa using hb
    subst e
    exact ⟨_, st, fun v z => by
      have z' : Data.fields _ = Data.cell v := z
      cases z'⟩
  keep := fun i h h' st k => k it (by simp) _ st
  item := by
    intro X hP hw hK hc i pins s σ H E I hf st hg
    subst hP hw hK
    obtain ⟨f0, f1, f2, f3, f4, f5⟩ := hf it (by simp)
    have W := Walks.range (prog := X.prog) (w := X.w) (I.ok.hd hc) it lo (-1) n
    refine W.item i s _ _ hg st fun v h' tk hv st' kk => ?_
    obtain ⟨t, rfl⟩ := hv
    have I1 : Inv X pins σ H { s with heap := h', toks := tk } := I.turned (fun b o hb e => kk b o (by simpa using hb) e) f0 f1 f3 f4 f5
    refine ⟨_, rfl, go_of (s := { s with heap := h', toks := tk }) (n := "range_iterator") st' rfl rfl (by decide) ⟨.int (lo - i), H, I1, ⟨t, ?_⟩, ⟨rfl, rfl⟩, st', fun b hb => (hf b hb).1⟩⟩
    rw [show lo + (i : Int) * (-1) = lo - i by omega]
  done := by
    intro X hP hw hK hc i pins s σ H E I hf st hg
    subst hP hw hK
    obtain ⟨f0, f1, f2, f3, f4, f5⟩ := hf it (by simp)
    exact wpAny_pyNext_range_end (I.ok.hd hc) st (by have : n ≤ i := hg; omega) fun h' eb => ⟨rfl, I.turned (t' := s.toks) (fun b o hb e => eb b o hb e) f0 f1 f3 f4 f5⟩
  self := fun _ _ _ _ _ st h => wpAny_pyIter_rangeiter st h
theorem rangeSize_neg (a b : Int) : Builtin.Range.rangeSize a b (-1) = if b < a then a - b else 0 := by
  unfold Builtin.Range.rangeSize
  rw [if_neg (by decide)]
  by_cases h : b < a
  · rw [if_pos (show a > b from h), if_pos h, show (-(-1) : Int) = 1 by decide, Int.ediv_one]
    omega
  · rw [if_neg (show ¬ a > b from h), if_neg h]
theorem small_neg {a b : Int} (ha : -(2 ^ 62) ≤ a) (ha' : a < 2 ^ 62) (hb : -(2 ^ 62) ≤ b) (hb' : b < 2 ^ 62) : Builtin.Range.small a b (-1) = true := by
  unfold Builtin.Range.small
  rw [rangeSize_neg]
  simp only [Builtin.Range.rangeFitsLong, Bool.and_eq_true, Bool.or_eq_true, decide_eq_true_eq, beq_iff_eq, show ¬ ((-1 : Int) > 0) by decide, if_false]
  split <;> omega
section
variable {X : Cx} {tg : Expr}
def iRngD (ta : TA) : TI := fun σ H R => ta σ H fun vs H1 => ∃ i j : Int, vs = [.int i, .int j, .int (-1)] ∧ (-1000 ≤ i ∧ i < 1000 ∧ -1000 ≤ j ∧ j < 1000) ∧ R (ItrD i (i - j).toNat) H1
theorem pi_rangeD {a b c : Expr} {ta : TA} {p pos : Pos} (hg : Gl X "range") (hm : X.mg "range" = none) (ha : PA X [a, b, c] ta) (hs : starEach [a, b, c] X.env = (false, eval a X.env) :: starEach [b, c] X.env := by rfl) (hs2 : (backTo pos (starEach [b, c] X.env)).any (·.1) = false := by rfl) :
    PI X tg (.Call (.Name "range" p) [a, b, c] [] pos) (iRngD ta) := by
  intro pins s σ H R I h
  refine Call_ (ld_blt I hg hm boot_range (PyProof.Rows.callWith_type1 (thn (ha pos pins s σ H _ I h) fun us s1 ⟨vs, H1, I1, r1, q1⟩ => ?_) hs hs2))
  obtain ⟨i, j, e, ⟨q1, q2, q3, q4⟩, q⟩ := q1
  subst e
  cases r1 with
  | cons r rr =>
    cases rr with
    | cons r' rr =>
      cases rr with
      | cons r'' rr =>
        cases rr
        obtain ⟨t, rfl⟩ := r
        obtain ⟨t', rfl⟩ := r'
        obtain ⟨t'', rfl⟩ := r''
        refine call_range_3 (by decide) ?_ (Or.inl (PyProof.noPylong_small (by omega)))
        refine wpAny_pyIter_range (IsRange.new ..) (small_neg (by omega) (by omega) (by omega) (by omega)) ?_
        have I2 : Inv X pins σ H1 { s1 with heap := s1.heap.push { cls := .type "range", data := .fields #[.int i t, .int j t', .int (-1) t''] }, toks := s1.toks } := I1.kept fun b o e => Heap.get?_push_of_some _ e
        refine ⟨(s1.heap.push { cls := .type "range", data := .fields #[.int i t, .int j t', .int (-1) t''] }).objs.size, [(s1.heap.push { cls := .type "range", data := .fields #[.int i t, .int j t', .int (-1) t''] }).objs.size], _, _, H1, rfl,
          I2.kept (t' := s1.toks) fun b o e => Heap.get?_push_of_some _ e, turn_rangeD _ i (i - j).toNat, ?_, fun b hb => ?_, q⟩
        · have e1 : i + ((0 : Nat) : Int) * (-1) = i := by simp
          have e2 : (((i - j).toNat : Nat) : Int) - ((0 : Nat) : Int) = Builtin.Range.rangeSize i j (-1) := by rw [rangeSize_neg]; split <;> omega
          show IsRangeIter _ _ (i + ((0 : Nat) : Int) * (-1)) ((((i - j).toNat : Nat) : Int) - ((0 : Nat) : Int)) (-1)
          rw [e1, e2]
          exact Heap.get?_push_size _ rfl
        · have e : b = (s1.heap.push { cls := .type "range", data := .fields #[.int i t, .int j t', .int (-1) t''] }).objs.size := by simpa using hb
          subst e
          exact I2.fpOk (Nat.le_refl _) (I2.hok.fresh (Nat.le_refl _))
end
theorem for_rangeD {lo : Int} {n : Nat} {g : TG} {tb : TS} {D : Ends} {σ : St} {H : Hp} (Pv : Nat → St → Hp → Prop) (h0 : Pv 0 σ H)
    (hs : ∀ i σ H, i < n → Pv i σ H → g (.int (lo - i)) σ H fun σ2 H2 => tb { D with nx := Pv (i + 1), ct := Pv (i + 1), bk := D.nx } σ2 H2) (hd : ∀ σ H, Pv n σ H → D.nx σ H) :
    ∃ W : Nat → Nat → St → Hp → Prop, (∃ m, W 0 m σ H) ∧ ∀ i m σ H, W i m σ H →
      ((ItrD lo n).stop i H ∧ D.nx σ H) ∨ ((ItrD lo n).go i H ∧ ∃ N : St → Hp → Prop, (∀ σ' H', N σ' H' → ∃ m', m' < m ∧ W (i + 1) m' σ' H') ∧ ∀ x H', (ItrD lo n).yld i H x H' → g x σ H' fun σ2 H2 => tb { D with nx := N, ct := N, bk := D.nx } σ2 H2) := by
  refine ⟨fun i m σ H => m = n - i ∧ i ≤ n ∧ Pv i σ H, ⟨n, by simp, Nat.zero_le _, h0⟩, ?_⟩
  rintro i m σ H ⟨rfl, hi, p⟩
  by_cases hlt : i < n
  · refine .inr ⟨hlt, Pv (i + 1), fun σ' H' p' => ⟨n - (i + 1), by omega, rfl, hlt, p'⟩, fun x H' y => ?_⟩
    obtain ⟨e, y⟩ := y
    subst e y
    exact hs i σ _ hlt p
  · have e : i = n := by omega
    subst e
    exact .inl ⟨Nat.le_refl _, hd σ H p⟩
/-! ### xs[::-1], xs[:0:-1] -/
theorem pick_rev (its : List Value) : ∀ m : Nat, m ≤ its.length → ((List.range m).map fun (k : Nat) => ((its.length : Int) - 1 + (-1) * (k : Int)).toNat).filterMap (its.toArray[·]?) = (its.drop (its.length - m)).reverse
  | 0, _ => by simp
  | m + 1, h => by
    have ih := pick_rev its m (by omega)
    have hi : its.length - (m + 1) < its.length := by omega
    have e1 : ((its.length : Int) - 1 + (-1) * (m : Int)).toNat = its.length - (m + 1) := by omega
    rw [List.range_succ, List.map_append, List.filterMap_append, ih, List.map_cons, List.map_nil, e1]
    rw [List.drop_eq_getElem_cons hi, show its.length - (m + 1) + 1 = its.length - m by omega, List.reverse_cons]
    congr 1
    have e2 : its.toArray[its.length - (m + 1)]? = some its[its.length - (m + 1)] := by simp [hi]
    rw [List.filterMap_cons, e2]
    rfl
theorem slicePick_rev (its : List Value) : slicePick its.toArray none none (some (-1)) = its.reverse.toArray := by
  unfold slicePick sliceBounds sliceRange
  simp only [Option.getD_some, List.size_toArray, show ¬ ((-1 : Int) > 0) by decide, if_false]
  have e : ((if ((its.length : Int) - 1 > -1) then (((its.length : Int) - 1 - -1 - -1 - 1) / - -1) else 0 : Int)).toNat = its.length := by
    rw [show (- -1 : Int) = 1 by decide, Int.ediv_one]
    split <;> omega
  rw [e, pick_rev its its.length (Nat.le_refl _), Nat.sub_self, List.drop_zero]
theorem slicePick_rev0 (its : List Value) : slicePick its.toArray none (some 0) (some (-1)) = (its.drop 1).reverse.toArray := by
  unfold slicePick sliceBounds sliceRange
  simp only [Option.getD_some, List.size_toArray, show ¬ ((-1 : Int) > 0) by decide, show ¬ ((0 : Int) < 0) by decide, if_false]
  have e : ((if ((its.length : Int) - 1 > max (-1) (min 0 ((its.length : Int) - 1))) then (((its.length : Int) - 1 - max (-1) (min 0 ((its.length : Int) - 1)) - -1 - 1) / - -1) else 0 : Int)).toNat = its.length - 1 := by
    rw [show (- -1 : Int) = 1 by decide, Int.ediv_one]
    split <;> omega
  rw [e, pick_rev its (its.length - 1) (Nat.sub_le _ _)]
  cases its with
  | nil => rfl
  | cons a r =>
    rw [show (a :: r).length - ((a :: r).length - 1) = 1 by simp]
section
variable {X : Cx}
def revV (hi : Option Int) (xs : List V) : List V := match hi with
  | none => xs.reverse
  | some _ => (xs.drop 1).reverse
def tSlR (K : PySem.W.Frag) (te : TE) (th : TO) : TE := fun σ H Q => te σ H fun x H1 => th σ H1 fun u H2 => ∃ a xs, x = .ref a ∧ SqL K H2 a xs ∧ (u = none ∨ u = some 0) ∧ ∀ p, H2 p = none → Q (.ref p) (upd H2 p (.lst (revV u xs)))
theorem pe_sliceR {e st : Expr} {hi : Option Expr} {te : TE} {th : TO} {p2 pos : Pos} (K : PySem.W.Frag) (he : PE X e te) (hu : PO X hi th) (hst : PE X st (tUn (rU fun i => .int (-i)) (tC (.int 1)))) (hK : X.K = K := by rfl) (ht : ∀ o r, letTemporaryGo e o r = pure () := by intro _ _; rfl) :
    PE X (.Subscript e (.Slice none hi (some st) p2) pos) (tSlR K te th) := by
  subst hK
  intro pins s σ H Q I h
  refine wpAny_Subscript_Slice_step slot_list_getitem.lookup (thn (he pins s σ H _ I h) fun v s1 ⟨x, H1, I1, r1, q1⟩ => ?_) ht
  refine wpAny_Slice ?_
  rw [evalPart_none]
  refine wpAny_pure (thn (hu pins s1 σ H1 _ I1 q1) fun vu s3 ⟨u, H3, I3, pu, q3⟩ => ?_)
  rw [evalPart_some]
  refine thn (hst pins s3 σ H3 (fun y H4 => y = .int (-1) ∧ H4 = H3) I3 ⟨1, rfl, rfl, rfl⟩) fun vs s4 ⟨y, H4, I4, r4, ey, eH⟩ => ?_
  subst ey eH
  obtain ⟨t4, rfl⟩ := r4
  obtain ⟨a, xs, rfl, hx, hu0, q⟩ := q3
  cases r1
  have I5 : Inv X pins σ H4 { s4 with heap := s4.heap.push { cls := .type "slice", data := .fields #[.none, vu, .int (-1) t4] } } := I4.kept (t' := s4.toks) fun b ob q => Heap.get?_push_of_some _ q
  obtain ⟨its, r, hl, hz⟩ := I5.list hx
  have hlen := r.length
  refine ⟨hl.isList.typeIs, ?_⟩
  refine wpAny_getItem_list_slice hl.isList ⟨_, Heap.get?_push_size _ rfl, rfl, rfl⟩ .none pu (.int (-1) t4) (by decide) ?_ (by rw [List.size_toArray] <;> omega)
  have hfr := I5.fresh
  rcases hu0 with rfl | rfl
  · rw [slicePick_rev]
    exact ⟨.ref _, _, I5.lnew (ys := xs.reverse) (t' := s4.toks) r.reverse (by rw [List.length_reverse]; exact hz), rfl, q _ hfr⟩
  · rw [slicePick_rev0]
    exact ⟨.ref _, _, I5.lnew (ys := (xs.drop 1).reverse) (t' := s4.toks) (Vals.reverse (Vals.drop' r 1)) (by rw [List.length_reverse, List.length_drop]; omega), rfl, q _ hfr⟩
end
end L2
namespace L2
open PySem PySem.Spec PyProof.Rows
/-! ### abs -/
/-! ### a def with defaults: dV is its tuple of them -/
structure FunD (K : PySem.W.Frag) (x qual : Str) (st : Stmt) (dV : Value) (f : Addr) (fd : FuncData) : Prop where
  ex : ∃ (oc : Value) (od : Option Addr) (kV doc pm : Value) (an : Option Addr) (cdv ct : Value) (osl : Array (Option Value)),
    fd = PySem.W.fnOf x qual (defArgs st) (defBody st) (defScope st) dV kV doc pm an cdv ct ∧ K.lookup f = some ⟨oc, od, .func fd, osl⟩ ∧ PySem.W.codeIn K cdv qual = true
  kp : PySem.W.keepIn K (.ref f) = true
section
variable {P : Program} {w : World} {K : PySem.W.Frag} {mg : Str → Option Value} {base : Heap}
end
end L2
namespace L2
open PySem PySem.Spec PyProof.Rows
/-! ### sorted(dict whose keys are ints) -/
end L2
namespace L2
open PySem
/-! ### the places that a search in a set's table goes over -/
def itf (M : Nat) : Nat → Nat → Nat
  | 0, x => x
  | k + 1, x => itf M k ((x * 5 + 1) % M)
def orb (M : Nat) : Nat → Nat → List Nat
  | 0, _ => []
  | n + 1, x => x :: orb M n ((x * 5 + 1) % M)
def covB (M : Nat) : Bool := (List.range M).all (fun j => (orb M M 0).contains j) && itf M M 0 == 0
def adv (mask : Nat) (p : SetTable.Probe) : SetTable.Probe :=
  if p.more > 0 then { p with j := p.j + 1, more := p.more - 1 }
  else { p with j := (SetTable.leap mask p.i p.perturb).1, more := SetTable.runEnd mask (SetTable.leap mask p.i p.perturb).1 - (SetTable.leap mask p.i p.perturb).1, i := (SetTable.leap mask p.i p.perturb).1, perturb := (SetTable.leap mask p.i p.perturb).2 }
def advs (mask : Nat) : Nat → SetTable.Probe → SetTable.Probe
  | 0, p => p
  | n + 1, p => advs mask n (adv mask p)
def rs (mask i pt : Nat) : SetTable.Probe := { j := i, more := SetTable.runEnd mask i - i, i := i, perturb := pt, dummy := none }
def st0 (mask : Nat) (h : Int) : SetTable.Probe := rs mask (SetTable.bits h % (mask + 1)) (SetTable.bits h)
def lps (mask : Nat) : Nat → Nat × Nat → Nat × Nat
  | 0, x => x
  | m + 1, x => lps mask m (SetTable.leap mask x.1 x.2)
/-! ### where a number stands in a rising row -/
def Rise (xs : Array Nat) : Prop := xs.toList.Pairwise (· < ·)
/-! ### a search -/
section
variable {t : SetTable} {ha : Nat → Int} {h : Int}
end
end L2
namespace L2
open PySem
/-! ### a table laid anew -/
def lcStep (mask : Nat) (acc : Option (Array (Option Nat) × Nat)) (h : Int) : Option (Array (Option Nat) × Nat) :=
  acc.bind fun x => (SetTable.layClean.free mask x.1 (SetTable.turns mask) (SetTable.bits h % (mask + 1)) (SetTable.bits h)).bind fun j => some (x.1.setIfInBounds j (some x.2), x.2 + 1)
structure Lc (mask : Nat) (ow : Array (Option Nat)) (js : List Nat) (hs : List Int) : Prop where
  sz : ow.size = mask + 1
  len : js.length = hs.length
  at_ : ∀ (q j : Nat), js[q]? = some j ↔ ow[j]? = some (some q)
  rch : ∀ (q : Nat) (h : Int) (j : Nat), hs[q]? = some h → js[q]? = some j → ∃ n, (advs mask n (st0 mask h)).j = j ∧ ∀ r, r < n → ow[(advs mask r (st0 mask h)).j]? ≠ some none
/-- what a laying gives -/
structure Laid (t : SetTable) (od : Array Nat) (mask finger moves : Nat) (led plain : Bool) (hashes : Array Int) : Prop where
  tm : t.mask = mask
  tl : t.led = led
  tp : t.plain = plain
  td : t.dummies = #[]
  rise : Rise t.place
  le : ∀ j ∈ t.place.toList, j ≤ mask
  perm : od.toList.Perm (List.range hashes.size)
  sz : t.place.size = hashes.size
  rch : ∀ (r q j : Nat) (h : Int), od[r]? = some q → t.place[r]? = some j → hashes[q]? = some h → ∃ n, (advs mask n (st0 mask h)).j = j ∧ ∀ r', r' < n → (advs mask r' (st0 mask h)).j ∈ t.place.toList
end L2
namespace L2
open PySem
def ins {α : Type} (l : List α) (p : Nat) (x : α) : List α := l.take p ++ x :: l.drop p
structure TOk (t : SetTable) (hs : List Int) : Prop where
  mask : t.mask = 7 ∨ t.mask = 31 ∨ t.mask = 127
  dum : t.dummies = #[]
  len : t.place.size = hs.length
  rise : Rise t.place
  le : ∀ j ∈ t.place.toList, j ≤ t.mask
  rch : ∀ (i : Nat) (h : Int) (j : Nat), hs[i]? = some h → t.place[i]? = some j → ∃ n, (advs t.mask n (st0 t.mask h)).j = j ∧ ∀ q, q < n → (advs t.mask q (st0 t.mask h)).j ∈ t.place.toList
/-! ### entries and table -/
abbrev hsOf (es : Array (Int × Value)) : List Int := es.toList.map (·.1)
structure SOk (t : SetTable) (es : Array (Int × Value)) : Prop where
  T : TOk t (hsOf es)
  room : es.size * 5 < t.mask * 3
end L2
namespace L2
open PySem PySem.Spec PyProof.Rows
/-! ### facts of Python's table -/
end L2
namespace L2
open PySem PySem.Spec PyProof.Rows
def byText (w : World) : Bool := w.params.followText "set-order"
section
variable {P : Program} {w : World} {A : Around} {E : Value → Shared → Prop} {s : Shared}
def EntI (P : Program) (w : World) (e : Int × Value) (n : Int) : Prop := e.1 = (intKind P w).hash n ∧ ∃ tk, e.2 = Value.int n tk
def SetI (P : Program) (w : World) (o : Obj) (σ : List Int) : Prop := ∃ es ep t, o.ExactSet ∧ o.data = .set es ep t ∧ Paired (EntI P w) es.toList σ ∧ σ.Nodup ∧ SOk t es ∧ t.plain = true ∧ t.led = !byText w
end
end L2
namespace L2
open PySem PySem.Spec PyProof.Rows
def setObj0 (w : World) : Obj := { cls := .type "set", dict := none, data := .set #[] 0 (.fresh 0 0 (!byText w)) }
section
variable {P : Program} {w : World} {A : Around} {E : Value → Shared → Prop} {s : Shared}
end
end L2
namespace L2
open PySem PySem.Spec PyProof.Rows
/-! ### a set's walk -/
def slotAt (t : SetTable) : Nat → Nat
  | 0 => 0
  | i + 1 => t.place.getD i 0 + 1
section
variable {P : Program} {w : World} {A : Around} {E : Value → Shared → Prop} {s : Shared}
/-- the set at a, by its entries -/
def SAt (w : World) (h : Heap) (a : Addr) (es : Array (Int × Value)) (ep : Nat) (t : SetTable) : Prop :=
  (∃ o, h.get? a = some o ∧ o.ExactSet ∧ o.data = .set es ep t) ∧ SOk t es ∧ t.plain = true ∧ t.led = !byText w
def walked (w : World) (a : Addr) (es : Array (Int × Value)) (ep : Nat) : List (Int × Value) := if byText w then (pickOrder (w.params.setOrder a ep) es).toList else es.toList
def slotW (w : World) (t : SetTable) (i : Nat) : Nat := if byText w then 0 else slotAt t i
def IsSetIter (w : World) (h : Heap) (it a : Addr) (t : SetTable) (i n ep : Nat) : Prop :=
  ∃ o, h.get? it = some o ∧ o.cls = .type "set_iterator" ∧ o.data = .fields #[.int (slotW w t i) 0, .int i 0, .ref a, .int n 0, .int ep 0]
end
end L2
namespace L2
open PySem PySem.Spec PyProof.Rows
section
variable {P : Program} {w : World} {A : Around} {E : Value → Shared → Prop} {s : Shared}
end
/-! ### the rules -/
def SetO (P : Program) (w : World) (a : Addr) (ms : List Int) : HO := .ext fun h => ∃ o σ, h.get? a = some o ∧ SetI P w o σ ∧ σ.Perm ms
section
variable {X : Cx} (K : PySem.W.Frag)
end
end L2
namespace L2
open PySem PySem.Spec PyProof.Rows
section
variable {P : Program} {w : World} {A : Around} {E : Value → Shared → Prop} {s : Shared}
end
section
variable {X : Cx}
end
end L2
namespace L2
open PySem PySem.Spec PyProof.Rows
section
variable {X : Cx} (P : Program) (w : World) (K : PySem.W.Frag)
end
end L2
namespace L2
open PySem PySem.Spec PyProof.Rows
section
variable {X : Cx}
/-! ### list.count(n) of a list of ints -/
def rCount : V → List V → Hp → VK → Prop := fun x vs H Q => ∃ (l : Addr) (ns : List Int) (i : Int), x = .ref l ∧ vs = [.int i] ∧ H l = some (.lst (ns.map V.int)) ∧ Q (.int ((ns.count i : Nat) : Int)) H
end
end L2
namespace M
open PySem L2
def top (i : Nat) : Stmt := PySem.Challenge.pw_onceways_k07_closed_ways.main.body.getD i (.Pass ⟨0, 0, 0, 0⟩)
abbrev sNbs : Stmt := top 1
abbrev sSte : Stmt := top 2
abbrev sOnc : Stmt := top 3
abbrev sClo : Stmt := top 4
abbrev sStir : Stmt := top 6
abbrev sDeck : Stmt := top 7
abbrev sTake : Stmt := top 8
abbrev sLGrid : Stmt := top 9
abbrev sWeb : Stmt := top 10
abbrev sNea : Stmt := top 11
abbrev sGon : Stmt := top 12
abbrev sRou : Stmt := top 13
abbrev sTol : Stmt := top 14
abbrev sSpo : Stmt := top 15
abbrev sDue : Stmt := top 16
abbrev sLaw : Stmt := top 17
section
variable {P : Program} {w : World} {K : PySem.W.Frag} {mg : Str → Option Value} {base : Heap}
theorem lt2_lit {p : Nat} {a : Int} (h : a.natAbs < 2 ^ p := by decide +kernel) : Lt2 p a := h
/-! ### stir -/
def spStir : Sp := fun vs H Q _ => ∃ (c k : Int), vs = [.int c, .int k] ∧ 1 ≤ k ∧ k ≤ 3 ∧ ∀ r : Int, 0 ≤ r → Lt2 210 r → Q (.int r) H
theorem scStir : FnScope ["cell", "k", "number"] ["cell", "k"] (defScope sStir) := ⟨rfl, rfl, rfl, by decide +kernel, rfl, by decide +kernel, by decide +kernel⟩
theorem ok_stir {f : Addr} {fd : FuncData} (F : Fun K "_law_stir" "_law_stir" sStir f fd) : FnOk P w K mg base CX0 1 f fd ["cell", "k"] spStir := by
  refine F.ok scStir (fun vs H Q E h => ?_) (fun cdv A outer s H vs Q E hr h => ?_)
  · obtain ⟨c, k, rfl, _⟩ := h
    rfl
  · obtain ⟨c, k, rfl, h1, h2, q⟩ := h
    refine ⟨_, pss_cons (ps_set (i := 2) scStir.nd rfl (Or.inl rfl)
        (pe_op op_add (pe_op op_add (pe_op op_mulB (pe_op op_mod (pv 0) (pe_op op_pow pe_int pe_int)) pe_int) (pe_op op_mulB (pe_op op_mulB (pe_op op_pow pe_int pe_int) (pe_op op_add (pv 1) pe_int)) (pe_op op_add (pv 1) pe_int))) (pv 1)))
      (pss_cons (ps_set (i := 2) scStir.nd rfl (Or.inl rfl) (pe_op op_add (pe_op op_mulB (pv 2) (pv 2)) (pe_op op_mulB pe_int (pv 2))))
      (pss_one (ps_ret (pe_op op_fdivB (pe_op op_mod (pe_op op_mulB (pv 2) (pv 2)) (pe_op op_add (pe_op op_pow pe_int pe_int) pe_int)) pe_int)))), ?_⟩
    have b1 : Lt2 133 (10 ^ 40 : Int) := lt2_lit
    have m1 : Lt2 133 (c % (10 ^ 40 : Int)) := Lt2.mod (by decide) b1
    have k1 : Lt2 3 (k + 1) := by show (k + 1).natAbs < 2 ^ 3; omega
    have k2 : Lt2 150 k := by show k.natAbs < 2 ^ 150; omega
    have t1 : Lt2 96 (3 ^ 60 : Int) := lt2_lit
    have c1 : Lt2 16 (48271 : Int) := lt2_lit
    have n1 := ((m1.mul c1).mono (show 133 + 16 ≤ 149 by decide)).add (((t1.mul k1).mul k1).mono (show 96 + 3 + 3 ≤ 149 by decide))
    have n2 := n1.add k2
    have c2 : Lt2 17 (69621 : Int) := lt2_lit
    have n3 := ((n2.mul n2).mono (show 151 + 151 ≤ 302 by decide)).add ((c2.mul n2).mono (show 17 + 151 ≤ 302 by decide))
    refine ⟨_, rfl, _, _, rfl, rfl, ⟨by decide, by decide, by decide⟩, _, _, rfl, rfl, (by show (0 : Int) < 10 ^ 40; decide), _, _, rfl, rfl, ⟨133, 16, m1, c1, by decide, by decide⟩, ?_⟩
    refine ⟨_, _, rfl, rfl, ⟨by decide, by decide, by decide⟩, _, rfl, _, _, rfl, rfl, _, _, rfl, rfl, ⟨96, 3, t1, k1, by decide, by decide⟩, _, rfl, _, _, rfl, rfl, _, _, rfl, rfl, ⟨99, 3, t1.mul k1, k1, by decide, by decide⟩, _, _, rfl, rfl, _, rfl, _, _, rfl, rfl, ?_⟩
    refine ⟨_, rfl, _, rfl, _, _, rfl, rfl, ⟨151, 151, n2, n2, by decide, by decide⟩, _, rfl, _, _, rfl, rfl, ⟨17, 151, c2, n2, by decide, by decide⟩, _, _, rfl, rfl, ?_⟩
    have md : Lt2 204 ((10 : Int) ^ 61 + 7) := lt2_lit
    refine ⟨_, rfl, _, rfl, _, _, rfl, rfl, ⟨303, 303, n3, n3, by decide, by decide⟩, _, _, rfl, rfl, ⟨by decide, by decide, by decide⟩, _, _, rfl, rfl, _, _, rfl, rfl, (by show (0 : Int) < 10 ^ 61 + 7; decide), _, _, rfl, rfl, ⟨by decide, lt2_lit⟩, ?_⟩
    have z0 := Int.emod_nonneg (b := (10 : Int) ^ 61 + 7) ((((c % 10 ^ 40) * 48271 + 3 ^ 60 * (k + 1) * (k + 1) + k) * ((c % 10 ^ 40) * 48271 + 3 ^ 60 * (k + 1) * (k + 1) + k) + 69621 * ((c % 10 ^ 40) * 48271 + 3 ^ 60 * (k + 1) * (k + 1) + k)) * (((c % 10 ^ 40) * 48271 + 3 ^ 60 * (k + 1) * (k + 1) + k) * ((c % 10 ^ 40) * 48271 + 3 ^ 60 * (k + 1) * (k + 1) + k) + 69621 * ((c % 10 ^ 40) * 48271 + 3 ^ 60 * (k + 1) * (k + 1) + k))) (by decide)
    exact q _ (Int.ediv_nonneg z0 (by decide)) ((Lt2.div z0 (by decide) (Lt2.mod (by decide) md)).mono (by decide))
/-! ### deck -/
def spDeck : Sp := fun vs H Q _ => ∃ (c : Int), vs = [.int c] ∧ ∀ (p : Addr) (n : Int), H p = none → Q (.ref p) (upd H p (.lst [.int n]))
theorem scDeck : FnScope ["cell"] ["cell"] (defScope sDeck) := ⟨rfl, rfl, rfl, by decide +kernel, rfl, by decide +kernel, by decide +kernel⟩
theorem ok_deck {f fS : Addr} {fd fdS : FuncData} (F : Fun K "_law_deck" "_law_deck" sDeck f fd) (FS : Fun K "_law_stir" "_law_stir" sStir fS fdS) (bS : Binds K fdS ["cell", "k"] []) (mS : mg "_law_stir" = some (.ref fS)) :
    FnOk P w K mg base CX0 2 f fd ["cell"] spDeck := by
  have GS : FnOk P w K mg base CX0 1 fS fdS ["cell", "k"] spStir := ok_stir FS
  refine F.ok scDeck (fun vs H Q E h => ?_) (fun cdv A outer s H vs Q E hr h => ?_)
  · obtain ⟨c, rfl, _⟩ := h
    rfl
  · obtain ⟨c, rfl, q⟩ := h
    refine ⟨_, pss_cons (ps_if (pt_cmpR op_ge (pv 0) (pe_op op_pow pe_int pe_int) (nomark _)) (pss_one (ps_ret (pe_lst (pa_cons (pe_op op_sub (pv 0) (pe_op op_pow pe_int pe_int)) pa_nil)))) pss_nil)
      (pss_one (ps_ret (pe_lst (pa_cons (pe_op op_add (pe_op op_mulB (pe_op op_add (pe_op op_mulB
        (pe_call GS hr rfl mS FS.kp bS .nil pass0 (pa_cons (pv 0) (pa_cons pe_int pa_nil))) (pe_op op_pow pe_int pe_int))
        (pe_call GS hr rfl mS FS.kp bS .nil pass0 (pa_cons (pv 0) (pa_cons pe_int pa_nil)))) (pe_op op_pow pe_int pe_int))
        (pe_call GS hr rfl mS FS.kp bS .nil pass0 (pa_cons (pv 0) (pa_cons pe_int pa_nil)))) pa_nil)))), ?_⟩
    refine ⟨_, rfl, _, _, rfl, rfl, ⟨by decide, by decide, by decide⟩, _, _, rfl, rfl, _, rfl, ?_⟩
    refine ite2 (fun _ => ?_) (fun _ => ?_)
    · refine ⟨_, rfl, _, _, rfl, rfl, ⟨by decide, by decide, by decide⟩, _, _, rfl, rfl, (by show 1 ≤ sizeLine; decide), fun p hp => q p _ hp⟩
    · have b1 : Lt2 210 (10 ^ 60 : Int) := lt2_lit
      refine ⟨_, rfl, c, 1, rfl, by decide, by decide, fun r1 h1 l1 => ?_⟩
      refine ⟨_, _, rfl, rfl, ⟨by decide, by decide, by decide⟩, _, _, rfl, rfl, ⟨210, 210, l1, b1, by decide, by decide⟩, ?_⟩
      refine ⟨_, rfl, c, 2, rfl, by decide, by decide, fun r2 h2 l2 => ?_⟩
      have l3 := ((l1.mul b1).mono (show 210 + 210 ≤ 420 by decide)).add (l2.mono (show 210 ≤ 420 by decide))
      refine ⟨_, _, rfl, rfl, _, _, rfl, rfl, ⟨by decide, by decide, by decide⟩, _, _, rfl, rfl, ⟨421, 210, l3, b1, by decide, by decide⟩, ?_⟩
      refine ⟨_, rfl, c, 3, rfl, by decide, by decide, fun r3 h3 l4 => ?_⟩
      exact ⟨_, _, rfl, rfl, (by show 1 ≤ sizeLine; decide), fun p hp => q p _ hp⟩
/-! ### take -/
def spTake : Sp := fun vs H Q _ => ∃ (d : Addr) (n m : Int), vs = [.ref d, .int m] ∧ H d = some (.lst [.int n]) ∧ 0 < m ∧ Lt2 9000 m ∧ ∀ n' r : Int, 0 ≤ r → r < m → Q (.int r) (upd H d (.lst [.int n']))
theorem scTake : FnScope ["deck", "many", "taken"] ["deck", "many"] (defScope sTake) := ⟨rfl, rfl, rfl, by decide +kernel, rfl, by decide +kernel, by decide +kernel⟩
theorem ok_take {f : Addr} {fd : FuncData} (F : Fun K "_law_take" "_law_take" sTake f fd) : FnOk P w K mg base CX0 1 f fd ["deck", "many"] spTake := by
  refine F.ok scTake (fun vs H Q E h => ?_) (fun cdv A outer s H vs Q E hr h => ?_)
  · obtain ⟨d, n, m, rfl, _⟩ := h
    rfl
  · obtain ⟨d, n, m, rfl, hd, hm, hb, q⟩ := h
    refine ⟨_, pss_cons (ps_set (i := 2) scTake.nd rfl (Or.inl rfl) (pe_op op_mod (pe_ix ix_list (pv 0) pe_int (fun _ _ => rfl)) (pv 1)))
      (pss_cons (ps_asg (pe_op op_fdivB (pe_ix ix_list (pv 0) pe_int (fun _ _ => rfl)) (pv 1)) (pg_sub (pv 0) pe_int set_list))
      (pss_one (ps_ret (pv 2)))), ?_⟩
    refine ⟨_, rfl, d, _, _, _, rfl, rfl, SqL.of hd, atI_nat (j := 0) rfl, _, rfl, _, _, rfl, rfl, hm, ?_⟩
    refine ⟨_, rfl, d, _, _, _, rfl, rfl, SqL.of hd, atI_nat (j := 0) rfl, _, rfl, _, _, rfl, rfl, ⟨hm, hb⟩, ?_⟩
    refine ⟨_, rfl, d, _, 0, 0, rfl, rfl, hd, rfl, _, rfl, ?_⟩
    exact q (n / m) (n % m) (Int.emod_nonneg n (Int.ne_of_gt hm)) (Int.emod_lt_of_pos n hm)
end
section
variable {P : Program} {w : World} {K : PySem.W.Frag} {mg : Str → Option Value} {base : Heap}
theorem two_le : 2 ≤ sizeLine := by decide
theorem len_step (r c p : Nat) : (gStep r c p).length ≤ 2 := by
  unfold gStep
  rw [List.length_append]
  split <;> split <;> simp
theorem len_roads (r c : Nat) : ∀ i, (gRoads r c i).length ≤ 2 * i
  | 0 => by simp [gRoads]
  | i + 1 => by
    have h1 := len_roads r c i
    have h2 := len_step r c i
    rw [gRoads_succ, List.length_append]
    omega
/-! ### the law's own grid -/
def spLGrid : Sp := fun vs H Q _ => ∃ (r c : Nat), vs = [.int (r : Int), .int (c : Int)] ∧ 1 ≤ r ∧ 1 ≤ c ∧ r ≤ 16 ∧ c ≤ 16 ∧ ∀ (p l : Addr) (xs : List V) (H' : Hp), Same H H' → H p = none → H l = none → p ≠ l → H' p = some (.tup [.int ((r : Int) * (c : Int)), .ref l]) → H' l = some (.lst xs) → Prs H' xs (gRoads r c (r * c)) → Q (.ref p) H'
theorem scLGrid : FnScope ["rows", "columns", "roads", "place"] ["rows", "columns"] (defScope sLGrid) := ⟨rfl, rfl, rfl, by decide +kernel, rfl, by decide +kernel, by decide +kernel⟩
theorem ok_lgrid {f : Addr} {fd : FuncData} (F : Fun K "_law_grid" "_law_grid" sLGrid f fd) (mRange : mg "range" = none) : FnOk P w K mg base CX0 1 f fd ["rows", "columns"] spLGrid := by
  refine F.ok scLGrid (fun vs H Q E h => ?_) (fun cdv A outer s H vs Q E hr h => ?_)
  · obtain ⟨r, c, rfl, _⟩ := h
    rfl
  · obtain ⟨r, c, rfl, hr1, hc1, hr2, hc2, q⟩ := h
    refine ⟨_, pss_cons (ps_set (i := 2) scLGrid.nd rfl (Or.inl rfl) (pe_lst pa_nil))
       (pss_cons (ps_for PassesOwn.never rfl (pi_range1 rfl mRange (pa_cons (pe_op op_mul (pv 0) (pv 1)) pa_nil)) (pg_name (i := 3) scLGrid.nd rfl (Or.inl rfl))
       (pss_cons (ps_if (pt_cmpR op_ne (pe_op op_mod (pe_op op_add (pv 3) pe_int) (pv 1)) pe_int (nomark _)) (pss_one (ps_expr (pe_bm PySem.F.plainAttrs_list PySem.F.slot_list_append PySem.F.type_list_append mt_append (pv 2) (pa_cons (pe_tup (pa_cons (pv 3) (pa_cons (pe_op op_add (pv 3) pe_int) pa_nil))) pa_nil)))) pss_nil)
       (pss_one (ps_if (pt_cmpR op_lt (pe_op op_add (pv 3) (pv 1)) (pe_op op_mul (pv 0) (pv 1)) (nomark _)) (pss_one (ps_expr (pe_bm PySem.F.plainAttrs_list PySem.F.slot_list_append PySem.F.type_list_append mt_append (pv 2) (pa_cons (pe_tup (pa_cons (pv 3) (pa_cons (pe_op op_add (pv 3) (pv 1)) pa_nil))) pa_nil)))) pss_nil))))
       (pss_one (ps_ret (pe_tup (pa_cons (pe_op op_mul (pv 0) (pv 1)) (pa_cons (pv 2) pa_nil)))))), ?_⟩
    refine ⟨Nat.zero_le _, fun l hl => ?_⟩
    have hrc : (r : Int) * (c : Int) = ((r * c : Nat) : Int) := by push_cast; rfl
    have hb : r * c ≤ 16 * 16 := Nat.mul_le_mul hr2 hc2
    have s0 : Same H (upd H l (.lst [])) := Same.new hl
    refine ⟨_, rfl, _, rfl, _, _, rfl, rfl, .inl ⟨by omega, by omega⟩, _, rfl, (by rw [hrc]; omega), (by rw [hrc]; omega), ?_⟩
    refine for_range (lo := 0) (fun i σ H2 => ∃ (xs : List V) (v : Option V), σ = [some (.int r), some (.int c), some (.ref l), v] ∧ Same H H2 ∧ H2 l = some (.lst xs) ∧ Prs H2 xs (gRoads r c i))
      ⟨[], none, rfl, s0, upd_same, .nil⟩ ?_ ?_
    · rintro i σ H2 hi ⟨xs, v, rfl, s2, h2, p2⟩
      have hi' : i < r * c := by rw [hrc, Int.toNat_natCast] at hi; exact hi
      rw [show (0 : Int) + (i : Int) = (i : Int) by omega]
      have hlen : ∀ {zs : List V} {rs : List (Int × Int)} {H3 : Hp}, Prs H3 zs rs → rs.length ≤ 2 * i + 1 → zs.length < sizeLine := fun p hq => by
        have := p.len
        have h16 : (16777216 : Nat) = sizeLine := sizeLine_eq.symm
        omega
      have hgl := len_roads r c i
      dsimp only [gName]
      refine seq_mid (fun σ' H' => ∃ xs : List V, σ' = [some (.int r), some (.int c), some (.ref l), some (.int i)] ∧ Same H H' ∧ H' l = some (.lst xs) ∧ Prs H' xs (gRoads r c i ++ (if ((i : Int) + 1) % (c : Int) = 0 then [] else [((i : Int), (i : Int) + 1)]))) ?snd ?fst
      case fst =>
        intro hk
        refine ⟨_, rfl, _, _, rfl, rfl, _, rfl, _, _, rfl, rfl, (by show (0 : Int) < (c : Int); omega), rfl, _, rfl, ?_⟩
        by_cases z : ((i : Int) + 1) % (c : Int) = 0
        · have zz : (!decide (V.int (((i : Int) + 1) % (c : Int)) = V.int 0)) = false := by rw [z]; simp
          refine (if_neg (show ¬ ((!decide (V.int (((i : Int) + 1) % (c : Int)) = V.int 0)) = true) by rw [zz]; exact Bool.false_ne_true)).mpr ?_
          refine hk _ _ ?_
          exact ⟨xs, rfl, s2, h2, by rw [if_pos z, List.append_nil]; exact p2⟩
        · have zz : (!decide (V.int (((i : Int) + 1) % (c : Int)) = V.int 0)) = true := by simp [z]
          refine (if_pos zz).mpr ?_
          refine ⟨_, rfl, .inl ⟨rfl, _, SqL.of h2⟩, _, rfl, _, rfl, _, _, rfl, rfl, two_le, fun t ht => ?_⟩
          have hne : l ≠ t := fun q => by rw [q, ht] at h2; cases h2
          obtain ⟨a1, a2, a3⟩ := app_pair (a := (i : Int)) (b := (i : Int) + 1) s2 hl h2 p2 ht
          refine ⟨l, xs, _, rfl, rfl, upd_eq h2 hne, hlen p2 (by omega), ?_⟩
          refine hk _ _ ?_
          exact ⟨_, rfl, a1, a2, by rw [if_neg z]; exact a3⟩
      case snd =>
        rintro σ' H3 ⟨xs, rfl, s3, h3, p3⟩
        refine ⟨_, rfl, _, rfl, _, _, rfl, rfl, _, rfl, _, rfl, _, _, rfl, rfl, .inl ⟨by omega, by omega⟩, _, _, rfl, rfl, _, rfl, ?_⟩
        refine ite2 (fun z => ?_) (fun z => ?_)
        · have z' := of_decide_eq_true z
          refine ⟨_, rfl, .inl ⟨rfl, _, SqL.of h3⟩, _, rfl, _, rfl, _, rfl, _, _, rfl, rfl, two_le, fun t ht => ?_⟩
          have hne : l ≠ t := fun q => by rw [q, ht] at h3; cases h3
          obtain ⟨a1, a2, a3⟩ := app_pair (a := (i : Int)) (b := (i : Int) + (c : Int)) s3 hl h3 p3 ht
          refine ⟨l, xs, _, rfl, rfl, upd_eq h3 hne, hlen p3 (by rw [List.length_append]; split <;> simp <;> omega), xs ++ [.ref t], _, rfl, a1, a2, ?_⟩
          rw [gRoads_succ]
          unfold gStep
          rw [if_pos z', ← List.append_assoc]
          exact a3
        · have z' : ¬ ((i : Int) + (c : Int) < (r : Int) * (c : Int)) := fun q => z (decide_eq_true q)
          refine ⟨xs, _, rfl, s3, h3, ?_⟩
          rw [gRoads_succ]
          unfold gStep
          rw [if_neg z', List.append_nil]
          exact p3
    · rintro σ H2 ⟨xs, v, rfl, s2, h2, p2⟩
      refine ⟨_, rfl, _, rfl, _, _, rfl, rfl, .inl ⟨by omega, by omega⟩, _, rfl, two_le, fun p hp => ?_⟩
      have hne : l ≠ p := fun q => by rw [q, hp] at h2; cases h2
      refine q p l xs _ (s2.put (s2.free hp)) (s2.free hp) hl (Ne.symm hne) upd_same (upd_eq h2 hne) ?_
      have p3 := p2.keep (tups_new (o := .tup [.int ((r : Int) * (c : Int)), .ref l]) hp)
      rw [show ((r : Int) * (c : Int)).toNat = r * c by rw [hrc, Int.toNat_natCast]] at p3
      exact p3
end
section
variable {P : Program} {w : World} {K : PySem.W.Frag} {mg : Str → Option Value} {base : Heap}
/-! ### the law's own webs -/
def spWeb : Sp := fun vs H Q _ => ∃ (d : Addr) (n : Int), vs = [.ref d] ∧ H d = some (.lst [.int n]) ∧ ∀ (p l : Addr) (xs : List V) (k : Int) (rs : List (Int × Int)) (H' : Hp), Dk H H' d → H p = none → H l = none → p ≠ l → H' p = some (.tup [.int k, .ref l]) → H' l = some (.lst xs) → Prs H' xs rs → GoodWeb k rs → Q (.ref p) H'
theorem scWeb : FnScope ["deck", "kind", "rows", "places", "pairs", "b", "apart", "roads", "k"] ["deck"] (defScope sWeb) := ⟨rfl, rfl, rfl, by decide +kernel, rfl, by decide +kernel, by decide +kernel⟩
/-- good pairs below n -/
structure PrsOk (n : Int) (ps : List (Int × Int)) : Prop where
  ok : ∀ p ∈ ps, 0 ≤ p.1 ∧ p.1 < p.2 ∧ p.2 < n
  nd : ps.Nodup
theorem PrsOk.sub {n : Int} {ps qs : List (Int × Int)} (h : PrsOk n ps) (s : qs.Sublist ps) : PrsOk n qs := ⟨fun p hp => h.ok p (s.subset hp), h.nd.sublist s⟩
theorem colOk (i : Nat) {ps : List (Int × Int)} (h : PrsOk (i : Int) ps) : PrsOk ((i + 1 : Nat) : Int) (ps ++ (List.range i).map fun a => (((a : Nat) : Int), (i : Int))) := by
  refine ⟨fun p hp => ?_, ?_⟩
  · rcases List.mem_append.mp hp with hp | hp
    · have := h.ok p hp
      push_cast
      omega
    · obtain ⟨a, ha, rfl⟩ := List.mem_map.mp hp
      have := List.mem_range.mp ha
      push_cast
      omega
  · refine List.nodup_append.mpr ⟨h.nd, ?_, fun p hp q hq z => ?_⟩
    · refine List.pairwise_map.mpr ?_
      refine List.Pairwise.imp ?_ List.nodup_range
      intro a b hab z
      have := congrArg Prod.fst z
      dsimp only at this
      exact hab (by omega)
    · subst z
      obtain ⟨a, ha, rfl⟩ := List.mem_map.mp hq
      have := (h.ok _ hp).2.2
      dsimp only at this
      omega
theorem mid4 (k : Bool) : ∃ m : Int, atI [V.int 15, V.int 31] (if k = true then 1 else 0) = some (.int m) ∧ 0 < m ∧ m ≤ 31 := by
  cases k
  · exact ⟨15, rfl, by decide, by decide⟩
  · exact ⟨31, rfl, by decide, by decide⟩
theorem ok_web {f fT fQ : Addr} {fd fdT fdQ : FuncData} (F : Fun K "_law_web" "_law_web" sWeb f fd)
    (FT : Fun K "_law_take" "_law_take" sTake fT fdT) (bT : Binds K fdT ["deck", "many"] []) (mT : mg "_law_take" = some (.ref fT))
    (FQ : Fun K "_law_grid" "_law_grid" sLGrid fQ fdQ) (bQ : Binds K fdQ ["rows", "columns"] []) (mQ : mg "_law_grid" = some (.ref fQ))
    (mRange : mg "range" = none) (mInt : mg "int" = none) (mMin : mg "min" = none) (mLen : mg "len" = none) : FnOk P w K mg base CX0 2 f fd ["deck"] spWeb := by
  have GT : FnOk P w K mg base CX0 1 fT fdT ["deck", "many"] spTake := ok_take FT
  have GQ : FnOk P w K mg base CX0 1 fQ fdQ ["rows", "columns"] spLGrid := ok_lgrid FQ mRange
  refine F.ok scWeb (fun vs H Q E h => ?_) (fun cdv A outer s H vs Q E hr1 h => ?_)
  · obtain ⟨d, n, rfl, _⟩ := h
    rfl
  · obtain ⟨d, n, rfl, hd, q⟩ := h
    have h16 : (16777216 : Nat) = sizeLine := sizeLine_eq.symm
    refine ⟨_, pss_cons (ps_set (i := 1) scWeb.nd rfl (Or.inl rfl) (pe_call GT hr1 rfl mT FT.kp bT .nil pass0 (pa_cons (pv 0) (pa_cons pe_int pa_nil))))
       (pss_cons (ps_if (pt_cmpR op_eq (pv 1) pe_int (nomark _)) (pss_cons (ps_set (i := 2) scWeb.nd rfl (Or.inl rfl) (pe_op op_add pe_int (pe_call GT hr1 rfl mT FT.kp bT .nil pass0 (pa_cons (pv 0) (pa_cons pe_int pa_nil)))))
       (pss_one (ps_ret (pe_call GQ hr1 rfl mQ FQ.kp bQ .nil pass0 (pa_cons (pv 2) (pa_cons (pe_op op_add pe_int (pe_call GT hr1 rfl mT FT.kp bT .nil pass0 (pa_cons (pv 0) (pa_cons pe_int pa_nil)))) pa_nil)))))) pss_nil)
       (pss_cons (ps_set (i := 3) scWeb.nd rfl (Or.inl rfl) (pe_op op_add (pe_op op_add pe_int (pe_call GT hr1 rfl mT FT.kp bT .nil pass0 (pa_cons (pv 0) (pa_cons pe_int pa_nil)))) (pe_op op_mul pe_int (pe_callTy call_int1 rfl mInt boot_int (pa_cons (pe_cmpR op_eq (pv 1) pe_int (nomark _)) pa_nil)))))
       (pss_cons (ps_set (i := 4) scWeb.nd rfl (Or.inl rfl) (pe_lst pa_nil))
       (pss_cons (ps_for PassesOwn.never rfl (pi_range1 rfl mRange (pa_cons (pv 3) pa_nil)) (pg_name (i := 5) scWeb.nd rfl (Or.inr rfl))
       (pss_one (ps_set (i := 4) scWeb.nd rfl (Or.inl rfl) (pe_op op_cat (pv 4) (pe_comp (own := ["a"]) rfl (compScope_free (fr := [("b", 5)]) [(".0", .local), ("a", .local), ("b", .cell)] rfl rfl (by decide +kernel) rfl (by decide +kernel) ⟨rfl, trivial⟩ ⟨fun h => no_cf h, fun h => no_cf h, fun _ => ⟨_, rfl⟩, trivial⟩ ⟨⟨rfl, .inl rfl, .inl rfl⟩, trivial⟩) (pi_range1 rfl mRange (pa_cons (pv 5) pa_nil)) (fun _ _ _ _ => pg_name (i := 0) (show List.Nodup (["a", "b"] : List Str) by decide +kernel) rfl (Or.inl rfl)) (fun _ _ _ _ => pifs_nil) (fun _ _ _ _ => pe_tup (pa_cons (pv 0) (pa_cons (pv 1) pa_nil))))))))
       (pss_cons (ps_if (pt_cmpR op_eq (pe_call GT hr1 rfl mT FT.kp bT .nil pass0 (pa_cons (pv 0) (pa_cons pe_int pa_nil))) pe_int (nomark _)) (pss_cons (ps_set (i := 6) scWeb.nd rfl (Or.inr rfl) (pe_call GT hr1 rfl mT FT.kp bT .nil pass0 (pa_cons (pv 0) (pa_cons (pe_op op_add (pv 3) pe_int) pa_nil))))
       (pss_one (ps_comp (i := 4) scWeb.nd rfl (Or.inl rfl) (own := ["pair"]) rfl (compScope_free (fr := [("apart", 6)]) [(".0", .local), ("pair", .local), ("apart", .cell)] rfl rfl (by decide +kernel) rfl (by decide +kernel) ⟨rfl, trivial⟩ ⟨fun h => no_cf h, fun h => no_cf h, fun _ => ⟨_, rfl⟩, trivial⟩ ⟨⟨rfl, .inl rfl, .inl rfl⟩, trivial⟩) (kList K (pv 4)) (fun _ _ _ _ => pg_name (i := 0) (show List.Nodup (["pair", "apart"] : List Str) by decide +kernel) rfl (Or.inl rfl)) (fun _ _ _ _ => pifs_one (pt_cmpR op_eq (pe_cmpR op_lt (pe_ix (kIxT K) (pv 0) pe_int (fun _ _ => rfl)) (pv 1) (nomark _)) (pe_cmpR op_lt (pe_ix (kIxT K) (pv 0) pe_int (fun _ _ => rfl)) (pv 1) (nomark _)) (nomark _))) (fun _ _ _ _ => pv 0)))) pss_nil)
       (pss_cons (ps_set (i := 7) scWeb.nd rfl (Or.inl rfl) (pe_lst pa_nil))
       (pss_cons (ps_for PassesOwn.never rfl (pi_range1 rfl mRange (pa_cons (pe_callB (call_min2 rfl) rfl mMin boot_min (pa_cons (pe_call GT hr1 rfl mT FT.kp bT .nil pass0 (pa_cons (pv 0) (pa_cons (pe_ix (kIxL K) (pe_lst (pa_cons pe_int (pa_cons pe_int pa_nil))) (pe_callTy call_int1 rfl mInt boot_int (pa_cons (pe_cmpR op_eq (pv 1) pe_int (nomark _)) pa_nil)) (fun _ _ => rfl)) pa_nil))) (pa_cons (pe_callB (kLen K) rfl mLen PySem.boot_len (pa_cons (pv 4) pa_nil)) pa_nil))) pa_nil)) (pg_name (i := 8) scWeb.nd rfl (Or.inl rfl))
       (pss_one (ps_expr (pe_bm PySem.F.plainAttrs_list PySem.F.slot_list_append PySem.F.type_list_append mt_append (pv 7) (pa_cons (pe_bm PySem.F.plainAttrs_list PySem.F.slot_list_pop PySem.F.type_list_pop mt_popAt (pv 4) (pa_cons (pe_call GT hr1 rfl mT FT.kp bT .nil pass0 (pa_cons (pv 0) (pa_cons (pe_callB (kLen K) rfl mLen PySem.boot_len (pa_cons (pv 4) pa_nil)) pa_nil))) pa_nil)) pa_nil)))))
       (pss_one (ps_ret (pe_tup (pa_cons (pv 3) (pa_cons (pv 7) pa_nil)))))))))))), ?_⟩
    -- kind
    refine ⟨_, rfl, d, n, 6, rfl, hd, by decide, lt2_lit, fun n1 k1 hk0 hk1 => ?_⟩
    have D1 : Dk H (upd H d (.lst [.int n1])) d := (Dk.start hd).take n1
    refine ⟨_, rfl, rfl, _, rfl, ?_⟩
    refine ite2 (fun _ => ?_) (fun _ => ?_)
    · -- a grid
      refine ⟨_, rfl, d, n1, 3, rfl, upd_same, by decide, lt2_lit, fun n2 r2 h20 h21 => ⟨_, _, rfl, rfl, ?_⟩⟩
      have D2 := D1.take n2
      refine ⟨_, rfl, _, rfl, d, n2, 4, rfl, upd_same, by decide, lt2_lit, fun n3 r3 h30 h31 => ⟨_, _, rfl, rfl, ?_⟩⟩
      have D3 := D2.take n3
      obtain ⟨r', e1⟩ : ∃ r' : Nat, (1 : Int) + r2 = (r' : Int) := ⟨(1 + r2).toNat, by omega⟩
      obtain ⟨c', e2⟩ : ∃ c' : Nat, (1 : Int) + r3 = (c' : Int) := ⟨(1 + r3).toNat, by omega⟩
      refine ⟨r', c', by rw [← e1, ← e2]; rfl, by omega, by omega, by omega, by omega, fun p l xs H4 s4 hp hl hpl x1 x2 x3 => ?_⟩
      exact q p l xs _ _ H4 (D3.grow s4) (D3.free hp) (D3.free hl) hpl x1 x2 x3 (good_grid (by omega) (by omega) (by omega) (by omega))
    · -- places
      refine ⟨_, rfl, d, n1, 8, rfl, upd_same, by decide, lt2_lit, fun n2 r2 h20 h21 => ⟨_, _, rfl, rfl, ?_⟩⟩
      have D2 := D1.take n2
      generalize hq4 : decide (V.int k1 = V.int 4) = q4
      refine ⟨_, rfl, rfl, .inr ⟨q4, by rw [← hq4], _, _, rfl, rfl, .inl ⟨by decide, by decide⟩, _, _, rfl, rfl, ?_⟩⟩
      obtain ⟨np, e1, hp1, hp2⟩ : ∃ np : Nat, (1 : Int) + r2 + 8 * (if q4 = true then 1 else 0) = (np : Int) ∧ 1 ≤ np ∧ np ≤ 16 := by
        refine ⟨(1 + r2 + 8 * (if q4 = true then 1 else 0)).toNat, ?_, ?_, ?_⟩ <;> cases q4 <;> simp <;> omega
      refine ⟨Nat.zero_le _, fun l0 hl0 => ?_⟩
      have D3 := D2.new (o := .lst []) hl0
      dsimp only [gName]
      refine seq_mid (fun σ' H' => ∃ (lp : Addr) (xs : List V) (ps : List (Int × Int)) (v2 v5 : Option V), σ' = [some (.ref d), some (.int k1), v2, some (.int (np : Int)), some (.ref lp), v5, none, none, none] ∧ Dk H H' d ∧ d ≠ lp ∧ H lp = none ∧ H' lp = some (.lst xs) ∧ Prs H' xs ps ∧ PrsOk (np : Int) ps ∧ ps.length ≤ 16 * 16) ?after ?loop
      case loop =>
        intro hk
        refine ⟨_, rfl, _, rfl, (by show -(2 ^ 62) ≤ (1 : Int) + r2 + 8 * (if q4 = true then 1 else 0); rw [e1]; omega), (by show (1 : Int) + r2 + 8 * (if q4 = true then 1 else 0) < 2 ^ 62; rw [e1]; omega), ?_⟩
        have hn : ((1 : Int) + r2 + 8 * (if q4 = true then 1 else 0)).toNat = np := by rw [e1, Int.toNat_natCast]
        rw [hn]
        refine for_range (lo := 0) (fun i σ' H' => ∃ (lp : Addr) (xs : List V) (ps : List (Int × Int)) (v2 v5 : Option V), σ' = [some (.ref d), some (.int k1), v2, some (.int (np : Int)), some (.ref lp), v5, none, none, none] ∧ Dk H H' d ∧ d ≠ lp ∧ H lp = none ∧ H' lp = some (.lst xs) ∧ Prs H' xs ps ∧ PrsOk (i : Int) ps ∧ ps.length ≤ i * 16)
          ⟨l0, [], [], none, none, by rw [← e1]; rfl, D3, D2.ne hl0, D2.free hl0, upd_same, .nil, ⟨fun _ h => (nomatch h), .nil⟩, Nat.zero_le _⟩ ?_ ?_
        · rintro i σ' H2 hi ⟨lp, xs, ps, v2, v5, rfl, D4, hdp, hlp, elp, pp, pok, plen⟩
          rw [show (0 : Int) + (i : Int) = (i : Int) by omega]
          refine ⟨_, rfl, _, rfl, _, rfl, by omega, by omega, fun D hD => ?_⟩
          rw [Int.toNat_natCast]
          refine comp_range (lo := 0) (n := i) (fun j ys H3 => Same H2 H3 ∧ H3 D = some (.lst ys) ∧ Prs H3 ys ((List.range j).map fun a => (((a : Nat) : Int), (i : Int)))) ⟨Same.new hD, upd_same, .nil⟩ ?_ ?_
          · rintro j ys H3 hj ⟨s3, hD3, p3⟩
            rw [show (0 : Int) + (j : Int) = (j : Int) by omega]
            refine ⟨⟨rfl, trivial⟩, ?_⟩
            unfold tYes
            refine iteT ?_
            refine ⟨_, rfl, _, rfl, two_le, fun t ht => ?_⟩
            have hDt : D ≠ t := ne_of_none hD3 ht
            have hyl : ys.length < sizeLine := by
              have := p3.len
              rw [List.length_map, List.length_range] at this
              omega
            obtain ⟨a1, a2, a3⟩ := app_pair (a := (j : Int)) (b := (i : Int)) s3 hD hD3 p3 ht
            refine ⟨upd_eq hD3 hDt, hyl, a1, a2, ?_⟩
            rw [List.range_succ, List.map_append]
            exact a3
          · rintro ys H3 ⟨s3, hD3, p3⟩
            have e2 := s3 _ _ elp
            have hlen2 := p3.len
            rw [List.length_map, List.length_range] at hlen2
            have hlen1 := pp.len
            refine ⟨lp, D, xs, ys, rfl, rfl, e2, hD3, by omega, fun pn hpn => ?_⟩
            have D5 := D4.grow s3
            have D6 := D5.new (o := .lst (xs ++ ys)) hpn
            refine ⟨pn, xs ++ ys, ps ++ (List.range i).map fun a => (((a : Nat) : Int), (i : Int)), _, _, rfl, D6, D5.ne hpn, D5.free hpn, upd_same, ?_, colOk i pok, ?_⟩
            · exact ((pp.same s3).keep (tups_new hpn)).app (p3.keep (tups_new hpn))
            · rw [List.length_append, List.length_map, List.length_range]
              omega
        · rintro σ' H2 ⟨lp, xs, ps, v2, v5, rfl, D4, hdp, hlp, elp, pp, pok, plen⟩
          refine hk _ _ ?_
          exact ⟨lp, xs, ps, v2, v5, rfl, D4, hdp, hlp, elp, pp, pok, by omega⟩
      case after =>
        rintro σ' H2 ⟨lp, xs, ps, v2, v5, rfl, D4, hdp, hlp, elp, pp, pok, plen⟩
        refine seq_mid (fun σ' H' => ∃ (lp : Addr) (xs : List V) (ps : List (Int × Int)) (v2 v5 v6 : Option V), σ' = [some (.ref d), some (.int k1), v2, some (.int (np : Int)), some (.ref lp), v5, v6, none, none] ∧ Dk H H' d ∧ d ≠ lp ∧ H lp = none ∧ H' lp = some (.lst xs) ∧ Prs H' xs ps ∧ PrsOk (np : Int) ps ∧ ps.length ≤ 16 * 16) ?draw ?filter
        case filter =>
          intro hk
          obtain ⟨n4, e4⟩ := D4.at_
          refine ⟨_, rfl, d, n4, 5, rfl, e4, by decide, lt2_lit, fun n5 r5 _ _ => ⟨rfl, _, rfl, ?_⟩⟩
          have D5 := D4.take n5
          have elp5 : upd H2 d (.lst [.int n5]) lp = some (.lst xs) := upd_eq elp (Ne.symm hdp)
          have pp5 := pp.keep (tups_lst (o := .lst [.int n5]) e4)
          refine ite2 (fun _ => ?_) (fun _ => ?_)
          · refine ⟨_, rfl, _, rfl, _, _, rfl, rfl, d, n5, _, rfl, upd_same, (by show (0 : Int) < (np : Int) + 1; omega), (by show ((np : Int) + 1).natAbs < 2 ^ 9000; exact Nat.lt_of_lt_of_le (show ((np : Int) + 1).natAbs < 2 ^ 5 by omega) (Nat.pow_le_pow_right (by decide) (by decide))), fun n6 r6 _ _ => ?_⟩
            have D6 := D5.take n6
            have elp6 : upd (upd H2 d (.lst [.int n5])) d (.lst [.int n6]) lp = some (.lst xs) := upd_eq elp5 (Ne.symm hdp)
            have pp6 := pp5.keep (tups_lst (o := .lst [.int n6]) (upd_same (H := H2) (a := d) (o := .lst [.int n5])))
            generalize upd (upd H2 d (.lst [.int n5])) d (.lst [.int n6]) = H6 at D6 elp6 pp6 ⊢
            refine ⟨_, rfl, lp, rfl, ⟨_, SqL.of elp6⟩, fun D hD => ?_⟩
            refine comp_list (K := K) (a := lp) (xs := xs) (fun j ys H3 => Same H6 H3 ∧ H3 D = some (.lst ys) ∧ ∃ rs, Prs H3 ys rs ∧ rs.Sublist (ps.take j)) ⟨Same.new hD, upd_same, [], .nil, List.nil_sublist _⟩ (fun j ys H3 _ ⟨s3, _⟩ => SqL.of (s3 _ _ elp6)) ?_ ?_
            · rintro j x ys H3 hx ⟨s3, hD3, rs, p3, sub⟩
              obtain ⟨t, r, rfl, et, er⟩ := (pp6.same s3).get hx
              have hstep : ps.take (j + 1) = ps.take j ++ [r] := by rw [List.take_add_one, er]; rfl
              refine ⟨⟨rfl, trivial⟩, ?_⟩
              refine ⟨_, rfl, t, _, _, _, rfl, rfl, SqT.of et, atI_nat (j := 0) rfl, _, rfl, _, _, rfl, rfl, _, rfl, t, _, _, _, rfl, rfl, SqT.of et, atI_nat (j := 1) rfl, _, rfl, _, _, rfl, rfl, rfl, _, rfl, ?_⟩
              refine ite2 (fun _ => ?_) (fun _ => ?_)
              · have hyl : ys.length < sizeLine := by
                  have h1 := p3.len
                  have h2 := sub.length_le
                  rw [List.length_take] at h2
                  omega
                refine ⟨_, rfl, hD3, hyl, s3.put hD, upd_same, rs ++ [r], (p3.keep (tups_lst hD3)).snoc (tups_lst hD3 _ _ et), ?_⟩
                rw [hstep]
                exact sub.append (List.Sublist.refl _)
              · refine ⟨s3, hD3, rs, p3, ?_⟩
                rw [hstep]
                exact sub.trans (List.sublist_append_left _ _)
            · rintro ys H3 ⟨s3, hD3, rs, p3, sub⟩
              have sub' := sub.trans (List.take_sublist _ _)
              have hl' := sub'.length_le
              refine hk _ _ ?_
              exact ⟨D, ys, rs, _, _, _, rfl, D6.grow s3, D6.ne hD, D6.free hD, hD3, p3, pok.sub sub', by omega⟩
          · refine hk _ _ ?_
            exact ⟨lp, xs, ps, _, _, _, rfl, D5, hdp, hlp, elp5, pp5, pok, plen⟩
        case draw =>
          clear elp pp pok plen hlp hdp
          rintro σ' H3 ⟨lp, xs, ps, v2, v5, v6, rfl, D5, hdp, hlp, elp, pp, pok, plen⟩
          refine ⟨Nat.zero_le _, fun l7 hl7 => ?_⟩
          have h70 : H l7 = none := D5.free hl7
          have D6 := D5.new (o := .lst []) hl7
          have hd7 : d ≠ l7 := D5.ne hl7
          have hp7 : lp ≠ l7 := ne_of_none elp hl7
          have elp6 : upd H3 l7 (.lst []) lp = some (.lst xs) := upd_eq elp hp7
          have pp6 := pp.keep (tups_new (o := .lst []) hl7)
          obtain ⟨n6, e6⟩ := D6.at_
          refine ⟨_, rfl, two_le, fun e he => ?_⟩
          have hde : d ≠ e := ne_of_none e6 he
          have hpe : lp ≠ e := ne_of_none elp6 he
          have h7e : l7 ≠ e := ne_of_none (upd_same (H := H3) (a := l7) (o := .lst [])) he
          obtain ⟨m, em, hm0, hm1⟩ := mid4 (decide (V.int k1 = V.int 4))
          refine ⟨_, rfl, rfl, .inr ⟨_, rfl, e, _, _, _, rfl, rfl, SqL.of upd_same, em, d, n6, m, rfl, upd_eq e6 hde, hm0, (by show m.natAbs < 2 ^ 9000; exact Nat.lt_of_lt_of_le (show m.natAbs < 2 ^ 5 by omega) (Nat.pow_le_pow_right (by decide) (by decide))), fun n8 r8 h80 h81 => ?_⟩⟩
          have D8 := (D6.new (o := .lst [.int 15, .int 31]) he).take n8
          have elp8 : upd (upd (upd H3 l7 (.lst [])) e (.lst [.int 15, .int 31])) d (.lst [.int n8]) lp = some (.lst xs) := upd_eq (upd_eq elp6 hpe) (Ne.symm hdp)
          have e78 : upd (upd (upd H3 l7 (.lst [])) e (.lst [.int 15, .int 31])) d (.lst [.int n8]) l7 = some (.lst []) := upd_eq (upd_eq upd_same h7e) (Ne.symm hd7)
          have pp8 := (pp6.keep (tups_new (o := .lst [.int 15, .int 31]) he)).keep (tups_lst (o := .lst [.int n8]) (upd_eq e6 hde))
          generalize upd (upd (upd H3 l7 (.lst [])) e (.lst [.int 15, .int 31])) d (.lst [.int n8]) = H8 at D8 elp8 e78 pp8 ⊢
          refine ⟨_, rfl, lp, xs, rfl, .inl (SqL.of elp8), _, _, rfl, ?_⟩
          obtain ⟨N, eN, hN1, hN2⟩ : ∃ N : Nat, (if (xs.length : Int) < r8 then (xs.length : Int) else r8) = (N : Int) ∧ N ≤ 30 ∧ N ≤ xs.length := by
            by_cases z : (xs.length : Int) < r8
            · exact ⟨xs.length, by rw [if_pos z], by omega, Nat.le_refl _⟩
            · exact ⟨r8.toNat, by rw [if_neg z]; omega, by omega, by omega⟩
          refine ⟨_, rfl, (by rw [eN]; omega), (by rw [eN]; omega), ?_⟩
          rw [eN, Int.toNat_natCast]
          have hxl := pp8.len
          refine for_range (lo := 0) (fun i σ' H9 => ∃ (xs7 : List V) (rs7 : List (Int × Int)) (xsP : List V) (psP : List (Int × Int)) (v8 : Option V), σ' = [some (.ref d), some (.int k1), v2, some (.int (np : Int)), some (.ref lp), v5, v6, some (.ref l7), v8] ∧ Dk H H9 d ∧
              H9 l7 = some (.lst xs7) ∧ Prs H9 xs7 rs7 ∧ H9 lp = some (.lst xsP) ∧ Prs H9 xsP psP ∧ PrsOk (np : Int) (rs7 ++ psP) ∧ rs7.length = i ∧ psP.length + i = xs.length)
            ⟨[], [], xs, ps, none, rfl, D8, e78, .nil, elp8, pp8, pok, rfl, by omega⟩ ?_ ?_
          · rintro i σ' H9 hi ⟨xs7, rs7, xsP, psP, v8, rfl, D9, e79, p7, elp9, pP, pk, hi7, hiP⟩
            obtain ⟨n9, e9⟩ := D9.at_
            have hPl := pP.len
            have h7l := p7.len
            refine ⟨_, rfl, .inl ⟨rfl, _, SqL.of e79⟩, _, rfl, .inl ⟨rfl, _, SqL.of elp9⟩, _, rfl, _, rfl, lp, xsP, rfl, .inl (SqL.of elp9), d, n9, _, rfl, e9, (by show (0 : Int) < (xsP.length : Int); omega),
              (by show ((xsP.length : Int)).natAbs < 2 ^ 9000; exact Nat.lt_of_lt_of_le (show ((xsP.length : Int)).natAbs < 2 ^ 10 by omega) (Nat.pow_le_pow_right (by decide) (by decide))), fun n10 r10 h100 h101 => ?_⟩
            have hk : r10.toNat < xsP.length := by omega
            have hy : xsP[r10.toNat]? = some xsP[r10.toNat] := List.getElem?_eq_getElem hk
            obtain ⟨t, r, et, ett, er⟩ := pP.get hy
            refine ⟨lp, xsP, r10, r10.toNat, _, rfl, rfl, upd_eq elp9 (Ne.symm hdp), by omega, by omega, seqIx h100 h101, hy, ?_⟩
            refine ⟨l7, xs7, _, rfl, rfl, upd_eq (upd_eq e79 (Ne.symm hd7)) (Ne.symm hp7), by omega, ?_⟩
            have D10 := ((D9.take n10).put (o := .lst (xsP.eraseIdx r10.toNat)) hlp hdp).put (o := .lst (xs7 ++ [xsP[r10.toNat]])) h70 hd7
            have k1 := tups_lst (o := .lst [.int n10]) e9
            have k2 := tups_lst (H := upd H9 d (.lst [.int n10])) (l := lp) (zs := xsP) (o := .lst (xsP.eraseIdx r10.toNat)) (upd_eq elp9 (Ne.symm hdp))
            have k3 := tups_lst (H := upd (upd H9 d (.lst [.int n10])) lp (.lst (xsP.eraseIdx r10.toNat))) (l := l7) (zs := xs7) (o := .lst (xs7 ++ [xsP[r10.toNat]])) (upd_eq (upd_eq e79 (Ne.symm hd7)) (Ne.symm hp7))
            refine ⟨xs7 ++ [xsP[r10.toNat]], rs7 ++ [r], xsP.eraseIdx r10.toNat, psP.eraseIdx r10.toNat, _, rfl, D10, upd_same, ?_, ?_, ?_, ?_, ?_, ?_⟩
            · rw [et]
              rw [et] at k3
              exact (((p7.keep k1).keep k2).keep k3).snoc (k3 _ _ (k2 _ _ (k1 _ _ ett)))
            · exact upd_eq upd_same hp7
            · exact (((pP.erase _).keep k1).keep k2).keep k3
            · have pm := pop_perm psP rs7 r10.toNat r er
              exact ⟨fun p hp => pk.ok p (pm.mem_iff.mp hp), pm.nodup_iff.mpr pk.nd⟩
            · rw [List.length_append, List.length_singleton, hi7]
            · rw [List.length_eraseIdx_of_lt (by omega)]
              omega
          · rintro σ' H9 ⟨xs7, rs7, xsP, psP, v8, rfl, D9, e79, p7, elp9, pP, pk, hi7, hiP⟩
            refine ⟨_, rfl, _, rfl, two_le, fun p hp => ?_⟩
            have hp7' : l7 ≠ p := ne_of_none e79 hp
            have pk' : PrsOk (np : Int) rs7 := pk.sub (List.sublist_append_left _ _)
            exact q p l7 xs7 np rs7 _ (D9.new hp) (D9.free hp) h70 (Ne.symm hp7') upd_same (upd_eq e79 hp7') (p7.keep (tups_new hp)) ⟨by omega, by omega, by omega, pk'.ok, pk'.nd⟩
end
end M
namespace M
open PySem L2
theorem inV_ints (p : Int) : ∀ ms : List Int, inV (.int p) (ms.map V.int) = decide (p ∈ ms) := by
  intro ms
  unfold inV
  induction ms with
  | nil => rfl
  | cons m ms ih =>
    rw [List.map_cons, List.any_cons, ih]
    by_cases h1 : p = m <;> by_cases h2 : p ∈ ms <;> simp [eqV, h1, h2] <;> (try omega) <;> (try (intro z; exact h1 z.symm))
theorem flat_ints (ms : List Int) : (ms.map V.int).all flatV = true := by
  rw [List.all_map]
  exact List.all_eq_true.mpr fun _ _ => rfl
section
variable {P : Program} {w : World} {K : PySem.W.Frag} {mg : Str → Option Value} {base : Heap}
theorem boot_max : bootBuiltins "max" = some (.builtin "max") := by first | rfl | decide +kernel
/-- a web stands at wb -/
structure WebAt (H : Hp) (wb l : Addr) (k : Int) (xs : List V) (rs : List (Int × Int)) : Prop where
  w : H wb = some (.tup [.int k, .ref l])
  l : H l = some (.lst xs)
  p : Prs H xs rs
theorem WebAt.same {H H' : Hp} {wb l : Addr} {k : Int} {xs : List V} {rs : List (Int × Int)} (h : WebAt H wb l k xs rs) (s : Same H H') : WebAt H' wb l k xs rs := ⟨s _ _ h.w, s _ _ h.l, h.p.same s⟩
theorem WebAt.dk {H H' : Hp} {d wb l : Addr} {k : Int} {xs : List V} {rs : List (Int × Int)} (h : WebAt H wb l k xs rs) (s : Dk H H' d) {n : Int} (hd : H d = some (.lst [.int n])) (hl : l ≠ d) : WebAt H' wb l k xs rs :=
  ⟨s.tups hd _ _ h.w, s.keep _ _ hl h.l, h.p.keep (s.tups hd)⟩
/-! ### numbers_by_step -/
def stepUp (rs : List (Int × Int)) (p q : Int) : Nat → Option V
  | 0 => none
  | i + 1 => if rs.getD i (0, 0) = (p, q) ∨ rs.getD i (0, 0) = (q, p) then some (.int (i : Nat)) else stepUp rs p q i
def ky (p q : Int) : List Key := [.inl p, .inl q]
theorem ky_inj {p q a b : Int} : ky p q = ky a b ↔ p = a ∧ q = b := by
  unfold ky
  constructor
  · intro h
    injection h with h1 h2
    injection h2 with h2 _
    exact ⟨Sum.inl.inj h1, Sum.inl.inj h2⟩
  · rintro ⟨rfl, rfl⟩; rfl
def spNbs : Sp := fun vs H Q _ => ∃ (wb l : Addr) (k : Int) (xs : List V) (rs : List (Int × Int)), vs = [.ref wb] ∧ WebAt H wb l k xs rs ∧ xs.length ≤ 30 ∧
  ∀ (d : Addr) (H' : Hp) (kvs : List (List Key × V)), Same H H' → H d = none → H' d = some (.dT kvs) → (∀ p q, valV kvs (ky p q) = stepUp rs p q rs.length) → Q (.ref d) H'
theorem scNbs : FnScope ["web", "numbers", "number", "road"] ["web"] (defScope sNbs) := ⟨rfl, rfl, rfl, by decide +kernel, rfl, by decide +kernel, by decide +kernel⟩
theorem ok_nbs {f : Addr} {fd : FuncData} (F : Fun K "numbers_by_step" "numbers_by_step" sNbs f fd) (mEnum : mg "enumerate" = none) : FnOk P w K mg base CX0 1 f fd ["web"] spNbs := by
  refine F.ok scNbs (fun vs H Q E h => ?_) (fun cdv A outer s H vs Q E hr h => ?_)
  · obtain ⟨_, _, _, _, _, rfl, _⟩ := h
    rfl
  · obtain ⟨wb, l, k, xs, rs, rfl, W, hx, q⟩ := h
    have hu1 : (A.deeper (PyProof.Rows.envOfC "numbers_by_step" (defScope sNbs) s.heap.objs.size f cdv)).units + 1 < cLine := by have := hr.un; omega
    have h16 : (16777216 : Nat) = sizeLine := sizeLine_eq.symm
    refine ⟨_, pss_cons (ps_set (i := 1) scNbs.nd rfl (Or.inl rfl) pe_dnewT)
       (pss_cons (ps_for PassesOwn.never rfl (kEnum K rfl mEnum (pa_cons (pe_ix (kIxT K) (pv 0) pe_int (fun _ _ => rfl)) pa_nil)) (kTup K (n := 2) rfl (pgs_cons (pg_name (i := 2) scNbs.nd rfl (Or.inl rfl)) (pgs_cons (pg_name (i := 3) scNbs.nd rfl (Or.inl rfl)) pgs_nil)))
       (pss_cons (ps_dput hu1 (pv 1) (pv 3) (pv 2) rfl)
       (pss_one (ps_dput hu1 (pv 1) (pe_tup (pa_cons (pe_ix (kIxT K) (pv 3) pe_int (fun _ _ => rfl)) (pa_cons (pe_ix (kIxT K) (pv 3) pe_int (fun _ _ => rfl)) pa_nil))) (pv 2) rfl))))
       (pss_one (ps_ret (pv 1)))), ?_⟩
    refine fun d hd => ?_
    have s1 : Same H (upd H d (.dT [])) := Same.new hd
    refine ⟨_, rfl, wb, _, _, _, rfl, rfl, SqT.of (s1 _ _ W.w), atI_nat (j := 1) rfl, l, xs, rfl, SqL.of (s1 _ _ W.l), ?_⟩
    refine for_enum (K := K) (a := l) (xs := xs) (fun i σ H2 => ∃ (v2 v3 : Option V) (kvs : List (List Key × V)), σ = [some (.ref wb), some (.ref d), v2, v3] ∧ Same H H2 ∧ H2 d = some (.dT kvs) ∧ kvs.length ≤ 2 * i ∧ ∀ p q, valV kvs (ky p q) = stepUp rs p q i)
      ⟨none, none, [], rfl, s1, upd_same, Nat.zero_le _, fun _ _ => rfl⟩ (fun i σ H2 _ ⟨_, _, _, _, s2, _⟩ => SqL.of (s2 _ _ W.l)) ?_ ?_
    · rintro i x σ H2 T hxi ⟨v2, v3, kvs, rfl, s2, e2, len, val⟩ hT
      obtain ⟨t, r, rfl, et, er⟩ := (W.same s2).p.get hxi
      have hi : i < xs.length := (List.getElem?_eq_some_iff.mp hxi).1
      have s3 : Same H (upd H2 T (.tup [.int (i : Nat), .ref t])) := s2.put (s2.free hT)
      have s23 : Same H2 (upd H2 T (.tup [.int (i : Nat), .ref t])) := Same.new hT
      have hdT : d ≠ T := ne_of_none e2 hT
      refine ⟨T, _, rfl, SqT.of upd_same, rfl, _, _, rfl, _, _, rfl, rfl, ?_⟩
      refine ⟨_, rfl, _, rfl, _, rfl, d, _, rfl, DPut.t (k := ky r.1 r.2) (upd_eq e2 hdT) (s23 _ _ et) (by omega), ?_⟩
      have s4 := s3.put (o := .dT (putK kvs (ky r.1 r.2) (.int (i : Nat)))) hd
      have et4 : upd (upd H2 T (.tup [.int (i : Nat), .ref t])) d (.dT (putK kvs (ky r.1 r.2) (.int (i : Nat)))) t = some (.tup [.int r.1, .int r.2]) := upd_eq (s23 _ _ et) (ne_of (s23 _ _ et) (upd_eq e2 hdT) (fun z => by cases z))
      have hl1 := length_putK kvs (ky r.1 r.2) (.int (i : Nat))
      refine ⟨_, rfl, _, rfl, _, rfl, t, _, _, _, rfl, rfl, SqT.of et4, atI_nat (j := 1) rfl, _, rfl, t, _, _, _, rfl, rfl, SqT.of et4, atI_nat (j := 0) rfl, (by show 2 ≤ sizeLine; decide), fun u hu => ?_⟩
      have hdu : d ≠ u := fun z => by rw [← z, upd_same] at hu; cases hu
      refine ⟨d, _, rfl, DPut.t (k := ky r.2 r.1) (upd_eq upd_same hdu) upd_same (by omega), ?_⟩
      refine ⟨_, _, _, rfl, ((s4.put (s4.free hu)).put hd), upd_same, ?_, fun p q => ?_⟩
      · have := length_putK (putK kvs (ky r.1 r.2) (.int (i : Nat))) (ky r.2 r.1) (.int (i : Nat))
        omega
      · rw [valV_put, valV_put, val p q]
        have e : rs.getD i (0, 0) = r := by rw [List.getD_eq_getElem?_getD, er]; rfl
        show _ = if rs.getD i (0, 0) = (p, q) ∨ rs.getD i (0, 0) = (q, p) then some (V.int (i : Nat)) else stepUp rs p q i
        rw [e]
        obtain ⟨r1, r2⟩ := r
        by_cases h1 : p = r2 ∧ q = r1
        · rw [if_pos (ky_inj.mpr h1), if_pos (.inr (by rw [h1.1, h1.2]))]
        · rw [if_neg fun z => h1 (ky_inj.mp z)]
          by_cases h2 : p = r1 ∧ q = r2
          · rw [if_pos (ky_inj.mpr h2), if_pos (.inl (by rw [h2.1, h2.2]))]
          · rw [if_neg fun z => h2 (ky_inj.mp z), if_neg]
            rintro (z | z)
            · injection z with z1 z2
              exact h2 ⟨z1.symm, z2.symm⟩
            · injection z with z1 z2
              exact h1 ⟨z2.symm, z1.symm⟩
    · rintro σ H2 ⟨v2, v3, kvs, rfl, s2, e2, len, val⟩
      rw [W.p.len] at val
      exact ⟨_, rfl, q d H2 kvs s2 hd e2 val⟩
/-! ### steps_of -/
def stepsOf (ns : List Int) (c : Bool) : List (Int × Int) := ns.zip (ns.drop 1) ++ (if c = true then [(ns.getD (ns.length - 1) 0, ns.getD 0 0)] else [])
def spSte : Sp := fun vs H Q _ => ∃ (pl : Addr) (ns : List Int) (c : Bool), vs = [.ref pl, .bl c] ∧ H pl = some (.lst (ns.map V.int)) ∧ ns.length ≤ 100 ∧ (c = true → ns ≠ []) ∧
  ∀ (S : Addr) (ws : List V) (H' : Hp), Same H H' → H S = none → H' S = some (.lst ws) → Prs H' ws (stepsOf ns c) → Q (.ref S) H'
theorem scSte : FnScope ["places", "closed", "steps"] ["places", "closed"] (defScope sSte) := ⟨rfl, rfl, rfl, by decide +kernel, rfl, by decide +kernel, by decide +kernel⟩
theorem at_last {ns : List Int} (h : ns ≠ []) : atI (ns.map V.int) (-1) = some (.int (ns.getD (ns.length - 1) 0)) := by
  have hp : 0 < ns.length := List.length_pos_iff.mpr h
  have e : ixN (ns.map V.int).length (-1) = some (ns.length - 1) := by
    unfold ixN
    rw [if_neg (by decide), List.length_map, if_pos (by omega)]
    congr 1
    omega
  unfold atI
  rw [e]
  show (ns.map V.int)[ns.length - 1]? = _
  rw [List.getElem?_map, List.getElem?_eq_getElem (show ns.length - 1 < ns.length by omega), List.getD_eq_getElem?_getD, List.getElem?_eq_getElem (show ns.length - 1 < ns.length by omega)]
  rfl
theorem at_int {ns : List Int} {i : Int} (h0 : 0 ≤ i) (h1 : i < ns.length) : atI (ns.map V.int) i = some (.int (ns.getD i.toNat 0)) := by
  obtain ⟨k, rfl⟩ := Int.eq_ofNat_of_zero_le h0
  have hk : k < ns.length := by omega
  refine atI_nat ?_
  show (ns.map V.int)[k]? = some (.int (ns.getD k 0))
  rw [List.getElem?_map, List.getD_eq_getElem?_getD, List.getElem?_eq_getElem hk]
  rfl
theorem ok_ste {f : Addr} {fd : FuncData} (F : Fun K "steps_of" "steps_of" sSte f fd) (mLst : mg "list" = none) (mZip : mg "zip" = none) : FnOk P w K mg base CX0 1 f fd ["places", "closed"] spSte := by
  refine F.ok scSte (fun vs H Q E h => ?_) (fun cdv A outer s H vs Q E hr h => ?_)
  · obtain ⟨_, _, _, rfl, _⟩ := h
    rfl
  · obtain ⟨pl, ns, c, rfl, hp, hn, hc, q⟩ := h
    have h16 : (16777216 : Nat) = sizeLine := sizeLine_eq.symm
    refine ⟨_, pss_cons (ps_set (i := 2) scSte.nd rfl (Or.inl rfl) (pe_listzip K rfl rfl mLst rfl mZip (pa_cons (pv 0) (pa_cons (pe_slice (kSl K) (pv 0) (po_some pe_int) po_none) pa_nil))))
       (pss_cons (ps_if (pt_val (pv 1)) (pss_one (ps_expr (pe_bm PySem.F.plainAttrs_list PySem.F.slot_list_append PySem.F.type_list_append mt_append (pv 2) (pa_cons (pe_tup (pa_cons (pe_ix (kIxL K) (pv 0) (pe_un op_negI pe_int) (fun _ _ => rfl)) (pa_cons (pe_ix (kIxL K) (pv 0) pe_int (fun _ _ => rfl)) pa_nil))) pa_nil)))) pss_nil)
       (pss_one (ps_ret (pv 2)))), ?_⟩
    refine ⟨_, rfl, _, rfl, _, rfl, pl, _, rfl, SqL.of hp, fun p2 hp2 => ?_⟩
    have s1 : Same H (upd H p2 (.lst (cutV (ns.map V.int) (some 1) none))) := Same.new hp2
    have ec : cutV (ns.map V.int) (some 1) none = (ns.drop 1).map V.int := by rw [show (some (1 : Int)) = some ((1 : Nat) : Int) from rfl, cut_from, List.map_drop]
    refine ⟨pl, p2, ns, ns.drop 1, rfl, SqL.of (s1 _ _ hp), by rw [← ec]; exact SqL.of upd_same, by omega, fun S ws H2 s2 hS eS pS => ?_⟩
    have s12 := s1.trans s2
    have hS0 := s1.free hS
    have lws : ws.length ≤ 100 := by rw [pS.len, List.length_zip]; omega
    refine ⟨_, rfl, c, rfl, ?_⟩
    refine ite2 (fun z => ?_) (fun z => ?_)
    · have hne := hc z
      have hpos : 0 < ns.length := List.length_pos_iff.mpr hne
      refine ⟨_, rfl, .inl ⟨rfl, _, SqL.of eS⟩, _, rfl, _, rfl, pl, _, _, _, rfl, rfl, SqL.of (s12 _ _ hp), at_last hne, _, rfl, pl, _, _, _, rfl, rfl, SqL.of (s12 _ _ hp), at_int (i := 0) (by decide) (by omega), (by show 2 ≤ sizeLine; decide), fun t ht => ?_⟩
      have hSt : S ≠ t := ne_of_none eS ht
      refine ⟨S, _, _, rfl, rfl, upd_eq eS hSt, by omega, ?_⟩
      have s3 := (s12.put (o := .tup [.int (ns.getD (ns.length - 1) 0), .int (ns.getD 0 0)]) (s12.free ht))
      refine ⟨_, rfl, q S _ _ (s3.put hS0) hS0 upd_same ?_⟩
      unfold stepsOf
      rw [if_pos z]
      have tg : ∀ p ys, (upd H2 t (.tup [.int (ns.getD (ns.length - 1) 0), .int (ns.getD 0 0)])) p = some (.tup ys) → (upd (upd H2 t (.tup [.int (ns.getD (ns.length - 1) 0), .int (ns.getD 0 0)])) S (.lst (ws ++ [.ref t]))) p = some (.tup ys) := fun p ys e => upd_eq e (ne_of e (upd_eq eS hSt) (fun z => by cases z))
      exact Prs.keep (Prs.snoc (pS.same (Same.new ht)) upd_same) tg
    · refine ⟨_, rfl, q S ws H2 s12 hS0 eS ?_⟩
      unfold stepsOf
      rw [if_neg z, List.append_nil]
      exact pS
end
section
variable {P : Program} {w : World} {K : PySem.W.Frag} {mg : Str → Option Value} {base : Heap}
/-! ### goes_once -/
def Adj (rs : List (Int × Int)) (p q : Int) : Prop := (p, q) ∈ rs ∨ (q, p) ∈ rs
theorem stepUp_some (rs : List (Int × Int)) (p q : Int) : ∀ i, (stepUp rs p q i).isSome = true ↔ ∃ j, j < i ∧ (rs.getD j (0, 0) = (p, q) ∨ rs.getD j (0, 0) = (q, p))
  | 0 => ⟨fun h => (by cases h), fun ⟨j, hj, _⟩ => absurd hj (Nat.not_lt_zero j)⟩
  | i + 1 => by
    have ih := stepUp_some rs p q i
    show (if rs.getD i (0, 0) = (p, q) ∨ rs.getD i (0, 0) = (q, p) then some (V.int (i : Nat)) else stepUp rs p q i).isSome = true ↔ _
    by_cases z : rs.getD i (0, 0) = (p, q) ∨ rs.getD i (0, 0) = (q, p)
    · rw [if_pos z]
      exact ⟨fun _ => ⟨i, Nat.lt_succ_self i, z⟩, fun _ => rfl⟩
    · rw [if_neg z, ih]
      constructor
      · rintro ⟨j, hj, e⟩
        exact ⟨j, Nat.lt_succ_of_lt hj, e⟩
      · rintro ⟨j, hj, e⟩
        refine ⟨j, ?_, e⟩
        rcases Nat.lt_or_ge j i with h | h
        · exact h
        · have : j = i := by omega
          subst this
          exact absurd e z
theorem step_adj (rs : List (Int × Int)) (p q : Int) : (stepUp rs p q rs.length).isSome = true ↔ Adj rs p q := by
  rw [stepUp_some]
  constructor
  · rintro ⟨j, hj, e⟩
    have hm : rs.getD j (0, 0) ∈ rs := by
      rw [List.getD_eq_getElem?_getD, List.getElem?_eq_getElem hj]
      exact List.getElem_mem hj
    rcases e with e | e
    · exact .inl (e ▸ hm)
    · exact .inr (e ▸ hm)
  · rintro (h | h)
    · obtain ⟨j, hj, e⟩ := List.getElem_of_mem h
      exact ⟨j, hj, .inl (by rw [List.getD_eq_getElem?_getD, List.getElem?_eq_getElem hj]; exact e)⟩
    · obtain ⟨j, hj, e⟩ := List.getElem_of_mem h
      exact ⟨j, hj, .inr (by rw [List.getD_eq_getElem?_getD, List.getElem?_eq_getElem hj]; exact e)⟩
theorem met_len (ns : List Int) : ∀ i, i ≤ ns.length → ((PyProof.Rows.firstMet (fun i => ns.getD i 0) i).length = i ↔ (ns.take i).Nodup)
  | 0, _ => ⟨fun _ => by rw [List.take_zero]; exact List.nodup_nil, fun _ => rfl⟩
  | i + 1, h => by
    have ih := met_len ns i (by omega)
    have hx : i < ns.length := by omega
    have hle := PyProof.Rows.firstMet_length_le (fun i => ns.getD i 0) i
    have eg : ns.getD i 0 = ns[i] := by rw [List.getD_eq_getElem?_getD, List.getElem?_eq_getElem hx]; rfl
    have eany : ((List.range i).map fun i => ns.getD i 0) = ns.take i := by
      refine List.ext_getElem (by rw [List.length_map, List.length_range, List.length_take]; omega) fun j h1 h2 => ?_
      rw [List.length_map, List.length_range] at h1
      rw [List.getElem_map, List.getElem_range, List.getElem_take, List.getD_eq_getElem?_getD, List.getElem?_eq_getElem (by omega)]
      rfl
    have ea := PyProof.Rows.firstMet_any (fun i => ns.getD i 0) i (ns.getD i 0)
    rw [eany] at ea
    have emem : ((ns.take i).any (· == ns.getD i 0)) = decide (ns[i] ∈ ns.take i) := by
      rw [eg]
      by_cases z : ns[i] ∈ ns.take i
      · rw [decide_eq_true z]
        exact List.any_eq_true.mpr ⟨_, z, by simp⟩
      · rw [decide_eq_false z]
        refine List.any_eq_false.mpr fun y hy e => z ?_
        have : y = ns[i] := by simpa using e
        exact this ▸ hy
    rw [PyProof.Rows.firstMet_succ, List.take_add_one, List.getElem?_eq_getElem hx]
    show _ ↔ (ns.take i ++ [ns[i]]).Nodup
    have nd : (ns.take i ++ [ns[i]]).Nodup ↔ (ns.take i).Nodup ∧ ns[i] ∉ ns.take i := by
      rw [List.nodup_append]
      constructor
      · rintro ⟨h1, _, h3⟩
        exact ⟨h1, fun z => h3 _ z _ (List.mem_singleton.mpr rfl) rfl⟩
      · rintro ⟨h1, h2⟩
        refine ⟨h1, List.nodup_cons.mpr ⟨List.not_mem_nil, List.nodup_nil⟩, fun a ha b hb e => ?_⟩
        rw [List.mem_singleton] at hb
        subst hb
        exact h2 (e ▸ ha)
    rw [nd, ← ih]
    by_cases z : ns[i] ∈ ns.take i
    · rw [emem, decide_eq_true z] at ea
      unfold PyProof.Rows.step_dedup
      rw [if_pos ea]
      exact ⟨fun e => by omega, fun e => absurd z e.2⟩
    · rw [emem, decide_eq_false z] at ea
      unfold PyProof.Rows.step_dedup
      rw [if_neg (by rw [ea]; decide)]
      have el : ∀ (l : List Int) (x : Int), (l ++ [x]).length = l.length + 1 := fun l x => by rw [List.length_append, List.length_singleton]
      first
        | (rw [el]; exact ⟨fun e => ⟨by omega, z⟩, fun e => by have := e.1; omega⟩)
        | (rw [List.length_cons]; exact ⟨fun e => ⟨by omega, z⟩, fun e => by have := e.1; omega⟩)
theorem met_all (ns : List Int) : (PyProof.Rows.firstMet (fun i => ns.getD i 0) ns.length).length = ns.length ↔ ns.Nodup := by
  have h := met_len ns ns.length (Nat.le_refl _)
  rw [List.take_length] at h
  exact h
def Once (rs : List (Int × Int)) (ns : List Int) (c : Bool) : Prop := (∀ t ∈ stepsOf ns c, Adj rs t.1 t.2) ∧ ns.Nodup
def spOnc : Sp := fun vs H Q _ => ∃ (wb l pl : Addr) (k : Int) (xs : List V) (rs : List (Int × Int)) (ns : List Int) (c : Bool), vs = [.ref wb, .ref pl, .bl c] ∧ WebAt H wb l k xs rs ∧ xs.length ≤ 30 ∧ H pl = some (.lst (ns.map V.int)) ∧ ns.length ≤ 100 ∧ (c = true → ns ≠ []) ∧
  ∀ (b : Bool) (H' : Hp), Same H H' → (b = true ↔ Once rs ns c) → Q (.bl b) H'
theorem scOnc : FnScope ["web", "places", "closed", "numbers", "by_roads"] ["web", "places", "closed"] (defScope sOnc) := ⟨rfl, rfl, rfl, by decide +kernel, rfl, by decide +kernel, by decide +kernel⟩
theorem ok_onc {f fU fV : Addr} {fd fdU fdV : FuncData} (F : Fun K "goes_once" "goes_once" sOnc f fd) (FU : Fun K "numbers_by_step" "numbers_by_step" sNbs fU fdU) (bU : Binds K fdU ["web"] []) (mU : mg "numbers_by_step" = some (.ref fU))
    (FV : Fun K "steps_of" "steps_of" sSte fV fdV) (bV : Binds K fdV ["places", "closed"] []) (mV : mg "steps_of" = some (.ref fV)) (mEnum : mg "enumerate" = none) (mLst : mg "list" = none) (mZip : mg "zip" = none) (mAll : mg "all" = none) (mSet : mg "set" = none) (mLen : mg "len" = none) : FnOk P w K mg base CX0 2 f fd ["web", "places", "closed"] spOnc := by
  have GU : FnOk P w K mg base CX0 1 fU fdU ["web"] spNbs := ok_nbs FU mEnum
  have GV : FnOk P w K mg base CX0 1 fV fdV ["places", "closed"] spSte := ok_ste FV mLst mZip
  refine F.ok scOnc (fun vs H Q E h => ?_) (fun cdv A outer s H vs Q E hr h => ?_)
  · obtain ⟨_, _, _, _, _, _, _, _, rfl, _⟩ := h
    rfl
  · obtain ⟨wb, l, pl, k, xs, rs, ns, c, rfl, W, hx, hp, hn, hc, q⟩ := h
    have hu1 : (A.deeper (PyProof.Rows.envOfC "goes_once" (defScope sOnc) s.heap.objs.size f cdv)).units + 1 < cLine := by have := hr.un; omega
    have h16 : (16777216 : Nat) = sizeLine := sizeLine_eq.symm
    refine ⟨_, pss_cons (ps_set (i := 3) scOnc.nd rfl (Or.inr rfl) (pe_call GU (hr.mono (by decide)) rfl mU FU.kp bU .nil pass0 (pa_cons (pv 0) pa_nil)))
       (pss_cons (ps_set (i := 4) scOnc.nd rfl (Or.inl rfl) (pe_callB (kAll K rfl) rfl mAll boot_all (pa_cons (pe_comp (own := ["step"]) rfl (compScope_free (fr := [("numbers", 3)]) [(".0", .local), ("step", .local), ("numbers", .cell)] rfl rfl (by decide +kernel) rfl (by decide +kernel) ⟨rfl, trivial⟩ ⟨fun h => no_cf h, fun h => no_cf h, fun _ => ⟨_, rfl⟩, trivial⟩ ⟨⟨rfl, .inl rfl, .inl rfl⟩, trivial⟩) (kList K (pe_call GV (hr.mono (by decide)) rfl mV FV.kp bV .nil pass0 (pa_cons (pv 1) (pa_cons (pv 2) pa_nil)))) (fun _ _ _ _ => pg_name (i := 0) (show List.Nodup (["step", "numbers"] : List Str) by decide +kernel) rfl (Or.inl rfl)) (fun _ _ _ _ => pifs_nil) (fun _ _ _ _ => pe_cmp (pc_din hu1 (pv 0) (pv 1)) rfl)) pa_nil)))
       (pss_one (ps_ret (pe_and (pv 4) (pe_one (pe_cmpR op_eq (pe_callB kLenSet rfl mLen PySem.boot_len (pa_cons (pe_callTy (kSetI K rfl) rfl mSet boot_set (pa_cons (pv 1) pa_nil)) pa_nil)) (pe_callB (kLen K) rfl mLen PySem.boot_len (pa_cons (pv 1) pa_nil)) (nomark _))))))), ?_⟩
    refine ⟨_, rfl, wb, l, k, xs, rs, rfl, W, hx, fun d H1 kvs s1 hd ed val => ?_⟩
    refine ⟨_, rfl, _, rfl, pl, ns, c, rfl, s1 _ _ hp, hn, hc, fun S ws H2 s2 hS eS pS => ?_⟩
    have s12 := s1.trans s2
    have ed2 := s2 _ _ ed
    have lws : ws.length ≤ 102 := by
      rw [pS.len]
      unfold stepsOf
      rw [List.length_append, List.length_zip]
      split <;> simp <;> omega
    refine ⟨S, rfl, ⟨_, SqL.of eS⟩, fun D hD => ?_⟩
    refine comp_list (K := K) (a := S) (xs := ws) (fun i ys H3 => Same H2 H3 ∧ H3 D = some (.lst ys) ∧ ys = (((stepsOf ns c).take i).map fun t => (stepUp rs t.1 t.2 rs.length).isSome).map V.bl) ⟨Same.new hD, upd_same, rfl⟩ (fun i ys H3 _ ⟨s3, _⟩ => SqL.of (s3 _ _ eS)) ?_ ?_
    · rintro i x ys H3 hxi ⟨s3, hD3, rfl⟩
      obtain ⟨t, r, rfl, et, er⟩ := (pS.same s3).get hxi
      have hi : i < ws.length := (List.getElem?_eq_some_iff.mp hxi).1
      refine ⟨⟨rfl, trivial⟩, ?_⟩
      unfold tYes
      refine iteT ?_
      refine ⟨_, rfl, _, rfl, d, _, rfl, DGet.t (k := ky r.1 r.2) (s3 _ _ ed2) et, hD3, ?_, s3.put hD, upd_same, ?_⟩
      · rw [List.length_map, List.length_map, List.length_take]
        omega
      · rw [List.take_add_one, er, List.map_append, List.map_append, val r.1 r.2]
        rfl
    rintro ys H3 ⟨s3, hD3, rfl⟩
    rw [pS.len, List.take_length] at hD3
    refine ⟨D, _, rfl, SqL.of hD3, ?_⟩
    refine ⟨_, rfl, _, rfl, ?_⟩
    have s13 := s12.trans s3
    have eall : (((stepsOf ns c).map fun t => (stepUp rs t.1 t.2 rs.length).isSome).all id = true) ↔ ∀ t ∈ stepsOf ns c, Adj rs t.1 t.2 := by
      rw [List.all_eq_true]
      constructor
      · intro h t ht
        exact (step_adj rs t.1 t.2).mp (h _ (List.mem_map.mpr ⟨t, ht, rfl⟩))
      · intro h y hy
        obtain ⟨t, ht, rfl⟩ := List.mem_map.mp hy
        exact (step_adj rs t.1 t.2).mpr (h t ht)
    refine ite2 (fun z => ?_) (fun z => ?_)
    · refine ⟨_, rfl, pl, ns, rfl, SqL.of (s13 _ _ hp), by omega, fun se hse => ?_⟩
      have s4 : Same H3 (upd H3 se (.set (fun k' => (PyProof.Rows.firstMet (fun i => ns.getD i 0) ns.length).any (· == k')) (PyProof.Rows.firstMet (fun i => ns.getD i 0) ns.length).length)) := Same.new hse
      have hml := PyProof.Rows.firstMet_length_le (fun i => ns.getD i 0) ns.length
      refine ⟨se, _, _, rfl, upd_same, by omega, _, rfl, pl, _, rfl, .inl (SqL.of (s4 _ _ (s13 _ _ hp))), rfl, ?_⟩
      refine q _ _ (s13.trans s4) ?_
      rw [List.length_map]
      constructor
      · intro e
        have e1 := of_decide_eq_true e
        have e2 : (PyProof.Rows.firstMet (fun i => ns.getD i 0) ns.length).length = ns.length := by
          have := V.int.inj e1
          omega
        exact ⟨eall.mp z, (met_all ns).mp e2⟩
      · rintro ⟨_, nd⟩
        rw [(met_all ns).mpr nd]
        exact decide_eq_true rfl
    · exact q _ _ s13 ⟨fun e => (by cases e), fun o => absurd (eall.mpr o.1) z⟩
end
end M
namespace M
open PySem L2
section
variable {P : Program} {w : World} {K : PySem.W.Frag} {mg : Str → Option Value} {base : Heap}
/-! ### closed ways -/
def pvI (ns : List Int) (i : Nat) : Int := if i = 0 then ns.getD (ns.length - 1) 0 else ns.getD (i - 1) 0
theorem getD_eq {ns : List Int} {i : Nat} (h : i < ns.length) : ns.getD i 0 = ns[i] := by
  rw [List.getD_eq_getElem?_getD, List.getElem?_eq_getElem h]
  rfl
theorem zip_mem {ns : List Int} {t : Int × Int} : t ∈ ns.zip (ns.drop 1) ↔ ∃ j, j + 1 < ns.length ∧ t = (ns.getD j 0, ns.getD (j + 1) 0) := by
  constructor
  · intro h
    obtain ⟨j, hj, e⟩ := List.getElem_of_mem h
    rw [List.length_zip, List.length_drop] at hj
    have h1 : j + 1 < ns.length := by omega
    refine ⟨j, h1, ?_⟩
    rw [← e, List.getElem_zip, List.getElem_drop, getD_eq (by omega), getD_eq h1]
    congr 2
    omega
  · rintro ⟨j, hj, rfl⟩
    have h1 : j < (ns.zip (ns.drop 1)).length := by rw [List.length_zip, List.length_drop]; omega
    have e : (ns.zip (ns.drop 1))[j] = (ns.getD j 0, ns.getD (j + 1) 0) := by
      rw [List.getElem_zip, List.getElem_drop, getD_eq (by omega), getD_eq hj]
      congr 2
      omega
    rw [← e]
    exact List.getElem_mem h1
theorem steps_iff {rs : List (Int × Int)} {ns : List Int} (hne : ns ≠ []) : (∀ t ∈ stepsOf ns true, Adj rs t.1 t.2) ↔ ∀ i, i < ns.length → Adj rs (pvI ns i) (ns.getD i 0) := by
  unfold stepsOf
  rw [if_pos rfl]
  constructor
  · intro h i hi
    unfold pvI
    cases i with
    | zero =>
      rw [if_pos rfl]
      exact h _ (List.mem_append_right _ (List.mem_singleton.mpr rfl))
    | succ j =>
      rw [if_neg (Nat.succ_ne_zero j)]
      exact h _ (List.mem_append_left _ (zip_mem.mpr ⟨j, hi, rfl⟩))
  · intro h t ht
    rcases List.mem_append.mp ht with ht | ht
    · obtain ⟨j, hj, rfl⟩ := zip_mem.mp ht
      have := h (j + 1) hj
      unfold pvI at this
      rw [if_neg (Nat.succ_ne_zero j)] at this
      exact this
    · rw [List.mem_singleton] at ht
      subst ht
      have := h 0 (List.length_pos_iff.mpr hne)
      unfold pvI at this
      rw [if_pos rfl] at this
      exact this
def Ring (rs : List (Int × Int)) (ns : List Int) : Prop := 3 ≤ ns.length ∧ (∀ x ∈ ns, ns.getD 0 0 ≤ x) ∧ ns.getD 1 0 < ns.getD (ns.length - 1) 0 ∧ Once rs ns true
theorem getD_mem {ns : List Int} {i : Nat} (h : i < ns.length) : ns.getD i 0 ∈ ns := by
  rw [getD_eq h]
  exact List.getElem_mem h
theorem nodup_ne {ns : List Int} (nd : ns.Nodup) {i j : Nat} (hi : i < ns.length) (hj : j < ns.length) (h : i ≠ j) : ns.getD i 0 ≠ ns.getD j 0 := by
  rw [getD_eq hi, getD_eq hj]
  exact fun e => h ((List.getElem_inj nd).mp e)
/-! ### is_closed -/
def spClo : Sp := fun vs H Q _ => ∃ (wb l pl : Addr) (k : Int) (xs : List V) (rs : List (Int × Int)) (ns : List Int), vs = [.ref wb, .ref pl] ∧ WebAt H wb l k xs rs ∧ xs.length ≤ 30 ∧ H pl = some (.lst (ns.map V.int)) ∧ ns.length ≤ 100 ∧
  ∀ (b : Bool) (H' : Hp), Same H H' → (b = true ↔ Ring rs ns) → Q (.bl b) H'
theorem scClo : FnScope ["web", "places"] ["web", "places"] (defScope sClo) := ⟨rfl, rfl, rfl, by decide +kernel, rfl, by decide +kernel, by decide +kernel⟩
theorem ok_clo {f fO : Addr} {fd fdO : FuncData} (F : Fun K "is_closed" "is_closed" sClo f fd) (FO : Fun K "goes_once" "goes_once" sOnc fO fdO) (bO : Binds K fdO ["web", "places", "closed"] []) (mO : mg "goes_once" = some (.ref fO)) (GO : FnOk P w K mg base CX0 2 fO fdO ["web", "places", "closed"] spOnc)
    (mLen : mg "len" = none) (mMin : mg "min" = none) : FnOk P w K mg base CX0 3 f fd ["web", "places"] spClo := by
  refine F.ok scClo (fun vs H Q E h => ?_) (fun cdv A outer s H vs Q E hr h => ?_)
  · obtain ⟨_, _, _, _, _, _, _, rfl, _⟩ := h
    rfl
  · obtain ⟨wb, l, pl, k, xs, rs, ns, rfl, W, hx, hp, hn, q⟩ := h
    have h16 : (16777216 : Nat) = sizeLine := sizeLine_eq.symm
    have no : ¬ Ring rs ns → Q (.bl false) H := fun z => q false H (Same.refl _) ⟨fun e => (by cases e), fun r => absurd r z⟩
    refine ⟨_, pss_cons (ps_if (PW.pt (pw_or (pt_cmpR op_lt (pe_callB (kLen K) rfl mLen PySem.boot_len (pa_cons (pv 1) pa_nil)) pe_int (nomark _)) (pw_or (pt_cmpR op_ne (pe_ix (kIxL K) (pv 1) pe_int (fun _ _ => rfl)) (pe_callB (kMin K rfl) rfl mMin boot_min' (pa_cons (pv 1) pa_nil)) (nomark _)) (pw_or1 (pt_cmpR op_gt (pe_ix (kIxL K) (pv 1) pe_int (fun _ _ => rfl)) (pe_ix (kIxL K) (pv 1) (pe_un op_negI pe_int) (fun _ _ => rfl)) (nomark _)))))) (pss_one (ps_ret pe_bl)) pss_nil)
       (pss_one (ps_ret (pe_call GO (hr.mono (by decide)) rfl mO FO.kp bO .nil pass0 (pa_cons (pv 0) (pa_cons (pv 1) (pa_cons pe_bl pa_nil)))))), ?_⟩
    refine ⟨_, rfl, pl, _, rfl, .inl (SqL.of hp), _, _, rfl, rfl, _, rfl, ?_⟩
    rw [List.length_map]
    refine ite2 (fun z => no fun r => ?_) (fun z => ?_)
    · have := of_decide_eq_true z
      have := r.1
      omega
    have h3 : 3 ≤ ns.length := by
      have : ¬ ((ns.length : Int) < 3) := fun y => z (decide_eq_true y)
      omega
    have hne : ns ≠ [] := fun e => by rw [e] at h3; exact absurd h3 (by decide)
    refine ⟨_, rfl, pl, _, _, _, rfl, rfl, SqL.of hp, at_int (i := 0) (by decide) (by omega), _, rfl, pl, ns, rfl, SqL.of hp, hne, fun m hm hl => ⟨rfl, _, rfl, ?_⟩⟩
    refine ite2 (fun z => no fun r => ?_) (fun z => ?_)
    · have hle := r.2.1 m hm
      have hge := hl _ (getD_mem (show 0 < ns.length by omega))
      have e : ns.getD 0 0 = m := Int.le_antisymm hle hge
      have z' : (!decide (V.int (ns.getD (0 : Int).toNat 0) = V.int m)) = true := z
      rw [show (0 : Int).toNat = 0 from rfl, e, decide_eq_true rfl] at z'
      cases z'
    have e0 : ns.getD 0 0 = m := by
      by_cases y : ns.getD 0 0 = m
      · exact y
      · exfalso
        apply z
        show (!decide (V.int (ns.getD 0 0) = V.int m)) = true
        rw [decide_eq_false fun e => y (V.int.inj e)]
        rfl
    refine ⟨_, rfl, pl, _, _, _, rfl, rfl, SqL.of hp, at_int (i := 1) (by decide) (by omega), _, rfl, _, rfl, pl, _, _, _, rfl, rfl, SqL.of hp, at_last hne, _, _, rfl, rfl, _, rfl, ?_⟩
    refine ite2 (fun z => no fun r => ?_) (fun z => ?_)
    · have z' := of_decide_eq_true z
      have := r.2.2.1
      rw [show (1 : Int).toNat = 1 from rfl] at z'
      omega
    have h1 : ns.getD 1 0 ≤ ns.getD (ns.length - 1) 0 := by
      have : ¬ (ns.getD (ns.length - 1) 0 < ns.getD (1 : Int).toNat 0) := fun y => z (decide_eq_true y)
      rw [show (1 : Int).toNat = 1 from rfl] at this
      omega
    refine ⟨_, rfl, _, rfl, wb, l, pl, k, xs, rs, ns, true, rfl, W, hx, hp, hn, fun _ => hne, fun b H1 s1 hb => q b H1 s1 ?_⟩
    rw [hb]
    refine ⟨fun o => ⟨h3, fun x hx => by rw [e0]; exact hl x hx, ?_, o⟩, fun r => r.2.2.2⟩
    have := nodup_ne o.2 (i := 1) (j := ns.length - 1) (by omega) (by omega) (by omega)
    omega
end
end M
namespace M
open PySem L2
section
variable {P : Program} {w : World} {K : PySem.W.Frag} {mg : Str → Option Value} {base : Heap}
/-! ### _law_due -/
theorem adj_mm {rs : List (Int × Int)} (hlt : ∀ r ∈ rs, r.1 < r.2) (x y : Int) : ((if y < x then y else x), (if y > x then y else x)) ∈ rs ↔ Adj rs x y := by
  unfold Adj
  by_cases h1 : y < x
  · rw [if_pos h1, if_neg (show ¬ y > x by omega)]
    refine ⟨.inr, fun h => h.elim (fun h => ?_) id⟩
    have := hlt _ h
    dsimp only at this
    omega
  · rw [if_neg h1]
    by_cases h2 : y > x
    · rw [if_pos h2]
      refine ⟨.inl, fun h => h.elim id (fun h => ?_)⟩
      have := hlt _ h
      dsimp only at this
      omega
    · have e : x = y := by omega
      subst e
      rw [if_neg h2]
      exact ⟨.inl, fun h => h.elim id id⟩
theorem adj_in {k : Int} {rs : List (Int × Int)} (g : GoodWeb k rs) {x y : Int} (h : Adj rs x y) : 0 ≤ y ∧ y < k := by
  rcases h with h | h
  · have := g.2.2.2.1 _ h
    dsimp only at this
    omega
  · have := g.2.2.2.1 _ h
    dsimp only at this
    omega
theorem inV_take (x : Int) (ns : List Int) (i : Nat) : inV (.int x) ((ns.map V.int).take i) = decide (x ∈ ns.take i) := by
  rw [← List.map_take]
  exact inV_ints x _
def spDue : Sp := fun vs H Q _ => ∃ (wb l pl : Addr) (k : Int) (xs : List V) (rs : List (Int × Int)) (ns : List Int), vs = [.ref wb, .ref pl] ∧ WebAt H wb l k xs rs ∧ GoodWeb k rs ∧ H pl = some (.lst (ns.map V.int)) ∧ ns.length ≤ 100 ∧
  ∀ (b : Bool) (H' : Hp), Same H H' → (b = true ↔ Ring rs ns) → Q (.bl b) H'
theorem scDue : FnScope ["web", "row", "k"] ["web", "row"] (defScope sDue) := ⟨rfl, rfl, rfl, by decide +kernel, rfl, by decide +kernel, by decide +kernel⟩
theorem at_prev {ns : List Int} {i : Nat} (h : i < ns.length) : atI (ns.map V.int) ((0 + (i : Int)) - 1) = some (.int (pvI ns i)) := by
  unfold pvI
  cases i with
  | zero =>
    rw [if_pos rfl]
    exact at_last (fun e => by rw [e] at h; exact absurd h (Nat.not_lt_zero _))
  | succ j =>
    rw [if_neg (Nat.succ_ne_zero j), show (0 : Int) + ((j + 1 : Nat) : Int) - 1 = (j : Int) by omega, at_int (i := (j : Int)) (by omega) (by omega)]
    rfl
theorem ok_due {f : Addr} {fd : FuncData} (F : Fun K "_law_due" "_law_due" sDue f fd) (mLen : mg "len" = none) (mMin : mg "min" = none) (mMax : mg "max" = none) (mRange : mg "range" = none) : FnOk P w K mg base CX0 1 f fd ["web", "row"] spDue := by
  refine F.ok scDue (fun vs H Q E h => ?_) (fun cdv A outer s H vs Q E hr h => ?_)
  · obtain ⟨_, _, _, _, _, _, _, rfl, _⟩ := h
    rfl
  · obtain ⟨wb, l, pl, k, xs, rs, ns, rfl, W, g, hp, hn, q⟩ := h
    have h16 : (16777216 : Nat) = sizeLine := sizeLine_eq.symm
    have hu5 : (A.deeper (PyProof.Rows.envOfC "_law_due" (defScope sDue) s.heap.objs.size f cdv)).units + 65 < cLine := by have := hr.un; omega
    have no : ∀ H', Same H H' → ¬ Ring rs ns → Q (.bl false) H' := fun H' s z => q false H' s ⟨fun e => (by cases e), fun r => absurd r z⟩
    refine ⟨_, pss_cons (ps_if (PW.pt (pw_or (pt_cmpR op_lt (pe_callB (kLen K) rfl mLen PySem.boot_len (pa_cons (pv 1) pa_nil)) pe_int (nomark _)) (pw_or (pt_cmpR op_ne (pe_ix (kIxL K) (pv 1) pe_int (fun _ _ => rfl)) (pe_callB (kMin K rfl) rfl mMin boot_min' (pa_cons (pv 1) pa_nil)) (nomark _)) (pw_or1 (pt_cmpR op_ge (pe_ix (kIxL K) (pv 1) pe_int (fun _ _ => rfl)) (pe_ix (kIxL K) (pv 1) (pe_un op_negI pe_int) (fun _ _ => rfl)) (nomark _)))))) (pss_one (ps_ret pe_bl)) pss_nil)
       (pss_cons (ps_for PassesOwn.never rfl (pi_range1 rfl mRange (pa_cons (pe_callB (kLen K) rfl mLen PySem.boot_len (pa_cons (pv 1) pa_nil)) pa_nil)) (pg_name (i := 2) scDue.nd rfl (Or.inl rfl))
       (pss_cons (ps_if (PW.pt (pw_or (pt_cmpR op_lt (pe_ix (kIxL K) (pv 1) (pv 2) (fun _ _ => rfl)) pe_int (nomark _)) (pw_or (pt_cmpR op_ge (pe_ix (kIxL K) (pv 1) (pv 2) (fun _ _ => rfl)) (pe_ix (kIxT K) (pv 0) pe_int (fun _ _ => rfl)) (nomark _)) (pw_or1 (pt_cmpR (kIn K) (pe_ix (kIxL K) (pv 1) (pv 2) (fun _ _ => rfl)) (pe_slice (kSl K) (pv 1) po_none (po_some (pv 2))) (by with_unfolding_all rfl)))))) (pss_one (ps_ret pe_bl)) pss_nil)
       (pss_one (ps_if (pt_cmpR (kNotInD K hu5) (pe_tup (pa_cons (pe_callB (call_min2 rfl) rfl mMin boot_min (pa_cons (pe_ix (kIxL K) (pv 1) (pe_op op_sub (pv 2) pe_int) (fun _ _ => rfl)) (pa_cons (pe_ix (kIxL K) (pv 1) (pv 2) (fun _ _ => rfl)) pa_nil))) (pa_cons (pe_callB (call_max2 rfl) rfl mMax boot_max (pa_cons (pe_ix (kIxL K) (pv 1) (pe_op op_sub (pv 2) pe_int) (fun _ _ => rfl)) (pa_cons (pe_ix (kIxL K) (pv 1) (pv 2) (fun _ _ => rfl)) pa_nil))) pa_nil))) (pe_ix (kIxT K) (pv 0) pe_int (fun _ _ => rfl)) (by with_unfolding_all rfl)) (pss_one (ps_ret pe_bl)) pss_nil))))
       (pss_one (ps_ret pe_bl))), ?_⟩
    refine ⟨_, rfl, pl, _, rfl, .inl (SqL.of hp), _, _, rfl, rfl, _, rfl, ?_⟩
    rw [List.length_map]
    refine ite2 (fun z => no _ (Same.refl _) fun r => ?_) (fun z => ?_)
    · have := of_decide_eq_true z
      have := r.1
      omega
    have h3 : 3 ≤ ns.length := by
      have : ¬ ((ns.length : Int) < 3) := fun y => z (decide_eq_true y)
      omega
    have hne : ns ≠ [] := fun e => by rw [e] at h3; exact absurd h3 (by decide)
    refine ⟨_, rfl, pl, _, _, _, rfl, rfl, SqL.of hp, at_int (i := 0) (by decide) (by omega), _, rfl, pl, ns, rfl, SqL.of hp, hne, fun m hm hl => ⟨rfl, _, rfl, ?_⟩⟩
    refine ite2 (fun z => no _ (Same.refl _) fun r => ?_) (fun z => ?_)
    · have hle := r.2.1 m hm
      have hge := hl _ (getD_mem (show 0 < ns.length by omega))
      have e : ns.getD 0 0 = m := Int.le_antisymm hle hge
      have z' : (!decide (V.int (ns.getD (0 : Int).toNat 0) = V.int m)) = true := z
      rw [show (0 : Int).toNat = 0 from rfl, e, decide_eq_true rfl] at z'
      cases z'
    have e0 : ns.getD 0 0 = m := by
      by_cases y : ns.getD 0 0 = m
      · exact y
      · exfalso
        apply z
        show (!decide (V.int (ns.getD 0 0) = V.int m)) = true
        rw [decide_eq_false fun e => y (V.int.inj e)]
        rfl
    refine ⟨_, rfl, pl, _, _, _, rfl, rfl, SqL.of hp, at_int (i := 1) (by decide) (by omega), _, rfl, _, rfl, pl, _, _, _, rfl, rfl, SqL.of hp, at_last hne, _, _, rfl, rfl, _, rfl, ?_⟩
    refine ite2 (fun z => no _ (Same.refl _) fun r => ?_) (fun z => ?_)
    · have z' := of_decide_eq_true z
      have := r.2.2.1
      rw [show (1 : Int).toNat = 1 from rfl] at z'
      omega
    have h1 : ns.getD 1 0 < ns.getD (ns.length - 1) 0 := by
      have : ¬ (ns.getD (ns.length - 1) 0 ≤ ns.getD (1 : Int).toNat 0) := fun y => z (decide_eq_true y)
      rw [show (1 : Int).toNat = 1 from rfl] at this
      omega
    refine ⟨_, rfl, pl, _, rfl, .inl (SqL.of hp), _, rfl, by omega, by rw [List.length_map]; omega, ?_⟩
    rw [List.length_map, Int.toNat_natCast]
    refine for_range (lo := 0) (n := ns.length) (fun i σ H2 => ∃ v : Option V, σ = [some (.ref wb), some (.ref pl), v] ∧ Same H H2 ∧ (ns.take i).Nodup ∧ ∀ j, j < i → Adj rs (pvI ns j) (ns.getD j 0)) ⟨none, rfl, Same.refl _, by rw [List.take_zero]; exact List.nodup_nil, fun j hj => absurd hj (Nat.not_lt_zero j)⟩ ?_ ?_
    · rintro i σ H2 hi ⟨v, rfl, s2, nd, adj⟩
      have hat : atI (ns.map V.int) (0 + (i : Int)) = some (.int (ns.getD i 0)) := by
        rw [at_int (by omega) (by omega), show ((0 : Int) + (i : Int)).toNat = i by omega]
      have cir : Ring rs ns → Adj rs (pvI ns i) (ns.getD i 0) := fun r => (steps_iff hne).mp r.2.2.2.1 i hi
      refine ⟨_, rfl, _, rfl, pl, _, _, _, rfl, rfl, SqL.of (s2 _ _ hp), hat, _, _, rfl, rfl, _, rfl, ?_⟩
      refine ite2 (fun z => no _ s2 fun r => ?_) (fun z => ?_)
      · have := of_decide_eq_true z
        have := adj_in g (cir r)
        omega
      refine ⟨_, rfl, _, rfl, pl, _, _, _, rfl, rfl, SqL.of (s2 _ _ hp), hat, _, rfl, wb, _, _, _, rfl, rfl, SqT.of (s2 _ _ W.w), atI_nat (j := 0) rfl, _, _, rfl, rfl, _, rfl, ?_⟩
      refine ite2 (fun z => no _ s2 fun r => ?_) (fun z => ?_)
      · have := of_decide_eq_true z
        have := adj_in g (cir r)
        omega
      refine ⟨_, rfl, _, rfl, pl, _, _, _, rfl, rfl, SqL.of (s2 _ _ hp), hat, _, rfl, _, rfl, _, rfl, pl, _, rfl, SqL.of (s2 _ _ hp), fun c hc => ?_⟩
      have ec : cutV (ns.map V.int) none (some (0 + (i : Int))) = (ns.map V.int).take i := by rw [Int.zero_add, cut_to]
      have s3 : Same H (upd H2 c (.lst ((ns.map V.int).take i))) := s2.put (s2.free hc)
      refine ⟨c, _, rfl, .inl (SqL.of upd_same), rfl, by rw [ec, ← List.map_take]; exact flat_ints _, _, rfl, ?_⟩
      rw [ec]
      show if (inV (.int (ns.getD i 0)) ((ns.map V.int).take i)) = true then _ else _
      rw [inV_take]
      have nd1 : ns.getD i 0 ∉ ns.take i → (ns.take (i + 1)).Nodup := fun z => by
        rw [List.take_add_one, List.getElem?_eq_getElem hi, ← getD_eq hi]
        refine List.nodup_append.mpr ⟨nd, List.nodup_cons.mpr ⟨List.not_mem_nil, List.nodup_nil⟩, fun a ha b hb e => ?_⟩
        have hb' : b = ns.getD i 0 := List.mem_singleton.mp hb
        exact z (hb' ▸ e ▸ ha)
      refine ite2 (fun z => no _ s3 fun r => ?_) (fun z => ?_)
      · have z' := of_decide_eq_true z
        have nd2 : (ns.take (i + 1)).Nodup := r.2.2.2.2.sublist (List.take_sublist _ _)
        rw [List.take_add_one, List.getElem?_eq_getElem hi, ← getD_eq hi] at nd2
        exact (List.nodup_append.mp nd2).2.2 _ z' _ (List.mem_singleton.mpr rfl) rfl
      have z' : ns.getD i 0 ∉ ns.take i := fun y => z (decide_eq_true y)
      generalize upd H2 c (.lst ((ns.map V.int).take i)) = H3 at s3 ⊢
      have W3 := W.same s3
      have hlt : ∀ r ∈ rs, r.1 < r.2 := fun r hr => (g.2.2.2.1 r hr).2.1
      refine ⟨_, rfl, _, rfl, _, _, rfl, rfl, pl, _, _, _, rfl, rfl, SqL.of (s3 _ _ hp), at_prev hi, _, rfl, _, rfl, pl, _, _, _, rfl, rfl, SqL.of (s3 _ _ hp), hat, _, _, rfl, ?_⟩
      refine ⟨_, rfl, _, rfl, _, _, rfl, rfl, pl, _, _, _, rfl, rfl, SqL.of (s3 _ _ hp), at_prev hi, _, rfl, _, rfl, pl, _, _, _, rfl, rfl, SqL.of (s3 _ _ hp), hat, _, _, rfl, two_le, fun T hT => ?_⟩
      have s4 := s3.put (o := .tup [.int (if ns.getD i 0 < pvI ns i then ns.getD i 0 else pvI ns i), .int (if ns.getD i 0 > pvI ns i then ns.getD i 0 else pvI ns i)]) (s3.free hT)
      have W4 := W.same s4
      refine ⟨_, rfl, wb, _, _, _, rfl, rfl, SqT.of W4.w, atI_nat (j := 1) rfl, l, xs, prD ((if ns.getD i 0 < pvI ns i then ns.getD i 0 else pvI ns i), (if ns.getD i 0 > pvI ns i then ns.getD i 0 else pvI ns i)), rs.map prD, rfl, .inl (SqL.of W4.l), .tup (SqT.of upd_same) (.cons (.int _) (.cons (.int _) .nil)), W4.p.dats, prD_shaped _, prs_each _, _, rfl, ?_⟩
      rw [prs_any, show ∀ b : Bool, (true != b) = !b by decide]
      have am := adj_mm hlt (pvI ns i) (ns.getD i 0)
      refine ite2 (fun y => no _ s4 fun r => ?_) (fun y => ?_)
      · rw [decide_eq_true (am.mpr (cir r))] at y
        cases y
      have yes : Adj rs (pvI ns i) (ns.getD i 0) := by
        refine am.mp ?_
        by_cases x : ((if ns.getD i 0 < pvI ns i then ns.getD i 0 else pvI ns i), (if ns.getD i 0 > pvI ns i then ns.getD i 0 else pvI ns i)) ∈ rs
        · exact x
        · rw [decide_eq_false x] at y
          exact absurd rfl y
      refine ⟨_, rfl, s4, nd1 z', fun j hj => ?_⟩
      rcases Nat.lt_or_ge j i with h | h
      · exact adj j h
      · have e : j = i := by omega
        subst e
        exact yes
    · rintro σ H2 ⟨v, rfl, s2, nd, adj⟩
      rw [List.take_length] at nd
      refine q true H2 s2 ⟨fun _ => ⟨h3, fun x hx => by rw [e0]; exact hl x hx, h1, (steps_iff hne).mpr adj, nd⟩, fun _ => rfl⟩
end
end M
namespace M
open PySem L2
section
variable {P : Program} {w : World} {K : PySem.W.Frag} {mg : Str → Option Value} {base : Heap}
/-! ### _law_near -/
def spNea : Sp := fun vs H Q _ => ∃ (wb l : Addr) (k p : Int) (xs : List V) (rs : List (Int × Int)), vs = [.ref wb, .int p] ∧ WebAt H wb l k xs rs ∧ xs.length ≤ 30 ∧
  ∀ (r : Addr) (ms : List Int) (H' : Hp), Same H H' → H r = none → H' r = some (.lst (ms.map V.int)) → ms.length ≤ 30 → (∀ m, m ∈ ms ↔ Adj rs p m) → Q (.ref r) H'
theorem scNea : FnScope ["web", "place"] ["web", "place"] (defScope sNea) := ⟨rfl, rfl, rfl, by decide +kernel, rfl, by decide +kernel, by decide +kernel⟩
theorem adj_take {rs : List (Int × Int)} {i : Nat} {r : Int × Int} (h : rs[i]? = some r) (p m : Int) : Adj (rs.take (i + 1)) p m ↔ Adj (rs.take i) p m ∨ r = (p, m) ∨ r = (m, p) := by
  unfold Adj
  rw [List.take_add_one, h]
  show (p, m) ∈ rs.take i ++ [r] ∨ (m, p) ∈ rs.take i ++ [r] ↔ _
  rw [List.mem_append, List.mem_append, List.mem_singleton, List.mem_singleton]
  constructor
  · rintro ((h | h) | (h | h))
    · exact .inl (.inl h)
    · exact .inr (.inl h.symm)
    · exact .inl (.inr h)
    · exact .inr (.inr h.symm)
  · rintro ((h | h) | h | h)
    · exact .inl (.inl h)
    · exact .inr (.inl h)
    · exact .inl (.inr h.symm)
    · exact .inr (.inr h.symm)
theorem ok_nea {f : Addr} {fd : FuncData} (F : Fun K "_law_near" "_law_near" sNea f fd) : FnOk P w K mg base CX0 1 f fd ["web", "place"] spNea := by
  refine F.ok scNea (fun vs H Q E h => ?_) (fun cdv A outer s H vs Q E hr h => ?_)
  · obtain ⟨_, _, _, _, _, _, rfl, _⟩ := h
    rfl
  · obtain ⟨wb, l, k, p, xs, rs, rfl, W, hx, q⟩ := h
    have h16 : (16777216 : Nat) = sizeLine := sizeLine_eq.symm
    refine ⟨_, pss_one (ps_ret (pe_comp (own := ["a", "b"]) rfl (compScope_free (fr := [("place", 1)]) [(".0", .local), ("a", .local), ("b", .local), ("place", .cell)] rfl rfl (by decide +kernel) rfl (by decide +kernel) ⟨rfl, trivial⟩ ⟨fun h => no_cf h, fun h => no_cf h, fun h => no_cf h, fun _ => ⟨_, rfl⟩, trivial⟩ ⟨⟨rfl, .inl rfl, .inl rfl⟩, trivial⟩) (kList K (pe_ix (kIxT K) (pv 0) pe_int (fun _ _ => rfl))) (fun _ _ _ _ => kTup K (n := 2) rfl (pgs_cons (pg_name (i := 0) (show List.Nodup (["a", "b", "place"] : List Str) by decide +kernel) rfl (Or.inl rfl)) (pgs_cons (pg_name (i := 1) (show List.Nodup (["a", "b", "place"] : List Str) by decide +kernel) rfl (Or.inl rfl)) pgs_nil))) (fun _ _ _ _ => pifs_one (PW.pt (pw_or (pt_cmpR op_eq (pv 2) (pv 0) (nomark _)) (pw_or1 (pt_cmpR op_eq (pv 2) (pv 1) (nomark _)))))) (fun _ _ _ _ => pe_op op_sub (pe_op op_add (pv 0) (pv 1)) (pv 2)))), ?_⟩
    refine ⟨_, rfl, wb, _, _, _, rfl, rfl, SqT.of W.w, atI_nat (j := 1) rfl, l, rfl, ⟨_, SqL.of W.l⟩, fun D hD => ?_⟩
    refine comp_list (K := K) (a := l) (xs := xs) (fun i ys H2 => Same H H2 ∧ H2 D = some (.lst ys) ∧ ∃ ms : List Int, ys = ms.map V.int ∧ ms.length ≤ i ∧ ∀ m, m ∈ ms ↔ Adj (rs.take i) p m) ⟨Same.new hD, upd_same, [], rfl, Nat.zero_le _, fun m => by unfold Adj; rw [List.take_zero]; simp⟩ (fun i ys H2 _ ⟨s2, _⟩ => SqL.of (s2 _ _ W.l)) ?_ ?_
    · rintro i x ys H2 hxi ⟨s2, hD2, ms, rfl, hm, hin⟩
      obtain ⟨t, r, rfl, et, er⟩ := W.p.get hxi
      have hi : i < xs.length := (List.getElem?_eq_some_iff.mp hxi).1
      refine ⟨t, _, rfl, SqT.of (s2 _ _ et), rfl, _, _, rfl, _, _, rfl, rfl, ⟨rfl, trivial⟩, ?_⟩
      have at' := adj_take er p
      obtain ⟨r1, r2⟩ := r
      have take : (p = r1 ∨ p = r2) → H2 D = some (.lst (ms.map V.int)) ∧ (ms.map V.int).length < sizeLine ∧ Same H (upd H2 D (.lst (ms.map V.int ++ [.int (r1 + r2 - p)]))) ∧ upd H2 D (.lst (ms.map V.int ++ [.int (r1 + r2 - p)])) D = some (.lst (ms.map V.int ++ [.int (r1 + r2 - p)])) ∧
          ∃ ms' : List Int, ms.map V.int ++ [.int (r1 + r2 - p)] = ms'.map V.int ∧ ms'.length ≤ i + 1 ∧ ∀ m, m ∈ ms' ↔ Adj (rs.take (i + 1)) p m := fun z => by
        refine ⟨hD2, by rw [List.length_map]; omega, s2.put hD, upd_same, ms ++ [r1 + r2 - p], by rw [List.map_append]; rfl, by rw [List.length_append, List.length_singleton]; omega, fun m => ?_⟩
        rw [List.mem_append, List.mem_singleton, hin m, at' m]
        refine or_congr Iff.rfl ⟨fun e => ?_, fun e => ?_⟩
        · rcases z with z | z
          · exact .inl (by rw [e, z]; congr 1; omega)
          · exact .inr (by rw [e, z]; congr 1; omega)
        · rcases e with e | e
          · injection e with e1 e2; omega
          · injection e with e1 e2; omega
      refine ⟨_, rfl, _, rfl, rfl, _, rfl, ?_⟩
      refine ite2 (fun z => ?_) (fun z => ?_)
      · have z1 : p = r1 := V.int.inj (of_decide_eq_true z)
        exact ⟨_, rfl, _, rfl, _, _, rfl, rfl, _, rfl, _, _, rfl, rfl, take (.inl z1)⟩
      · have z1 : ¬ p = r1 := fun y => z (decide_eq_true (congrArg V.int y))
        refine ⟨_, rfl, _, rfl, rfl, _, rfl, ?_⟩
        refine ite2 (fun z => ?_) (fun z => ?_)
        · have z2 : p = r2 := V.int.inj (of_decide_eq_true z)
          exact ⟨_, rfl, _, rfl, _, _, rfl, rfl, _, rfl, _, _, rfl, rfl, take (.inr z2)⟩
        · have z2 : ¬ p = r2 := fun y => z (decide_eq_true (congrArg V.int y))
          refine ⟨s2, hD2, ms, rfl, by omega, fun m => ?_⟩
          rw [hin m, at' m]
          refine ⟨.inl, fun h => h.elim id fun e => ?_⟩
          rcases e with e | e
          · injection e with e1 e2; exact absurd e1.symm z1
          · injection e with e1 e2; exact absurd e2.symm z2
    · rintro ys H2 ⟨s2, hD2, ms, rfl, hm, hin⟩
      rw [W.p.len, List.take_length] at hin
      exact q D ms H2 s2 hD hD2 (by omega) hin
/-! ### _law_gone -/
theorem zip_snoc : ∀ (ns : List Int) (b : Int), ns ≠ [] → (ns ++ [b]).zip ((ns ++ [b]).drop 1) = ns.zip (ns.drop 1) ++ [(ns.getD (ns.length - 1) 0, b)]
  | [], b, h => absurd rfl h
  | [a], b, _ => rfl
  | a :: c :: r, b, _ => by
    have ih := zip_snoc (c :: r) b (fun e => by cases e)
    have e1 : (a :: c :: r).getD ((a :: c :: r).length - 1) 0 = (c :: r).getD ((c :: r).length - 1) 0 := by
      rw [List.length_cons, List.length_cons]
      rfl
    rw [e1]
    show (a, c) :: ((c :: r) ++ [b]).zip (((c :: r) ++ [b]).drop 1) = (a, c) :: ((c :: r).zip ((c :: r).drop 1)) ++ _
    rw [ih]
    rfl
theorem once_snoc {rs : List (Int × Int)} {ns : List Int} {b : Int} (o : Once rs ns false) (hne : ns ≠ []) (ha : Adj rs (ns.getD (ns.length - 1) 0) b) (hb : b ∉ ns) : Once rs (ns ++ [b]) false := by
  refine ⟨fun t ht => ?_, ?_⟩
  · unfold stepsOf at ht
    rw [if_neg (by decide), List.append_nil, zip_snoc ns b hne] at ht
    rcases List.mem_append.mp ht with ht | ht
    · exact o.1 t (by unfold stepsOf; rw [if_neg (by decide), List.append_nil]; exact ht)
    · rw [List.mem_singleton] at ht
      rw [ht]
      exact ha
  · refine List.nodup_append.mpr ⟨o.2, List.nodup_cons.mpr ⟨List.not_mem_nil, List.nodup_nil⟩, fun x hx y hy e => ?_⟩
    rw [List.mem_singleton] at hy
    exact hb (hy ▸ e ▸ hx)
def spGon : Sp := fun vs H Q _ => ∃ (d wb l : Addr) (n k p : Int) (m : Nat) (xs : List V) (rs : List (Int × Int)), vs = [.ref d, .ref wb, .int p, .int (m : Int)] ∧ H d = some (.lst [.int n]) ∧ WebAt H wb l k xs rs ∧ xs.length ≤ 30 ∧ l ≠ d ∧ m ≤ 15 ∧
  ∀ (ro : Addr) (ns : List Int) (H' : Hp), Dk H H' d → H ro = none → H' ro = some (.lst (ns.map V.int)) → 1 ≤ ns.length → ns.length ≤ m + 1 → Once rs ns false → Q (.ref ro) H'
theorem scGon : FnScope ["deck", "web", "place", "most", "row", "k", "near"] ["deck", "web", "place", "most"] (defScope sGon) := ⟨rfl, rfl, rfl, by decide +kernel, rfl, by decide +kernel, by decide +kernel⟩
theorem lt2_nat {n : Nat} (h : n < 1024) : Lt2 9000 (n : Int) := Nat.lt_of_lt_of_le (show ((n : Int)).natAbs < 2 ^ 10 by omega) (Nat.pow_le_pow_right (by decide) (by decide))
theorem ok_gon {f fN fT : Addr} {fd fdN fdT : FuncData} (F : Fun K "_law_gone" "_law_gone" sGon f fd) (FN : Fun K "_law_near" "_law_near" sNea fN fdN) (bN : Binds K fdN ["web", "place"] []) (mN : mg "_law_near" = some (.ref fN))
    (FT : Fun K "_law_take" "_law_take" sTake fT fdT) (bT : Binds K fdT ["deck", "many"] []) (mT : mg "_law_take" = some (.ref fT)) (mRange : mg "range" = none) (mLen : mg "len" = none) : FnOk P w K mg base CX0 2 f fd ["deck", "web", "place", "most"] spGon := by
  have GN : FnOk P w K mg base CX0 1 fN fdN ["web", "place"] spNea := ok_nea FN
  have GT : FnOk P w K mg base CX0 1 fT fdT ["deck", "many"] spTake := ok_take FT
  refine F.ok scGon (fun vs H Q E h => ?_) (fun cdv A outer s H vs Q E hr h => ?_)
  · obtain ⟨_, _, _, _, _, _, _, _, _, rfl, _⟩ := h
    rfl
  · obtain ⟨d, wb, l, n, k, p, m, xs, rs, rfl, hd, W, hx, hld, hm, q⟩ := h
    have h16 : (16777216 : Nat) = sizeLine := sizeLine_eq.symm
    have hu := hr.units
    refine ⟨_, pss_cons (ps_set (i := 4) scGon.nd rfl (Or.inr rfl) (pe_lst (pa_cons (pv 2) pa_nil)))
       (pss_cons (ps_for PassesOwn.never rfl (pi_range1 rfl mRange (pa_cons (pv 3) pa_nil)) (pg_name (i := 5) scGon.nd rfl (Or.inl rfl))
       (pss_cons (ps_comp (i := 6) scGon.nd rfl (Or.inl rfl) (own := ["there"]) rfl (compScope_free (fr := [("row", 4)]) [(".0", .local), ("there", .local), ("row", .cell)] rfl rfl (by decide +kernel) rfl (by decide +kernel) ⟨rfl, trivial⟩ ⟨fun h => no_cf h, fun h => no_cf h, fun _ => ⟨_, rfl⟩, trivial⟩ ⟨⟨rfl, .inl rfl, .inl rfl⟩, trivial⟩) (kList K (pe_call GN (hr.mono (by decide)) rfl mN FN.kp bN .nil pass0 (pa_cons (pv 1) (pa_cons (pe_ix (kIxL K) (pv 4) (pe_un op_negI pe_int) (fun _ _ => rfl)) pa_nil)))) (fun _ _ _ _ => pg_name (i := 0) (show List.Nodup (["there", "row"] : List Str) by decide +kernel) rfl (Or.inl rfl)) (fun _ _ _ _ => pifs_one (pt_cmpR (kNotIn K) (pv 0) (pv 1) (by with_unfolding_all rfl))) (fun _ _ _ _ => pv 0))
       (pss_one (ps_if (pt_cmpR (kNeD K hu) (pv 6) (pe_lst pa_nil) (nomark _)) (pss_one (ps_expr (pe_bm PySem.F.plainAttrs_list PySem.F.slot_list_append PySem.F.type_list_append mt_append (pv 4) (pa_cons (pe_ix (kIxL K) (pv 6) (pe_call GT (hr.mono (by decide)) rfl mT FT.kp bT .nil pass0 (pa_cons (pv 0) (pa_cons (pe_callB (kLen K) rfl mLen PySem.boot_len (pa_cons (pv 6) pa_nil)) pa_nil))) (fun _ _ => rfl)) pa_nil)))) pss_nil))))
       (pss_one (ps_ret (pv 4)))), ?_⟩
    refine ⟨_, rfl, (by show 1 ≤ sizeLine; decide), fun ro hro => ?_⟩
    have D0 := (Dk.start hd).new (o := .lst [.int p]) hro
    have hdr : d ≠ ro := ne_of_none hd hro
    refine ⟨_, rfl, _, rfl, by omega, by omega, ?_⟩
    rw [Int.toNat_natCast]
    refine for_range (lo := 0) (n := m) (fun i σ H2 => ∃ (v5 v6 : Option V) (ns : List Int), σ = [some (.ref d), some (.ref wb), some (.int p), some (.int (m : Int)), some (.ref ro), v5, v6] ∧ Dk H H2 d ∧ H2 ro = some (.lst (ns.map V.int)) ∧ 1 ≤ ns.length ∧ ns.length ≤ i + 1 ∧ Once rs ns false)
      ⟨none, none, [p], rfl, D0, upd_same, Nat.le_refl _, Nat.le_refl _, fun t ht => (by cases ht), List.nodup_cons.mpr ⟨List.not_mem_nil, List.nodup_nil⟩⟩ ?_ ?_
    · rintro i σ H2 hi ⟨v5, v6, ns, rfl, D2, e2, n1, n2, on⟩
      have W2 := W.dk D2 hd hld
      have hne : ns ≠ [] := fun e => by rw [e] at n1; exact absurd n1 (by decide)
      refine ⟨_, rfl, _, rfl, _, rfl, ro, _, _, _, rfl, rfl, SqL.of e2, at_last hne, ?_⟩
      refine ⟨wb, l, k, _, xs, rs, rfl, W2, hx, fun r ms H3 s3 hr3 e3 hml hin => ?_⟩
      refine ⟨r, rfl, ⟨_, SqL.of e3⟩, fun D hD => ?_⟩
      have e23 := s3 _ _ e2
      refine comp_list (K := K) (a := r) (xs := ms.map V.int) (fun i ys H4 => Same H3 H4 ∧ H4 D = some (.lst ys) ∧ ∃ bs : List Int, ys = bs.map V.int ∧ bs.length ≤ i ∧ ∀ b ∈ bs, b ∈ ms ∧ b ∉ ns) ⟨Same.new hD, upd_same, [], rfl, Nat.zero_le _, fun b hb => (by cases hb)⟩ (fun i ys H4 _ ⟨s4, _⟩ => SqL.of (s4 _ _ e3)) ?_ ?_
      · rintro j x ys H4 hxj ⟨s4, hD4, bs, rfl, hbl, hbs⟩
        rw [List.getElem?_map] at hxj
        cases z : ms[j]? with
        | none => rw [z] at hxj; cases hxj
        | some b =>
          rw [z] at hxj
          cases hxj
          have hj : j < ms.length := (List.getElem?_eq_some_iff.mp z).1
          refine ⟨⟨rfl, trivial⟩, ?_⟩
          refine ⟨_, rfl, _, rfl, ro, _, rfl, .inl (SqL.of (s4 _ _ e23)), rfl, flat_ints _, _, rfl, ?_⟩
          show if (!inV (.int b) (ns.map V.int)) = true then _ else _
          rw [inV_ints]
          refine ite2 (fun y => ?_) (fun y => ?_)
          · refine ⟨_, rfl, hD4, by rw [List.length_map]; omega, s4.put hD, upd_same, bs ++ [b], by rw [List.map_append]; rfl, by rw [List.length_append, List.length_singleton]; omega, fun c hc => ?_⟩
            rcases List.mem_append.mp hc with hc | hc
            · exact hbs c hc
            · rw [List.mem_singleton] at hc
              subst hc
              refine ⟨List.mem_of_getElem? z, fun h => ?_⟩
              rw [decide_eq_true h] at y
              cases y
          · exact ⟨s4, hD4, bs, rfl, by omega, hbs⟩
      rintro ys H4 ⟨s4, hD4, bs, rfl, hbl, hbs⟩
      rw [List.length_map] at hbl
      have s24 := s3.trans s4
      have D4 := D2.grow s24
      have e4 := s24 _ _ e2
      refine ⟨_, rfl, Nat.zero_le _, fun e he => ?_⟩
      have s5 : Same H4 (upd H4 e (.lst [])) := Same.new he
      refine ⟨.list (bs.map PyData.int), .list (([] : List Int).map PyData.int), .lst (SqL.of (s5 _ _ hD4)) (ints_dats _), .lst (SqL.of upd_same) .nil, ints_shaped _, ints_shaped _, _, rfl, ?_⟩
      rw [ints_eqv]
      have D5 := D4.grow s5
      have e5 := s5 _ _ e4
      have hD5 := s5 _ _ hD4
      have hroD : ro ≠ D := ne_of_none e23 hD
      have hdD : d ≠ D := (D2.grow s3).ne hD
      generalize upd H4 e (.lst []) = H5 at D5 e5 hD5 ⊢
      refine ite2 (fun y => ?_) (fun y => ?_)
      · have hbp : 0 < bs.length := by
          cases bs with
          | nil => rw [decide_eq_true rfl] at y; cases y
          | cons _ _ => exact Nat.succ_pos _
        obtain ⟨n5, ed5⟩ := D5.at_
        refine ⟨_, rfl, .inl ⟨rfl, _, SqL.of e5⟩, _, rfl, _, rfl, _, rfl, D, _, rfl, .inl (SqL.of hD5), d, n5, _, rfl, ed5, by rw [List.length_map]; omega, by rw [List.length_map]; exact lt2_nat (by omega), fun n6 r6 h60 h61 => ?_⟩
        rw [List.length_map] at h61
        have hD6 : upd H5 d (.lst [.int n6]) D = some (.lst (bs.map V.int)) := upd_eq hD5 (Ne.symm hdD)
        refine ⟨D, _, _, _, rfl, rfl, SqL.of hD6, at_int h60 h61, ?_⟩
        refine ⟨ro, _, _, rfl, rfl, upd_eq e5 (Ne.symm hdr), by rw [List.length_map]; omega, ?_⟩
        have hb := hbs _ (show bs.getD r6.toNat 0 ∈ bs by
          rw [List.getD_eq_getElem?_getD, List.getElem?_eq_getElem (show r6.toNat < bs.length by omega)]
          exact List.getElem_mem _)
        refine ⟨_, _, ns ++ [bs.getD r6.toNat 0], rfl, (D5.take n6).put hro hdr, by rw [upd_same, List.map_append]; rfl, by rw [List.length_append]; omega, by rw [List.length_append, List.length_singleton]; omega, once_snoc on hne ((hin _).mp hb.1) hb.2⟩
      · exact ⟨_, _, ns, rfl, D5, e5, n1, by omega, on⟩
    · rintro σ H2 ⟨v5, v6, ns, rfl, D2, e2, n1, n2, on⟩
      exact ⟨_, rfl, q ro ns H2 D2 hro e2 n1 (by omega) on⟩
end
end M
namespace M
open PySem L2
section
variable {P : Program} {w : World} {K : PySem.W.Frag} {mg : Str → Option Value} {base : Heap}
theorem cut_mid {xs : List V} {a b : Nat} (hb : b ≤ xs.length) (ha : a ≤ b) : cutV xs (some (a : Int)) (some (b : Int)) = (xs.drop a).take (b - a) := by
  unfold cutV
  rw [HT.sIx_nat, HT.sIx_nat, Nat.min_eq_left hb, Nat.min_eq_left (Nat.le_trans ha hb)]
theorem cut_ints (ns : List Int) (lo hi : Option Int) : ∃ ms : List Int, cutV (ns.map V.int) lo hi = ms.map V.int ∧ ms.length ≤ ns.length := by
  refine ⟨(ns.drop (HT.sIx (ns.map V.int).length 0 lo)).take (HT.sIx (ns.map V.int).length (ns.map V.int).length hi - HT.sIx (ns.map V.int).length 0 lo), ?_, ?_⟩
  · unfold cutV
    rw [List.map_take, List.map_drop]
  · rw [List.length_take, List.length_drop]
    omega
/-! ### _law_round -/
def spRou : Sp := fun vs H Q _ => ∃ (d wb l : Addr) (n k : Int) (xs : List V) (rs : List (Int × Int)), vs = [.ref d, .ref wb] ∧ H d = some (.lst [.int n]) ∧ WebAt H wb l k xs rs ∧ GoodWeb k rs ∧ l ≠ d ∧
  ∀ (ro : Addr) (ns : List Int) (H' : Hp), Dk H H' d → H ro = none → H' ro = some (.lst (ns.map V.int)) → 1 ≤ ns.length → ns.length ≤ 16 → Q (.ref ro) H'
theorem scRou : FnScope ["deck", "web", "row", "k", "at"] ["deck", "web"] (defScope sRou) := ⟨rfl, rfl, rfl, by decide +kernel, rfl, by decide +kernel, by decide +kernel⟩
theorem ok_rou {f fN fT fG : Addr} {fd fdN fdT fdG : FuncData} (F : Fun K "_law_round" "_law_round" sRou f fd) (FN : Fun K "_law_near" "_law_near" sNea fN fdN) (bN : Binds K fdN ["web", "place"] []) (mN : mg "_law_near" = some (.ref fN))
    (FT : Fun K "_law_take" "_law_take" sTake fT fdT) (bT : Binds K fdT ["deck", "many"] []) (mT : mg "_law_take" = some (.ref fT))
    (FG : Fun K "_law_gone" "_law_gone" sGon fG fdG) (bG : Binds K fdG ["deck", "web", "place", "most"] []) (mG : mg "_law_gone" = some (.ref fG)) (mRange : mg "range" = none) (mLen : mg "len" = none) : FnOk P w K mg base CX0 3 f fd ["deck", "web"] spRou := by
  have GN : FnOk P w K mg base CX0 1 fN fdN ["web", "place"] spNea := ok_nea FN
  have GT : FnOk P w K mg base CX0 1 fT fdT ["deck", "many"] spTake := ok_take FT
  have GG : FnOk P w K mg base CX0 2 fG fdG ["deck", "web", "place", "most"] spGon := ok_gon FG FN bN mN FT bT mT mRange mLen
  refine F.ok scRou (fun vs H Q E h => ?_) (fun cdv A outer s H vs Q E hr h => ?_)
  · obtain ⟨_, _, _, _, _, _, _, rfl, _⟩ := h
    rfl
  · obtain ⟨d, wb, l, n, k, xs, rs, rfl, hd, W, g, hld, q⟩ := h
    have h16 : (16777216 : Nat) = sizeLine := sizeLine_eq.symm
    have hx : xs.length ≤ 30 := by rw [W.p.len]; exact g.2.2.1
    have g1 := g.1
    have g2 := g.2.1
    refine ⟨_, pss_cons (ps_set (i := 2) scRou.nd rfl (Or.inl rfl) (pe_call GG (hr.mono (by decide)) rfl mG FG.kp bG .nil pass0 (pa_cons (pv 0) (pa_cons (pv 1) (pa_cons (pe_call GT (hr.mono (by decide)) rfl mT FT.kp bT .nil pass0 (pa_cons (pv 0) (pa_cons (pe_ix (kIxT K) (pv 1) pe_int (fun _ _ => rfl)) pa_nil))) (pa_cons pe_int pa_nil))))))
       (pss_cons (ps_for PassesOwn.never rfl (pi_rangeD rfl mRange (pa_cons (pe_op op_sub (pe_callB (kLen K) rfl mLen PySem.boot_len (pa_cons (pv 2) pa_nil)) pe_int) (pa_cons pe_int (pa_cons (pe_un op_negI pe_int) pa_nil)))) (pg_name (i := 3) scRou.nd rfl (Or.inl rfl))
       (pss_one (ps_for PassesOwn.never rfl (pi_range1 rfl mRange (pa_cons (pe_op op_sub (pv 3) pe_int) pa_nil)) (pg_name (i := 4) scRou.nd rfl (Or.inl rfl))
       (pss_one (ps_if (pt_cmpR (kIn K) (pe_ix (kIxL K) (pv 2) (pv 4) (fun _ _ => rfl)) (pe_call GN (hr.mono (by decide)) rfl mN FN.kp bN .nil pass0 (pa_cons (pv 1) (pa_cons (pe_ix (kIxL K) (pv 2) (pv 3) (fun _ _ => rfl)) pa_nil))) (by with_unfolding_all rfl)) (pss_one (ps_ret (pe_slice (kSl K) (pv 2) (po_some (pv 4)) (po_some (pe_op op_add (pv 3) pe_int))))) pss_nil)))))
       (pss_one (ps_ret (pv 2)))), ?_⟩
    refine ⟨_, rfl, _, rfl, _, rfl, _, rfl, wb, _, _, _, rfl, rfl, SqT.of W.w, atI_nat (j := 0) rfl, d, n, k, rfl, hd, by omega, ?_, fun n1 p0 h0 h1 => ?_⟩
    · exact Nat.lt_of_lt_of_le (show k.natAbs < 2 ^ 10 by omega) (Nat.pow_le_pow_right (by decide) (by decide))
    have D1 := (Dk.start hd).take n1
    have e1 : upd H d (.lst [.int n1]) d = some (.lst [.int n1]) := upd_same
    have W1 := W.dk D1 hd hld
    generalize upd H d (.lst [.int n1]) = H1 at D1 e1 W1 ⊢
    refine ⟨d, wb, l, n1, k, p0, 15, xs, rs, rfl, e1, W1, hx, hld, by decide, fun ro ns H2 D2 hro e2 l1 l2 on => ?_⟩
    have D12 := D1.trans D2
    have W2 := W.dk D12 hd hld
    have hro0 := D1.free hro
    refine ⟨_, rfl, ro, _, rfl, .inl (SqL.of e2), _, _, rfl, rfl, _, rfl, _, _, rfl, by rw [List.length_map]; omega, ?_⟩
    rw [List.length_map]
    refine for_rangeD (fun i σ H3 => ∃ v3 v4 : Option V, σ = [some (.ref d), some (.ref wb), some (.ref ro), v3, v4] ∧ Same H2 H3) ⟨none, none, rfl, Same.refl _⟩ ?_ ?_
    · rintro i σ H3 hi ⟨v3, v4, rfl, s3⟩
      refine ⟨_, rfl, _, _, rfl, rfl, _, rfl, by omega, by omega, ?_⟩
      refine for_range (lo := 0) (fun j σ H4 => ∃ v4 : Option V, σ = [some (.ref d), some (.ref wb), some (.ref ro), some (.int ((ns.length : Int) - 1 - (i : Int))), v4] ∧ Same H2 H4) ⟨_, rfl, s3⟩ ?_ ?_
      · rintro j σ H4 hj ⟨v4, rfl, s4⟩
        have hj' : (j : Int) < (ns.length : Int) - 1 - (i : Int) - 1 := by omega
        refine ⟨_, rfl, _, rfl, ro, _, _, _, rfl, rfl, SqL.of (s4 _ _ e2), at_int (i := 0 + (j : Int)) (by omega) (by omega), ?_⟩
        refine ⟨_, rfl, _, rfl, _, rfl, ro, _, _, _, rfl, rfl, SqL.of (s4 _ _ e2), at_int (i := (ns.length : Int) - 1 - (i : Int)) (by omega) (by omega), ?_⟩
        refine ⟨wb, l, k, _, xs, rs, rfl, W2.same s4, hx, fun r ms H5 s5 hr5 e5 hml hin => ?_⟩
        have s25 := s4.trans s5
        refine ⟨r, _, rfl, .inl (SqL.of e5), rfl, flat_ints _, _, rfl, ?_⟩
        show if (inV _ (ms.map V.int)) = true then _ else _
        refine ite2 (fun y => ?_) (fun y => ?_)
        · refine ⟨_, rfl, _, rfl, _, rfl, _, rfl, _, _, rfl, rfl, _, rfl, ro, _, rfl, SqL.of (s25 _ _ e2), fun c hc => ?_⟩
          have ec : cutV (ns.map V.int) (some (0 + (j : Int))) (some ((ns.length : Int) - 1 - (i : Int) + 1)) = ((ns.drop j).take (ns.length - i - j)).map V.int := by
            rw [show (0 : Int) + (j : Int) = ((j : Nat) : Int) by omega, show (ns.length : Int) - 1 - (i : Int) + 1 = ((ns.length - i : Nat) : Int) by omega, cut_mid (by rw [List.length_map]; omega) (by omega), List.map_take, List.map_drop]
          rw [ec]
          have D5 := D12.grow s25
          refine q c _ _ (D5.new hc) (D5.free hc) upd_same ?_ ?_
          · rw [List.length_take, List.length_drop]; omega
          · rw [List.length_take, List.length_drop]; omega
        · exact ⟨_, rfl, s25⟩
      · rintro σ H4 ⟨v4, rfl, s4⟩
        exact ⟨_, _, rfl, s4⟩
    · rintro σ H3 ⟨v3, v4, rfl, s3⟩
      exact ⟨_, rfl, q ro ns H3 (D12.grow s3) hro0 (s3 _ _ e2) l1 (by omega)⟩
/-! ### _law_told_form -/
def spTol : Sp := fun vs H Q _ => ∃ (ro : Addr) (ns : List Int), vs = [.ref ro] ∧ H ro = some (.lst (ns.map V.int)) ∧ 1 ≤ ns.length ∧ ns.length ≤ 16 ∧
  ∀ (l : Addr) (ms : List Int) (H' : Hp), Same H H' → H l = none → H' l = some (.lst (ms.map V.int)) → 1 ≤ ms.length → ms.length ≤ 16 → Q (.ref l) H'
theorem scTol : FnScope ["row", "at"] ["row"] (defScope sTol) := ⟨rfl, rfl, rfl, by decide +kernel, rfl, by decide +kernel, by decide +kernel⟩
theorem ok_tol {f : Addr} {fd : FuncData} (F : Fun K "_law_told_form" "_law_told_form" sTol f fd) (mLen : mg "len" = none) (mMin : mg "min" = none) : FnOk P w K mg base CX0 1 f fd ["row"] spTol := by
  refine F.ok scTol (fun vs H Q E h => ?_) (fun cdv A outer s H vs Q E hr h => ?_)
  · obtain ⟨_, _, rfl, _⟩ := h
    rfl
  · obtain ⟨ro, ns, rfl, hp, l1, l2, q⟩ := h
    have h16 : (16777216 : Nat) = sizeLine := sizeLine_eq.symm
    have hne : ns ≠ [] := fun e => by rw [e] at l1; exact absurd l1 (by decide)
    refine ⟨_, pss_cons (ps_set (i := 1) scTol.nd rfl (Or.inl rfl) (pe_bm PySem.F.plainAttrs_list PySem.F.slot_list_index PySem.F.type_list_index mt_index (pv 0) (pa_cons (pe_callB (kMin K rfl) rfl mMin boot_min' (pa_cons (pv 0) pa_nil)) pa_nil)))
       (pss_cons (ps_set (i := 0) scTol.nd rfl (Or.inl rfl) (pe_op op_cat (pe_slice (kSl K) (pv 0) (po_some (pv 1)) po_none) (pe_slice (kSl K) (pv 0) po_none (po_some (pv 1)))))
       (pss_cons (ps_if (PW.pt (pw_and (pt_cmpR op_gt (pe_callB (kLen K) rfl mLen PySem.boot_len (pa_cons (pv 0) pa_nil)) pe_int (nomark _)) (pw_and1 (pt_cmpR op_gt (pe_ix (kIxL K) (pv 0) pe_int (fun _ _ => rfl)) (pe_ix (kIxL K) (pv 0) (pe_un op_negI pe_int) (fun _ _ => rfl)) (nomark _))))) (pss_one (ps_set (i := 0) scTol.nd rfl (Or.inl rfl) (pe_op op_cat (pe_slice (kSl K) (pv 0) po_none (po_some pe_int)) (pe_sliceR K (pv 0) (po_some pe_int) (pe_un op_negI pe_int))))) pss_nil)
       (pss_one (ps_ret (pv 0))))), ?_⟩
    refine ⟨_, rfl, .inl ⟨rfl, _, SqL.of hp⟩, _, rfl, ro, ns, rfl, SqL.of hp, hne, fun m hm hl => ⟨ro, ns, m, rfl, rfl, hp, hm, ?_⟩⟩
    have hat : ns.idxOf m < ns.length := List.idxOf_lt_length_iff.mpr hm
    generalize ns.idxOf m = a at hat ⊢
    refine ⟨_, rfl, _, rfl, _, rfl, ro, _, rfl, SqL.of hp, fun c1 hc1 => ?_⟩
    have s1 : Same H (upd H c1 (.lst (cutV (ns.map V.int) (some (a : Int)) none))) := Same.new hc1
    refine ⟨_, rfl, _, rfl, _, rfl, ro, _, rfl, SqL.of (s1 _ _ hp), fun c2 hc2 => ?_⟩
    rw [cut_from] at hc2 s1 ⊢
    rw [cut_to]
    have n12 : c1 ≠ c2 := fun z => by rw [← z, upd_same] at hc2; cases hc2
    have s2 := s1.put (o := .lst ((ns.map V.int).take a)) (s1.free hc2)
    refine ⟨c1, c2, _, _, rfl, rfl, upd_eq upd_same n12, upd_same, by rw [List.length_drop, List.length_take, List.length_map]; omega, fun c3 hc3 => ?_⟩
    have ec : (ns.map V.int).drop a ++ (ns.map V.int).take a = (ns.drop a ++ ns.take a).map V.int := by rw [List.map_append, List.map_drop, List.map_take]
    rw [ec]
    have s3 := s2.put (o := .lst ((ns.drop a ++ ns.take a).map V.int)) (s2.free hc3)
    have hc30 := s2.free hc3
    have hlen : (ns.drop a ++ ns.take a).length = ns.length := by rw [List.length_append, List.length_drop, List.length_take]; omega
    generalize ns.drop a ++ ns.take a = ms at s3 hlen ⊢
    have e3 : upd (upd (upd H c1 (.lst ((ns.map V.int).drop a))) c2 (.lst ((ns.map V.int).take a))) c3 (.lst (ms.map V.int)) c3 = some (.lst (ms.map V.int)) := upd_same
    generalize upd (upd (upd H c1 (.lst ((ns.map V.int).drop a))) c2 (.lst ((ns.map V.int).take a))) c3 (.lst (ms.map V.int)) = H3 at s3 e3 ⊢
    have hne2 : ms ≠ [] := fun e => by rw [e] at hlen; exact absurd hlen (by show ¬ 0 = ns.length; omega)
    refine ⟨_, rfl, c3, _, rfl, .inl (SqL.of e3), _, _, rfl, rfl, _, rfl, ?_⟩
    rw [List.length_map]
    have last : Q (.ref c3) H3 := q c3 ms H3 s3 hc30 e3 (by omega) (by omega)
    refine ite2 (fun z => ?_) (fun z => iteF ⟨_, rfl, last⟩)
    have z' : 2 < (ms.length : Int) := of_decide_eq_true z
    refine ⟨_, rfl, c3, _, _, _, rfl, rfl, SqL.of e3, at_int (i := 1) (by decide) (by omega), _, rfl, _, rfl, c3, _, _, _, rfl, rfl, SqL.of e3, at_last hne2, _, _, rfl, rfl, _, rfl, ?_⟩
    refine ite2 (fun z => ?_) (fun z => ⟨_, rfl, last⟩)
    refine ⟨_, rfl, _, rfl, c3, _, rfl, SqL.of e3, fun c4 hc4 => ?_⟩
    have s4 := s3.put (o := .lst (cutV (ms.map V.int) none (some 1))) (s3.free hc4)
    have e34 : Same H3 (upd H3 c4 (.lst (cutV (ms.map V.int) none (some 1)))) := Same.new hc4
    refine ⟨_, rfl, _, rfl, c3, _, rfl, SqL.of (e34 _ _ e3), .inr rfl, fun c5 hc5 => ?_⟩
    have n45 : c4 ≠ c5 := fun z => by rw [← z, upd_same] at hc5; cases hc5
    have s5 := s4.put (o := .lst (revV (some 0) (ms.map V.int))) (s4.free hc5)
    have e1 : cutV (ms.map V.int) none (some 1) = (ms.map V.int).take 1 := by rw [show (some (1 : Int)) = some ((1 : Nat) : Int) from rfl, cut_to]
    have e2 : revV (some 0) (ms.map V.int) = ((ms.drop 1).reverse).map V.int := by
      show ((ms.map V.int).drop 1).reverse = _
      rw [List.map_reverse, List.map_drop]
    refine ⟨c4, c5, _, _, rfl, rfl, upd_eq upd_same n45, upd_same, ?_, fun c6 hc6 => ?_⟩
    · rw [e1, e2, List.length_take, List.length_map, List.length_map, List.length_reverse, List.length_drop]; omega
    have ec2 : cutV (ms.map V.int) none (some 1) ++ revV (some 0) (ms.map V.int) = (ms.take 1 ++ (ms.drop 1).reverse).map V.int := by rw [e1, e2, List.map_append, List.map_take]
    refine ⟨_, rfl, q c6 (ms.take 1 ++ (ms.drop 1).reverse) _ (s5.put (s5.free hc6)) (s5.free hc6) (by rw [upd_same, ec2]) ?_ ?_⟩
    · rw [List.length_append, List.length_take, List.length_reverse, List.length_drop]; omega
    · rw [List.length_append, List.length_take, List.length_reverse, List.length_drop]; omega
/-! ### _law_spoilt -/
def spSpo : Sp := fun vs H Q _ => ∃ (d wb l ro : Addr) (n k : Int) (xs : List V) (rs : List (Int × Int)) (ns : List Int), vs = [.ref d, .ref wb, .ref ro] ∧ H d = some (.lst [.int n]) ∧ WebAt H wb l k xs rs ∧ GoodWeb k rs ∧ l ≠ d ∧ ro ≠ d ∧ H ro = some (.lst (ns.map V.int)) ∧ 1 ≤ ns.length ∧ ns.length ≤ 16 ∧
  ∀ (sp : Addr) (ms : List Int) (H' : Hp), Dk H H' d → H sp = none → H' sp = some (.lst (ms.map V.int)) → ms.length ≤ 60 → Q (.ref sp) H'
theorem scSpo : FnScope ["deck", "web", "row", "way", "at", "to", "far", "turned"] ["deck", "web", "row"] (defScope sSpo) := ⟨rfl, rfl, rfl, by decide +kernel, rfl, by decide +kernel, by decide +kernel⟩
theorem far_at (j : Int) (h0 : 0 ≤ j) (h1 : j < 3) : ∃ m : Int, atI [V.int 1, V.int 3, V.int (10 ^ (20 : Int).toNat)] j = some (.int m) ∧ 0 < m ∧ Lt2 9000 m := by
  have h : j = 0 ∨ j = 1 ∨ j = 2 := by omega
  have big : ∀ m : Int, m.natAbs < 2 ^ 70 → Lt2 9000 m := fun m h => Nat.lt_of_lt_of_le h (Nat.pow_le_pow_right (by decide) (by decide))
  rcases h with rfl | rfl | rfl
  · exact ⟨1, rfl, by decide, big _ (by decide)⟩
  · exact ⟨3, rfl, by decide, big _ (by decide)⟩
  · exact ⟨10 ^ (20 : Int).toNat, rfl, by decide, big _ (by decide)⟩
theorem ok_spo {f fT : Addr} {fd fdT : FuncData} (F : Fun K "_law_spoilt" "_law_spoilt" sSpo f fd) (FT : Fun K "_law_take" "_law_take" sTake fT fdT) (bT : Binds K fdT ["deck", "many"] []) (mT : mg "_law_take" = some (.ref fT)) (mLen : mg "len" = none) (mLst : mg "list" = none) : FnOk P w K mg base CX0 2 f fd ["deck", "web", "row"] spSpo := by
  have GT : FnOk P w K mg base CX0 1 fT fdT ["deck", "many"] spTake := ok_take FT
  refine F.ok scSpo (fun vs H Q E h => ?_) (fun cdv A outer s H vs Q E hr h => ?_)
  · obtain ⟨_, _, _, _, _, _, _, _, _, rfl, _⟩ := h
    rfl
  · obtain ⟨d, wb, l, ro, n, k, xs, rs, ns, rfl, hd, W, g, hld, hrd, hp, l1, l2, q⟩ := h
    have h16 : (16777216 : Nat) = sizeLine := sizeLine_eq.symm
    have g1 := g.1
    have g2 := g.2.1
    have hlm : (ns.map V.int).length = ns.length := List.length_map ..
    refine ⟨_, pss_cons (ps_set (i := 3) scSpo.nd rfl (Or.inl rfl) (pe_call GT (hr.mono (by decide)) rfl mT FT.kp bT .nil pass0 (pa_cons (pv 0) (pa_cons pe_int pa_nil))))
       (pss_cons (ps_set (i := 4) scSpo.nd rfl (Or.inl rfl) (pe_call GT (hr.mono (by decide)) rfl mT FT.kp bT .nil pass0 (pa_cons (pv 0) (pa_cons (pe_callB (kLen K) rfl mLen PySem.boot_len (pa_cons (pv 2) pa_nil)) pa_nil))))
       (pss_cons (ps_set (i := 5) scSpo.nd rfl (Or.inl rfl) (pe_call GT (hr.mono (by decide)) rfl mT FT.kp bT .nil pass0 (pa_cons (pv 0) (pa_cons (pe_callB (kLen K) rfl mLen PySem.boot_len (pa_cons (pv 2) pa_nil)) pa_nil))))
       (pss_cons (ps_set (i := 6) scSpo.nd rfl (Or.inl rfl) (pe_call GT (hr.mono (by decide)) rfl mT FT.kp bT .nil pass0 (pa_cons (pv 0) (pa_cons (pe_ix (kIxL K) (pe_lst (pa_cons pe_int (pa_cons pe_int (pa_cons (pe_op op_pow pe_int pe_int) pa_nil)))) (pe_call GT (hr.mono (by decide)) rfl mT FT.kp bT .nil pass0 (pa_cons (pv 0) (pa_cons pe_int pa_nil))) (fun _ _ => rfl)) pa_nil))))
       (pss_cons (ps_if (pt_cmpR op_eq (pv 3) pe_int (nomark _)) (pss_one (ps_ret (pe_op op_cat (pe_slice (kSl K) (pv 2) po_none (po_some (pv 4))) (pe_slice (kSl K) (pv 2) (po_some (pe_op op_add (pv 4) pe_int)) po_none)))) pss_nil)
       (pss_cons (ps_if (pt_cmpR op_eq (pv 3) pe_int (nomark _)) (pss_one (ps_ret (pe_op op_cat (pe_op op_cat (pe_slice (kSl K) (pv 2) po_none (po_some (pv 5))) (pe_lst (pa_cons (pe_ix (kIxL K) (pv 2) (pv 4) (fun _ _ => rfl)) pa_nil))) (pe_slice (kSl K) (pv 2) (po_some (pv 5)) po_none)))) pss_nil)
       (pss_cons (ps_if (pt_cmpR op_eq (pv 3) pe_int (nomark _)) (pss_one (ps_ret (pe_op op_cat (pe_op op_cat (pe_slice (kSl K) (pv 2) po_none (po_some (pv 4))) (pe_lst (pa_cons (pe_ix (kIxL K) (pe_lst (pa_cons (pe_op op_sub (pe_un op_negI pe_int) (pv 6)) (pa_cons (pe_op op_add (pe_ix (kIxT K) (pv 1) pe_int (fun _ _ => rfl)) (pv 6)) pa_nil))) (pe_call GT (hr.mono (by decide)) rfl mT FT.kp bT .nil pass0 (pa_cons (pv 0) (pa_cons pe_int pa_nil))) (fun _ _ => rfl)) pa_nil))) (pe_slice (kSl K) (pv 2) (po_some (pe_op op_add (pv 4) pe_int)) po_none)))) pss_nil)
       (pss_cons (ps_if (pt_cmpR op_eq (pv 3) pe_int (nomark _)) (pss_one (ps_ret (pe_op op_cat (pe_op op_cat (pe_slice (kSl K) (pv 2) po_none (po_some (pv 4))) (pe_lst (pa_cons (pe_call GT (hr.mono (by decide)) rfl mT FT.kp bT .nil pass0 (pa_cons (pv 0) (pa_cons (pe_ix (kIxT K) (pv 1) pe_int (fun _ _ => rfl)) pa_nil))) pa_nil))) (pe_slice (kSl K) (pv 2) (po_some (pe_op op_add (pv 4) pe_int)) po_none)))) pss_nil)
       (pss_cons (ps_if (pt_cmpR op_eq (pv 3) pe_int (nomark _)) (pss_one (ps_ret (pe_op op_cat (pv 2) (pe_slice (kSl K) (pv 2) po_none (po_some pe_int))))) pss_nil)
       (pss_cons (ps_set (i := 7) scSpo.nd rfl (Or.inl rfl) (pe_callTy (kListOf K) rfl mLst boot_list (pa_cons (pv 2) pa_nil)))
       (pss_cons (ps_asg (pe_ix (kIxL K) (pv 2) (pv 5) (fun _ _ => rfl)) (pg_sub (pv 7) (pv 4) set_list))
       (pss_cons (ps_asg (pe_ix (kIxL K) (pv 2) (pv 4) (fun _ _ => rfl)) (pg_sub (pv 7) (pv 5) set_list))
       (pss_one (ps_ret (pv 7)))))))))))))), ?_⟩
    -- way
    refine ⟨_, rfl, d, n, 8, rfl, hd, by decide, lt2_nat (n := 8) (by decide), fun n1 way w0 w1 => ?_⟩
    have D1 := (Dk.start hd).take n1
    have e1 : upd H d (.lst [.int n1]) d = some (.lst [.int n1]) := upd_same
    generalize upd H d (.lst [.int n1]) = H1 at D1 e1 ⊢
    -- at
    refine ⟨_, rfl, _, rfl, ro, _, rfl, .inl (SqL.of (D1.keep _ _ hrd hp)), d, n1, _, rfl, e1, by rw [hlm]; omega, by rw [hlm]; exact lt2_nat (by omega), fun n2 aI a0 a1 => ?_⟩
    rw [hlm] at a1
    have D2 := D1.take n2
    have e2 : upd H1 d (.lst [.int n2]) d = some (.lst [.int n2]) := upd_same
    generalize upd H1 d (.lst [.int n2]) = H2 at D2 e2 ⊢
    -- to
    refine ⟨_, rfl, _, rfl, ro, _, rfl, .inl (SqL.of (D2.keep _ _ hrd hp)), d, n2, _, rfl, e2, by rw [hlm]; omega, by rw [hlm]; exact lt2_nat (by omega), fun n3 tI t0 t1 => ?_⟩
    rw [hlm] at t1
    have D3 := D2.take n3
    have e3 : upd H2 d (.lst [.int n3]) d = some (.lst [.int n3]) := upd_same
    generalize upd H2 d (.lst [.int n3]) = H3 at D3 e3 ⊢
    -- far
    refine ⟨_, rfl, _, _, rfl, rfl, ⟨by decide, by decide, by decide⟩, (by show 3 ≤ sizeLine; decide), fun fl hfl => ?_⟩
    have D4 := D3.new (o := .lst [.int 1, .int 3, .int (10 ^ (20 : Int).toNat)]) hfl
    have hdf : d ≠ fl := D3.ne hfl
    refine ⟨_, rfl, d, n3, 3, rfl, upd_eq e3 hdf, by decide, lt2_nat (n := 3) (by decide), fun n4 jI j0 j1 => ?_⟩
    obtain ⟨fm, ef, f0, f1⟩ := far_at jI j0 j1
    refine ⟨fl, _, _, _, rfl, rfl, SqL.of (upd_eq upd_same (Ne.symm hdf)), ef, ?_⟩
    have D5 := D4.take n4
    refine ⟨d, n4, fm, rfl, upd_same, f0, f1, fun n5 far _ _ => ?_⟩
    have D6 := D5.take n5
    have e6 : upd (upd (upd H3 fl (.lst [.int 1, .int 3, .int (10 ^ (20 : Int).toNat)])) d (.lst [.int n4])) d (.lst [.int n5]) d = some (.lst [.int n5]) := upd_same
    generalize upd (upd (upd H3 fl (.lst [.int 1, .int 3, .int (10 ^ (20 : Int).toNat)])) d (.lst [.int n4])) d (.lst [.int n5]) = H6 at D6 e6 ⊢
    clear D1 D2 D3 D4 D5 e1 e2 e3 ef
    have p6 := D6.keep _ _ hrd hp
    have W6 := W.dk D6 hd hld
    -- way 0
    refine ⟨_, rfl, rfl, _, rfl, ite2 (fun _ => ?_) (fun _ => ?_)⟩
    · refine ⟨_, rfl, _, rfl, _, rfl, ro, _, rfl, SqL.of p6, fun c1 hc1 => ?_⟩
      have s1 : Same H6 (upd H6 c1 (.lst (cutV (ns.map V.int) none (some aI)))) := Same.new hc1
      refine ⟨_, rfl, _, rfl, _, _, rfl, rfl, _, rfl, ro, _, rfl, SqL.of (s1 _ _ p6), fun c2 hc2 => ?_⟩
      obtain ⟨b1, eb1, lb1⟩ := cut_ints ns none (some aI)
      obtain ⟨b2, eb2, lb2⟩ := cut_ints ns (some (aI + 1)) none
      have n12 : c1 ≠ c2 := fun z => by rw [← z, upd_same] at hc2; cases hc2
      have s2 := s1.put (o := .lst (cutV (ns.map V.int) (some (aI + 1)) none)) (s1.free hc2)
      refine ⟨c1, c2, _, _, rfl, rfl, upd_eq upd_same n12, upd_same, by rw [eb1, eb2, List.length_map, List.length_map]; omega, fun c3 hc3 => ?_⟩
      have s3 := s2.put (o := .lst (cutV (ns.map V.int) none (some aI) ++ cutV (ns.map V.int) (some (aI + 1)) none)) (s2.free hc3)
      refine q c3 (b1 ++ b2) _ (D6.grow s3) (D6.free (s2.free hc3)) (by rw [upd_same, eb1, eb2, List.map_append]) (by rw [List.length_append]; omega)
    -- way 1
    refine ⟨_, rfl, rfl, _, rfl, ite2 (fun _ => ?_) (fun _ => ?_)⟩
    · refine ⟨_, rfl, _, rfl, _, rfl, ro, _, rfl, SqL.of p6, fun c1 hc1 => ?_⟩
      have s1 : Same H6 (upd H6 c1 (.lst (cutV (ns.map V.int) none (some tI)))) := Same.new hc1
      refine ⟨_, rfl, _, rfl, ro, _, _, _, rfl, rfl, SqL.of (s1 _ _ p6), at_int a0 a1, (by show 1 ≤ sizeLine; decide), fun c2 hc2 => ?_⟩
      obtain ⟨b1, eb1, lb1⟩ := cut_ints ns none (some tI)
      obtain ⟨b2, eb2, lb2⟩ := cut_ints ns (some tI) none
      have n12 : c1 ≠ c2 := fun z => by rw [← z, upd_same] at hc2; cases hc2
      have s2 := s1.put (o := .lst [.int (ns.getD aI.toNat 0)]) (s1.free hc2)
      refine ⟨c1, c2, _, _, rfl, rfl, upd_eq upd_same n12, upd_same, by rw [eb1, List.length_map, List.length_singleton]; omega, fun c3 hc3 => ?_⟩
      have s3 := s2.put (o := .lst (cutV (ns.map V.int) none (some tI) ++ [.int (ns.getD aI.toNat 0)])) (s2.free hc3)
      refine ⟨_, rfl, _, rfl, _, rfl, ro, _, rfl, SqL.of (s3 _ _ p6), fun c4 hc4 => ?_⟩
      have n34 : c3 ≠ c4 := fun z => by rw [← z, upd_same] at hc4; cases hc4
      have s4 := s3.put (o := .lst (cutV (ns.map V.int) (some tI) none)) (s3.free hc4)
      refine ⟨c3, c4, _, _, rfl, rfl, upd_eq upd_same n34, upd_same, by rw [eb1, eb2, List.length_append, List.length_map, List.length_map, List.length_singleton]; omega, fun c5 hc5 => ?_⟩
      have s5 := s4.put (o := .lst ((cutV (ns.map V.int) none (some tI) ++ [.int (ns.getD aI.toNat 0)]) ++ cutV (ns.map V.int) (some tI) none)) (s4.free hc5)
      refine q c5 ((b1 ++ [ns.getD aI.toNat 0]) ++ b2) _ (D6.grow s5) (D6.free (s4.free hc5)) (by rw [upd_same, eb1, eb2, List.map_append, List.map_append]; rfl) (by rw [List.length_append, List.length_append, List.length_singleton]; omega)
    -- way 2
    refine ⟨_, rfl, rfl, _, rfl, ite2 (fun _ => ?_) (fun _ => ?_)⟩
    · refine ⟨_, rfl, _, rfl, _, rfl, ro, _, rfl, SqL.of p6, fun c1 hc1 => ?_⟩
      have s1 : Same H6 (upd H6 c1 (.lst (cutV (ns.map V.int) none (some aI)))) := Same.new hc1
      refine ⟨_, rfl, _, rfl, _, _, rfl, rfl, _, rfl, wb, _, _, _, rfl, rfl, SqT.of (s1 _ _ W6.w), atI_nat (j := 0) rfl, _, rfl, _, _, rfl, rfl, two_le, fun c2 hc2 => ?_⟩
      have D7 := (D6.grow s1).new (o := .lst [.int (-1 - far), .int (k + far)]) hc2
      have s2 := s1.put (o := .lst [.int (-1 - far), .int (k + far)]) (s1.free hc2)
      have hd2 : d ≠ c2 := (D6.grow s1).ne hc2
      have hd1 : d ≠ c1 := D6.ne hc1
      have n12 : c1 ≠ c2 := fun z => by rw [← z, upd_same] at hc2; cases hc2
      refine ⟨_, rfl, d, n5, 2, rfl, s2 _ _ e6, by decide, lt2_nat (n := 2) (by decide), fun n7 j2 j20 j21 => ?_⟩
      obtain ⟨v, ev⟩ : ∃ v : Int, atI [V.int (-1 - far), V.int (k + far)] j2 = some (.int v) := by
        have h : j2 = 0 ∨ j2 = 1 := by omega
        rcases h with rfl | rfl
        · exact ⟨_, rfl⟩
        · exact ⟨_, rfl⟩
      refine ⟨c2, _, _, _, rfl, rfl, SqL.of (upd_eq upd_same (Ne.symm hd2)), ev, (by show 1 ≤ sizeLine; decide), fun c3 hc3 => ?_⟩
      have D8 := D7.take n7
      have e81 : upd (upd (upd H6 c1 (.lst (cutV (ns.map V.int) none (some aI)))) c2 (.lst [.int (-1 - far), .int (k + far)])) d (.lst [.int n7]) c1 = some (.lst (cutV (ns.map V.int) none (some aI))) := upd_eq (upd_eq upd_same n12) (Ne.symm hd1)
      generalize upd (upd (upd H6 c1 (.lst (cutV (ns.map V.int) none (some aI)))) c2 (.lst [.int (-1 - far), .int (k + far)])) d (.lst [.int n7]) = H8 at D8 e81 hc3 ⊢
      have s9 : Same H8 (upd H8 c3 (.lst [.int v])) := Same.new hc3
      have n13 : c1 ≠ c3 := ne_of_none e81 hc3
      have p8 := D8.keep _ _ hrd hp
      obtain ⟨b1, eb1, lb1⟩ := cut_ints ns none (some aI)
      obtain ⟨b2, eb2, lb2⟩ := cut_ints ns (some (aI + 1)) none
      refine ⟨c1, c3, _, _, rfl, rfl, upd_eq e81 n13, upd_same, by rw [eb1, List.length_map, List.length_singleton]; omega, fun c4 hc4 => ?_⟩
      have s10 := s9.put (o := .lst (cutV (ns.map V.int) none (some aI) ++ [.int v])) (s9.free hc4)
      refine ⟨_, rfl, _, rfl, _, _, rfl, rfl, _, rfl, ro, _, rfl, SqL.of (s10 _ _ p8), fun c5 hc5 => ?_⟩
      have n45 : c4 ≠ c5 := fun z => by rw [← z, upd_same] at hc5; cases hc5
      have s11 := s10.put (o := .lst (cutV (ns.map V.int) (some (aI + 1)) none)) (s10.free hc5)
      refine ⟨c4, c5, _, _, rfl, rfl, upd_eq upd_same n45, upd_same, by rw [eb1, eb2, List.length_append, List.length_map, List.length_map, List.length_singleton]; omega, fun c6 hc6 => ?_⟩
      have s12 := s11.put (o := .lst ((cutV (ns.map V.int) none (some aI) ++ [.int v]) ++ cutV (ns.map V.int) (some (aI + 1)) none)) (s11.free hc6)
      exact q c6 ((b1 ++ [v]) ++ b2) _ (D8.grow s12) (D8.free (s11.free hc6)) (by rw [upd_same, eb1, eb2, List.map_append, List.map_append]; rfl) (by rw [List.length_append, List.length_append, List.length_singleton]; omega)
    -- way 3
    refine ⟨_, rfl, rfl, _, rfl, ite2 (fun _ => ?_) (fun _ => ?_)⟩
    · refine ⟨_, rfl, _, rfl, _, rfl, ro, _, rfl, SqL.of p6, fun c1 hc1 => ?_⟩
      have s1 : Same H6 (upd H6 c1 (.lst (cutV (ns.map V.int) none (some aI)))) := Same.new hc1
      have hd1 : d ≠ c1 := D6.ne hc1
      refine ⟨_, rfl, _, rfl, wb, _, _, _, rfl, rfl, SqT.of (s1 _ _ W6.w), atI_nat (j := 0) rfl, d, n5, k, rfl, s1 _ _ e6, by omega, ?_, fun n7 v j20 j21 => ?_⟩
      · exact Nat.lt_of_lt_of_le (show k.natAbs < 2 ^ 10 by omega) (Nat.pow_le_pow_right (by decide) (by decide))
      refine ⟨(by show 1 ≤ sizeLine; decide), fun c3 hc3 => ?_⟩
      have D8 := (D6.grow s1).take n7
      have e81 : upd (upd H6 c1 (.lst (cutV (ns.map V.int) none (some aI)))) d (.lst [.int n7]) c1 = some (.lst (cutV (ns.map V.int) none (some aI))) := upd_eq upd_same (Ne.symm hd1)
      generalize upd (upd H6 c1 (.lst (cutV (ns.map V.int) none (some aI)))) d (.lst [.int n7]) = H8 at D8 e81 hc3 ⊢
      have s9 : Same H8 (upd H8 c3 (.lst [.int v])) := Same.new hc3
      have n13 : c1 ≠ c3 := ne_of_none e81 hc3
      have p8 := D8.keep _ _ hrd hp
      obtain ⟨b1, eb1, lb1⟩ := cut_ints ns none (some aI)
      obtain ⟨b2, eb2, lb2⟩ := cut_ints ns (some (aI + 1)) none
      refine ⟨c1, c3, _, _, rfl, rfl, upd_eq e81 n13, upd_same, by rw [eb1, List.length_map, List.length_singleton]; omega, fun c4 hc4 => ?_⟩
      have s10 := s9.put (o := .lst (cutV (ns.map V.int) none (some aI) ++ [.int v])) (s9.free hc4)
      refine ⟨_, rfl, _, rfl, _, _, rfl, rfl, _, rfl, ro, _, rfl, SqL.of (s10 _ _ p8), fun c5 hc5 => ?_⟩
      have n45 : c4 ≠ c5 := fun z => by rw [← z, upd_same] at hc5; cases hc5
      have s11 := s10.put (o := .lst (cutV (ns.map V.int) (some (aI + 1)) none)) (s10.free hc5)
      refine ⟨c4, c5, _, _, rfl, rfl, upd_eq upd_same n45, upd_same, by rw [eb1, eb2, List.length_append, List.length_map, List.length_map, List.length_singleton]; omega, fun c6 hc6 => ?_⟩
      have s12 := s11.put (o := .lst ((cutV (ns.map V.int) none (some aI) ++ [.int v]) ++ cutV (ns.map V.int) (some (aI + 1)) none)) (s11.free hc6)
      exact q c6 ((b1 ++ [v]) ++ b2) _ (D8.grow s12) (D8.free (s11.free hc6)) (by rw [upd_same, eb1, eb2, List.map_append, List.map_append]; rfl) (by rw [List.length_append, List.length_append, List.length_singleton]; omega)
    -- way 4
    refine ⟨_, rfl, rfl, _, rfl, ite2 (fun _ => ?_) (fun _ => ?_)⟩
    · refine ⟨_, rfl, _, rfl, _, rfl, ro, _, rfl, SqL.of p6, fun c1 hc1 => ?_⟩
      have s1 : Same H6 (upd H6 c1 (.lst (cutV (ns.map V.int) none (some 1)))) := Same.new hc1
      obtain ⟨b1, eb1, lb1⟩ := cut_ints ns none (some 1)
      refine ⟨ro, c1, _, _, rfl, rfl, s1 _ _ p6, upd_same, by rw [eb1, List.length_map, List.length_map]; omega, fun c2 hc2 => ?_⟩
      have s2 := s1.put (o := .lst (ns.map V.int ++ cutV (ns.map V.int) none (some 1))) (s1.free hc2)
      exact q c2 (ns ++ b1) _ (D6.grow s2) (D6.free (s1.free hc2)) (by rw [upd_same, eb1, List.map_append]) (by rw [List.length_append]; omega)
    -- turned
    refine ⟨_, rfl, ro, _, rfl, .inl (SqL.of p6), fun c1 hc1 => ?_⟩
    have s1 : Same H6 (upd H6 c1 (.lst (ns.map V.int))) := Same.new hc1
    have hc0 := D6.free hc1
    have hrc : ro ≠ c1 := ne_of_none p6 hc1
    have hd1 : d ≠ c1 := D6.ne hc1
    refine ⟨_, rfl, _, rfl, ro, _, _, _, rfl, rfl, SqL.of (s1 _ _ p6), at_int t0 t1, ?_⟩
    refine ⟨_, rfl, _, rfl, c1, _, aI, aI.toNat, rfl, rfl, upd_same, ?_, ?_⟩
    · unfold ixN
      rw [if_pos a0, if_pos (by rw [hlm]; exact a1)]
    refine ⟨_, rfl, _, rfl, ro, _, _, _, rfl, rfl, SqL.of (upd_eq (s1 _ _ p6) hrc), at_int a0 a1, ?_⟩
    refine ⟨_, rfl, _, rfl, c1, _, tI, tI.toNat, rfl, rfl, upd_same, ?_, ?_⟩
    · unfold ixN
      rw [if_pos t0, if_pos (by rw [List.length_set, hlm]; exact t1)]
    refine ⟨_, rfl, ?_⟩
    refine q c1 ((ns.set aI.toNat (ns.getD tI.toNat 0)).set tI.toNat (ns.getD aI.toNat 0)) _ (((D6.grow s1).put hc0 hd1).put hc0 hd1) hc0 ?_ (by rw [List.length_set, List.length_set]; omega)
    rw [upd_same, List.map_set, List.map_set]
end
end M
namespace M
open PySem L2
section
variable {P : Program} {w : World} {K : PySem.W.Frag} {mg : Str → Option Value} {base : Heap}
/-- the deck at d: all that stood in Hs stands -/
structure DeckAt (Hs H : Hp) (d : Addr) : Prop where
  s : Same Hs H
  n : Hs d = none
  at_ : ∃ n : Int, H d = some (.lst [.int n])
theorem DeckAt.grow {Hs H H' : Hp} {d : Addr} (h : DeckAt Hs H d) (s : Same H H') : DeckAt Hs H' d := ⟨h.s.trans s, h.n, h.at_.elim fun n e => ⟨n, s _ _ e⟩⟩
theorem DeckAt.dk {Hs H H' : Hp} {d : Addr} (h : DeckAt Hs H d) (s : Dk H H' d) : DeckAt Hs H' d := ⟨fun b o e => s.keep b o (ne_of_none e h.n) (h.s b o e), h.n, s.at_⟩
theorem cut_int {ns : List Int} {lo hi : Option Int} {i : Nat} {x : V} (h : (cutV (ns.map V.int) lo hi)[i]? = some x) : ∃ z, x = .int z := by
  have hm := List.mem_of_getElem? h
  unfold cutV at hm
  have hm2 := List.mem_of_mem_drop (List.mem_of_mem_take hm)
  obtain ⟨z, _, rfl⟩ := List.mem_map.mp hm2
  exact ⟨z, rfl⟩
def spLaw (K : PySem.W.Frag) : Sp := fun vs H Q _ => ∃ (a : Addr) (ns : List Int), vs = [.ref a] ∧ SqL K H a (ns.map V.int) ∧ ns.length ≤ 63 ∧ ∀ H', Q (.bl true) H'
theorem scLaw : FnScope ["script", "cell", "deck", "places", "roads", "web", "row", "told", "some", "handed", "found"] ["script"] (defScope sLaw) := ⟨rfl, rfl, rfl, by decide +kernel, rfl, by decide +kernel, by decide +kernel⟩
theorem ok_law {f fS fD fT fQ fW fU fV fO fC fN fG fR fF fP fE : Addr} {fd fdS fdD fdT fdQ fdW fdU fdV fdO fdC fdN fdG fdR fdF fdP fdE : FuncData} (F : Fun K "law" "law" sLaw f fd)
    (FS : Fun K "_law_stir" "_law_stir" sStir fS fdS) (bS : Binds K fdS ["cell", "k"] []) (mS : mg "_law_stir" = some (.ref fS))
    (FD : Fun K "_law_deck" "_law_deck" sDeck fD fdD) (bD : Binds K fdD ["cell"] []) (mD : mg "_law_deck" = some (.ref fD))
    (FT : Fun K "_law_take" "_law_take" sTake fT fdT) (bT : Binds K fdT ["deck", "many"] []) (mT : mg "_law_take" = some (.ref fT))
    (FQ : Fun K "_law_grid" "_law_grid" sLGrid fQ fdQ) (bQ : Binds K fdQ ["rows", "columns"] []) (mQ : mg "_law_grid" = some (.ref fQ))
    (FW : Fun K "_law_web" "_law_web" sWeb fW fdW) (bW : Binds K fdW ["deck"] []) (mW : mg "_law_web" = some (.ref fW))
    (FU : Fun K "numbers_by_step" "numbers_by_step" sNbs fU fdU) (bU : Binds K fdU ["web"] []) (mU : mg "numbers_by_step" = some (.ref fU))
    (FV : Fun K "steps_of" "steps_of" sSte fV fdV) (bV : Binds K fdV ["places", "closed"] []) (mV : mg "steps_of" = some (.ref fV))
    (FO : Fun K "goes_once" "goes_once" sOnc fO fdO) (bO : Binds K fdO ["web", "places", "closed"] []) (mO : mg "goes_once" = some (.ref fO))
    (FC : Fun K "is_closed" "is_closed" sClo fC fdC) (bC : Binds K fdC ["web", "places"] []) (mC : mg "is_closed" = some (.ref fC))
    (FN : Fun K "_law_near" "_law_near" sNea fN fdN) (bN : Binds K fdN ["web", "place"] []) (mN : mg "_law_near" = some (.ref fN))
    (FG : Fun K "_law_gone" "_law_gone" sGon fG fdG) (bG : Binds K fdG ["deck", "web", "place", "most"] []) (mG : mg "_law_gone" = some (.ref fG))
    (FR : Fun K "_law_round" "_law_round" sRou fR fdR) (bR : Binds K fdR ["deck", "web"] []) (mR : mg "_law_round" = some (.ref fR))
    (FF : Fun K "_law_told_form" "_law_told_form" sTol fF fdF) (bF : Binds K fdF ["row"] []) (mF : mg "_law_told_form" = some (.ref fF))
    (FP : Fun K "_law_spoilt" "_law_spoilt" sSpo fP fdP) (bP : Binds K fdP ["deck", "web", "row"] []) (mP : mg "_law_spoilt" = some (.ref fP))
    (FE : Fun K "_law_due" "_law_due" sDue fE fdE) (bE : Binds K fdE ["web", "row"] []) (mE : mg "_law_due" = some (.ref fE))
    (mEnum : mg "enumerate" = none) (mIsi : mg "isinstance" = none) (mRange : mg "range" = none) (mLst : mg "list" = none) (mLen : mg "len" = none) (mInt : mg "int" = none) (mMin : mg "min" = none) (mMax : mg "max" = none) (mZip : mg "zip" = none) (mAll : mg "all" = none) (mSet : mg "set" = none) (mBool : mg "bool" = none) :
    FnOk P w K mg base CX0 4 f fd ["script"] (spLaw K) := by
  have GD : FnOk P w K mg base CX0 2 fD fdD ["cell"] spDeck := ok_deck FD FS bS mS
  have GT : FnOk P w K mg base CX0 1 fT fdT ["deck", "many"] spTake := ok_take FT
  have GW : FnOk P w K mg base CX0 2 fW fdW ["deck"] spWeb := ok_web FW FT bT mT FQ bQ mQ mRange mInt mMin mLen
  have GO : FnOk P w K mg base CX0 2 fO fdO ["web", "places", "closed"] spOnc := ok_onc FO FU bU mU FV bV mV mEnum mLst mZip mAll mSet mLen
  have GC : FnOk P w K mg base CX0 3 fC fdC ["web", "places"] spClo := ok_clo FC FO bO mO GO mLen mMin
  have GR : FnOk P w K mg base CX0 3 fR fdR ["deck", "web"] spRou := ok_rou FR FN bN mN FT bT mT FG bG mG mRange mLen
  have GF : FnOk P w K mg base CX0 1 fF fdF ["row"] spTol := ok_tol FF mLen mMin
  have GP : FnOk P w K mg base CX0 2 fP fdP ["deck", "web", "row"] spSpo := ok_spo FP FT bT mT mLen mLst
  have GE : FnOk P w K mg base CX0 1 fE fdE ["web", "row"] spDue := ok_due FE mLen mMin mMax mRange
  refine F.ok scLaw (fun vs H Q E h => ?_) (fun cdv A outer s H vs Q E hr h => ?_)
  · obtain ⟨a, ns, rfl, _⟩ := h
    rfl
  · obtain ⟨a, ns, rfl, hS, hlen, q⟩ := h
    have hu := hr.units
    have h16 : (16777216 : Nat) = sizeLine := sizeLine_eq.symm
    refine ⟨_, pss_cons (ps_for PassesOwn.never rfl (kList K (pe_op op_cat (pe_lst (pa_cons (pe_op op_pow pe_int pe_int) pa_nil)) (pe_slice (kSl K) (pv 0) po_none (po_some pe_int)))) (pg_name (i := 1) scLaw.nd rfl (Or.inl rfl))
       (pss_cons (ps_set (i := 2) scLaw.nd rfl (Or.inl rfl) (pe_call GD (hr.mono (by decide)) rfl mD FD.kp bD .nil pass0 (pa_cons (pv 1) pa_nil)))
       (pss_cons (ps_asg (pe_call GW (hr.mono (by decide)) rfl mW FW.kp bW .nil pass0 (pa_cons (pv 2) pa_nil)) (kTup K (n := 2) rfl (pgs_cons (pg_name (i := 3) scLaw.nd rfl (Or.inl rfl)) (pgs_cons (pg_name (i := 4) scLaw.nd rfl (Or.inl rfl)) pgs_nil))))
       (pss_cons (ps_set (i := 5) scLaw.nd rfl (Or.inl rfl) (pe_tup (pa_cons (pv 3) (pa_cons (pe_callTy (kListOf K) rfl mLst boot_list (pa_cons (pv 4) pa_nil)) pa_nil))))
       (pss_cons (ps_set (i := 6) scLaw.nd rfl (Or.inl rfl) (pe_call GR (hr.mono (by decide)) rfl mR FR.kp bR .nil pass0 (pa_cons (pv 2) (pa_cons (pv 5) pa_nil))))
       (pss_cons (ps_set (i := 7) scLaw.nd rfl (Or.inl rfl) (pe_call GF (hr.mono (by decide)) rfl mF FF.kp bF .nil pass0 (pa_cons (pv 6) pa_nil)))
       (pss_cons (ps_for PassesOwn.never rfl (kList K (pe_lst (pa_cons (pv 7) (pa_cons (pv 6) (pa_cons (pe_op op_cat (pe_slice (kSl K) (pv 7) po_none (po_some pe_int)) (pe_sliceR K (pv 7) (po_some pe_int) (pe_un op_negI pe_int))) (pa_cons (pe_call GP (hr.mono (by decide)) rfl mP FP.kp bP .nil pass0 (pa_cons (pv 2) (pa_cons (pv 5) (pa_cons (pv 7) pa_nil)))) (pa_cons (pe_slice (kSl K) (pv 7) po_none (po_some pe_int)) (pa_cons (pe_slice (kSl K) (pv 7) po_none (po_some pe_int)) (pa_cons (pe_lst pa_nil) pa_nil))))))))) (pg_name (i := 8) scLaw.nd rfl (Or.inl rfl))
       (pss_cons (ps_set (i := 9) scLaw.nd rfl (Or.inl rfl) (pe_callTy (kListOf K) rfl mLst boot_list (pa_cons (pv 8) pa_nil)))
       (pss_cons (ps_set (i := 10) scLaw.nd rfl (Or.inl rfl) (pe_call GC (hr.mono (by decide)) rfl mC FC.kp bC .nil pass0 (pa_cons (pv 5) (pa_cons (pv 9) pa_nil))))
       (pss_one (ps_if (PW.pt (pw_or (pt_not (pt_val (pe_callB (kIsi K) rfl mIsi boot_isi (pa_cons (pv 10) (pa_cons (pe_typ mBool boot_bool) pa_nil))))) (pw_or (pt_cmpR op_ne (pv 10) (pe_call GE (hr.mono (by decide)) rfl mE FE.kp bE .nil pass0 (pa_cons (pv 5) (pa_cons (pv 8) pa_nil))) (nomark _)) (pw_or1 (pt_cmpR (kNeD K hu) (pv 9) (pv 8) (nomark _)))))) (pss_one (ps_ret pe_bl)) pss_nil)))))
       (pss_one (ps_if (pt_cmpR (kNeD K hu) (pv 5) (pe_tup (pa_cons (pv 3) (pa_cons (pv 4) pa_nil))) (nomark _)) (pss_one (ps_ret pe_bl)) pss_nil)))))))))
       (pss_one (ps_ret pe_bl)), ?_⟩
    refine ⟨_, _, rfl, rfl, ⟨by decide, by decide, by decide⟩, (by show 1 ≤ sizeLine; decide), fun p1 hp1 => ?_⟩
    have s1 : Same H (upd H p1 (.lst [.int (10 ^ (18 : Int).toNat)])) := Same.new hp1
    refine ⟨_, rfl, _, rfl, a, _, rfl, s1.seq hS, fun p2 hp2 => ?_⟩
    have hcut := cutV_length (ns.map V.int) none (some 24)
    rw [List.length_map] at hcut
    refine ⟨p1, p2, _, _, rfl, rfl, upd_eq upd_same (fun z => by rw [← z, upd_same] at hp2; cases hp2), upd_same, (by rw [List.length_singleton]; omega), fun p3 hp3 => ?_⟩
    refine ⟨p3, rfl, ⟨_, SqL.of upd_same⟩, ?_⟩
    generalize hHs : upd (upd (upd H p1 (.lst [.int (10 ^ (18 : Int).toNat)])) p2 (.lst (cutV (ns.map V.int) none (some 24)))) p3 (.lst ([.int (10 ^ (18 : Int).toNat)] ++ cutV (ns.map V.int) none (some 24))) = Hs
    have hL : Hs p3 = some (.lst ([.int (10 ^ (18 : Int).toNat)] ++ cutV (ns.map V.int) none (some 24))) := by rw [← hHs]; exact upd_same
    refine for_list (K := K) (a := p3) (xs := [.int (10 ^ (18 : Int).toNat)] ++ cutV (ns.map V.int) none (some 24)) (fun i σ H2 => ∃ v1 v2 v3 v4 v5 v6 v7 v8 v9 v10 : Option V, σ = [some (.ref a), v1, v2, v3, v4, v5, v6, v7, v8, v9, v10] ∧ Same Hs H2)
      ⟨none, none, none, none, none, none, none, none, none, none, rfl, Same.refl _⟩ (fun i σ H2 _ ⟨_, _, _, _, _, _, _, _, _, _, _, s2⟩ => SqL.of (s2 _ _ hL)) ?_ ?_
    · rintro i x σ H2 hi ⟨v1, v2, v3, v4, v5, v6, v7, v8, v9, v10, rfl, s2⟩
      obtain ⟨z, rfl⟩ : ∃ z, x = .int z := by
        cases i with
        | zero => simp at hi; exact ⟨_, hi.symm⟩
        | succ j => exact cut_int (i := j) (by simpa using hi)
      clear hi
      -- deck; places, roads
      refine ⟨_, rfl, z, rfl, fun d n0 hd => ?_⟩
      have hds : Hs d = none := s2.free hd
      have D0 : DeckAt Hs (upd H2 d (.lst [.int n0])) d := ⟨s2.put hds, hds, _, upd_same⟩
      refine ⟨_, rfl, d, n0, rfl, upd_same, fun wp l xs k rs H3 K3 hwp hl hwl ew el pr good => ?_⟩
      have D3 := D0.dk K3
      have hld : l ≠ d := fun zz => by rw [zz, upd_same] at hl; cases hl
      refine ⟨wp, _, rfl, SqT.of ew, rfl, _, _, rfl, _, _, rfl, rfl, ?_⟩
      have hxl : xs.length ≤ 30 := by rw [pr.len]; exact good.2.2.1
      clear K3 ew hwp hwl
      -- web = (places, list(roads))
      refine ⟨_, rfl, _, rfl, l, xs, rfl, .inl (SqL.of el), fun l2 hl2 => ⟨two_le, fun wb hwb => ?_⟩⟩
      have s4 : Same H3 (upd (upd H3 l2 (.lst xs)) wb (.tup [.int k, .ref l2])) := (Same.new hl2).trans (Same.new hwb)
      have hl2d : l2 ≠ d := fun zz => by
        obtain ⟨n3, e3⟩ := D3.at_
        rw [zz, e3] at hl2; cases hl2
      have W4 : WebAt (upd (upd H3 l2 (.lst xs)) wb (.tup [.int k, .ref l2])) wb l2 k xs rs := ⟨upd_same, (Same.new hwb) _ _ upd_same, pr.same s4⟩
      have D4 := D3.grow s4
      have el4 := s4 _ _ el
      generalize upd (upd H3 l2 (.lst xs)) wb (.tup [.int k, .ref l2]) = H4 at s4 W4 D4 el4 ⊢
      obtain ⟨n4, e4⟩ := D4.at_
      -- row
      refine ⟨_, rfl, _, rfl, d, wb, l2, n4, k, xs, rs, rfl, e4, W4, good, hl2d, fun ro rw' H5 K5 hro ero r1 r2 => ?_⟩
      have D5 := D4.dk K5
      have W5 := W4.dk K5 e4 hl2d
      have el5 := K5.keep _ _ hld el4
      have hrod : ro ≠ d := fun zz => by rw [zz, e4] at hro; cases hro
      -- told
      refine ⟨_, rfl, ro, rw', rfl, ero, r1, r2, fun tl tw H6 s6 htl etl t1 t2 => ?_⟩
      have D6 := D5.grow s6
      have W6 := W5.same s6
      have el6 := s6 _ _ el5
      have ero6 := s6 _ _ ero
      obtain ⟨n6, e6⟩ := D6.at_
      have htld : tl ≠ d := fun zz => by
        obtain ⟨n5, e5⟩ := D5.at_
        rw [zz, e5] at htl; cases htl
      -- the list of lists
      refine ⟨_, rfl, _, rfl, ?_⟩
      refine ⟨_, rfl, _, rfl, tl, _, rfl, SqL.of etl, fun c1 hc1 => ?_⟩
      have s7 : Same H6 (upd H6 c1 (.lst (cutV (tw.map V.int) none (some 1)))) := Same.new hc1
      refine ⟨_, rfl, _, rfl, tl, _, rfl, SqL.of (s7 _ _ etl), .inr rfl, fun c2 hc2 => ?_⟩
      have n12 : c1 ≠ c2 := fun z => by rw [← z, upd_same] at hc2; cases hc2
      have s8 := s7.put (o := .lst (revV (some 0) (tw.map V.int))) (s7.free hc2)
      obtain ⟨b1, eb1, lb1⟩ := cut_ints tw none (some 1)
      have eb2 : revV (some 0) (tw.map V.int) = ((tw.drop 1).reverse).map V.int := by
        show ((tw.map V.int).drop 1).reverse = _
        rw [List.map_reverse, List.map_drop]
      have lb2 : ((tw.drop 1).reverse).length ≤ tw.length := by rw [List.length_reverse, List.length_drop]; omega
      refine ⟨c1, c2, _, _, rfl, rfl, upd_eq upd_same n12, upd_same, by rw [eb1, eb2, List.length_map, List.length_map]; omega, fun c3 hc3 => ?_⟩
      have s9 := s8.put (o := .lst (cutV (tw.map V.int) none (some 1) ++ revV (some 0) (tw.map V.int))) (s8.free hc3)
      have e93 : upd (upd (upd H6 c1 (.lst (cutV (tw.map V.int) none (some 1)))) c2 (.lst (revV (some 0) (tw.map V.int)))) c3 (.lst (cutV (tw.map V.int) none (some 1) ++ revV (some 0) (tw.map V.int))) c3 = some (.lst ((b1 ++ (tw.drop 1).reverse).map V.int)) := by rw [upd_same, eb1, eb2, List.map_append]
      generalize upd (upd (upd H6 c1 (.lst (cutV (tw.map V.int) none (some 1)))) c2 (.lst (revV (some 0) (tw.map V.int)))) c3 (.lst (cutV (tw.map V.int) none (some 1) ++ revV (some 0) (tw.map V.int))) = H9 at s9 e93 ⊢
      have l93 : (b1 ++ (tw.drop 1).reverse).length ≤ 60 := by rw [List.length_append]; omega
      generalize b1 ++ (tw.drop 1).reverse = m3 at e93 l93
      have hc3d : c3 ≠ d := fun zz => by rw [zz] at hc3; rw [s8 _ _ e6] at hc3; cases hc3
      refine ⟨_, rfl, _, rfl, _, rfl, d, wb, l2, tl, n6, k, xs, rs, tw, rfl, s9 _ _ e6, W6.same s9, good, hl2d, htld, s9 _ _ etl, t1, t2, fun sp m4 H10 K10 hsp esp l4 => ?_⟩
      have D10 := (D6.grow s9).dk K10
      have W10 := (W6.same s9).dk K10 (s9 _ _ e6) hl2d
      have etl10 := K10.keep _ _ htld (s9 _ _ etl)
      have ero10 := K10.keep _ _ hrod (s9 _ _ ero6)
      have el10 := K10.keep _ _ hld (s9 _ _ el6)
      have e103 := K10.keep _ _ hc3d e93
      refine ⟨_, rfl, _, rfl, tl, _, rfl, SqL.of etl10, fun c5 hc5 => ?_⟩
      have s11 : Same H10 (upd H10 c5 (.lst (cutV (tw.map V.int) none (some 2)))) := Same.new hc5
      obtain ⟨b5, eb5, lb5⟩ := cut_ints tw none (some 2)
      refine ⟨_, rfl, _, rfl, tl, _, rfl, SqL.of (s11 _ _ etl10), fun c6 hc6 => ?_⟩
      have n56 : c5 ≠ c6 := fun z => by rw [← z, upd_same] at hc6; cases hc6
      have s12 := s11.put (o := .lst (cutV (tw.map V.int) none (some 1))) (s11.free hc6)
      obtain ⟨b6, eb6, lb6⟩ := cut_ints tw none (some 1)
      refine ⟨Nat.zero_le _, fun c7 hc7 => ?_⟩
      have s13 := s12.put (o := .lst []) (s12.free hc7)
      have n57 : c5 ≠ c7 := fun z => by rw [← z, upd_ne n56, upd_same] at hc7; cases hc7
      have n67 : c6 ≠ c7 := fun z => by rw [← z, upd_same] at hc7; cases hc7
      refine ⟨(by show 7 ≤ sizeLine; decide), fun L hL' => ?_⟩
      have s14 := s13.put (o := .lst [.ref tl, .ref ro, .ref c3, .ref sp, .ref c5, .ref c6, .ref c7]) (s13.free hL')
      have f5 : upd (upd (upd (upd H10 c5 (.lst (cutV (tw.map V.int) none (some 2)))) c6 (.lst (cutV (tw.map V.int) none (some 1)))) c7 (.lst [])) L (.lst [.ref tl, .ref ro, .ref c3, .ref sp, .ref c5, .ref c6, .ref c7]) c5 = some (.lst (b5.map V.int)) := by
        rw [← eb5]; exact (Same.new hL') _ _ (upd_eq (upd_eq upd_same n56) n57)
      have f6 : upd (upd (upd (upd H10 c5 (.lst (cutV (tw.map V.int) none (some 2)))) c6 (.lst (cutV (tw.map V.int) none (some 1)))) c7 (.lst [])) L (.lst [.ref tl, .ref ro, .ref c3, .ref sp, .ref c5, .ref c6, .ref c7]) c6 = some (.lst (b6.map V.int)) := by
        rw [← eb6]; exact (Same.new hL') _ _ (upd_eq upd_same n67)
      have f7 : upd (upd (upd (upd H10 c5 (.lst (cutV (tw.map V.int) none (some 2)))) c6 (.lst (cutV (tw.map V.int) none (some 1)))) c7 (.lst [])) L (.lst [.ref tl, .ref ro, .ref c3, .ref sp, .ref c5, .ref c6, .ref c7]) c7 = some (.lst (([] : List Int).map V.int)) := (Same.new hL') _ _ upd_same
      have fL : upd (upd (upd (upd H10 c5 (.lst (cutV (tw.map V.int) none (some 2)))) c6 (.lst (cutV (tw.map V.int) none (some 1)))) c7 (.lst [])) L (.lst [.ref tl, .ref ro, .ref c3, .ref sp, .ref c5, .ref c6, .ref c7]) L = some (.lst [.ref tl, .ref ro, .ref c3, .ref sp, .ref c5, .ref c6, .ref c7]) := upd_same
      generalize upd (upd (upd (upd H10 c5 (.lst (cutV (tw.map V.int) none (some 2)))) c6 (.lst (cutV (tw.map V.int) none (some 1)))) c7 (.lst [])) L (.lst [.ref tl, .ref ro, .ref c3, .ref sp, .ref c5, .ref c6, .ref c7]) = H14 at s14 f5 f6 f7 fL ⊢
      have D14 := D10.grow s14
      have W14 := W10.same s14
      have el14 := s14 _ _ el10
      have f1 := s14 _ _ etl10
      have f2 := s14 _ _ ero10
      have f3 := s14 _ _ e103
      have f4 := s14 _ _ esp
      clear s7 s8 s9 s11 s12 s13 s14 D10 W10 el10 etl10 ero10 e103 esp K10 D6 W6 el6 ero6 etl K5
      refine ⟨L, rfl, ⟨_, SqL.of fL⟩, ?_⟩
      refine for_list (K := K) (a := L) (xs := [.ref tl, .ref ro, .ref c3, .ref sp, .ref c5, .ref c6, .ref c7]) (fun i σ H15 => ∃ v8 v9 v10 : Option V, σ = [some (.ref a), some (.int z), some (.ref d), some (.int k), some (.ref l), some (.ref wb), some (.ref ro), some (.ref tl), v8, v9, v10] ∧ Same H14 H15)
        ⟨_, _, _, rfl, Same.refl _⟩ (fun i σ H15 _ ⟨_, _, _, _, s15⟩ => SqL.of (s15 _ _ fL)) ?_ ?_
      · rintro i x σ H15 hi ⟨v8', v9', v10', rfl, s15⟩
        obtain ⟨so, ms, rfl, eso, hml⟩ : ∃ (so : Addr) (ms : List Int), x = .ref so ∧ H14 so = some (.lst (ms.map V.int)) ∧ ms.length ≤ 60 := by
          match i, hi with
          | 0, hi => cases hi; exact ⟨tl, tw, rfl, f1, by omega⟩
          | 1, hi => cases hi; exact ⟨ro, rw', rfl, f2, by omega⟩
          | 2, hi => cases hi; exact ⟨c3, m3, rfl, f3, l93⟩
          | 3, hi => cases hi; exact ⟨sp, m4, rfl, f4, l4⟩
          | 4, hi => cases hi; exact ⟨c5, b5, rfl, f5, by omega⟩
          | 5, hi => cases hi; exact ⟨c6, b6, rfl, f6, by omega⟩
          | 6, hi => cases hi; exact ⟨c7, [], rfl, f7, by decide⟩
          | (j + 7), hi => cases hi
        have eso15 := s15 _ _ eso
        refine ⟨_, rfl, so, _, rfl, .inl (SqL.of eso15), fun h hh => ?_⟩
        have s16 : Same H15 (upd H15 h (.lst (ms.map V.int))) := Same.new hh
        have eh : upd H15 h (.lst (ms.map V.int)) h = some (.lst (ms.map V.int)) := upd_same
        generalize upd H15 h (.lst (ms.map V.int)) = H16 at s16 eh ⊢
        have s1416 := s15.trans s16
        refine ⟨_, rfl, _, rfl, wb, l2, h, k, xs, rs, ms, rfl, W14.same s1416, hxl, eh, by omega, fun fb H17 s17 hfb => ?_⟩
        refine ⟨_, rfl, _, _, true, rfl, ⟨_, rfl, iteF ?_⟩, .inl ⟨_, .bl _, rfl, kit_self⟩⟩
        have s1417 := s1416.trans s17
        refine ⟨_, rfl, _, rfl, _, rfl, wb, l2, so, k, xs, rs, ms, rfl, W14.same s1417, good, s1417 _ _ eso, by omega, fun db H18 s18 hdb => ?_⟩
        have efd : fb = db := by
          cases fb <;> cases db
          · rfl
          · exact absurd (hfb.mpr (hdb.mp rfl)) (by decide)
          · exact absurd (hdb.mpr (hfb.mp rfl)) (by decide)
          · rfl
        subst efd
        refine ⟨rfl, _, rfl, ?_⟩
        rw [decide_eq_true rfl]
        refine iteF ?_
        have s1418 := s1417.trans s18
        refine ⟨_, rfl, _, rfl, .list (ms.map PyData.int), .list (ms.map PyData.int), .lst (SqL.of (s18 _ _ (s17 _ _ eh))) (ints_dats _), .lst (SqL.of (s1418 _ _ eso)) (ints_dats _), ints_shaped _, ints_shaped _, _, rfl, ?_⟩
        rw [ints_eqv, decide_eq_true rfl]
        refine iteF ?_
        exact ⟨_, _, _, rfl, s1418⟩
      · rintro σ H15 ⟨v8', v9', v10', rfl, s15⟩
        refine ⟨_, rfl, _, rfl, _, rfl, two_le, fun t2' ht2 => ?_⟩
        have sC : Same H15 (upd H15 t2' (.tup [.int k, .ref l])) := Same.new ht2
        have WC := (W14.same s15).same sC
        refine ⟨.tuple [.int k, .list (rs.map prD)], .tuple [.int k, .list (rs.map prD)], .tup (SqT.of WC.w) (.cons (.int _) (.cons (.lst (SqL.of WC.l) WC.p.dats) .nil)), .tup (SqT.of upd_same) (.cons (.int _) (.cons (.lst (SqL.of (sC _ _ (s15 _ _ el14))) WC.p.dats) .nil)), web_shaped _ _, web_shaped _ _, _, rfl, ?_⟩
        rw [web_eqv, decide_eq_true rfl, decide_eq_true rfl]
        refine iteF ?_
        exact ⟨_, _, _, _, _, _, _, _, _, _, rfl, (D14.grow s15).s.trans sC⟩
    · rintro σ H2 _
      exact q H2
end
end M
namespace M
open PySem L2
theorem all_mk {l : PySem.W.OpenLaw} {w : World} {K : PySem.W.Frag} {h : Heap} {mg : Str → Option Value} {fa f1 f2 f3 f4 f5 f6 f7 f8 f9 f10 f11 f12 f13 f14 f15 f16  : Addr} (X : K.In h) (G : h.Ns mainGlobals mg) (hfa : mg "law" = some (.ref fa))
    {od1 an1 od2 an2 od3 an3 od4 an4 od5 an5 od6 an6 od7 an7 od8 an8 od9 an9 od10 an10 od11 an11 od12 an12 od13 an13 od14 an14 od15 an15 od16 an16 : Option Addr} {sl1 sl2 sl3 sl4 sl5 sl6 sl7 sl8 sl9 sl10 sl11 sl12 sl13 sl14 sl15 sl16 : Array (Option Value)} {oc1 kV1 dc1 pm1 cd1 ct1 oc2 kV2 dc2 pm2 cd2 ct2 oc3 kV3 dc3 pm3 cd3 ct3 oc4 kV4 dc4 pm4 cd4 ct4 oc5 kV5 dc5 pm5 cd5 ct5 oc6 kV6 dc6 pm6 cd6 ct6 oc7 kV7 dc7 pm7 cd7 ct7 oc8 kV8 dc8 pm8 cd8 ct8 oc9 kV9 dc9 pm9 cd9 ct9 oc10 kV10 dc10 pm10 cd10 ct10 oc11 kV11 dc11 pm11 cd11 ct11 oc12 kV12 dc12 pm12 cd12 ct12 oc13 kV13 dc13 pm13 cd13 ct13 oc14 kV14 dc14 pm14 cd14 ct14 oc15 kV15 dc15 pm15 cd15 ct15 oc16 kV16 dc16 pm16 cd16 ct16 : Value}
    (aF1 : PySem.W.nsIn K mainGlobals "_law_stir" = some (some (.ref f1))) (lF1 : K.lookup f1 = some ⟨oc1, od1, .func (PySem.W.fnOf "_law_stir" "_law_stir" (defArgs sStir) (defBody sStir) (defScope sStir) .none kV1 dc1 pm1 an1 cd1 ct1), sl1⟩) (cF1 : PySem.W.codeIn K cd1 "_law_stir" = true) (kF1 : PySem.W.keepIn K (.ref f1) = true)
    (aF2 : PySem.W.nsIn K mainGlobals "_law_deck" = some (some (.ref f2))) (lF2 : K.lookup f2 = some ⟨oc2, od2, .func (PySem.W.fnOf "_law_deck" "_law_deck" (defArgs sDeck) (defBody sDeck) (defScope sDeck) .none kV2 dc2 pm2 an2 cd2 ct2), sl2⟩) (cF2 : PySem.W.codeIn K cd2 "_law_deck" = true) (kF2 : PySem.W.keepIn K (.ref f2) = true)
    (aF3 : PySem.W.nsIn K mainGlobals "_law_take" = some (some (.ref f3))) (lF3 : K.lookup f3 = some ⟨oc3, od3, .func (PySem.W.fnOf "_law_take" "_law_take" (defArgs sTake) (defBody sTake) (defScope sTake) .none kV3 dc3 pm3 an3 cd3 ct3), sl3⟩) (cF3 : PySem.W.codeIn K cd3 "_law_take" = true) (kF3 : PySem.W.keepIn K (.ref f3) = true)
    (aF4 : PySem.W.nsIn K mainGlobals "_law_grid" = some (some (.ref f4))) (lF4 : K.lookup f4 = some ⟨oc4, od4, .func (PySem.W.fnOf "_law_grid" "_law_grid" (defArgs sLGrid) (defBody sLGrid) (defScope sLGrid) .none kV4 dc4 pm4 an4 cd4 ct4), sl4⟩) (cF4 : PySem.W.codeIn K cd4 "_law_grid" = true) (kF4 : PySem.W.keepIn K (.ref f4) = true)
    (aF5 : PySem.W.nsIn K mainGlobals "_law_web" = some (some (.ref f5))) (lF5 : K.lookup f5 = some ⟨oc5, od5, .func (PySem.W.fnOf "_law_web" "_law_web" (defArgs sWeb) (defBody sWeb) (defScope sWeb) .none kV5 dc5 pm5 an5 cd5 ct5), sl5⟩) (cF5 : PySem.W.codeIn K cd5 "_law_web" = true) (kF5 : PySem.W.keepIn K (.ref f5) = true)
    (aF6 : PySem.W.nsIn K mainGlobals "numbers_by_step" = some (some (.ref f6))) (lF6 : K.lookup f6 = some ⟨oc6, od6, .func (PySem.W.fnOf "numbers_by_step" "numbers_by_step" (defArgs sNbs) (defBody sNbs) (defScope sNbs) .none kV6 dc6 pm6 an6 cd6 ct6), sl6⟩) (cF6 : PySem.W.codeIn K cd6 "numbers_by_step" = true) (kF6 : PySem.W.keepIn K (.ref f6) = true)
    (aF7 : PySem.W.nsIn K mainGlobals "steps_of" = some (some (.ref f7))) (lF7 : K.lookup f7 = some ⟨oc7, od7, .func (PySem.W.fnOf "steps_of" "steps_of" (defArgs sSte) (defBody sSte) (defScope sSte) .none kV7 dc7 pm7 an7 cd7 ct7), sl7⟩) (cF7 : PySem.W.codeIn K cd7 "steps_of" = true) (kF7 : PySem.W.keepIn K (.ref f7) = true)
    (aF8 : PySem.W.nsIn K mainGlobals "goes_once" = some (some (.ref f8))) (lF8 : K.lookup f8 = some ⟨oc8, od8, .func (PySem.W.fnOf "goes_once" "goes_once" (defArgs sOnc) (defBody sOnc) (defScope sOnc) .none kV8 dc8 pm8 an8 cd8 ct8), sl8⟩) (cF8 : PySem.W.codeIn K cd8 "goes_once" = true) (kF8 : PySem.W.keepIn K (.ref f8) = true)
    (aF9 : PySem.W.nsIn K mainGlobals "is_closed" = some (some (.ref f9))) (lF9 : K.lookup f9 = some ⟨oc9, od9, .func (PySem.W.fnOf "is_closed" "is_closed" (defArgs sClo) (defBody sClo) (defScope sClo) .none kV9 dc9 pm9 an9 cd9 ct9), sl9⟩) (cF9 : PySem.W.codeIn K cd9 "is_closed" = true) (kF9 : PySem.W.keepIn K (.ref f9) = true)
    (aF10 : PySem.W.nsIn K mainGlobals "_law_near" = some (some (.ref f10))) (lF10 : K.lookup f10 = some ⟨oc10, od10, .func (PySem.W.fnOf "_law_near" "_law_near" (defArgs sNea) (defBody sNea) (defScope sNea) .none kV10 dc10 pm10 an10 cd10 ct10), sl10⟩) (cF10 : PySem.W.codeIn K cd10 "_law_near" = true) (kF10 : PySem.W.keepIn K (.ref f10) = true)
    (aF11 : PySem.W.nsIn K mainGlobals "_law_gone" = some (some (.ref f11))) (lF11 : K.lookup f11 = some ⟨oc11, od11, .func (PySem.W.fnOf "_law_gone" "_law_gone" (defArgs sGon) (defBody sGon) (defScope sGon) .none kV11 dc11 pm11 an11 cd11 ct11), sl11⟩) (cF11 : PySem.W.codeIn K cd11 "_law_gone" = true) (kF11 : PySem.W.keepIn K (.ref f11) = true)
    (aF12 : PySem.W.nsIn K mainGlobals "_law_round" = some (some (.ref f12))) (lF12 : K.lookup f12 = some ⟨oc12, od12, .func (PySem.W.fnOf "_law_round" "_law_round" (defArgs sRou) (defBody sRou) (defScope sRou) .none kV12 dc12 pm12 an12 cd12 ct12), sl12⟩) (cF12 : PySem.W.codeIn K cd12 "_law_round" = true) (kF12 : PySem.W.keepIn K (.ref f12) = true)
    (aF13 : PySem.W.nsIn K mainGlobals "_law_told_form" = some (some (.ref f13))) (lF13 : K.lookup f13 = some ⟨oc13, od13, .func (PySem.W.fnOf "_law_told_form" "_law_told_form" (defArgs sTol) (defBody sTol) (defScope sTol) .none kV13 dc13 pm13 an13 cd13 ct13), sl13⟩) (cF13 : PySem.W.codeIn K cd13 "_law_told_form" = true) (kF13 : PySem.W.keepIn K (.ref f13) = true)
    (aF14 : PySem.W.nsIn K mainGlobals "_law_spoilt" = some (some (.ref f14))) (lF14 : K.lookup f14 = some ⟨oc14, od14, .func (PySem.W.fnOf "_law_spoilt" "_law_spoilt" (defArgs sSpo) (defBody sSpo) (defScope sSpo) .none kV14 dc14 pm14 an14 cd14 ct14), sl14⟩) (cF14 : PySem.W.codeIn K cd14 "_law_spoilt" = true) (kF14 : PySem.W.keepIn K (.ref f14) = true)
    (aF15 : PySem.W.nsIn K mainGlobals "_law_due" = some (some (.ref f15))) (lF15 : K.lookup f15 = some ⟨oc15, od15, .func (PySem.W.fnOf "_law_due" "_law_due" (defArgs sDue) (defBody sDue) (defScope sDue) .none kV15 dc15 pm15 an15 cd15 ct15), sl15⟩) (cF15 : PySem.W.codeIn K cd15 "_law_due" = true) (kF15 : PySem.W.keepIn K (.ref f15) = true)
    (aF16 : PySem.W.nsIn K mainGlobals "law" = some (some (.ref f16))) (lF16 : K.lookup f16 = some ⟨oc16, od16, .func (PySem.W.fnOf "law" "law" (defArgs sLaw) (defBody sLaw) (defScope sLaw) .none kV16 dc16 pm16 an16 cd16 ct16), sl16⟩) (cF16 : PySem.W.codeIn K cd16 "law" = true) (kF16 : PySem.W.keepIn K (.ref f16) = true)
    (nenum : PySem.W.nsIn K mainGlobals "enumerate" = some none)
    (nisi : PySem.W.nsIn K mainGlobals "isinstance" = some none)
    (nrange : PySem.W.nsIn K mainGlobals "range" = some none)
    (nlst : PySem.W.nsIn K mainGlobals "list" = some none)
    (nlen : PySem.W.nsIn K mainGlobals "len" = some none)
    (nint : PySem.W.nsIn K mainGlobals "int" = some none)
    (nmin : PySem.W.nsIn K mainGlobals "min" = some none)
    (nmax : PySem.W.nsIn K mainGlobals "max" = some none)
    (nzip : PySem.W.nsIn K mainGlobals "zip" = some none)
    (nall : PySem.W.nsIn K mainGlobals "all" = some none)
    (nset : PySem.W.nsIn K mainGlobals "set" = some none)
    (nbool : PySem.W.nsIn K mainGlobals "bool" = some none)
    : ∃ fd : FuncData, (∀ (s : Shared) (v : Value), BindsTo s fd ⟨[v], []⟩ [("script", v)]) ∧ ∀ base : Heap, K.In base → base.Ns mainGlobals mg → FnOk l.prog w K mg base CX0 4 fa fd ["script"] (spLaw K) := by
  have e := hfa.symm.trans (PySem.W.mg_of X G aF16)
  cases e
  have FS := fun_mk (st := sStir) lF1 cF1 kF1
  have bS := FS.binds (ps := ["cell", "k"]) fun _ _ _ _ _ _ us hl => match us, hl with | [_, _], _ => rfl
  have mS : mg "_law_stir" = some (.ref f1) := PySem.W.mg_of X G aF1
  have FD := fun_mk (st := sDeck) lF2 cF2 kF2
  have bD := FD.binds (ps := ["cell"]) fun _ _ _ _ _ _ us hl => match us, hl with | [_], _ => rfl
  have mD : mg "_law_deck" = some (.ref f2) := PySem.W.mg_of X G aF2
  have FT := fun_mk (st := sTake) lF3 cF3 kF3
  have bT := FT.binds (ps := ["deck", "many"]) fun _ _ _ _ _ _ us hl => match us, hl with | [_, _], _ => rfl
  have mT : mg "_law_take" = some (.ref f3) := PySem.W.mg_of X G aF3
  have FQ := fun_mk (st := sLGrid) lF4 cF4 kF4
  have bQ := FQ.binds (ps := ["rows", "columns"]) fun _ _ _ _ _ _ us hl => match us, hl with | [_, _], _ => rfl
  have mQ : mg "_law_grid" = some (.ref f4) := PySem.W.mg_of X G aF4
  have FW := fun_mk (st := sWeb) lF5 cF5 kF5
  have bW := FW.binds (ps := ["deck"]) fun _ _ _ _ _ _ us hl => match us, hl with | [_], _ => rfl
  have mW : mg "_law_web" = some (.ref f5) := PySem.W.mg_of X G aF5
  have FU := fun_mk (st := sNbs) lF6 cF6 kF6
  have bU := FU.binds (ps := ["web"]) fun _ _ _ _ _ _ us hl => match us, hl with | [_], _ => rfl
  have mU : mg "numbers_by_step" = some (.ref f6) := PySem.W.mg_of X G aF6
  have FV := fun_mk (st := sSte) lF7 cF7 kF7
  have bV := FV.binds (ps := ["places", "closed"]) fun _ _ _ _ _ _ us hl => match us, hl with | [_, _], _ => rfl
  have mV : mg "steps_of" = some (.ref f7) := PySem.W.mg_of X G aF7
  have FO := fun_mk (st := sOnc) lF8 cF8 kF8
  have bO := FO.binds (ps := ["web", "places", "closed"]) fun _ _ _ _ _ _ us hl => match us, hl with | [_, _, _], _ => rfl
  have mO : mg "goes_once" = some (.ref f8) := PySem.W.mg_of X G aF8
  have FC := fun_mk (st := sClo) lF9 cF9 kF9
  have bC := FC.binds (ps := ["web", "places"]) fun _ _ _ _ _ _ us hl => match us, hl with | [_, _], _ => rfl
  have mC : mg "is_closed" = some (.ref f9) := PySem.W.mg_of X G aF9
  have FN := fun_mk (st := sNea) lF10 cF10 kF10
  have bN := FN.binds (ps := ["web", "place"]) fun _ _ _ _ _ _ us hl => match us, hl with | [_, _], _ => rfl
  have mN : mg "_law_near" = some (.ref f10) := PySem.W.mg_of X G aF10
  have FG := fun_mk (st := sGon) lF11 cF11 kF11
  have bG := FG.binds (ps := ["deck", "web", "place", "most"]) fun _ _ _ _ _ _ us hl => match us, hl with | [_, _, _, _], _ => rfl
  have mG : mg "_law_gone" = some (.ref f11) := PySem.W.mg_of X G aF11
  have FR := fun_mk (st := sRou) lF12 cF12 kF12
  have bR := FR.binds (ps := ["deck", "web"]) fun _ _ _ _ _ _ us hl => match us, hl with | [_, _], _ => rfl
  have mR : mg "_law_round" = some (.ref f12) := PySem.W.mg_of X G aF12
  have FF := fun_mk (st := sTol) lF13 cF13 kF13
  have bF := FF.binds (ps := ["row"]) fun _ _ _ _ _ _ us hl => match us, hl with | [_], _ => rfl
  have mF : mg "_law_told_form" = some (.ref f13) := PySem.W.mg_of X G aF13
  have FP := fun_mk (st := sSpo) lF14 cF14 kF14
  have bP := FP.binds (ps := ["deck", "web", "row"]) fun _ _ _ _ _ _ us hl => match us, hl with | [_, _, _], _ => rfl
  have mP : mg "_law_spoilt" = some (.ref f14) := PySem.W.mg_of X G aF14
  have FE := fun_mk (st := sDue) lF15 cF15 kF15
  have bE := FE.binds (ps := ["web", "row"]) fun _ _ _ _ _ _ us hl => match us, hl with | [_, _], _ => rfl
  have mE : mg "_law_due" = some (.ref f15) := PySem.W.mg_of X G aF15
  have FL := fun_mk (st := sLaw) lF16 cF16 kF16
  refine ⟨PySem.W.fnOf "law" "law" (defArgs sLaw) (defBody sLaw) (defScope sLaw) .none kV16 dc16 pm16 an16 cd16 ct16, fun s v => .of_eq rfl, fun base _ _ => ?_⟩
  exact ok_law FL FS bS mS FD bD mD FT bT mT FQ bQ mQ FW bW mW FU bU mU FV bV mV FO bO mO FC bC mC FN bN mN FG bG mG FR bR mR FF bF mF FP bP mP FE bE mE (PySem.W.mg_none_of X G nenum) (PySem.W.mg_none_of X G nisi) (PySem.W.mg_none_of X G nrange) (PySem.W.mg_none_of X G nlst) (PySem.W.mg_none_of X G nlen) (PySem.W.mg_none_of X G nint) (PySem.W.mg_none_of X G nmin) (PySem.W.mg_none_of X G nmax) (PySem.W.mg_none_of X G nzip) (PySem.W.mg_none_of X G nall) (PySem.W.mg_none_of X G nset) (PySem.W.mg_none_of X G nbool)
theorem walk {l : PySem.W.OpenLaw} {q : Program} {loose : List Str} {XP : (Str → Option Value) → Heap → Prop} {YP : World → Heap → Prop} {d : DefRec} {K : Params → PySem.W.Frag} (hn : l.most = some 63) (hdf : d.params.defaults = [])
    (hY : ∀ (w : World) (h : Heap), YP w h → (K w.params).In h)
    (F : ∀ (w : World) (mg : Str → Option Value) (fa : Addr) (h : Heap), (K w.params).In h → h.Ns mainGlobals mg → mg d.name = some (.ref fa) →
      ∃ fd : FuncData, (∀ (s : Shared) (u : Value), BindsTo s fd ⟨[u], []⟩ [("script", u)]) ∧ ∀ base : Heap, (K w.params).In base → base.Ns mainGlobals mg → FnOk l.prog w (K w.params) mg base CX0 4 fa fd ["script"] (spLaw (K w.params))) :
    PySem.W.WalkO q loose XP YP l.row.toRowW d [] (fun f vs => PySem.call f vs) :=
  L2.walk_of (n := 63) (k := 4) (x := "script") (CX := fun _ => CX0) (sp := fun w => spLaw (K w.params)) hn (by decide) hdf ⟨rfl, by decide, by decide⟩ hY F (fun _ _ a ns hl _ hS => ⟨a, ns, rfl, hS, hl, fun _ => rfl⟩) fun _ _ _ _ _ z => z
end M
open PySem PySem.W PyProof.Rows
set_option maxRecDepth 100000 in
set_option maxHeartbeats 0 in
theorem PySem.Challenge.cw_onceways_k07_closed_ways_holds : PySem.Challenge.rw_onceways_k07_closed_ways.Holds := by
  w_on; o_law; k_head; (case hw => w_witness2)
  k_fill
  refine M.walk (l := PySem.Challenge.rw_onceways_k07_closed_ways) rfl rfl (fun w h Y => PySem.W.kIn_of Y) ?F
  case F =>
    intro w mg fa h KX G hmg
    refine' M.all_mk KX G hmg ?aF1 ?lF1 ?cF1 ?kF1 ?aF2 ?lF2 ?cF2 ?kF2 ?aF3 ?lF3 ?cF3 ?kF3 ?aF4 ?lF4 ?cF4 ?kF4 ?aF5 ?lF5 ?cF5 ?kF5 ?aF6 ?lF6 ?cF6 ?kF6 ?aF7 ?lF7 ?cF7 ?kF7 ?aF8 ?lF8 ?cF8 ?kF8 ?aF9 ?lF9 ?cF9 ?kF9 ?aF10 ?lF10 ?cF10 ?kF10 ?aF11 ?lF11 ?cF11 ?kF11 ?aF12 ?lF12 ?cF12 ?kF12 ?aF13 ?lF13 ?cF13 ?kF13 ?aF14 ?lF14 ?cF14 ?kF14 ?aF15 ?lF15 ?cF15 ?kF15 ?aF16 ?lF16 ?cF16 ?kF16 ?nenum ?nisi ?nrange ?nlst ?nlen ?nint ?nmin ?nmax ?nzip ?nall ?nset ?nbool
    (case aF1 => k_is)
    (case lF1 => k_is)
    (case cF1 => k_is)
    (case kF1 => k_is)
    (case aF2 => k_is)
    (case lF2 => k_is)
    (case cF2 => k_is)
    (case kF2 => k_is)
    (case aF3 => k_is)
    (case lF3 => k_is)
    (case cF3 => k_is)
    (case kF3 => k_is)
    (case aF4 => k_is)
    (case lF4 => k_is)
    (case cF4 => k_is)
    (case kF4 => k_is)
    (case aF5 => k_is)
    (case lF5 => k_is)
    (case cF5 => k_is)
    (case kF5 => k_is)
    (case aF6 => k_is)
    (case lF6 => k_is)
    (case cF6 => k_is)
    (case kF6 => k_is)
    (case aF7 => k_is)
    (case lF7 => k_is)
    (case cF7 => k_is)
    (case kF7 => k_is)
    (case aF8 => k_is)
    (case lF8 => k_is)
    (case cF8 => k_is)
    (case kF8 => k_is)
    (case aF9 => k_is)
    (case lF9 => k_is)
    (case cF9 => k_is)
    (case kF9 => k_is)
    (case aF10 => k_is)
    (case lF10 => k_is)
    (case cF10 => k_is)
    (case kF10 => k_is)
    (case aF11 => k_is)
    (case lF11 => k_is)
    (case cF11 => k_is)
    (case kF11 => k_is)
    (case aF12 => k_is)
    (case lF12 => k_is)
    (case cF12 => k_is)
    (case kF12 => k_is)
    (case aF13 => k_is)
    (case lF13 => k_is)
    (case cF13 => k_is)
    (case kF13 => k_is)
    (case aF14 => k_is)
    (case lF14 => k_is)
    (case cF14 => k_is)
    (case kF14 => k_is)
    (case aF15 => k_is)
    (case lF15 => k_is)
    (case cF15 => k_is)
    (case kF15 => k_is)
    (case aF16 => k_is)
    (case lF16 => k_is)
    (case cF16 => k_is)
    (case kF16 => k_is)
    (case nenum => k_is)
    (case nisi => k_is)
    (case nrange => k_is)
    (case nlst => k_is)
    (case nlen => k_is)
    (case nint => k_is)
    (case nmin => k_is)
    (case nmax => k_is)
    (case nzip => k_is)
    (case nall => k_is)
    (case nset => k_is)
    (case nbool => k_is)
#print axioms PySem.Challenge.cw_onceways_k07_closed_ways_holds
